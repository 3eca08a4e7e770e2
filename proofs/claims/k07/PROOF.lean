import PyProof.Rows.All
import Wide.All
import OpenK.AllK
import Wide.FinOn
import Lean
import PyProof.EqAt
import PyProof.EqKinds
import PyProof.TupleCall
import PySem.SetOps
import PyProof.ZipIter
import PyProof.CollectWalk
import PyProof.Rows.ZipGen
import KE.KLam
import KE.KMinKey
import PyProof.StrBlockI
import KE.KIntText
import Wide.Txt
import PyProof.Rows.CatFin
import PyProof.Rows.StrClose
import PySem.Challenge.RW_herdline_k07_written
set_option Elab.async false
set_option linter.all false
set_option maxRecDepth 100000
namespace L2
open PySem PySem.Spec PyProof.Rows

abbrev Key := Sum Int Str
def keyIs : Key → Value → Bool
  | .inl k, v => Value.isInt k v
  | .inr x, v => Value.isStrOf x v
def keyH (w : World) : Key → Int
  | .inl k => hashInt k
  | .inr x => hashStr w x
theorem keyIs_shape : ∀ {k : Key} {v : Value}, keyIs k v = true → (∃ i t, k = Sum.inl i ∧ v = Value.int i t) ∨ (∃ x t, k = Sum.inr x ∧ v = Value.str x t)
  | .inl i, v, h => by
    obtain ⟨t, e⟩ := Value.isInt_shape (k := i) (v := v) h
    exact .inl ⟨i, t, rfl, e⟩
  | .inr x, v, h => by
    obtain ⟨t, e⟩ := Value.isStrOf_shape (x := x) (v := v) h
    exact .inr ⟨x, t, rfl, e⟩
theorem key_ll (a b : Int) : decide ((Sum.inl a : Key) = Sum.inl b) = (a == b) := by
  by_cases e : a = b
  · subst e; simp
  · have h : ¬ (Sum.inl a : Key) = Sum.inl b := fun q => e (Sum.inl.inj q)
    rw [decide_eq_false h]
    exact (beq_eq_false_iff_ne.mpr e).symm
theorem key_rr (a b : Str) : decide ((Sum.inr a : Key) = Sum.inr b) = decide (a = b) := by
  by_cases e : a = b
  · subst e; simp
  · have h : ¬ (Sum.inr a : Key) = Sum.inr b := fun q => e (Sum.inr.inj q)
    rw [decide_eq_false h, decide_eq_false e]
theorem key_lr (a : Int) (b : Str) : decide ((Sum.inl a : Key) = Sum.inr b) = false := decide_eq_false (fun q => nomatch q)
theorem key_rl (a : Str) (b : Int) : decide ((Sum.inr a : Key) = Sum.inl b) = false := decide_eq_false (fun q => nomatch q)

def mixKind (prog : Program) (w : World) : PySem.KeyKind prog w Key where
  is := keyIs
  hash := keyH w
  inj := fun v a b ha hb => by
    rcases keyIs_shape ha with ⟨i, t, rfl, rfl⟩ | ⟨x, t, rfl, rfl⟩
    · rcases keyIs_shape hb with ⟨j, u, rfl, e⟩ | ⟨y, u, rfl, e⟩
      · injection e with e1 _; rw [e1]
      · exact nomatch e
    · rcases keyIs_shape hb with ⟨j, u, rfl, e⟩ | ⟨y, u, rfl, e⟩
      · exact nomatch e
      · injection e with e1 _; rw [e1]
  byValue := fun k v h => by
    rcases keyIs_shape h with ⟨i, t, rfl, rfl⟩ | ⟨x, t, rfl, rfl⟩ <;> rfl
  pyHash := fun hv h => by
    rcases keyIs_shape hv with ⟨i, t, rfl, rfl⟩ | ⟨x, t, rfl, rfl⟩
    · exact wpAny_pyHash_int h
    · exact wpAny_pyHash_str h
  eqBool := fun hu hv h => by
    rcases keyIs_shape hu with ⟨i, t, rfl, rfl⟩ | ⟨x, t, rfl, rfl⟩
    · rcases keyIs_shape hv with ⟨j, u, rfl, rfl⟩ | ⟨y, u, rfl, rfl⟩
      · rw [key_ll] at h; exact wpAny_eqBool_int h
      · rw [key_lr] at h; exact SeqAt.EqAt.int_str i t y u _ _ _ _ h
    · rcases keyIs_shape hv with ⟨j, u, rfl, rfl⟩ | ⟨y, u, rfl, rfl⟩
      · rw [key_rl] at h; exact SeqAt.EqAt.str_int x t j u _ _ _ _ h
      · rw [key_rr] at h; exact wpAny_eqBool_str h
  «strs» := fun k x t v h => by
    rcases keyIs_shape h with ⟨i, u, rfl, e⟩ | ⟨y, u, rfl, e⟩
    · exact nomatch e
    · injection e with e1 _
      subst e1
      cases v <;> rfl

end L2

namespace L2
open PySem PySem.Spec PyProof.Rows

inductive V where
  | non | bl (b : Bool) | int (i : Int) | str (x : Str) | byt (b : Array UInt8) | flt (b : UInt64) | ref (a : Addr) | ty (n : String)
  deriving DecidableEq

def RelV : V → Value → Prop
  | .non, u => u = Value.none
  | .bl b, u => u = Value.bool b
  | .int i, u => ∃ t, u = Value.int i t
  | .str x, u => ∃ t, u = Value.str x t
  | .byt b, u => ∃ t, u = Value.bytes b t
  | .flt b, u => ∃ t, u = Value.float b t
  | .ref a, u => u = Value.ref a
  | .ty n, u => u = Value.type n

abbrev Vals : List V → List Value → Prop := Paired RelV
theorem Vals.length {xs : List V} {us : List Value} (r : Vals xs us) : xs.length = us.length := Paired.length r
theorem Vals.get : ∀ {xs : List V} {us : List Value} {i : Nat} {x : V}, Vals xs us → xs[i]? = some x → ∃ u, us[i]? = some u ∧ RelV x u
  | _, _, _, _, .nil, e => by simp at e
  | _, _, 0, _, .cons r _, e => by simp at e; subst e; exact ⟨_, rfl, r⟩
  | _, _, i + 1, x, .cons _ t, e => by
    obtain ⟨u, h1, h2⟩ := Vals.get (i := i) (x := x) t (by simpa using e)
    exact ⟨u, by simpa using h1, h2⟩
theorem Vals.set {x : V} {u : Value} (r : RelV x u) : ∀ {xs : List V} {us : List Value} (i : Nat), Vals xs us → Vals (xs.set i x) (us.set i u)
  | _, _, _, .nil => .nil
  | _, _, 0, .cons _ t => .cons r t
  | _, _, i + 1, .cons q t => .cons q (Vals.set r i t)
theorem Vals.append : ∀ {xs ys : List V} {us ws : List Value}, Vals xs us → Vals ys ws → Vals (xs ++ ys) (us ++ ws)
  | _, _, _, _, .nil, s => s
  | _, _, _, _, .cons r t, s => .cons r (Vals.append t s)
def RelO : Option V → Option Value → Prop
  | some v, some u => RelV v u
  | none, none => True
  | _, _ => False
def KV {κ : Type} : List (κ × V) → List (κ × Value) → Prop := Paired fun (p : κ × V) (q : κ × Value) => p.1 = q.1 ∧ RelV p.2 q.2

def kV : Key → V
  | .inl i => .int i
  | .inr x => .str x

inductive HO where
  /-- a list -/
  | lst (xs : List V)
  /-- a tuple (never changes) -/
  | tup (xs : List V)
  /-- a dict whose keys are ints and texts; one whose keys are tuples of ints and texts (the empty one is both) -/
  | dK (kvs : List (Key × V)) | dT (kvs : List (List Key × V))
  /-- a set of ints: its members, its size -/
  | set (S : Int → Bool) (n : Nat)
  /-- an instance of the class at C, its dict at dx, its attributes -/
  | ins (C dx : Addr) (fs : List (Str × V))
  /-- the dict of the instance at x -/
  | own (x : Addr)
  /-- the dict of an exception -/
  | xd (fs : List (Str × V))
  /-- a bound method, f of x -/
  | met (f x : Addr)
  /-- a range object lo, lo + 1, .. below hi -/
  | rng (lo hi : Int)
  /-- a thing that is known to the object (the script; a dict while a loop walks it): read, never written while it is so -/
  | frz (o : Obj) (u : HO)
  /-- a code object's table -/
  | tbl (ps : Array Value)
  /-- any other thing, by what is true of its one object (a def of one's own: SetO a S n := HO.ext fun h => ..) -/
  | ext (φ : Heap → Prop)

abbrev Hp := Addr → Option HO
def upd (H : Hp) (a : Addr) (o : HO) : Hp := fun b => if b = a then some o else H b
theorem upd_same {H : Hp} {a : Addr} {o : HO} : upd H a o a = some o := by unfold upd; rw [if_pos rfl]
theorem upd_ne {H : Hp} {a b : Addr} {o : HO} (h : b ≠ a) : upd H a o b = H b := by unfold upd; rw [if_neg h]
theorem ne_of_none {H : Hp} {a b : Addr} {o : HO} (h : H a = some o) (h' : H b = none) : a ≠ b := by
  intro e; subst e; rw [h] at h'; cases h'

section
variable (P : Program) (w : World)
def ObjOk (H : Hp) (h : Heap) (a : Addr) : HO → Prop
  | .lst xs => xs.length ≤ sizeLine ∧ ∃ (its : List Value) (n : Nat), Vals xs its ∧ h.get? a = some { cls := .type "list", data := .seq its.toArray n }
  | .tup xs => xs.length ≤ sizeLine ∧ ∃ its : List Value, Vals xs its ∧ IsTup h a its.toArray
  | .dK kvs => kvs.length ≤ sizeLine ∧ (a == sysModules) = false ∧ ∃ vs, KV kvs vs ∧ h.DictOf (mixKind P w) a vs
  | .dT kvs => kvs.length ≤ sizeLine ∧ (a == sysModules) = false ∧ ∃ xs : List (List Key × Addr × Value),
      Paired (fun (p : List Key × V) (q : List Key × Addr × Value) => p.1 = q.1 ∧ H q.2.1 = some (.tup (p.1.map kV)) ∧ RelV p.2 q.2.2) kvs xs ∧
      ∃ o es ep, h.get? a = some o ∧ o.ExactDict ∧ o.data = .dict es ep ∧ es.toList = xs.map (entryOfKey (tupleKind (mixKind P w))) ∧ (xs.map (·.1)).Nodup
  | .set S n => h.SetOf (intKind P w) a S n
  | .ins C dx fs => H dx = some (.own a) ∧ fs.length ≤ 1000 ∧ dx ≠ a ∧ h.get? a = some (PySem.W.instObj C dx) ∧
      ∃ mA, h.Ns1 dx mA ∧ (∀ f, RelO (fs.lookup f) (mA f)) ∧ PySem.Within mA (fs.map (·.1))
  | .own _ => ∃ o, h.get? a = some o
  | .xd fs => ∃ mA, h.Ns1 a mA ∧ ∀ f, RelO (fs.lookup f) (mA f)
  | .rng lo hi => ∃ t u v, h.get? a = some { cls := .type "range", data := .fields #[.int lo t, .int hi u, .int 1 v] }
  | .frz o u => h.get? a = some o ∧ ObjOk H h a u
  | .tbl d => ∃ ps : Array Value, h.get? a = some { cls := .none, data := .fields ps } ∧ (ps = #[] ∨ ∃ (ln col : Int) (q : Str) (u : Tok) (c : Addr) (oc : Obj) (vs : Array Value) (t : Tok), d = #[rawInt ln, rawInt col, .str q u] ∧ ps = #[rawInt ln, rawInt col, .ref c] ∧ H c = some (.frz oc (.own c)) ∧ oc.data = .fields vs ∧ vs[1]? = some (.str q t))
  | .met f x => h.get? a = some (PySem.W.methodObj (.ref f) (.ref x))
  | .ext φ => φ h ∧ (∃ o, h.get? a = some o) ∧ ∀ h1 h2 : Heap, φ h1 → (∀ o, h1.get? a = some o → h2.get? a = some o) → φ h2
def HOk (H : Hp) (h : Heap) : Prop := ∀ a o, H a = some o → ObjOk P w H h a o
end

section
variable {P : Program} {w : World} {H H' : Hp} {h h' : Heap} {a : Addr} {o : HO}
theorem ObjOk.lt (x : ObjOk P w H h a o) : a < h.objs.size := by
  cases o with
  | lst xs => obtain ⟨_, _, _, _, e⟩ := x; exact Heap.lt_size e
  | tup xs => obtain ⟨_, _, _, p⟩ := x; exact p.lt
  | dK kvs => obtain ⟨_, _, _, _, o, _, _, e, _⟩ := x; exact Heap.lt_size e
  | dT kvs => obtain ⟨_, _, _, _, o, _, _, e, _⟩ := x; exact Heap.lt_size e
  | set S n => obtain ⟨o, _, _, _, e, _⟩ := x; exact Heap.lt_size e
  | ins C dx fs => obtain ⟨_, _, _, e, _⟩ := x; exact Heap.lt_size e
  | own y => obtain ⟨_, e⟩ := x; exact Heap.lt_size e
  | xd fs => obtain ⟨_, ⟨_, _, _, e, _⟩, _⟩ := x; exact Heap.lt_size e
  | rng lo hi => obtain ⟨_, _, _, e⟩ := x; exact Heap.lt_size e
  | frz ob u => obtain ⟨e, _⟩ := x; exact Heap.lt_size e
  | tbl ps => obtain ⟨_, e, _⟩ := x; exact Heap.lt_size e
  | met f y => exact Heap.lt_size (show h.get? a = some _ from x)
  | ext φ => obtain ⟨_, ⟨_, e⟩, _⟩ := x; exact Heap.lt_size e
theorem Paired.mapP {α β : Type} {F G : α → β → Prop} : ∀ {l₁ : List α} {l₂ : List β}, Paired F l₁ l₂ → (∀ a b, F a b → G a b) → Paired G l₁ l₂
  | _, _, .nil, _ => .nil
  | _, _, .cons r t, f => .cons (f _ _ r) (Paired.mapP t f)
theorem ObjOk.stay (x : ObjOk P w H h a o) (k : ∀ b u, (b = a ∨ H b = some (.own a)) → h.get? b = some u → h'.get? b = some u)
    (hz : ∀ b ob u, H b = some (.frz ob u) → H' b = some (.frz ob u))
    (ho : ∀ b, H b = some (.own a) → H' b = some (.own a)) (ht : ∀ b xs, H b = some (.tup xs) → H' b = some (.tup xs)) : ObjOk P w H' h' a o := by
  induction o with
  | lst xs => obtain ⟨z, its, n, r, e⟩ := x; exact ⟨z, its, n, r, k _ _ (.inl rfl) e⟩
  | tup xs => obtain ⟨z, its, r, ob, e, c⟩ := x; exact ⟨z, its, r, ob, k _ _ (.inl rfl) e, c⟩
  | dK kvs => obtain ⟨z, y, vs, r, ob, es, ep, e, c⟩ := x; exact ⟨z, y, vs, r, ob, es, ep, k _ _ (.inl rfl) e, c⟩
  | dT kvs =>
    obtain ⟨z, y, xs, r, ob, es, ep, e, c⟩ := x
    exact ⟨z, y, xs, Paired.mapP r fun p q z => ⟨z.1, ht _ _ z.2.1, z.2.2⟩, ob, es, ep, k _ _ (.inl rfl) e, c⟩
  | set S n => obtain ⟨ob, es, ep, t, e, c⟩ := x; exact ⟨ob, es, ep, t, k _ _ (.inl rfl) e, c⟩
  | ins C dx fs =>
    obtain ⟨d, z, ne, e, mA, ⟨od, es, ep, e2, c⟩, r⟩ := x
    exact ⟨ho _ d, z, ne, k _ _ (.inl rfl) e, mA, ⟨od, es, ep, k _ _ (.inr d) e2, c⟩, r⟩
  | own y => obtain ⟨ob, e⟩ := x; exact ⟨ob, k _ _ (.inl rfl) e⟩
  | xd fs => obtain ⟨mA, ⟨od, es, ep, e, c⟩, r⟩ := x; exact ⟨mA, ⟨od, es, ep, k _ _ (.inl rfl) e, c⟩, r⟩
  | rng lo hi => obtain ⟨t, u, v, e⟩ := x; exact ⟨t, u, v, k _ _ (.inl rfl) e⟩
  | frz ob u ih => obtain ⟨e, q⟩ := x; exact ⟨k _ _ (.inl rfl) e, ih q⟩
  | tbl d =>
    obtain ⟨ps, e, r⟩ := x
    refine ⟨ps, k _ _ (.inl rfl) e, ?_⟩
    rcases r with r | ⟨ln, col, q, u, c, oc, vs, t, r0, r1, r2, r3⟩
    · exact .inl r
    · exact .inr ⟨ln, col, q, u, c, oc, vs, t, r0, r1, hz _ _ _ r2, r3⟩
  | met f y =>
    have e : h.get? a = some (PySem.W.methodObj (.ref f) (.ref y)) := x
    show h'.get? a = some (PySem.W.methodObj (.ref f) (.ref y))
    exact k a _ (.inl rfl) e
  | ext φ => obtain ⟨p, ⟨o, e⟩, st⟩ := x; exact ⟨st _ _ p fun o q => k _ _ (.inl rfl) q, ⟨o, k _ _ (.inl rfl) e⟩, st⟩
theorem HOk.lt (x : HOk P w H h) (e : H a = some o) : a < h.objs.size := (x a o e).lt
theorem HOk.fresh (x : HOk P w H h) (e : h.objs.size ≤ a) : H a = none := by
  cases q : H a with
  | none => rfl
  | some u => exact absurd (Nat.lt_of_lt_of_le (x.lt q) e) (Nat.lt_irrefl _)
theorem HOk.kept (x : HOk P w H h) (k : ∀ b u, h.get? b = some u → h'.get? b = some u) : HOk P w H h' := fun a o e =>
  (x a o e).stay (fun b u _ q => k b u q) (fun _ _ _ q => q) (fun _ q => q) fun _ _ q => q
theorem HOk.laid (x : HOk P w H h) (k : ∀ b u, h.get? b = some u → h'.get? b = some u) (hp : h.objs.size ≤ a) (new : ObjOk P w (upd H a o) h' a o) : HOk P w (upd H a o) h' := fun b u e => by
  have hn := x.fresh hp
  by_cases hb : b = a
  · subst hb; rw [upd_same] at e; cases e; exact new
  · rw [upd_ne hb] at e
    exact (x b u e).stay (fun c v _ q => k c v q) (fun c _ _ q => by rw [upd_ne (ne_of_none q hn)]; exact q) (fun c q => by rw [upd_ne (ne_of_none q hn)]; exact q) fun c xs q => by rw [upd_ne (ne_of_none q hn)]; exact q
end

def Rd (H : Hp) (a : Addr) (u : HO) : Prop := H a = some u ∨ ∃ o, H a = some (.frz o u)
theorem Rd.ok {P : Program} {w : World} {H : Hp} {h : Heap} {a : Addr} {u : HO} (r : Rd H a u) (x : HOk P w H h) : ObjOk P w H h a u := by
  rcases r with r | ⟨o, r⟩
  · exact x a u r
  · obtain ⟨_, q⟩ := x a _ r
    exact q
def Mut : Option HO → Prop
  | some (.lst _) => True
  | some (.dK _) => True
  | some (.dT _) => True
  | some (.set _ _) => True
  | some (.ins _ _ _) => True
  | some (.ext _) => True
  | _ => False
section
variable {P : Program} {w : World} {H : Hp} {h h' : Heap} {x e : Addr} {o' : HO}
theorem HOk.write (ok : HOk P w H h) (mu : Mut (H x)) (he : e = x ∨ H e = some (.own x)) (k : ∀ b u, b ≠ e → h.get? b = some u → h'.get? b = some u) (heo : ∃ u, h'.get? e = some u)
    (new : ObjOk P w (upd H x o') h' x o') : HOk P w (upd H x o') h' := fun b u q => by
  have nown : ∀ c y, H c = some (.own y) → c ≠ x := fun c y r z => by subst z; rw [r] at mu; exact mu
  have nfrz : ∀ c ob u, H c = some (.frz ob u) → c ≠ x := fun c ob u r z => by subst z; rw [r] at mu; exact mu
  have ntup : ∀ c xs, H c = some (.tup xs) → c ≠ x := fun c xs r z => by subst z; rw [r] at mu; exact mu
  by_cases hb : b = x
  · subst hb; rw [upd_same] at q; cases q; exact new
  · rw [upd_ne hb] at q
    by_cases hbe : b = e
    · have q' : H b = some (.own x) := by
        rcases he with z | z
        · exact absurd (hbe.trans z) hb
        · rw [hbe]; exact z
      rw [q] at q'; cases q'
      obtain ⟨v, hv⟩ := heo
      exact ⟨v, by rw [hbe]; exact hv⟩
    · refine (ok b u q).stay (fun c v hc r => k c v ?_ r) (fun c _ _ r => by rw [upd_ne (nfrz c _ _ r)]; exact r) (fun c r => by rw [upd_ne (nown c b r)]; exact r) fun c xs r => by rw [upd_ne (ntup c xs r)]; exact r
      rcases hc with rfl | hc
      · exact hbe
      · rintro rfl
        rcases he with z | z
        · exact nown c b hc z
        · rw [hc] at z; cases z; exact hb rfl
end

structure Un (fs ex : List Addr) (H H' : Hp) (h h' : Heap) : Prop where
  keep : ∀ b o, h.get? b = some o → H b = none → b ∉ fs → b ∉ ex → h'.get? b = some o
  slot : ∀ b o, h.get? b = some o → H b = none → b ∈ fs → b ∉ ex → ∃ sl, h'.get? b = some { o with slots := sl }
  free : ∀ b o, h.get? b = some o → H b = none → b ∉ ex → H' b = none
  there : ∀ b o, h.get? b = some o → b ∉ ex → ∃ o', h'.get? b = some o'
  tups : ∀ b xs, H b = some (.tup xs) → H' b = some (.tup xs)
  frzs : ∀ b o u, H b = some (.frz o u) → H' b = some (.frz o u)
  tbls : ∀ b ps, H b = some (.tbl ps) → ∃ more, H' b = some (.tbl (ps ++ more))
section
variable {fs fs' ex ex' : List Addr} {H H1 H2 : Hp} {h h1 h2 h' : Heap} {a x e : Addr} {o : HO}
theorem Un.any (u : Un fs ex H H1 h h1) {b : Addr} {ob : Obj} (q : h.get? b = some ob) (n : H b = none) (hx : b ∉ ex) : ∃ sl, h1.get? b = some { ob with slots := sl } := by
  by_cases hb : b ∈ fs
  · exact u.slot b ob q n hb hx
  · exact ⟨ob.slots, u.keep b ob q n hb hx⟩
theorem Un.trans (a : Un fs ex H H1 h h1) (b : Un fs ex H1 H2 h1 h2) : Un fs ex H H2 h h2 where
  keep := fun c ob q n hc hx => b.keep c ob (a.keep c ob q n hc hx) (a.free c ob q n hx) hc hx
  slot := fun c ob q n hc hx => by
    obtain ⟨sl, e1⟩ := a.slot c ob q n hc hx
    obtain ⟨sl', e2⟩ := b.slot c _ e1 (a.free c ob q n hx) hc hx
    exact ⟨sl', e2⟩
  free := fun c ob q n hx => by
    obtain ⟨o', e1⟩ := a.there c ob q hx
    exact b.free c o' e1 (a.free c ob q n hx) hx
  there := fun c ob q hx => by
    obtain ⟨o', e1⟩ := a.there c ob q hx
    exact b.there c o' e1 hx
  tups := fun c xs q => b.tups c xs (a.tups c xs q)
  frzs := fun c ob xs q => b.frzs c ob xs (a.frzs c ob xs q)
  tbls := fun c ps q => by
    obtain ⟨m1, e1⟩ := a.tbls c ps q
    obtain ⟨m2, e2⟩ := b.tbls c _ e1
    exact ⟨m1 ++ m2, by rw [e2, Array.append_assoc]⟩
theorem Un.kept (k : ∀ b u, h.get? b = some u → h'.get? b = some u) : Un fs ex H H h h' :=
  ⟨fun b ob q _ _ _ => k b ob q, fun b ob q _ _ _ => ⟨ob.slots, k b ob q⟩, fun _ _ _ n _ => n, fun b ob q _ => ⟨ob, k b ob q⟩, fun _ _ q => q, fun _ _ _ q => q, fun _ ps q => ⟨#[], by rw [q]; simp⟩⟩
theorem Un.refl : Un fs ex H H h h := Un.kept fun _ _ q => q
theorem Un.laid (k : ∀ b u, h.get? b = some u → h'.get? b = some u) (hp : h.objs.size ≤ a) (hn : H a = none) : Un fs ex H (upd H a o) h h' where
  keep := fun b u q _ _ _ => k b u q
  slot := fun b u q _ _ _ => ⟨u.slots, k b u q⟩
  free := fun b u q n _ => by rw [upd_ne (Nat.ne_of_lt (Nat.lt_of_lt_of_le (Heap.lt_size q) hp))]; exact n
  there := fun b u q _ => ⟨u, k b u q⟩
  tups := fun b xs q => by rw [upd_ne (ne_of_none q hn)]; exact q
  frzs := fun b u xs q => by rw [upd_ne (ne_of_none q hn)]; exact q
  tbls := fun b ps q => ⟨#[], by rw [upd_ne (ne_of_none q hn), q]; simp⟩
theorem Un.write (mu : Mut (H x)) (he : e = x ∨ H e = some (.own x)) (k : ∀ b u, b ≠ e → h.get? b = some u → h'.get? b = some u) (heo : ∃ u, h'.get? e = some u) : Un fs ex H (upd H x o) h h' := by
  have hx : ∀ b, H b = none → b ≠ x := fun b n z => by subst z; rw [n] at mu; exact mu
  have hb : ∀ b, H b = none → b ≠ e := fun b n z => by
    subst z
    rcases he with r | r
    · exact hx b n r
    · rw [n] at r; cases r
  have hm : ∀ b u, H b = some u → ¬ Mut (some u) → b ≠ x := fun b u q nm z => by subst z; rw [q] at mu; exact nm mu
  refine ⟨fun b u q n _ _ => k b u (hb b n) q, fun b u q n _ _ => ⟨u.slots, k b u (hb b n) q⟩, fun b u q n _ => by rw [upd_ne (hx b n)]; exact n, fun b u q _ => ?_,
    fun b xs q => by rw [upd_ne (hm b _ q fun z => z)]; exact q, fun b u xs q => by rw [upd_ne (hm b _ q fun z => z)]; exact q, fun b ps q => ⟨#[], by rw [upd_ne (hm b _ q fun z => z), q]; simp⟩⟩
  by_cases hbe : b = e
  · subst hbe; exact heo
  · exact ⟨u, k b u hbe q⟩
end

def trk (h : Heap) (H : Hp) : List Addr := (List.range h.objs.size).filter fun a => (H a).isSome
def hidT (h : Heap) (H : Hp) : Heap := PySem.W.hideAll h (trk h H)
theorem hidT_size (h : Heap) (H : Hp) : (hidT h H).objs.size = h.objs.size := PySem.W.hideAll_size _ _
theorem hidT_get {h : Heap} {H : Hp} {b : Addr} {o : Obj} (e : h.get? b = some o) (n : H b = none) : (hidT h H).get? b = some o :=
  PySem.W.hideAll_get _ e fun hm => by
    have q : (H b).isSome = true := (List.mem_filter.mp hm).2
    rw [n] at q; simp at q
theorem of_hidT {h : Heap} {H : Hp} {b : Addr} {o : Obj} (e : (hidT h H).get? b = some o) : h.get? b = some o ∧ H b = none := by
  have e' : h.get? b = some o := PySem.W.of_hideAll (trk h H) e
  refine ⟨e', ?_⟩
  cases q : H b with
  | none => rfl
  | some x =>
    have hm : b ∈ trk h H := List.mem_filter.mpr ⟨List.mem_range.mpr (Heap.lt_size e'), by simp [q]⟩
    have z : (hidT h H).get? b = none := PySem.W.hideAll_none (trk h H) hm
    rw [z] at e; cases e

def allNews (g h : Heap) (L : Addr) : List (Addr × Obj) := (List.range h.objs.size).filterMap fun a => if a = L ∨ (g.get? a).isSome = true then none else (h.get? a).map fun o => (a, o)
def rest (g h : Heap) (L d : Addr) : List (Addr × Obj) := (allNews g h L).filter fun p => decide (p.1 ≠ d)
end L2

namespace L2
open PySem PySem.Spec PyProof.Rows

structure Mod (K : PySem.W.Frag) (mg : Str → Option Value) (base : Heap) : Prop where
  kin : K.In base
  glob : base.Ns mainGlobals mg
  blt : ∃ mb, base.Ns builtinsNs mb ∧ ∀ x : Str, x ≠ "__name__" → mb x = bootBuiltins x
  nolimit : base.NoLimit

structure Cx where
  prog : Program
  w : World
  K : PySem.W.Frag
  mg : Str → Option Value
  base : Heap
  A : Around
  N : List Str
  s₀ : Shared
  H₀ : Hp
  env : Env
  outer : List Env
  stack : List Env
  ex : List Addr
  fn : Str → Bool
  calm : Bool
  pn : List (Addr × Obj)
  xe : Value → Shared → Prop
def frs (l : List Env) : List Addr := l.filterMap (·.frame)
abbrev Cx.fs (X : Cx) : List Addr := frs X.outer

def Vis (sc : Scope) (x : Str) : Prop := sc.names.lookup x = some .local ∨ sc.names.lookup x = some .cell ∨ sc.names.lookup x = some .free
def Loc (sc : Scope) (x : Str) : Prop := sc.names.lookup x = some .local ∨ sc.names.lookup x = some .cell
def Look (env : Env) (h : Heap) (m : Str → Option Value) (x : Str) (u : Value) : Prop :=
  (env.kindOf x = some .local ∧ m x = some u) ∨ ((env.kindOf x = some .cell ∨ env.kindOf x = some .free) ∧ ∃ c, env.cells.lookup x = some c ∧ h.IsCell c (some u))

structure Cx.Ok (X : Cx) : Prop where
  mod : Mod X.K X.mg X.base
  kind : X.env.scope.kind = .function
  glob : X.env.globals = mainGlobals
  blt : X.env.builtins = builtinsNs
  above : X.s₀.heap.objs.size ≤ X.env.locals
  inj : ∀ x y c, X.env.cells.lookup x = some c → X.env.cells.lookup y = some c → x = y
  has : ∀ x, (X.env.kindOf x = some .cell ∨ X.env.kindOf x = some .free) → ∃ c, X.env.cells.lookup x = some c
  cab : ∀ x c, X.fn x = true → X.env.cells.lookup x = some c → X.s₀.heap.objs.size ≤ c
  hd : X.calm = true → X.A.handled = none
  frames : X.A.frames = some X.stack
  stk : X.stack = X.outer ∨ (X.stack = X.env :: X.outer ∧ X.env.frame = some X.env.locals)
  exf : ∀ b ∈ X.ex, b ≠ X.env.locals ∧ ∀ x c, X.env.cells.lookup x = some c → c ≠ b
  bs : ∀ b o, X.base.get? b = some o → X.s₀.heap.get? b = some o ∧ X.H₀ b = none
  bsz : X.base.objs.size ≤ X.s₀.heap.objs.size
  noex : ∀ b o, X.base.get? b = some o → b ∉ X.ex
  exfs : ∀ b ∈ X.ex, b ∉ X.fs
  funs : X.s₀.heap.FunFrames X.base X.outer
  frf : ∀ b ∈ X.fs, X.H₀ b = none

structure Inv (X : Cx) (pins : List (Addr × Obj)) (σ : List (Option V)) (H : Hp) (s : Shared) : Prop where
  ok : X.Ok
  os : s.os = X.s₀.os
  bare : AllBare s.gens
  base : Un X.fs X.ex X.H₀ H X.s₀.heap s.heap
  loc : ∃ m, s.heap.Ns X.env.locals m ∧ ∀ (i : Nat) (x : Str) (v : V), X.N[i]? = some x → σ[i]? = some (some v) → Vis X.env.scope x → ∃ u, RelV v u ∧ Look X.env s.heap m x u
  cell : ∀ x c, X.env.cells.lookup x = some c → ∃ v, s.heap.IsCell c v
  free : H X.env.locals = none
  freeC : ∀ x c, X.env.cells.lookup x = some c → H c = none
  pin : ∀ p ∈ X.pn ++ pins, s.heap.get? p.1 = some p.2 ∧ H p.1 = none ∧ p.1 ≠ X.env.locals ∧ p.1 ∉ X.fs ∧ ∀ v, p.2.data ≠ .cell v
  hok : HOk X.prog X.w H s.heap
  len : σ.length = X.N.length

section
variable {X : Cx} {pins : List (Addr × Obj)} {σ : List (Option V)} {H H' : Hp} {s : Shared} {h' : Heap}

theorem Cx.Ok.nofr (ok : X.Ok) {b : Addr} {o : Obj} (e : X.base.get? b = some o) : b ∉ X.fs := fun hb => by
  have := (ok.funs.mem hb).1
  rw [e] at this; cases this
theorem Inv.bs (I : Inv X pins σ H s) : ∀ b o, X.base.get? b = some o → s.heap.get? b = some o ∧ H b = none := fun b o e =>
  ⟨I.base.keep b o (I.ok.bs b o e).1 (I.ok.bs b o e).2 (I.ok.nofr e) (I.ok.noex b o e), I.base.free b o (I.ok.bs b o e).1 (I.ok.bs b o e).2 (I.ok.noex b o e)⟩
theorem Inv.bk (I : Inv X pins σ H s) : ∀ b o, X.base.get? b = some o → s.heap.get? b = some o := fun b o e => (I.bs b o e).1
theorem Inv.mod (I : Inv X pins σ H s) : Mod X.K X.mg X.base := I.ok.mod
theorem Inv.kIn (I : Inv X pins σ H s) : X.K.In s.heap := I.ok.mod.kin.keeps I.bk
theorem Inv.lt (I : Inv X pins σ H s) : X.env.locals < s.heap.objs.size := let ⟨_, hn, _⟩ := I.loc; hn.lt
theorem Inv.sz (I : Inv X pins σ H s) : X.s₀.heap.objs.size ≤ s.heap.objs.size := Nat.le_trans I.ok.above (Nat.le_of_lt I.lt)
theorem Inv.nofs (I : Inv X pins σ H s) {a : Addr} (h : s.heap.objs.size ≤ a) : a ∉ X.fs := fun hb => by
  obtain ⟨_, o, ho, _⟩ := I.ok.funs.mem hb
  exact absurd (Nat.lt_of_lt_of_le (Heap.lt_size ho) (Nat.le_trans I.sz h)) (Nat.lt_irrefl _)
theorem Inv.cne (I : Inv X pins σ H s) : ∀ x c, X.env.cells.lookup x = some c → c ≠ X.env.locals := fun x c e z => by
  obtain ⟨v, o, ho, hd⟩ := I.cell x c e
  obtain ⟨m, ⟨o', es, ep, ho', hd', _⟩, _⟩ := I.loc
  rw [z, ho'] at ho; cases ho; rw [hd'] at hd; cases hd
theorem Inv.funs (I : Inv X pins σ H s) : s.heap.FunFrames X.base X.outer := by
  have all : ∀ (l : List Env), (∀ b ∈ frs l, b ∈ X.fs) → X.s₀.heap.FunFrames X.base l → s.heap.FunFrames X.base l := by
    intro l
    induction l with
    | nil => intro _ _; trivial
    | cons env r ih =>
      intro hs hl
      obtain ⟨hk, ⟨L, o, hf, hn, ho, hd⟩, hr⟩ := hl
      have hL : L ∈ X.fs := hs L (by unfold frs; rw [List.filterMap_cons, hf]; exact List.mem_cons_self)
      obtain ⟨sl, e⟩ := I.base.slot L o ho (I.ok.frf L hL) hL fun z => I.ok.exfs L z hL
      exact ⟨hk, ⟨L, _, hf, hn, e, hd⟩, ih (fun b hb => hs b (by unfold frs; rw [List.filterMap_cons, hf]; exact List.mem_cons_of_mem _ hb)) hr⟩
  exact all X.outer (fun _ hb => hb) I.ok.funs

theorem Inv.stack (I : Inv X pins σ H s) : s.heap.FunFrames X.base X.stack := by
  rcases I.ok.stk with e | ⟨e, hf⟩
  · rw [e]; exact I.funs
  · rw [e]
    obtain ⟨m, hn, _⟩ := I.loc
    refine .cons (by rw [I.ok.kind]; decide) hf hn ?_ I.funs
    exact Heap.get?_none_of_le (Nat.le_trans I.ok.bsz I.ok.above)
theorem Inv.stkSub (I : Inv X pins σ H s) : ∀ b ∈ frs X.stack, b ∈ X.env.locals :: X.fs := fun b hb => by
  rcases I.ok.stk with e | ⟨e, hf⟩
  · rw [e] at hb; exact List.mem_cons_of_mem _ hb
  · rw [e] at hb
    unfold frs at hb
    rw [List.filterMap_cons, hf] at hb
    exact hb
theorem Inv.stkFree (I : Inv X pins σ H s) : ∀ b ∈ frs X.stack, H b = none := fun b hb => by
  rcases List.mem_cons.mp (I.stkSub b hb) with e | hb
  · rw [e]; exact I.free
  · obtain ⟨_, o, ho, _⟩ := I.ok.funs.mem hb
    exact I.base.free b o ho (I.ok.frf b hb) fun z => I.ok.exfs b z hb

theorem Inv.step {g' : Array GenState} {t' : Nat} {d' : Drawn} {ch : List Addr} (I : Inv X pins σ H s)
    (hch : ∀ b ∈ ch, (b ∈ X.ex ∨ X.s₀.heap.objs.size ≤ b) ∧ b ≠ X.env.locals ∧ (∀ x c, X.env.cells.lookup x = some c → c ≠ b) ∧ ∀ p ∈ X.pn ++ pins, p.1 ≠ b)
    (keep : ∀ b o, b ≠ X.env.locals → b ∉ X.fs → b ∉ ch → s.heap.get? b = some o → H b = none → h'.get? b = some o)
    (slot : ∀ b o, b ≠ X.env.locals → b ∈ X.fs → b ∉ ch → s.heap.get? b = some o → H b = none → ∃ sl, h'.get? b = some { o with slots := sl }) (free : ∀ b o, b ∉ ch → s.heap.get? b = some o → H b = none → H' b = none)
    (there : ∀ b o, b ∉ ch → s.heap.get? b = some o → ∃ o', h'.get? b = some o')
    (tups : ∀ b xs, H b = some (.tup xs) → H' b = some (.tup xs)) (frzs : ∀ b o u, H b = some (.frz o u) → H' b = some (.frz o u)) (tbls : ∀ b ps, H b = some (.tbl ps) → ∃ more, H' b = some (.tbl (ps ++ more)))
    (ns : ∀ m, s.heap.Ns X.env.locals m → h'.Ns X.env.locals m) (hok : HOk X.prog X.w H' h') (hg : AllBare g') :
    Inv X pins σ H' { s with heap := h', gens := g', drawn := d', toks := t' } := by
  have neL : ∀ b o, X.s₀.heap.get? b = some o → b ≠ X.env.locals := fun b o e => Nat.ne_of_lt (Nat.lt_of_lt_of_le (Heap.lt_size e) I.ok.above)
  have neC : ∀ b o, X.s₀.heap.get? b = some o → b ∉ X.ex → b ∉ ch := fun b o e hx hb => by
    rcases (hch b hb).1 with z | z
    · exact hx z
    · exact absurd (Nat.lt_of_lt_of_le (Heap.lt_size e) z) (Nat.lt_irrefl _)
  have cellK : ∀ x c, X.env.cells.lookup x = some c → ∀ v, s.heap.IsCell c v → h'.IsCell c v := fun x c e v ⟨o, ho, hd⟩ => by
    have nch : c ∉ ch := fun z => (hch c z).2.2.1 x c e rfl
    by_cases hc : c ∈ X.fs
    · obtain ⟨sl, q⟩ := slot c o (I.cne x c e) hc nch ho (I.freeC x c e)
      exact ⟨_, q, hd⟩
    · exact ⟨o, keep c o (I.cne x c e) hc nch ho (I.freeC x c e), hd⟩
  refine ⟨I.ok, I.os, hg, ⟨fun b o e n hb hx => ?_, fun b o e n hb hx => ?_, fun b o e n hx => ?_, fun b o e hx => ?_, fun b xs e => tups b xs (I.base.tups b xs e), fun b o xs e => frzs b o xs (I.base.frzs b o xs e), fun b ps e => ?_⟩, ?_, fun x c e => ?_, ?_, fun x c e => ?_, fun p hp => ?_, hok, I.len⟩
  · exact keep b o (neL b o e) hb (neC b o e hx) (I.base.keep b o e n hb hx) (I.base.free b o e n hx)
  · obtain ⟨sl, e1⟩ := I.base.slot b o e n hb hx
    obtain ⟨sl', e2⟩ := slot b _ (neL b o e) hb (neC b o e hx) e1 (I.base.free b o e n hx)
    exact ⟨sl', e2⟩
  · obtain ⟨o', e1⟩ := I.base.there b o e hx
    exact free b o' (neC b o e hx) e1 (I.base.free b o e n hx)
  · obtain ⟨o', e1⟩ := I.base.there b o e hx
    exact there b o' (neC b o e hx) e1
  · obtain ⟨m1, e1⟩ := I.base.tbls b ps e
    obtain ⟨m2, e2⟩ := tbls b _ e1
    exact ⟨m1 ++ m2, by rw [e2, Array.append_assoc]⟩
  · obtain ⟨m, hn, hl⟩ := I.loc
    refine ⟨m, ns m hn, fun i x v e1 e2 e3 => ?_⟩
    obtain ⟨u, r, l⟩ := hl i x v e1 e2 e3
    refine ⟨u, r, ?_⟩
    rcases l with l | ⟨k, c, e, z⟩
    · exact .inl l
    · exact .inr ⟨k, c, e, cellK x c e _ z⟩
  · obtain ⟨v, z⟩ := I.cell x c e
    exact ⟨v, cellK x c e v z⟩
  · obtain ⟨m, ⟨o, _, _, ho, _⟩, _⟩ := I.loc
    exact free _ o (fun z => (hch _ z).2.1 rfl) ho I.free
  · obtain ⟨v, o, ho, hd⟩ := I.cell x c e
    exact free c o (fun z => (hch c z).2.2.1 x c e rfl) ho (I.freeC x c e)
  · obtain ⟨e, n, ne, nf, d⟩ := I.pin p hp
    have nch : p.1 ∉ ch := fun z => (hch p.1 z).2.2.2 p hp rfl
    exact ⟨keep p.1 p.2 ne nf nch e n, free p.1 p.2 nch e n, ne, nf, d⟩
theorem Inv.un {t' : Nat} (I : Inv X pins σ H s) (u : Un X.fs [] H H' s.heap h') (hok : HOk X.prog X.w H' h') : Inv X pins σ H' { s with heap := h', toks := t' } := by
  obtain ⟨m, ⟨o, es, ep, ho, r⟩, _⟩ := id I.loc
  obtain ⟨sl, hL⟩ := u.any ho I.free (by simp)
  exact I.step (g' := s.gens) (d' := s.drawn) (ch := []) (fun _ z => nomatch z) (fun b o _ hb _ e n => u.keep b o e n hb (by simp)) (fun b o _ hb _ e n => u.slot b o e n hb (by simp)) (fun b o _ e n => u.free b o e n (by simp)) (fun b o _ e => u.there b o e (by simp)) u.tups u.frzs u.tbls (fun m' hm => by
    obtain ⟨o', es', ep', ho', r'⟩ := hm
    rw [ho] at ho'; cases ho'
    exact ⟨_, es', ep', hL, r'⟩) hok I.bare
theorem Inv.call {g' : Array GenState} {t' : Nat} {d' : Drawn} {ch : List Addr} (I : Inv X pins σ H s) (u : Un (frs X.stack) ch H H' s.heap h') (hok : HOk X.prog X.w H' h') (hg : AllBare g')
    (hch : ∀ b ∈ ch, (b ∈ X.ex ∨ X.s₀.heap.objs.size ≤ b) ∧ b ≠ X.env.locals ∧ (∀ x c, X.env.cells.lookup x = some c → c ≠ b) ∧ ∀ p ∈ X.pn ++ pins, p.1 ≠ b) :
    Inv X pins σ H' { s with heap := h', gens := g', drawn := d', toks := t' } := by
  obtain ⟨m, ⟨o, es, ep, ho, r⟩, _⟩ := id I.loc
  obtain ⟨sl, hL⟩ := u.any ho I.free fun z => (hch _ z).2.1 rfl
  exact I.step (ch := ch) hch (fun b o hL hb hc e n => u.keep b o e n (fun z => (List.mem_cons.mp (I.stkSub b z)).elim hL hb) hc) (fun b o _ _ hc e n => u.any e n hc) (fun b o hc e n => u.free b o e n hc) (fun b o hc e => u.there b o e hc) u.tups u.frzs u.tbls (fun m' hm => by
    obtain ⟨o', es', ep', ho', r'⟩ := hm
    rw [ho] at ho'; cases ho'
    exact ⟨_, es', ep', hL, r'⟩) hok hg
theorem Inv.turned {t' : Nat} {it : Addr} (I : Inv X pins σ H s) (k : ∀ b o, b ≠ it → s.heap.get? b = some o → h'.get? b = some o) (hn : H it = none) (hL : it ≠ X.env.locals)
    (h1 : it ∈ X.ex ∨ X.s₀.heap.objs.size ≤ it) (h2 : ∀ x c, X.env.cells.lookup x = some c → c ≠ it) (h3 : ∀ p ∈ X.pn ++ pins, p.1 ≠ it) : Inv X pins σ H { s with heap := h', toks := t' } := by
  have nit : ∀ b u, H b = some u → b ≠ it := fun b u e z => by rw [z, hn] at e; cases e
  refine I.step (g' := s.gens) (d' := s.drawn) (ch := [it]) (fun b hb => ?_) (fun b o _ _ hc e _ => k b o (fun z => hc (by simp [z])) e) (fun b o _ _ hc e _ => ⟨o.slots, k b o (fun z => hc (by simp [z])) e⟩) (fun _ _ _ _ n => n)
    (fun b o hc e => ⟨o, k b o (fun z => hc (by simp [z])) e⟩) (fun _ _ e => e) (fun _ _ _ e => e) (fun b ps e => ⟨#[], by rw [e]; simp⟩) (fun m hm => ?_) (fun b u e => ?_) I.bare
  · have e : b = it := by simpa using hb
    subst e
    exact ⟨h1, hL, h2, h3⟩
  · obtain ⟨o, es, ep, ho, r⟩ := hm
    exact ⟨o, es, ep, k _ o (Ne.symm hL) ho, r⟩
  · refine (I.hok b u e).stay (fun c v hc q => k c v ?_ q) (fun _ _ _ q => q) (fun _ q => q) fun _ _ q => q
    rcases hc with z | z
    · rw [z]; exact nit b u e
    · exact nit c _ z
theorem Inv.tok (I : Inv X pins σ H s) (t : Nat) : Inv X pins σ H { s with toks := t } := I.un (h' := s.heap) (t' := t) Un.refl I.hok
theorem Inv.kept {t' : Nat} (I : Inv X pins σ H s) (k : ∀ b u, s.heap.get? b = some u → h'.get? b = some u) : Inv X pins σ H { s with heap := h', toks := t' } := I.un (Un.kept k) (I.hok.kept k)
theorem Inv.laid {a : Addr} {o : HO} {t' : Nat} (I : Inv X pins σ H s) (k : ∀ b u, s.heap.get? b = some u → h'.get? b = some u) (hp : s.heap.objs.size ≤ a) (new : ObjOk X.prog X.w (upd H a o) h' a o) :
    Inv X pins σ (upd H a o) { s with heap := h', toks := t' } := I.un (Un.laid k hp (I.hok.fresh hp)) (I.hok.laid k hp new)
theorem Inv.write {x e : Addr} {o : HO} {t' : Nat} (I : Inv X pins σ H s) (mu : Mut (H x)) (he : e = x ∨ H e = some (.own x)) (k : ∀ b u, b ≠ e → s.heap.get? b = some u → h'.get? b = some u) (heo : ∃ u, h'.get? e = some u)
    (new : ObjOk X.prog X.w (upd H x o) h' x o) : Inv X pins σ (upd H x o) { s with heap := h', toks := t' } := I.un (Un.write mu he k heo) (I.hok.write mu he k heo new)
theorem Inv.pins_of {pins' : List (Addr × Obj)} (I : Inv X pins σ H s) (h : ∀ p ∈ pins', s.heap.get? p.1 = some p.2 ∧ H p.1 = none ∧ p.1 ≠ X.env.locals ∧ p.1 ∉ X.fs ∧ ∀ v, p.2.data ≠ .cell v) : Inv X pins' σ H s :=
  ⟨I.ok, I.os, I.bare, I.base, I.loc, I.cell, I.free, I.freeC, fun p hp => (List.mem_append.mp hp).elim (fun z => I.pin p (List.mem_append_left _ z)) (h p), I.hok, I.len⟩

theorem nodup_ix {N : List Str} (hN : N.Nodup) {i j : Nat} {x : Str} (a : N[i]? = some x) (b : N[j]? = some x) : i = j := by
  obtain ⟨h1, e1⟩ := List.getElem?_eq_some_iff.mp a
  obtain ⟨h2, e2⟩ := List.getElem?_eq_some_iff.mp b
  exact (List.getElem_inj hN).mp (e1.trans e2.symm)

theorem store_ok2 {M : Model} {A : Around} {E : Value → Shared → Prop} {i : Nat} {x : Str} {v : V} {u : Value} {Q : Unit → Shared → Prop} (I : Inv X pins σ H s) (hN : X.N.Nodup) (hi : X.N[i]? = some x) (hx : Loc X.env.scope x) (r : RelV v u)
    (h : ∀ s', Inv X pins (σ.set i (some v)) H s' → (∃ a, Heap.SameBut a s.heap s'.heap ∧ (a = X.env.locals ∨ X.env.cells.lookup x = some a)) → Q () s') (hf : X.fn x = true ∨ X.env.scope.names.lookup x = some .local := by first | exact .inl rfl | exact .inr rfl | assumption) : wpAny M A (storeName X.env x u) Q E s := by
  obtain ⟨m, hn, hl⟩ := id I.loc
  have hcls : (X.env.scope.kind == .class || (X.env.scope.kind == .module && X.env.locals != X.env.globals)) = false := by rw [I.ok.kind]; rfl
  have hiσ : i < σ.length := by rw [I.len]; exact (List.getElem?_eq_some_iff.mp hi).1
  have cne := I.cne
  have tracked : ∀ {a : Addr} {h' : Heap}, (∃ o, s.heap.get? a = some o ∧ H a = none) → Heap.SameBut a s.heap h' → HOk X.prog X.w H h' := fun {a h'} ha hs b ob e => by
    obtain ⟨_, _, hfree⟩ := ha
    refine (I.hok b ob e).stay (fun c w' hc q => (hs.2 c ?_).trans q) (fun _ _ _ q => q) (fun _ q => q) fun _ _ q => q
    rintro rfl
    rcases hc with rfl | hc
    · rw [hfree] at e; cases e
    · rw [hfree] at hc; cases hc
  rcases hx with hk | hk
  · refine wpAny_storeName_local hk hn (fun h' hn' hs => ?_) hcls
    obtain ⟨oL, _, _, hoL, _⟩ := id hn
    refine h _ ⟨I.ok, I.os, I.bare, ⟨fun b o e n hb hx => ?_, fun b o e n hb hx => ?_, I.base.free, fun b o e hx => ?_, I.base.tups, I.base.frzs, I.base.tbls⟩, ⟨_, hn', fun j y v' e1 e2 e3 => ?_⟩, fun y c e => ?_, I.free, I.freeC, fun p hp => ?_, tracked ⟨oL, hoL, I.free⟩ hs, by simpa using I.len⟩ ⟨_, hs, .inl rfl⟩
    · exact (hs.2 b (Nat.ne_of_lt (Nat.lt_of_lt_of_le (Heap.lt_size e) I.ok.above))).trans (I.base.keep b o e n hb hx)
    · obtain ⟨sl, e1⟩ := I.base.slot b o e n hb hx
      exact ⟨sl, (hs.2 b (Nat.ne_of_lt (Nat.lt_of_lt_of_le (Heap.lt_size e) I.ok.above))).trans e1⟩
    · obtain ⟨o', e1⟩ := I.base.there b o e hx
      exact ⟨o', (hs.2 b (Nat.ne_of_lt (Nat.lt_of_lt_of_le (Heap.lt_size e) I.ok.above))).trans e1⟩
    · by_cases hj : j = i
      · subst hj
        rw [hi] at e1; cases e1
        rw [List.getElem?_set_self hiσ] at e2
        cases e2
        exact ⟨u, r, .inl ⟨hk, by simp⟩⟩
      · rw [List.getElem?_set_ne (Ne.symm hj)] at e2
        obtain ⟨u', r', q⟩ := hl j y v' e1 e2 e3
        refine ⟨u', r', ?_⟩
        rcases q with ⟨k, e⟩ | ⟨k, c, e, z⟩
        · refine .inl ⟨k, ?_⟩
          have : y ≠ x := fun e => hj (nodup_ix hN e1 (e ▸ hi))
          simp [this, e]
        · exact .inr ⟨k, c, e, z.sameBut hs (cne y c e)⟩
    · obtain ⟨w', z⟩ := I.cell y c e
      exact ⟨w', z.sameBut hs (cne y c e)⟩
    · obtain ⟨e, n, ne, nf, d⟩ := I.pin p hp
      exact ⟨(hs.2 p.1 ne).trans e, n, ne, nf, d⟩
  · have hfn : X.fn x = true := by
      rcases hf with z | z
      · exact z
      · rw [z] at hk; cases hk
    obtain ⟨c, hc⟩ := I.ok.has x (.inl hk)
    obtain ⟨w', z⟩ := I.cell x c hc
    refine wpAny_storeName_cell I.ok.kind hk hc z (fun h' hc' hs => ?_)
    obtain ⟨oc, hoc, hocd⟩ := id z
    refine h { s with heap := h' } ⟨I.ok, I.os, I.bare, ⟨fun b o e n hb hx => ?_, fun b o e n hb hx => ?_, I.base.free, fun b o e hx => ?_, I.base.tups, I.base.frzs, I.base.tbls⟩, ⟨m, hn.sameBut hs (Ne.symm (cne x c hc)), fun j y v' e1 e2 e3 => ?_⟩, fun y c' e => ?_, I.free, I.freeC, fun p hp => ?_, tracked ⟨oc, hoc, I.freeC x c hc⟩ hs, by simpa using I.len⟩ ⟨c, hs, .inr hc⟩
    · exact (hs.2 b (Nat.ne_of_lt (Nat.lt_of_lt_of_le (Heap.lt_size e) (I.ok.cab x c hfn hc)))).trans (I.base.keep b o e n hb hx)
    · obtain ⟨sl, e1⟩ := I.base.slot b o e n hb hx
      exact ⟨sl, (hs.2 b (Nat.ne_of_lt (Nat.lt_of_lt_of_le (Heap.lt_size e) (I.ok.cab x c hfn hc)))).trans e1⟩
    · obtain ⟨o', e1⟩ := I.base.there b o e hx
      exact ⟨o', (hs.2 b (Nat.ne_of_lt (Nat.lt_of_lt_of_le (Heap.lt_size e) (I.ok.cab x c hfn hc)))).trans e1⟩
    · by_cases hj : j = i
      · subst hj
        rw [hi] at e1; cases e1
        rw [List.getElem?_set_self hiσ] at e2
        cases e2
        exact ⟨u, r, .inr ⟨.inl hk, c, hc, hc'⟩⟩
      · rw [List.getElem?_set_ne (Ne.symm hj)] at e2
        obtain ⟨u', r', q⟩ := hl j y v' e1 e2 e3
        refine ⟨u', r', ?_⟩
        rcases q with q | ⟨k, c', e, z'⟩
        · exact .inl q
        · refine .inr ⟨k, c', e, z'.sameBut hs ?_⟩
          rintro rfl
          exact hj (nodup_ix hN e1 (I.ok.inj _ _ _ e hc ▸ hi))
    · by_cases hcc : c' = c
      · subst hcc; exact ⟨_, hc'⟩
      · obtain ⟨w2, z2⟩ := I.cell y c' e
        exact ⟨w2, z2.sameBut hs hcc⟩
    · obtain ⟨e, n, ne, nf, d⟩ := I.pin p hp
      refine ⟨(hs.2 p.1 ?_).trans e, n, ne, nf, d⟩
      intro q
      rw [q, hoc] at e
      have q' : oc = p.2 := Option.some.inj e
      exact d w' (by rw [← q']; exact hocd)
theorem store_ok {M : Model} {A : Around} {E : Value → Shared → Prop} {i : Nat} {x : Str} {v : V} {u : Value} {Q : Unit → Shared → Prop} (I : Inv X pins σ H s) (hN : X.N.Nodup) (hi : X.N[i]? = some x) (hx : Loc X.env.scope x) (r : RelV v u)
    (h : ∀ s', Inv X pins (σ.set i (some v)) H s' → Q () s') (hf : X.fn x = true ∨ X.env.scope.names.lookup x = some .local := by first | exact .inl rfl | exact .inr rfl | assumption) : wpAny M A (storeName X.env x u) Q E s :=
  store_ok2 I hN hi hx r (fun s' I' _ => h s' I') hf
theorem Inv.call' {s' : Shared} {ch : List Addr} (I : Inv X pins σ H s) (ho : s'.os = s.os) (u : Un (frs X.stack) ch H H' s.heap s'.heap) (hok : HOk X.prog X.w H' s'.heap) (hg : AllBare s'.gens)
    (hch : ∀ b ∈ ch, (b ∈ X.ex ∨ X.s₀.heap.objs.size ≤ b) ∧ b ≠ X.env.locals ∧ (∀ x c, X.env.cells.lookup x = some c → c ≠ b) ∧ ∀ p ∈ X.pn ++ pins, p.1 ≠ b) : Inv X pins σ H' s' := by
  obtain ⟨h', g', d', t', o'⟩ := s'
  have e : o' = s.os := ho
  subst e
  exact I.call (g' := g') (t' := t') (d' := d') u hok hg hch
end

abbrev XK := Value → Option Addr → Hp → Prop
abbrev St := List (Option V)
abbrev VK := V → Hp → Prop
abbrev TE := St → Hp → VK → Prop
abbrev TT := St → Hp → (Bool → Hp → Prop) → Prop
abbrev TA := St → Hp → (List V → Hp → Prop) → Prop
structure Ends where
  nx : St → Hp → Prop
  rt : VK
  bk : St → Hp → Prop := fun _ _ => False
  ct : St → Hp → Prop := fun _ _ => False
abbrev TS := Ends → St → Hp → Prop

inductive EP (X : Cx) (pins : List (Addr × Obj)) (σ : St) (Q : VK) (u : Value) (s' : Shared) : Prop where
  | mk (v : V) (H' : Hp) (I : Inv X pins σ H' s') (r : RelV v u) (q : Q v H')
inductive TP (X : Cx) (pins : List (Addr × Obj)) (σ : St) (Q : Bool → Hp → Prop) (b : Bool) (s' : Shared) : Prop where
  | mk (H' : Hp) (I : Inv X pins σ H' s') (q : Q b H')
inductive AP (X : Cx) (pins : List (Addr × Obj)) (σ : St) (Q : List V → Hp → Prop) (us : List Value) (s' : Shared) : Prop where
  | mk (vs : List V) (H' : Hp) (I : Inv X pins σ H' s') (r : Vals vs us) (q : Q vs H')
def SP (X : Cx) (pins : List (Addr × Obj)) (D : Ends) (f : Flow) (s' : Shared) : Prop :=
  match f with
  | .next => ∃ σ' H', Inv X pins σ' H' s' ∧ D.nx σ' H'
  | .brk => ∃ σ' H', Inv X pins σ' H' s' ∧ D.bk σ' H'
  | .cont => ∃ σ' H', Inv X pins σ' H' s' ∧ D.ct σ' H'
  | .ret u => ∃ v σ' H', Inv X pins σ' H' s' ∧ RelV v u ∧ D.rt v H'

def PE (X : Cx) (e : Expr) (t : TE) : Prop :=
  ∀ (pins : List (Addr × Obj)) (s : Shared) (σ : St) (H : Hp) (Q : VK), Inv X pins σ H s → t σ H Q → wpAny (model X.prog X.w) X.A (eval e X.env) (EP X pins σ Q) X.xe s
def PT (X : Cx) (e : Expr) (t : TT) : Prop :=
  ∀ (pins : List (Addr × Obj)) (s : Shared) (σ : St) (H : Hp) (Q : Bool → Hp → Prop), Inv X pins σ H s → t σ H Q → wpAny (model X.prog X.w) X.A (isTrue e X.env (eval e X.env)) (TP X pins σ Q) X.xe s
def PW (X : Cx) (e : Expr) (t : TT) : Prop :=
  ∀ (whole : Sem Value) (pins : List (Addr × Obj)) (s : Shared) (σ : St) (H : Hp) (Q : Bool → Hp → Prop), Inv X pins σ H s → t σ H Q → wpAny (model X.prog X.w) X.A (isTrue e X.env whole) (TP X pins σ Q) X.xe s
theorem PW.pt {X : Cx} {e : Expr} {t : TT} (h : PW X e t) : PT X e t := h _
def PA (X : Cx) (es : List Expr) (t : TA) : Prop :=
  ∀ (pos : Pos) (pins : List (Addr × Obj)) (s : Shared) (σ : St) (H : Hp) (Q : List V → Hp → Prop), Inv X pins σ H s → t σ H Q → wpAny (model X.prog X.w) X.A (spliced (backTo pos (starEach es X.env))) (AP X pins σ Q) X.xe s
def PS (X : Cx) (st : Stmt) (t : TS) : Prop :=
  ∀ (pins : List (Addr × Obj)) (s : Shared) (σ : St) (H : Hp) (D : Ends), Inv X pins σ H s → t D σ H → wpAny (model X.prog X.w) X.A (exec st X.env) (SP X pins D) X.xe s
def PSs (X : Cx) (st : List Stmt) (t : TS) : Prop :=
  ∀ (pins : List (Addr × Obj)) (s : Shared) (σ : St) (H : Hp) (D : Ends), Inv X pins σ H s → t D σ H → wpAny (model X.prog X.w) X.A (execs st X.env) (SP X pins D) X.xe s
theorem thn {α : Type} {t : Sem α} {Q Q' : α → Shared → Prop} {M : Model} {A : Around} {E : Value → Shared → Prop} {s : Shared} (h : wpAny M A t Q E s) (hQ : ∀ a s, Q a s → Q' a s) : wpAny M A t Q' E s := wpAny_mono h hQ fun _ _ x => x
end L2

namespace L2
open PySem PySem.Spec PyProof.Rows
section
variable {X : Cx}

inductive IsBl (x : V) (H : Hp) (Q : Bool → Hp → Prop) : Prop where
  | mk (c : Bool) (h : x = .bl c) (q : Q c H)
inductive IsIn (x : V) (H : Hp) (Q : Option Int → Hp → Prop) : Prop where
  | mk (i : Int) (h : x = .int i) (q : Q (some i) H)
inductive NewT (xs : List V) (H : Hp) (Q : VK) : Prop where
  | mk (h : xs.length ≤ sizeLine) (q : ∀ p, H p = none → Q (.ref p) (upd H p (.tup xs)))
inductive NewL (xs : List V) (H : Hp) (Q : VK) : Prop where
  | mk (h : xs.length ≤ sizeLine) (q : ∀ p, H p = none → Q (.ref p) (upd H p (.lst xs)))
inductive tVar (i : Nat) (σ : St) (H : Hp) (Q : VK) : Prop where
  | mk (v : _) (h_0 : σ[i]? = some (some v)) (h_1 : Q v H)
def tC (v : V) : TE := fun _ H Q => Q v H
theorem pe_var {i : Nat} {x : Str} {pos : Pos} (hN : X.N[i]? = some x) (hv : Vis X.env.scope x) (hd : (x == ("__debug__" : Str)) = false := by decide) (hcd : (x == ("__classdict__" : Str)) = false := by decide) : PE X (.Name x pos) (tVar i) := by
  intro pins s σ H Q I h
  obtain ⟨v, e, h⟩ := h
  obtain ⟨m, hn, hl⟩ := I.loc
  obtain ⟨u, r, l⟩ := hl i x v hN e hv
  have fin : EP X pins σ Q u s := ⟨v, H, I, r, h⟩
  rcases l with ⟨hk, hm⟩ | ⟨hk, c, hc, hcell⟩
  · exact wpAny_Name (wpAny_loadName_local I.ok.kind hk hn hm fin) hd
  · rcases hk with hk | hk
    · exact wpAny_Name (wpAny_loadName_cell I.ok.kind hk hc hcell fin) hd
    · exact wpAny_Name (wpAny_loadName_free I.ok.kind hk hc hcell fin hcd) hd
theorem pe_int {i j pos} : PE X (.Constant (.int i) j pos) (tC (.int i)) := fun _ _ _ H _ I h => wpAny_Constant_int ⟨.int i, H, I.tok _, ⟨_, rfl⟩, h⟩
theorem pe_bl {b j pos} : PE X (.Constant (.bool b) j pos) (tC (.bl b)) := fun _ _ _ H _ I h => Constant_bool ⟨.bl b, H, I, rfl, h⟩
theorem pe_non {j pos} : PE X (.Constant .none j pos) (tC .non) := fun _ _ _ H _ I h => Constant_none ⟨.non, H, I, rfl, h⟩
theorem pe_str {x j pos} : PE X (.Constant (.str x) j pos) (tC (.str x)) := fun _ _ _ H _ I h => Calls.Constant_str ⟨.str x, H, I.tok _, ⟨_, rfl⟩, h⟩

def Gl (X : Cx) (x : Str) : Prop := X.env.kindOf x = some .globalImplicit
theorem ld_glob {E : Value → Shared → Prop} {pins : List (Addr × Obj)} {s : Shared} {σ : St} {H : Hp} {x : Str} {u : Value} {pos : Pos} {Q : Value → Shared → Prop} (I : Inv X pins σ H s) (hg : Gl X x) (hm : X.mg x = some u) (h : Q u s)
    (hd : (x == ("__debug__" : Str)) = false := by decide) : wpAny (model X.prog X.w) X.A (eval (.Name x pos) X.env) Q E s :=
  Calls.Name_function_global I.ok.kind hg (Calls.loadGlobal_global (by rw [I.ok.glob]; exact I.mod.glob.keeps I.bk) hm h) hd
theorem ld_blt {E : Value → Shared → Prop} {pins : List (Addr × Obj)} {s : Shared} {σ : St} {H : Hp} {x : Str} {u : Value} {pos : Pos} {Q : Value → Shared → Prop} (I : Inv X pins σ H s) (hg : Gl X x) (hm : X.mg x = none) (hv : bootBuiltins x = some u) (h : Q u s)
    (hn : x ≠ "__name__" := by decide) (hd : (x == ("__debug__" : Str)) = false := by decide) : wpAny (model X.prog X.w) X.A (eval (.Name x pos) X.env) Q E s := by
  obtain ⟨mb, h1, h2⟩ := I.mod.blt
  exact Calls.Name_function_global I.ok.kind hg (Calls.loadGlobal_builtin (by rw [I.ok.glob]; exact I.mod.glob.keeps I.bk) hm (by rw [I.ok.blt]; exact h1.keeps I.bk) ((h2 x hn).trans hv) h) hd
theorem pe_glob {x : Str} {v : V} {u : Value} {pos : Pos} (hg : Gl X x) (hm : X.mg x = some u) (r : RelV v u) (hd : (x == ("__debug__" : Str)) = false := by decide) : PE X (.Name x pos) (tC v) :=
  fun _ _ _ H _ I h => ld_glob I hg hm ⟨v, H, I, r, h⟩ hd
theorem pe_bltn {x : Str} {v : V} {u : Value} {pos : Pos} (hg : Gl X x) (hm : X.mg x = none) (hv : bootBuiltins x = some u) (r : RelV v u) (hn : x ≠ "__name__" := by decide) (hd : (x == ("__debug__" : Str)) = false := by decide) : PE X (.Name x pos) (tC v) :=
  fun _ _ _ H _ I h => ld_blt I hg hm hv ⟨v, H, I, r, h⟩ hn hd

variable {a b : Expr} {ta tb : TE} {pos : Pos}
def tB (t : TE) : TT := fun σ H Q => t σ H fun x H1 => IsBl x H1 Q
theorem pt_val {e : Expr} {t : TE} (h : PE X e t) (he : ∀ whole, isTrue e X.env whole = (do let v ← whole; standAt e.pos; holding [v] (truthy v)) := by intro _; rfl) : PT X e (tB t) := by
  intro pins s σ H Q I hw
  refine isTrue_plain (thn (h pins s σ H _ I hw) fun v s1 ⟨x, H1, I1, r1, q1⟩ => ?_) (he _)
  obtain ⟨d, rfl, q⟩ := q1
  cases r1
  exact wpAny_truthy_bool ⟨H1, I1, q⟩

variable {tA tB' : TT} {rest : List Expr}
def tAnd (t u : TT) : TT := fun σ H Q => t σ H fun c H1 => if c = true then u σ H1 Q else Q false H1
def tOr (t u : TT) : TT := fun σ H Q => t σ H fun c H1 => if c = true then Q true H1 else u σ H1 Q
def tNot (t : TT) : TT := fun σ H Q => t σ H fun c H1 => Q (!c) H1
theorem pw_and1 (ha : PT X a tA) : PW X (.BoolOp .And [a] pos) tA := by
  intro wh pins s σ H Q I h
  refine isTrue_and (thn (ha pins s σ H Q I h) fun c s1 e => ?_)
  cases c with
  | true => exact isTrue_and_nil e
  | false => exact e
theorem pw_or1 (ha : PT X a tA) : PW X (.BoolOp .Or [a] pos) tA := by
  intro wh pins s σ H Q I h
  refine isTrue_or (thn (ha pins s σ H Q I h) fun c s1 e => ?_)
  cases c with
  | false => exact isTrue_or_nil e
  | true => exact e
theorem pw_and (ha : PT X a tA) (hb : PW X (.BoolOp .And (b :: rest) pos) tB') : PW X (.BoolOp .And (a :: b :: rest) pos) (tAnd tA tB') := by
  intro wh pins s σ H Q I h
  refine isTrue_and (thn (ha pins s σ H _ I h) fun c s1 ⟨H1, I1, q1⟩ => ?_)
  cases c with
  | true => exact hb wh pins s1 σ H1 Q I1 q1
  | false => exact ⟨H1, I1, q1⟩
theorem pw_or (ha : PT X a tA) (hb : PW X (.BoolOp .Or (b :: rest) pos) tB') : PW X (.BoolOp .Or (a :: b :: rest) pos) (tOr tA tB') := by
  intro wh pins s σ H Q I h
  refine isTrue_or (thn (ha pins s σ H _ I h) fun c s1 ⟨H1, I1, q1⟩ => ?_)
  cases c with
  | true => exact ⟨H1, I1, q1⟩
  | false => exact hb wh pins s1 σ H1 Q I1 q1
theorem pt_not (ha : PT X a tA) : PT X (.UnaryOp .Not a pos) (tNot tA) := by
  intro pins s σ H Q I h
  exact isTrue_not (thn (ha pins s σ H (fun c H1 => Q (!c) H1) I h) fun c s1 ⟨H1, I1, q1⟩ => ⟨H1, I1, q1⟩)
def tAndV (ta tb : TE) : TE := fun σ H Q => ta σ H fun x H1 => IsBl x H1 fun c H2 => if c = true then tb σ H2 Q else Q (.bl false) H2
def tNotV (ta : TE) : TE := fun σ H Q => ta σ H fun x H1 => IsBl x H1 fun c H2 => Q (.bl (!c)) H2
theorem pe_one {op} {t : TE} (h : PE X a t) : PE X (.BoolOp op [a] pos) t := fun pins s σ H Q I hw => BoolOp_one (h pins s σ H Q I hw)
theorem pe_and (ha : PE X a ta) (hb : PE X (.BoolOp .And (b :: rest) pos) tb) : PE X (.BoolOp .And (a :: b :: rest) pos) (tAndV ta tb) := by
  intro pins s σ H Q I h
  refine BoolOp_and (thn (ha pins s σ H _ I h) fun v s1 ⟨x, H1, I1, r1, q1⟩ => ?_)
  obtain ⟨c, rfl, q1⟩ := q1
  cases r1
  refine wpAny_truthy_bool ?_
  cases c with
  | true => exact hb pins s1 σ H1 Q I1 q1
  | false => exact ⟨.bl false, H1, I1, rfl, q1⟩
theorem pe_not (ha : PE X a ta) : PE X (.UnaryOp .Not a pos) (tNotV ta) := by
  intro pins s σ H Q I h
  refine UnaryOp_ (thn (ha pins s σ H _ I h) fun v s1 ⟨x, H1, I1, r1, q1⟩ => ?_)
  obtain ⟨c, rfl, q1⟩ := q1
  cases r1
  exact not_of (wpAny_truthy_bool ⟨.bl (!c), H1, I1, rfl, q1⟩)
def tIf (t : TT) (ta tb : TE) : TE := fun σ H Q => t σ H fun c H1 => if c = true then ta σ H1 Q else tb σ H1 Q
theorem pe_ifExp {c : Expr} (hc : PT X c tA) (ha : PE X a ta) (hb : PE X b tb) : PE X (.IfExp c a b pos) (tIf tA ta tb) := by
  intro pins s σ H Q I h
  refine wpAny_IfExp (thn (hc pins s σ H _ I h) fun d s1 ⟨H1, I1, q1⟩ => ?_)
  cases d with
  | true => exact ha pins s1 σ H1 Q I1 q1
  | false => exact hb pins s1 σ H1 Q I1 q1
end
end L2

namespace L2
open PySem PySem.Spec PyProof.Rows

def SqL (K : PySem.W.Frag) (H : Hp) (a : Addr) (xs : List V) : Prop :=
  Rd H a (.lst xs) ∨
    ∃ (o : Obj) (its : Array Value) (n : Nat), K.lookup a = some o ∧ o.cls = .type "list" ∧ o.dict = none ∧ o.data = .seq its n ∧ its.size ≤ sizeLine ∧ Vals xs its.toList
def SqT (K : PySem.W.Frag) (H : Hp) (a : Addr) (xs : List V) : Prop :=
  Rd H a (.tup xs) ∨
    ∃ (o : Obj) (its : Array Value) (n : Nat), K.lookup a = some o ∧ o.cls = .type "tuple" ∧ o.data = .seq its n ∧ its.size ≤ sizeLine ∧ Vals xs its.toList
def absV : Value → Option V
  | .none => some .non
  | .bool b => some (.bl b)
  | .int i _ => some (.int i)
  | .str x _ => some (.str x)
  | .bytes b _ => some (.byt b)
  | .float b _ => some (.flt b)
  | .ref a => some (.ref a)
  | .type n => some (.ty n)
  | _ => none
theorem RelV.abs {x : V} {u : Value} (r : RelV x u) : absV u = some x := by
  cases x with
  | non => cases r; rfl
  | bl _ => cases r; rfl
  | int _ => obtain ⟨t, rfl⟩ := r; rfl
  | str _ => obtain ⟨t, rfl⟩ := r; rfl
  | byt _ => obtain ⟨t, rfl⟩ := r; rfl
  | flt _ => obtain ⟨t, rfl⟩ := r; rfl
  | ref _ => cases r; rfl
  | ty _ => cases r; rfl
theorem RelV.inj {x y : V} {u : Value} (r : RelV x u) (q : RelV y u) : x = y := Option.some.inj (r.abs.symm.trans q.abs)
theorem Vals.inj : ∀ {xs ys : List V} {us : List Value}, Vals xs us → Vals ys us → xs = ys
  | _, _, _, .nil, .nil => rfl
  | _, _, _, .cons r t, .cons r' t' => by rw [r.inj r', Vals.inj t t']
section
variable {X : Cx} {pins : List (Addr × Obj)} {σ : St} {H : Hp} {s : Shared} {a : Addr} {xs ys : List V}
theorem SqL.of {K : PySem.W.Frag} (h : H a = some (.lst xs)) : SqL K H a xs := .inl (.inl h)
theorem SqT.of {K : PySem.W.Frag} (h : H a = some (.tup xs)) : SqT K H a xs := .inl (.inl h)
theorem Inv.list (I : Inv X pins σ H s) (h : SqL X.K H a xs) : ∃ its : List Value, Vals xs its ∧ PlainL s.heap a its.toArray ∧ xs.length ≤ sizeLine := by
  rcases h with h | ⟨o, its, n, hk, hc, hd, hs, hz, r⟩
  · obtain ⟨z, its, n, r, e⟩ := h.ok I.hok
    exact ⟨its, r, ⟨_, n, e, rfl, rfl, rfl⟩, z⟩
  · refine ⟨its.toList, r, ⟨o, n, I.kIn a o hk, hc, hd, by simpa using hs⟩, ?_⟩
    have e := r.length
    simp only [Array.length_toList] at e
    omega
theorem Inv.tuple (I : Inv X pins σ H s) (h : SqT X.K H a xs) : ∃ its : List Value, Vals xs its ∧ IsTup s.heap a its.toArray ∧ xs.length ≤ sizeLine := by
  rcases h with h | ⟨o, its, n, hk, hc, hs, hz, r⟩
  · obtain ⟨z, its, r, p⟩ := h.ok I.hok
    exact ⟨its, r, p, z⟩
  · refine ⟨its.toList, r, ⟨o, I.kIn a o hk, hc, n, by simpa using hs⟩, ?_⟩
    have e := r.length
    simp only [Array.length_toList] at e
    omega
theorem Inv.list_inj (I : Inv X pins σ H s) (h : SqL X.K H a xs) (h' : SqL X.K H a ys) : xs = ys := by
  obtain ⟨its, r, ⟨o, n, e, _, _, d⟩, _⟩ := I.list h
  obtain ⟨its', r', ⟨o', n', e', _, _, d'⟩, _⟩ := I.list h'
  rw [e] at e'; cases e'
  rw [d] at d'
  injection d' with d1 _
  have : its = its' := by simpa using congrArg Array.toList d1
  subst this
  exact r.inj r'
theorem Inv.tuple_inj (I : Inv X pins σ H s) (h : SqT X.K H a xs) (h' : SqT X.K H a ys) : xs = ys := by
  obtain ⟨its, r, ⟨o, e, _, n, d⟩, _⟩ := I.tuple h
  obtain ⟨its', r', ⟨o', e', _, n', d'⟩, _⟩ := I.tuple h'
  rw [e] at e'; cases e'
  rw [d] at d'
  injection d' with d1 _
  have : its = its' := by simpa using congrArg Array.toList d1
  subst this
  exact r.inj r'
end

abbrev Cx.wish (X : Cx) (E : Value → Shared → Prop) : Cx := { X with xe := E }
abbrev Cx.nox (X : Cx) : Cx := X.wish fun _ _ => False
theorem Cx.Ok.wish {X : Cx} (ok : X.Ok) (E : Value → Shared → Prop) : (X.wish E).Ok :=
  ⟨ok.mod, ok.kind, ok.glob, ok.blt, ok.above, ok.inj, ok.has, ok.cab, ok.hd, ok.frames, ok.stk, ok.exf, ok.bs, ok.bsz, ok.noex, ok.exfs, ok.funs, ok.frf⟩
theorem Cx.Ok.unwish {X : Cx} {E : Value → Shared → Prop} (ok : (X.wish E).Ok) : X.Ok :=
  ⟨ok.mod, ok.kind, ok.glob, ok.blt, ok.above, ok.inj, ok.has, ok.cab, ok.hd, ok.frames, ok.stk, ok.exf, ok.bs, ok.bsz, ok.noex, ok.exfs, ok.funs, ok.frf⟩
section
variable {X : Cx} {pins : List (Addr × Obj)} {σ : St} {H : Hp} {s : Shared} {E : Value → Shared → Prop}
theorem Inv.wish (I : Inv X pins σ H s) (E : Value → Shared → Prop) : Inv (X.wish E) pins σ H s := ⟨I.ok.wish E, I.os, I.bare, I.base, I.loc, I.cell, I.free, I.freeC, I.pin, I.hok, I.len⟩
theorem Inv.unwish (I : Inv (X.wish E) pins σ H s) : Inv X pins σ H s := ⟨I.ok.unwish, I.os, I.bare, I.base, I.loc, I.cell, I.free, I.freeC, I.pin, I.hok, I.len⟩
theorem SP.unwish {D : Ends} {f : Flow} {s' : Shared} (h : SP (X.wish E) pins D f s') : SP X pins D f s' := by
  cases f with
  | next => obtain ⟨σ', H', I, q⟩ := h; exact ⟨σ', H', I.unwish, q⟩
  | brk => obtain ⟨σ', H', I, q⟩ := h; exact ⟨σ', H', I.unwish, q⟩
  | cont => obtain ⟨σ', H', I, q⟩ := h; exact ⟨σ', H', I.unwish, q⟩
  | ret u => obtain ⟨v, σ', H', I, r, q⟩ := h; exact ⟨v, σ', H', I.unwish, r, q⟩
theorem PSs.nox {st : List Stmt} {t : TS} (h : PSs X.nox st t) : PSs X st t := fun pins s σ H D I hw =>
  wpAny_mono (h pins s σ H D (I.wish _) hw) (fun _ _ q => q.unwish) fun _ _ z => False.elim z
end

section
variable {X : Cx} {st : Stmt} {rest : List Stmt} {t u : TS} {e : Expr} {te : TE} {pos : Pos}
def tNext : TS := fun D σ H => D.nx σ H
def tSeq (t u : TS) : TS := fun D σ H => t { D with nx := u D } σ H
theorem pss_nil : PSs X [] tNext := fun _ _ σ H _ I h => wpAny_execs_nil ⟨σ, H, I, h⟩
theorem pss_cons (h1 : PS X st t) (h2 : PSs X rest u) : PSs X (st :: rest) (tSeq t u) := by
  intro pins s σ H D I h
  refine wpAny_execs_cons (thn (h1 pins s σ H { D with nx := u D } I h) fun f s1 q => ?_)
  cases f with
  | next =>
    obtain ⟨σ', H', I', q⟩ := q
    exact h2 pins s1 σ' H' D I' q
  | ret v => exact q
  | brk => exact q
  | cont => exact q
theorem pss_one (h1 : PS X st t) : PSs X [st] t := by
  intro pins s σ H D I h
  refine wpAny_execs_cons (thn (h1 pins s σ H D I h) fun f s1 q => ?_)
  cases f with
  | next => exact wpAny_execs_nil q
  | ret v => exact q
  | brk => exact q
  | cont => exact q
theorem Inv.quiet {pins : List (Addr × Obj)} {σ : St} {H : Hp} {s : Shared} (I : Inv X pins σ H s) : interactive X.env = false := by simp [interactive, I.ok.kind]
def tDrop (te : TE) : TS := fun D σ H => te σ H fun _ H1 => D.nx σ H1
theorem ps_expr (he : PE X e te) (hs : swapsWith e none pos.line X.env = pure false := by rfl) : PS X (.Expr e pos) (tDrop te) := by
  intro pins s σ H D I h
  exact wpAny_Expr_any (thn (he pins s σ H _ I h) fun v s1 ⟨x, H1, I1, r1, q1⟩ => ⟨σ, H1, I1, q1⟩) I.quiet hs
def tRet (te : TE) : TS := fun D σ H => te σ H D.rt
theorem ps_ret (he : PE X e te) : PS X (.Return (some e) pos) (tRet te) := by
  intro pins s σ H D I h
  exact wpAny_Return_some (thn (he pins s σ H _ I h) fun v s1 ⟨x, H1, I1, r1, q1⟩ => ⟨x, σ, H1, I1, r1, q1⟩)
def tIfS (c : TT) (t u : TS) : TS := fun D σ H => c σ H fun b H1 => if b = true then t D σ H1 else u D σ H1
theorem ps_if {c : Expr} {a b : List Stmt} {tc : TT} (hc : PT X c tc) (ha : PSs X a t) (hb : PSs X b u) : PS X (.If c a b pos) (tIfS tc t u) := by
  intro pins s σ H D I h
  refine wpAny_If (thn (hc pins s σ H _ I h) fun d s1 ⟨H1, I1, q1⟩ => ?_)
  cases d with
  | true => exact ha pins s1 σ H1 D I1 q1
  | false => exact hb pins s1 σ H1 D I1 q1
def tNever : TS := fun _ _ _ => False
theorem ps_never : PS X st tNever := fun _ _ _ _ _ _ h => h.elim
end

abbrev TG := V → St → Hp → (St → Hp → Prop) → Prop
abbrev TGs := List V → St → Hp → (St → Hp → Prop) → Prop
def PG (X : Cx) (target : Expr) (t : TG) : Prop :=
  ∀ (pins : List (Addr × Obj)) (s : Shared) (σ : St) (H : Hp) (v : V) (u : Value) (Q : St → Hp → Prop), Inv X pins σ H s → RelV v u → t v σ H Q →
    wpAny (model X.prog X.w) X.A (assign target X.env u) (fun _ s' => ∃ σ' H', Inv X pins σ' H' s' ∧ Q σ' H') X.xe s
def PGs (X : Cx) (ts : List Expr) (t : TGs) : Prop :=
  ∀ (pins : List (Addr × Obj)) (s : Shared) (σ : St) (H : Hp) (vs : List V) (us : List Value) (Q : St → Hp → Prop), Inv X pins σ H s → Vals vs us → t vs σ H Q →
    wpAny (model X.prog X.w) X.A (assignInOrder ((assignEach ts X.env).map (·.2)) us) (fun _ s' => ∃ σ' H', Inv X pins σ' H' s' ∧ Q σ' H') X.xe s
abbrev TSet := V → V → V → Hp → (Hp → Prop) → Prop
def PSet (X : Cx) (t : TSet) : Prop :=
  ∀ (pins : List (Addr × Obj)) (s : Shared) (σ : St) (H : Hp) (o i v : V) (ov iv u : Value) (Q : Hp → Prop), Inv X pins σ H s → RelV o ov → RelV i iv → RelV v u → t o i v H Q →
    wpAny (model X.prog X.w) X.A (setItem ov iv u) (fun _ s' => ∃ H', Inv X pins σ H' s' ∧ Q H') X.xe s
section
variable {X : Cx} {pos : Pos}
def gName (i : Nat) : TG := fun v σ H Q => Q (σ.set i (some v)) H
theorem pg_name {i : Nat} {x : Str} (hN : X.N.Nodup) (hi : X.N[i]? = some x) (hx : Loc X.env.scope x) (hf : X.fn x = true ∨ X.env.scope.names.lookup x = some .local := by first | exact .inl rfl | exact .inr rfl | assumption) : PG X (.Name x pos) (gName i) := by
  intro pins s σ H v u Q I r h
  exact wpAny_assign_Name (store_ok I hN hi hx r (fun s' I' => ⟨_, H, I', h⟩) hf)
inductive gNil (vs : List V) (σ : St) (H : Hp) (Q : St → Hp → Prop) : Prop where
  | mk  (h_0 : vs = []) (h_1 : Q σ H)
inductive gCons (t : TG) (u : TGs) (vs : List V) (σ : St) (H : Hp) (Q : St → Hp → Prop) : Prop where
  | mk (v : _) (r : _) (h_0 : vs = v :: r) (h_1 : t v σ H fun σ' H' => u r σ' H' Q)
theorem pgs_nil : PGs X [] gNil := by
  intro pins s σ H vs us Q I r h
  obtain ⟨e, h⟩ := h
  subst e
  cases r
  exact assignInOrder_nil ⟨σ, H, I, h⟩
theorem pgs_cons {e : Expr} {es : List Expr} {t : TG} {u : TGs} (h1 : PG X e t) (h2 : PGs X es u)
    (hs : (assignEach (e :: es) X.env).map (·.2) = assign e X.env :: (assignEach es X.env).map (·.2) := by rfl) : PGs X (e :: es) (gCons t u) := by
  intro pins s σ H vs us Q I r h
  obtain ⟨v, vr, e1, h⟩ := h
  subst e1
  cases r with
  | cons r rr =>
    rw [hs]
    refine assignInOrder_cons (thn (h1 pins s σ H _ _ _ I r h) fun _ s1 ⟨σ1, H1, I1, q1⟩ => ?_)
    exact h2 pins s1 σ1 H1 _ _ Q I1 rr q1
inductive gTup (K : PySem.W.Frag) (n : Nat) (t : TGs) (v : V) (σ : St) (H : Hp) (Q : St → Hp → Prop) : Prop where
  | mk (a : _) (xs : _) (h_0 : v = .ref a) (h_1 : SqT K H a xs) (h_2 : xs.length = n) (h_3 : t xs σ H Q)
theorem pg_tup {es : List Expr} {k : Nat} {t : TGs} {n : Nat} (hc : X.calm = true) (h : PGs X es t)
    (hn : (assignEach es X.env).length = n := by rfl) (hst : (assignEach es X.env).findIdx? (·.1) = none := by rfl) : PG X (.Tuple es k pos) (gTup X.K n t) := by
  intro pins s σ H v u Q I r hw
  obtain ⟨a, xs, e1, hq, hl, hw⟩ := hw
  subst e1
  cases r
  obtain ⟨its, rv, ht, hz⟩ := I.tuple hq
  refine assign_Tuple_tuple (I.ok.hd hc) ht (by simp [hn, ← hl, rv.length]) hst fun h' hx => ?_
  have I1 : Inv X pins σ H { s with heap := h' } := I.kept (t' := s.toks) fun b o e => hx b o (Nat.ne_of_lt (Heap.lt_size e)) e
  exact h pins _ σ H xs _ Q I1 (by simpa using rv) hw
def gSub (to ti : TE) (t : TSet) : TG := fun v σ H Q => to σ H fun o H1 => ti σ H1 fun i H2 => t o i v H2 fun H3 => Q σ H3
theorem pg_sub {o i : Expr} {to ti : TE} {t : TSet} (ho : PE X o to) (hi : PE X i ti) (hs : PSet X t)
    (ha : ∀ v, assign (.Subscript o i pos) X.env v = (do
      let ov ← holding [v] (eval o X.env)
      let iv ← holding [v, ov] (eval i X.env)
      standAt pos
      holding [v, ov, iv] (setItem ov iv v)
      release [v, ov, iv] []) := by intro _; rfl) : PG X (.Subscript o i pos) (gSub to ti t) := by
  intro pins s σ H v u Q I r h
  rw [ha]
  refine wpAny_bind (wpAny_holding (thn (ho pins s σ H _ I h) fun ov s1 ⟨x, H1, I1, r1, q1⟩ => ?_))
  refine wpAny_bind (wpAny_holding (thn (hi pins s1 σ H1 _ I1 q1) fun iv s2 ⟨y, H2, I2, r2, q2⟩ => ?_))
  refine wpAny_bind (wpAny_standAt (wpAny_bind (wpAny_holding (thn (hs pins s2 σ H2 x y v ov iv u _ I2 r1 r2 r q2) fun _ s3 ⟨H3, I3, q3⟩ => ?_))))
  exact wpAny_release ⟨σ, H3, I3, q3⟩
def tAsg (te : TE) (g : TG) : TS := fun D σ H => te σ H fun x H1 => g x σ H1 D.nx
theorem ps_asg {tg e : Expr} {te : TE} {g : TG} (he : PE X e te) (hg : PG X tg g) (hs : swapsWithSole [tg] e pos.line X.env = pure false := by rfl) (hw : swappedStores [tg] e X.env = pure none := by rfl)
    (h1 : (assignEach [tg] X.env).map (·.2) = [assign tg X.env] := by rfl) : PS X (.Assign [tg] e pos) (tAsg te g) := by
  intro pins s σ H D I h
  refine wpAny_Assign_stores (thn (he pins s σ H _ I h) fun v s1 ⟨x, H1, I1, r1, q1⟩ => ?_) hs hw
  rw [h1]
  exact thn (hg pins s1 σ H1 x v _ I1 r1 q1) fun _ s2 q => q
theorem ps_set {i : Nat} {x : Str} {e : Expr} {te : TE} {pos' : Pos} (hN : X.N.Nodup) (hi : X.N[i]? = some x) (hx : Loc X.env.scope x) (he : PE X e te) (hs : swapsWith e (some (.Name x pos')) pos.line X.env = pure false := by rfl) (hf : X.fn x = true ∨ X.env.scope.names.lookup x = some .local := by first | exact .inl rfl | exact .inr rfl | assumption) :
    PS X (.Assign [.Name x pos'] e pos) (tAsg te (gName i)) := by
  intro pins s σ H D I h
  refine wpAny_Assign_Name (thn (he pins s σ H _ I h) fun v s1 ⟨y, H1, I1, r1, q1⟩ => ?_) hs
  exact store_ok I1 hN hi hx r1 (fun s2 I2 => ⟨_, H1, I2, q1⟩) hf
end

section
variable {X : Cx} {pos : Pos}
def tWhile (c : TT) (tb : TS) : TS := fun D σ H => ∃ W : Nat → St → Hp → Prop, (∃ m, W m σ H) ∧ ∀ m σ H, W m σ H →
  c σ H fun b H1 => if b = true then ∃ N : St → Hp → Prop, (∀ σ' H', N σ' H' → ∃ m', m' < m ∧ W m' σ' H') ∧ tb { D with nx := N, ct := N, bk := D.nx } σ H1 else D.nx σ H1
theorem ps_while {c : Expr} {body : List Stmt} {tc : TT} {tb : TS} (hp : PassesOwn (model X.prog X.w) X.A X.env X.xe) (hc : PT X c tc) (hb : PSs X body tb) : PS X (.While c body [] pos) (tWhile tc tb) := by
  intro pins s σ H D I h
  obtain ⟨W, ⟨m0, w0⟩, turn⟩ := h
  refine wpAny_While (codeAny_whileLoop (fun n s' => ∃ σ' H', Inv X pins σ' H' s' ∧ W n σ' H') ?_ m0 ⟨σ, H, I, w0⟩)
  rintro n s1 ⟨σ1, H1, I1, w1⟩
  refine wpAny_passesOwn hp (thn (hc pins s1 σ1 H1 _ I1 (turn n σ1 H1 w1)) fun b s2 ⟨H2, I2, q2⟩ => ?_)
  cases b with
  | true =>
    obtain ⟨N, hN, q2⟩ := q2
    rw [if_pos rfl]
    refine wpAny_passesOwn hp (thn (hb pins s2 σ1 H2 _ I2 q2) fun f s3 q3 => ?_)
    cases f with
    | next =>
      obtain ⟨σ3, H3, I3, n3⟩ := q3
      obtain ⟨m', hm, w3⟩ := hN σ3 H3 n3
      exact ⟨m', hm, σ3, H3, I3, w3⟩
    | cont =>
      obtain ⟨σ3, H3, I3, n3⟩ := q3
      obtain ⟨m', hm, w3⟩ := hN σ3 H3 n3
      exact ⟨m', hm, σ3, H3, I3, w3⟩
    | brk => exact q3
    | ret v => exact q3
  | false =>
    rw [if_neg Bool.false_ne_true]
    exact wpAny_execs_nil ⟨σ1, H2, I2, q2⟩
end

structure It where
  go : Nat → Hp → Prop
  yld : Nat → Hp → V → Hp → Prop
  stop : Nat → Hp → Prop
def FpOk (X : Cx) (pins : List (Addr × Obj)) (H : Hp) (b : Addr) : Prop :=
  H b = none ∧ b ≠ X.env.locals ∧ b ∉ X.fs ∧ (b ∈ X.ex ∨ X.s₀.heap.objs.size ≤ b) ∧ (∀ x c, X.env.cells.lookup x = some c → c ≠ b) ∧ ∀ p ∈ X.pn ++ pins, p.1 ≠ b
theorem Inv.fpOk {X : Cx} {pins : List (Addr × Obj)} {σ : St} {H H' : Hp} {s : Shared} {b : Addr} (I : Inv X pins σ H s) (hb : s.heap.objs.size ≤ b) (hn : H' b = none) : FpOk X pins H' b := by
  refine ⟨hn, Nat.ne_of_gt (Nat.lt_of_lt_of_le I.lt hb), I.nofs hb, .inr (Nat.le_trans I.sz hb), fun x c e z => ?_, fun p hp z => ?_⟩
  · obtain ⟨v, q⟩ := I.cell x c e
    exact absurd (Nat.lt_of_lt_of_le q.lt (by rw [z]; exact hb)) (Nat.lt_irrefl _)
  · exact absurd (Nat.lt_of_lt_of_le (Heap.lt_size (I.pin p hp).1) (by rw [z]; exact hb)) (Nat.lt_irrefl _)
structure Turn (P : Program) (w : World) (K : PySem.W.Frag) (tg : Expr) (J : It) (fp : List Addr) (it : Addr) (tn : Nat → Heap → Prop) : Prop where
  mem : it ∈ fp
  obj : ∀ i h, tn i h → ∀ b ∈ fp, ∃ o, h.get? b = some o ∧ ∀ v, o.data ≠ .cell v
  keep : ∀ i h h', tn i h → (∀ b ∈ fp, ∀ o, h.get? b = some o → h'.get? b = some o) → tn i h'
  item : ∀ (X : Cx), X.prog = P → X.w = w → X.K = K → X.calm = true → ∀ (i : Nat) (pins : List (Addr × Obj)) (s : Shared) (σ : St) (H : Hp) (E : Value → Shared → Prop), Inv X pins σ H s → (∀ b ∈ fp, FpOk X pins H b) → tn i s.heap → J.go i H →
    wpAny (model P w) X.A (pyNext (.ref it)) (fun r s1 => ∃ u, r = some u ∧
      wpAny (model P w) X.A (letOwnedTupleGo tg (.ref it) u) (fun _ s2 => ∃ x H', Inv X pins σ H' s2 ∧ RelV x u ∧ J.yld i H x H' ∧ tn (i + 1) s2.heap ∧ ∀ b ∈ fp, H' b = none) E s1) E s
  done : ∀ (X : Cx), X.prog = P → X.w = w → X.K = K → X.calm = true → ∀ (i : Nat) (pins : List (Addr × Obj)) (s : Shared) (σ : St) (H : Hp) (E : Value → Shared → Prop), Inv X pins σ H s → (∀ b ∈ fp, FpOk X pins H b) → tn i s.heap → J.stop i H →
    wpAny (model P w) X.A (pyNext (.ref it)) (fun r s1 => r = none ∧ Inv X pins σ H s1) E s
  self : ∀ (A : Around) (i : Nat) (s : Shared) (Q : Value → Shared → Prop) (E : Value → Shared → Prop), tn i s.heap → Q (.ref it) s → wpAny (model P w) A (pyIter (.ref it)) Q E s
abbrev TI := St → Hp → (It → Hp → Prop) → Prop
def PIE (X : Cx) (pins : List (Addr × Obj)) (σ : St) (tg : Expr) (R : It → Hp → Prop) (itv : Value) (s2 : Shared) : Prop :=
  ∃ (it : Addr) (fp : List Addr) (tn : Nat → Heap → Prop) (J : It) (H' : Hp), itv = .ref it ∧ Inv X pins σ H' s2 ∧ Turn X.prog X.w X.K tg J fp it tn ∧ tn 0 s2.heap ∧ (∀ b ∈ fp, FpOk X pins H' b) ∧ R J H'
def PI (X : Cx) (tg iter : Expr) (wi : TI) : Prop :=
  ∀ (pins : List (Addr × Obj)) (s : Shared) (σ : St) (H : Hp) (R : It → Hp → Prop), Inv X pins σ H s → wi σ H R →
    wpAny (model X.prog X.w) X.A (eval iter X.env) (fun v s1 => wpAny (model X.prog X.w) X.A (pyIter v) (PIE X pins σ tg R) X.xe s1) X.xe s

theorem go_of {M : Model} {A : Around} {E : Value → Shared → Prop} {s : Shared} {tg : Expr} {it : Addr} {u : Value} {o : Obj} {n : String} {vs : Array Value} {Q : Unit → Shared → Prop} (ho : s.heap.get? it = some o) (hc : o.cls = .type n) (hd : o.data = .fields vs)
    (hn : ["enumerate", "zip", "dict_itemiterator", "dict_reverseitemiterator", "odict_iterator", "itertools.zip_longest", "itertools.pairwise"].contains n = false) (hQ : Q () s) : wpAny M A (letOwnedTupleGo tg (.ref it) u) Q E s := by
  unfold letOwnedTupleGo
  cases tg <;> first
    | exact wpAny_pure hQ
    | (cases u <;> first
        | exact wpAny_pure hQ
        | (refine wpAny_bind (wpAny_load ho ?_)
           rw [hc, hd]
           show wpAny M A (if (["enumerate", "zip", "dict_itemiterator", "dict_reverseitemiterator", "odict_iterator", "itertools.zip_longest", "itertools.pairwise"].contains n && vs[0]? == some (rawInt _)) = true then _ else _) Q E s
           rw [if_neg (by intro h; rw [hn, Bool.false_and] at h; cases h)]
           exact wpAny_pure hQ))

def Itl (K : PySem.W.Frag) (a : Addr) : It :=
  ⟨fun i H => ∃ xs x, SqL K H a xs ∧ xs[i]? = some x, fun i H x H' => H' = H ∧ ∀ xs, SqL K H a xs → xs[i]? = some x, fun i H => ∃ xs, SqL K H a xs ∧ xs.length ≤ i⟩
def Itt (K : PySem.W.Frag) (a : Addr) : It :=
  ⟨fun i H => ∃ xs x, SqT K H a xs ∧ xs[i]? = some x, fun i H x H' => H' = H ∧ ∀ xs, SqT K H a xs → xs[i]? = some x, fun i H => ∃ xs, SqT K H a xs ∧ xs.length ≤ i⟩
def Itr (lo : Int) (n : Nat) : It := ⟨fun i _ => i < n, fun i H x H' => H' = H ∧ x = .int (lo + i), fun i _ => n ≤ i⟩
theorem turn_list {P : Program} {w : World} {K : PySem.W.Frag} {tg : Expr} (a it : Addr) : Turn P w K tg (Itl K a) [it] it (fun i h => h.IsListIter it a i) where
  mem := by simp
  obj := fun i h st b hb => by
    have e : b = it := by simpa using hb
    subst e
    obtain ⟨o, e, c, d⟩ := st
    exact ⟨o, e, fun v z => by rw [d] at z; cases z⟩
  keep := fun i h h' st k => st.at fun o e => k it (by simp) o e
  item := by
    intro X hP hw hK hc i pins s σ H E I hf st hg
    subst hP hw hK
    obtain ⟨xs, x, hq, hx⟩ := hg
    obtain ⟨its, rv, p, hz⟩ := I.list hq
    obtain ⟨u, hu, ru⟩ := rv.get hx
    obtain ⟨f0, f1, f2, f3, f4, f5⟩ := hf it (by simp)
    refine wpAny_pyNext_list_item st p.isList (x := u) (by simpa using hu) fun h' st' sb => ?_
    have I1 : Inv X pins σ H { s with heap := h' } := I.turned (t' := s.toks) (fun b o hb e => (sb.2 b hb).trans e) f0 f1 f3 f4 f5
    obtain ⟨o, e, c, d⟩ := id st'
    exact ⟨u, rfl, go_of (s := { s with heap := h' }) e c d (by decide) ⟨x, H, I1, ru, ⟨rfl, fun ys hy => by rw [I.list_inj hy hq]; exact hx⟩, st', fun b hb => (hf b hb).1⟩⟩
  done := by
    intro X hP hw hK hc i pins s σ H E I hf st hg
    subst hP hw hK
    obtain ⟨xs, hq, hx⟩ := hg
    obtain ⟨its, rv, p, hz⟩ := I.list hq
    obtain ⟨f0, f1, f2, f3, f4, f5⟩ := hf it (by simp)
    have hl := rv.length
    exact wpAny_pyNext_list_end (I.ok.hd hc) st p.isList (by simp; omega) fun h' eb => ⟨rfl, I.turned (t' := s.toks) (fun b o hb e => eb b o hb e) f0 f1 f3 f4 f5⟩
  self := fun _ _ _ _ _ st h => wpAny_pyIter_listiter st h
theorem turn_tuple {P : Program} {w : World} {K : PySem.W.Frag} {tg : Expr} (a it : Addr) : Turn P w K tg (Itt K a) [it] it (fun i h => h.IsTupleIter it a i) where
  mem := by simp
  obj := fun i h st b hb => by
    have e : b = it := by simpa using hb
    subst e
    obtain ⟨o, e, c, d⟩ := st
    exact ⟨o, e, fun v z => by rw [d] at z; cases z⟩
  keep := fun i h h' st k => st.at fun o e => k it (by simp) o e
  item := by
    intro X hP hw hK hc i pins s σ H E I hf st hg
    subst hP hw hK
    obtain ⟨xs, x, hq, hx⟩ := hg
    obtain ⟨its, rv, p, hz⟩ := I.tuple hq
    obtain ⟨u, hu, ru⟩ := rv.get hx
    obtain ⟨f0, f1, f2, f3, f4, f5⟩ := hf it (by simp)
    refine wpAny_pyNext_tuple_item st (show s.heap.IsTuple a its.toArray from p) (x := u) (by simpa using hu) fun h' st' sb => ?_
    have I1 : Inv X pins σ H { s with heap := h' } := I.turned (t' := s.toks) (fun b o hb e => (sb.2 b hb).trans e) f0 f1 f3 f4 f5
    obtain ⟨o, e, c, d⟩ := id st'
    exact ⟨u, rfl, go_of (s := { s with heap := h' }) e c d (by decide) ⟨x, H, I1, ru, ⟨rfl, fun ys hy => by rw [I.tuple_inj hy hq]; exact hx⟩, st', fun b hb => (hf b hb).1⟩⟩
  done := by
    intro X hP hw hK hc i pins s σ H E I hf st hg
    subst hP hw hK
    obtain ⟨xs, hq, hx⟩ := hg
    obtain ⟨its, rv, p, hz⟩ := I.tuple hq
    obtain ⟨f0, f1, f2, f3, f4, f5⟩ := hf it (by simp)
    have hl := rv.length
    exact wpAny_pyNext_tuple_end (I.ok.hd hc) st (show s.heap.IsTuple a its.toArray from p) (by simp; omega) fun h' eb => ⟨rfl, I.turned (t' := s.toks) (fun b o hb e => eb b o hb e) f0 f1 f3 f4 f5⟩
  self := fun _ _ _ _ _ st h => wpAny_pyIter_tupleiter st h
theorem turn_range {P : Program} {w : World} {K : PySem.W.Frag} {tg : Expr} (it : Addr) (lo : Int) (n : Nat) : Turn P w K tg (Itr lo n) [it] it (fun i h => IsRangeIter h it (lo + (i : Nat) * 1) ((n : Int) - (i : Nat)) 1) where
  mem := by simp
  obj := fun i h st b hb => by
    have e : b = it := by simpa using hb
    subst e
    exact ⟨_, st, fun v z => by
      have z' : Data.fields _ = Data.cell v := z
      cases z'⟩
  keep := fun i h h' st k => k it (by simp) _ st
  item := by
    intro X hP hw hK hc i pins s σ H E I hf st hg
    subst hP hw hK
    obtain ⟨f0, f1, f2, f3, f4, f5⟩ := hf it (by simp)
    have W := Walks.range (prog := X.prog) (w := X.w) (I.ok.hd hc) it lo 1 n
    refine W.item i s _ _ hg st fun v h' tk hv st' kk => ?_
    obtain ⟨t, rfl⟩ := hv
    have I1 : Inv X pins σ H { s with heap := h', toks := tk } := I.turned (fun b o hb e => kk b o (by simpa using hb) e) f0 f1 f3 f4 f5
    refine ⟨_, rfl, go_of (s := { s with heap := h', toks := tk }) (n := "range_iterator") st' rfl rfl (by decide) ⟨.int (lo + i), H, I1, ⟨t, ?_⟩, ⟨rfl, rfl⟩, st', fun b hb => (hf b hb).1⟩⟩
    rw [Int.mul_one]
  done := by
    intro X hP hw hK hc i pins s σ H E I hf st hg
    subst hP hw hK
    obtain ⟨f0, f1, f2, f3, f4, f5⟩ := hf it (by simp)
    exact wpAny_pyNext_range_end (I.ok.hd hc) st (by have : n ≤ i := hg; omega) fun h' eb => ⟨rfl, I.turned (t' := s.toks) (fun b o hb e => eb b o hb e) f0 f1 f3 f4 f5⟩
  self := fun _ _ _ _ _ st h => wpAny_pyIter_rangeiter st h
end L2

namespace L2
open PySem PySem.Spec PyProof.Rows
section
variable {X : Cx} {tg : Expr}
inductive IsLs (K : PySem.W.Frag) (x : V) (H : Hp) (R : It → Hp → Prop) : Prop where
  | mk (a : _) (h : x = .ref a) (g : ∃ xs, SqL K H a xs) (q : R (Itl K a) H)
inductive IsTs (K : PySem.W.Frag) (x : V) (H : Hp) (R : It → Hp → Prop) : Prop where
  | mk (a : _) (h : x = .ref a) (g : ∃ xs, SqT K H a xs) (q : R (Itt K a) H)
def iList (K : PySem.W.Frag) (tl : TE) : TI := fun σ H R => tl σ H fun x H1 => IsLs K x H1 R
def iTup (K : PySem.W.Frag) (tl : TE) : TI := fun σ H R => tl σ H fun x H1 => IsTs K x H1 R
theorem pi_list {l : Expr} {tl : TE} (hl : PE X l tl) : PI X tg l (iList X.K tl) := by
  intro pins s σ H R I h
  refine thn (hl pins s σ H _ I h) fun v s1 ⟨x, H1, I1, r1, q1⟩ => ?_
  obtain ⟨a, e, ⟨xs, hq⟩, q⟩ := q1
  subst e
  cases r1
  obtain ⟨its, rv, p, hz⟩ := I1.list hq
  refine wpAny_pyIter_list p.isList ?_
  refine ⟨s1.heap.objs.size, [s1.heap.objs.size], _, _, H1, rfl, I1.kept (t' := s1.toks) fun b o e => Heap.get?_push_of_some _ e, turn_list a _, ⟨_, Heap.get?_push_size _ rfl, rfl, rfl⟩, fun b hb => ?_, q⟩
  have e : b = s1.heap.objs.size := by simpa using hb
  subst e
  exact I1.fpOk (Nat.le_refl _) (I1.hok.fresh (Nat.le_refl _))
theorem pi_tup {l : Expr} {tl : TE} (hl : PE X l tl) : PI X tg l (iTup X.K tl) := by
  intro pins s σ H R I h
  refine thn (hl pins s σ H _ I h) fun v s1 ⟨x, H1, I1, r1, q1⟩ => ?_
  obtain ⟨a, e, ⟨xs, hq⟩, q⟩ := q1
  subst e
  cases r1
  obtain ⟨its, rv, p, hz⟩ := I1.tuple hq
  refine wpAny_pyIter_tuple (show s1.heap.IsTuple a its.toArray from p) ?_
  refine ⟨s1.heap.objs.size, [s1.heap.objs.size], _, _, H1, rfl, I1.kept (t' := s1.toks) fun b o e => Heap.get?_push_of_some _ e, turn_tuple a _, ⟨_, Heap.get?_push_size _ rfl, rfl, rfl⟩, fun b hb => ?_, q⟩
  have e : b = s1.heap.objs.size := by simpa using hb
  subst e
  exact I1.fpOk (Nat.le_refl _) (I1.hok.fresh (Nat.le_refl _))
theorem range_it {pins : List (Addr × Obj)} {σ : St} {H : Hp} {s : Shared} {R : It → Hp → Prop} {E : Value → Shared → Prop} {lo hi : Int} {t u v : Tok} {tk : Nat} (I : Inv X pins σ H s) (h1 : -(2 ^ 62) ≤ lo) (h2 : lo < 2 ^ 62) (h3 : -(2 ^ 62) ≤ hi) (h4 : hi < 2 ^ 62)
    (q : R (Itr lo (hi - lo).toNat) H) : wpAny (model X.prog X.w) X.A (pyIter (.ref s.heap.objs.size)) (PIE X pins σ tg R) E { s with heap := s.heap.push { cls := .type "range", data := .fields #[.int lo t, .int hi u, .int 1 v] }, toks := tk } := by
  refine wpAny_pyIter_range (IsRange.new ..) (small_one h1 h2 h3 h4) ?_
  have I1 : Inv X pins σ H { s with heap := s.heap.push { cls := .type "range", data := .fields #[.int lo t, .int hi u, .int 1 v] }, toks := tk } := I.kept fun b o e => Heap.get?_push_of_some _ e
  refine ⟨(s.heap.push { cls := .type "range", data := .fields #[.int lo t, .int hi u, .int 1 v] }).objs.size, [(s.heap.push { cls := .type "range", data := .fields #[.int lo t, .int hi u, .int 1 v] }).objs.size], _, _, H, rfl,
    I1.kept (t' := tk) fun b o e => Heap.get?_push_of_some _ e, turn_range _ lo (hi - lo).toNat, ?_, fun b hb => ?_, q⟩
  · have e1 : lo + ((0 : Nat) : Int) * 1 = lo := by simp
    have e2 : (((hi - lo).toNat : Nat) : Int) - ((0 : Nat) : Int) = Builtin.Range.rangeSize lo hi 1 := by rw [rangeSize_one]; split <;> omega
    show IsRangeIter _ _ (lo + ((0 : Nat) : Int) * 1) ((((hi - lo).toNat : Nat) : Int) - ((0 : Nat) : Int)) 1
    rw [e1, e2]
    exact Heap.get?_push_size _ rfl
  · have e : b = (s.heap.push { cls := .type "range", data := .fields #[.int lo t, .int hi u, .int 1 v] }).objs.size := by simpa using hb
    subst e
    exact I1.fpOk (Nat.le_refl _) (I1.hok.fresh (Nat.le_refl _))
def iRng1 (ta : TA) : TI := fun σ H R => ta σ H fun vs H1 => ∃ j : Int, vs = [.int j] ∧ -(2 ^ 62) ≤ j ∧ j < 2 ^ 62 ∧ R (Itr 0 j.toNat) H1
theorem pi_range1 {a : Expr} {ta : TA} {p pos : Pos} (hg : Gl X "range") (hm : X.mg "range" = none) (ha : PA X [a] ta) (hs : starEach [a] X.env = [(false, eval a X.env)] := by rfl) : PI X tg (.Call (.Name "range" p) [a] [] pos) (iRng1 ta) := by
  intro pins s σ H R I h
  refine Call_ (ld_blt I hg hm boot_range (PyProof.Rows.callWith_type1 (thn (ha pos pins s σ H _ I h) fun us s1 ⟨vs, H1, I1, r1, q1⟩ => ?_) hs rfl))
  obtain ⟨j, e, q1, q2, q⟩ := q1
  subst e
  cases r1 with
  | cons r rr =>
    cases rr
    obtain ⟨t, rfl⟩ := r
    exact call_range_1 (range_it I1 (by omega) (by omega) q1 q2 (by simpa using q))
def tFor (wi : TI) (g : TG) (tb : TS) : TS := fun D σ H => wi σ H fun J H1 => ∃ W : Nat → Nat → St → Hp → Prop, (∃ m, W 0 m σ H1) ∧ ∀ i m σ H, W i m σ H →
  (J.stop i H ∧ D.nx σ H) ∨ (J.go i H ∧ ∃ N : St → Hp → Prop, (∀ σ' H', N σ' H' → ∃ m', m' < m ∧ W (i + 1) m' σ' H') ∧ ∀ x H', J.yld i H x H' → g x σ H' fun σ2 H2 => tb { D with nx := N, ct := N, bk := D.nx } σ2 H2)
def pinsAt (fp : List Addr) (h : Heap) : List (Addr × Obj) := fp.filterMap fun b => (h.get? b).map fun o => (b, o)
theorem mem_pinsAt {fp : List Addr} {h : Heap} {b : Addr} {o : Obj} (hb : b ∈ fp) (e : h.get? b = some o) : (b, o) ∈ pinsAt fp h := List.mem_filterMap.mpr ⟨b, hb, by rw [e]; rfl⟩
theorem of_pinsAt {fp : List Addr} {h : Heap} {p : Addr × Obj} (hp : p ∈ pinsAt fp h) : p.1 ∈ fp ∧ h.get? p.1 = some p.2 := by
  obtain ⟨b, hb, e⟩ := List.mem_filterMap.mp hp
  cases q : h.get? b with
  | none => rw [q] at e; cases e
  | some o =>
    rw [q] at e
    have e' : (b, o) = p := Option.some.inj e
    subst e'
    exact ⟨hb, q⟩
theorem Inv.pinned {pins : List (Addr × Obj)} {σ : St} {H : Hp} {s : Shared} {fp : List Addr} (I : Inv X pins σ H s) (hf : ∀ b ∈ fp, FpOk X pins H b) (ho : ∀ b ∈ fp, ∃ o, s.heap.get? b = some o ∧ ∀ v, o.data ≠ .cell v) : Inv X (pins ++ pinsAt fp s.heap) σ H s :=
  I.pins_of fun p hp => (List.mem_append.mp hp).elim (fun z => I.pin p (List.mem_append_right _ z)) fun z => by
    obtain ⟨hb, e⟩ := of_pinsAt z
    obtain ⟨f0, f1, f2, _⟩ := hf p.1 hb
    obtain ⟨o, e', d⟩ := ho p.1 hb
    rw [e] at e'; cases e'
    exact ⟨e, f0, f1, f2, d⟩
theorem Inv.unpinned {pins pl : List (Addr × Obj)} {σ : St} {H : Hp} {s : Shared} (I : Inv X (pins ++ pl) σ H s) : Inv X pins σ H s := I.pins_of fun p hp => I.pin p (List.mem_append_right _ (List.mem_append_left _ hp))
theorem ps_for {iter : Expr} {body : List Stmt} {wi : TI} {g : TG} {tb : TS} {pos : Pos} (hp : PassesOwn (model X.prog X.w) X.A X.env X.xe) (hc : X.calm = true) (hi : PI X tg iter wi) (hg : PG X tg g) (hb : PSs X body tb)
    (hs : ∀ x, foldedSetIterable iter X.env x = pure x := by intro _; rfl) : PS X (.For tg iter body [] pos) (tFor wi g tb) := by
  intro pins s σ H D I h
  refine wpAny_For (thn (hi pins s σ H _ I h) fun v s1 h1 => thn h1 fun itv s2 h2 => ?_) hs
  obtain ⟨it, fp, tn, J, H2, e, I2, T, st2, f2, W, ⟨m0, w0⟩, turn⟩ := h2
  subst e
  -- what stays true of the iterator's objects through the loop
  have stat : ∀ {H' : Hp}, (∀ b ∈ fp, H' b = none) → ∀ b ∈ fp, FpOk X pins H' b := fun hn b hb => ⟨hn b hb, (f2 b hb).2⟩
  refine codeAny_forLoop_any (fun n s' => ∃ i σ' H', Inv X pins σ' H' s' ∧ tn i s'.heap ∧ (∀ b ∈ fp, H' b = none) ∧ W i n σ' H') ?_ m0 ⟨0, σ, H2, I2, st2, fun b hb => (f2 b hb).1, w0⟩
  rintro n s3 ⟨i, σ3, H3, I3, st3, fr3, w3⟩
  rcases turn i n σ3 H3 w3 with ⟨stop, qn⟩ | ⟨go, N, hN, step⟩
  · refine wpAny_passesOwn hp (thn (T.done X rfl rfl rfl hc i pins s3 σ3 H3 X.xe I3 (stat fr3) st3 stop) fun r s4 ⟨hr, I4⟩ => ?_)
    subst hr
    exact wpAny_execs_nil ⟨σ3, H3, I4, qn⟩
  · refine wpAny_passesOwn hp (thn (T.item X rfl rfl rfl hc i pins s3 σ3 H3 X.xe I3 (stat fr3) st3 go) fun r s4 ⟨u, hr, h4⟩ => ?_)
    subst hr
    refine wpAny_passesOwn hp (thn h4 fun _ s5 ⟨x, H5, I5, r5, y5, st5, fr5⟩ => ?_)
    have I5' := I5.pinned (stat fr5) (T.obj _ _ st5)
    refine wpAny_passesOwn hp (thn (hg _ s5 σ3 H5 x u _ I5' r5 (step x H5 y5)) fun _ s6 ⟨σ6, H6, I6, q6⟩ => ?_)
    refine wpAny_passesOwn hp (thn (hb _ s6 σ6 H6 _ I6 q6) fun f s7 q7 => ?_)
    have again : ∀ {σ7 : St} {H7 : Hp}, Inv X (pins ++ pinsAt fp s5.heap) σ7 H7 s7 → N σ7 H7 → ∃ m, m < n ∧ ∃ i σ' H', Inv X pins σ' H' s7 ∧ tn i s7.heap ∧ (∀ b ∈ fp, H' b = none) ∧ W i m σ' H' := fun {σ7 H7} I7 n7 => by
      obtain ⟨m', hm, w7⟩ := hN σ7 H7 n7
      refine ⟨m', hm, i + 1, σ7, H7, I7.unpinned, T.keep _ _ _ st5 fun b hb o e => (I7.pin (b, o) (List.mem_append_right _ (List.mem_append_right _ (mem_pinsAt hb e)))).1, fun b hb => ?_, w7⟩
      obtain ⟨o, e, d⟩ := T.obj _ _ st5 b hb
      exact (I7.pin (b, o) (List.mem_append_right _ (List.mem_append_right _ (mem_pinsAt hb e)))).2.1
    cases f with
    | next => obtain ⟨σ7, H7, I7, n7⟩ := q7; exact again I7 n7
    | cont => obtain ⟨σ7, H7, I7, n7⟩ := q7; exact again I7 n7
    | brk => obtain ⟨σ7, H7, I7, q7⟩ := q7; exact ⟨σ7, H7, I7.unpinned, q7⟩
    | ret v => obtain ⟨x7, σ7, H7, I7, r7, q7⟩ := q7; exact ⟨x7, σ7, H7, I7.unpinned, r7, q7⟩
end

theorem for_list {K : PySem.W.Frag} {a : Addr} {xs : List V} {g : TG} {tb : TS} {D : Ends} {σ : St} {H : Hp} (Pv : Nat → St → Hp → Prop) (h0 : Pv 0 σ H) (hl : ∀ i σ H, i ≤ xs.length → Pv i σ H → SqL K H a xs)
    (hs : ∀ i x σ H, xs[i]? = some x → Pv i σ H → g x σ H fun σ2 H2 => tb { D with nx := Pv (i + 1), ct := Pv (i + 1), bk := D.nx } σ2 H2) (hd : ∀ σ H, Pv xs.length σ H → D.nx σ H) :
    ∃ W : Nat → Nat → St → Hp → Prop, (∃ m, W 0 m σ H) ∧ ∀ i m σ H, W i m σ H →
      ((Itl K a).stop i H ∧ D.nx σ H) ∨ ((Itl K a).go i H ∧ ∃ N : St → Hp → Prop, (∀ σ' H', N σ' H' → ∃ m', m' < m ∧ W (i + 1) m' σ' H') ∧ ∀ x H', (Itl K a).yld i H x H' → g x σ H' fun σ2 H2 => tb { D with nx := N, ct := N, bk := D.nx } σ2 H2) := by
  refine ⟨fun i m σ H => m = xs.length - i ∧ i ≤ xs.length ∧ Pv i σ H, ⟨xs.length, by simp, Nat.zero_le _, h0⟩, ?_⟩
  rintro i m σ H ⟨rfl, hi, p⟩
  have q := hl i σ H hi p
  by_cases hlt : i < xs.length
  · refine .inr ⟨⟨xs, xs[i], q, by simp [hlt]⟩, Pv (i + 1), fun σ' H' p' => ⟨xs.length - (i + 1), by omega, rfl, hlt, p'⟩, fun x H' y => ?_⟩
    obtain ⟨e, y⟩ := y
    subst e
    exact hs i x σ _ (y xs q) p
  · have e : i = xs.length := by omega
    subst e
    exact .inl ⟨⟨xs, q, Nat.le_refl _⟩, hd σ H p⟩
theorem for_range {lo : Int} {n : Nat} {g : TG} {tb : TS} {D : Ends} {σ : St} {H : Hp} (Pv : Nat → St → Hp → Prop) (h0 : Pv 0 σ H)
    (hs : ∀ i σ H, i < n → Pv i σ H → g (.int (lo + i)) σ H fun σ2 H2 => tb { D with nx := Pv (i + 1), ct := Pv (i + 1), bk := D.nx } σ2 H2) (hd : ∀ σ H, Pv n σ H → D.nx σ H) :
    ∃ W : Nat → Nat → St → Hp → Prop, (∃ m, W 0 m σ H) ∧ ∀ i m σ H, W i m σ H →
      ((Itr lo n).stop i H ∧ D.nx σ H) ∨ ((Itr lo n).go i H ∧ ∃ N : St → Hp → Prop, (∀ σ' H', N σ' H' → ∃ m', m' < m ∧ W (i + 1) m' σ' H') ∧ ∀ x H', (Itr lo n).yld i H x H' → g x σ H' fun σ2 H2 => tb { D with nx := N, ct := N, bk := D.nx } σ2 H2) := by
  refine ⟨fun i m σ H => m = n - i ∧ i ≤ n ∧ Pv i σ H, ⟨n, by simp, Nat.zero_le _, h0⟩, ?_⟩
  rintro i m σ H ⟨rfl, hi, p⟩
  by_cases hlt : i < n
  · refine .inr ⟨hlt, Pv (i + 1), fun σ' H' p' => ⟨n - (i + 1), by omega, rfl, hlt, p'⟩, fun x H' y => ?_⟩
    obtain ⟨e, y⟩ := y
    subst e y
    exact hs i σ _ hlt p
  · have e : i = n := by omega
    subst e
    exact .inl ⟨Nat.le_refl _, hd σ H p⟩
end L2

namespace L2
open PySem PySem.Spec PyProof.Rows

abbrev R2 := V → V → Hp → VK → Prop
def OpR (X : Cx) (f : Value → Value → Sem Value) (r : R2) : Prop :=
  ∀ (pins : List (Addr × Obj)) (s : Shared) (σ : St) (H : Hp) (x y : V) (v u : Value) (Q : VK), Inv X pins σ H s → RelV x v → RelV y u → r x y H Q →
    wpAny (model X.prog X.w) X.A (f v u) (EP X pins σ Q) X.xe s
def UnR (X : Cx) (f : Value → Sem Value) (r : V → Hp → VK → Prop) : Prop :=
  ∀ (pins : List (Addr × Obj)) (s : Shared) (σ : St) (H : Hp) (x : V) (v : Value) (Q : VK), Inv X pins σ H s → RelV x v → r x H Q →
    wpAny (model X.prog X.w) X.A (f v) (EP X pins σ Q) X.xe s
def CallR (X : Cx) (f : Value) (r : List V → Hp → VK → Prop) : Prop :=
  ∀ (pins : List (Addr × Obj)) (s : Shared) (σ : St) (H : Hp) (xs : List V) (us : List Value) (Q : VK), Inv X pins σ H s → Vals xs us → r xs H Q →
    wpAny (model X.prog X.w) X.A (call f us) (EP X pins σ Q) X.xe s
def tOp (r : R2) (ta tb : TE) : TE := fun σ H Q => ta σ H fun x H1 => tb σ H1 fun y H2 => r x y H2 Q
def tUn (r : V → Hp → VK → Prop) (ta : TE) : TE := fun σ H Q => ta σ H fun x H1 => r x H1 Q
inductive rI (C : Int → Int → Prop) (g : Int → Int → V) (x : V) (y : V) (H : Hp) (Q : VK) : Prop where
  | mk (i : _) (j : _) (h_0 : x = .int i) (h_1 : y = .int j) (h_2 : C i j) (h_3 : Q (g i j) H)
inductive rI0 (g : Int → Int → V) (x : V) (y : V) (H : Hp) (Q : VK) : Prop where
  | mk (i : _) (j : _) (h_0 : x = .int i) (h_1 : y = .int j) (h_2 : Q (g i j) H)
inductive rU (g : Int → V) (x : V) (H : Hp) (Q : VK) : Prop where
  | mk (i : _) (h_0 : x = .int i) (h_1 : Q (g i) H)

section
variable {X : Cx} {a b c : Expr} {ta tb tc : TE} {pos : Pos}

theorem binT (ha : PE X a ta) (hb : PE X b tb) {pins : List (Addr × Obj)} {s : Shared} {σ : St} {H : Hp} {R : V → V → Hp → Prop} (I : Inv X pins σ H s)
    (h : ta σ H fun x H1 => tb σ H1 fun y H2 => R x y H2) {Q : Value → Shared → Prop} {f : Value → Value → Sem Value}
    (hf : ∀ v u s2 x y H2, Inv X pins σ H2 s2 → RelV x v → RelV y u → R x y H2 → wpAny (model X.prog X.w) X.A (f v u) Q X.xe s2) :
    wpAny (model X.prog X.w) X.A (eval a X.env) (fun v s₁ => wpAny (model X.prog X.w) X.A (eval b X.env) (fun u s₂ => wpAny (model X.prog X.w) X.A (f v u) Q X.xe s₂) X.xe s₁) X.xe s := by
  refine thn (ha pins s σ H _ I h) fun v s1 ⟨x, H1, I1, r1, q1⟩ => ?_
  refine thn (hb pins s1 σ H1 _ I1 q1) fun u s2 ⟨y, H2, I2, r2, q2⟩ => ?_
  exact hf v u s2 x y H2 I2 r1 r2 q2

theorem pe_op {op : Operator} {r : R2} (ho : OpR X (binaryOp op) r) (ha : PE X a ta) (hb : PE X b tb) : PE X (.BinOp a op b pos) (tOp r ta tb) := by
  intro pins s σ H Q I h
  exact wpAny_BinOp (binT ha hb I h fun v u s2 x y H2 I2 rx ry q => ho pins s2 σ H2 x y v u Q I2 rx ry q)
theorem pe_un {op : UnaryOp} {r : V → Hp → VK → Prop} (ho : UnR X (unaryOp op) r) (ha : PE X a ta) : PE X (.UnaryOp op a pos) (tUn r ta) := by
  intro pins s σ H Q I h
  exact UnaryOp_ (thn (ha pins s σ H _ I h) fun v s1 ⟨x, H1, I1, r1, q1⟩ => ho pins s1 σ H1 x v Q I1 r1 q1)
theorem opI {f : Value → Value → Sem Value} {C : Int → Int → Prop} {g : Int → Int → Int}
    (rule : ∀ (i j : Int) (t u : Tok) (s : Shared) (Q : Value → Shared → Prop) (E : Value → Shared → Prop), C i j → Q (.int (g i j) s.toks) { s with toks := s.toks + 1 } → wpAny (model X.prog X.w) X.A (f (.int i t) (.int j u)) Q E s) :
    OpR X f (rI C fun i j => .int (g i j)) := by
  intro pins s σ H x y v u Q I rx ry h
  obtain ⟨i, j, rfl, rfl, hc, q⟩ := h
  obtain ⟨t, rfl⟩ := rx
  obtain ⟨t', rfl⟩ := ry
  exact rule i j t t' s _ _ hc ⟨.int (g i j), H, I.tok _, ⟨_, rfl⟩, q⟩
theorem opI0 {f : Value → Value → Sem Value} {g : Int → Int → Int}
    (rule : ∀ (i j : Int) (t u : Tok) (s : Shared) (Q : Value → Shared → Prop) (E : Value → Shared → Prop), Q (.int (g i j) s.toks) { s with toks := s.toks + 1 } → wpAny (model X.prog X.w) X.A (f (.int i t) (.int j u)) Q E s) :
    OpR X f (rI0 fun i j => .int (g i j)) := by
  intro pins s σ H x y v u Q I rx ry h
  obtain ⟨i, j, rfl, rfl, q⟩ := h
  obtain ⟨t, rfl⟩ := rx
  obtain ⟨t', rfl⟩ := ry
  exact rule i j t t' s _ _ ⟨.int (g i j), H, I.tok _, ⟨_, rfl⟩, q⟩
theorem opB0 {f : Value → Value → Sem Value} {g : Int → Int → Bool}
    (rule : ∀ (i j : Int) (t u : Tok) (s : Shared) (Q : Value → Shared → Prop) (E : Value → Shared → Prop), Q (.bool (g i j)) s → wpAny (model X.prog X.w) X.A (f (.int i t) (.int j u)) Q E s) :
    OpR X f (rI0 fun i j => .bl (g i j)) := by
  intro pins s σ H x y v u Q I rx ry h
  obtain ⟨i, j, rfl, rfl, q⟩ := h
  obtain ⟨t, rfl⟩ := rx
  obtain ⟨t', rfl⟩ := ry
  exact rule i j t t' s _ _ ⟨.bl (g i j), H, I, rfl, q⟩

def CDiv (i j : Int) : Prop := 0 < j ∧ j < 1073741824
def CMul (i j : Int) : Prop := (-(2 ^ 64) < i ∧ i < 2 ^ 64) ∨ (-(2 ^ 64) < j ∧ j < 2 ^ 64)
theorem CMul.ok {i j : Int} (h : CMul i j) : IntMulOk i j := by
  rcases h with ⟨h1, h2⟩ | ⟨h1, h2⟩
  · exact .of_left (intBits_le_64 h1 h2)
  · exact .of_right (intBits_le_64 h1 h2)
theorem op_add : OpR X (binaryOp .Add) (rI0 fun i j => .int (i + j)) := opI0 fun _ _ _ _ _ _ _ q => add_int q
theorem op_sub : OpR X (binaryOp .Sub) (rI0 fun i j => .int (i - j)) := opI0 fun _ _ _ _ _ _ _ q => sub_int q
theorem op_mul : OpR X (binaryOp .Mult) (rI CMul fun i j => .int (i * j)) := opI fun _ _ _ _ _ _ _ hc q => mul_int q hc.ok
theorem op_fdiv : OpR X (binaryOp .FloorDiv) (rI CDiv fun i j => .int (i / j)) := opI fun i j _ _ _ _ _ hc q => by
  have h1 : (0 : Int) < j := hc.1
  have h2 : j < 1073741824 := hc.2
  exact floordiv_int (by omega) (by rw [Int.fdiv_eq_ediv_of_nonneg i (by omega)]; exact q) (.inl (PyProof.noPylong_small (by omega)))
theorem op_mod : OpR X (binaryOp .Mod) (rI (fun _ j => 0 < j) fun i j => .int (i % j)) := opI fun i j _ _ _ _ _ hc q => by
  have h1 : (0 : Int) < j := hc
  exact mod_int' (by omega) (by rw [Int.fmod_eq_emod_of_nonneg i (by omega)]; exact q)
theorem unI {f : Value → Sem Value} {g : Int → Int}
    (rule : ∀ (i : Int) (t : Tok) (s : Shared) (Q : Value → Shared → Prop) (E : Value → Shared → Prop), Q (.int (g i) s.toks) { s with toks := s.toks + 1 } → wpAny (model X.prog X.w) X.A (f (.int i t)) Q E s) :
    UnR X f (rU fun i => .int (g i)) := by
  intro pins s σ H x v Q I rx h
  obtain ⟨i, rfl, q⟩ := h
  obtain ⟨t, rfl⟩ := rx
  exact rule i t s _ _ ⟨.int (g i), H, I.tok _, ⟨_, rfl⟩, q⟩
theorem un_neg : UnR X (unaryOp .USub) (rU fun i => .int (-i)) := unI fun _ _ _ _ _ q => neg_int q
end

def scal : V → V → Bool
  | .non, .non => true | .non, .int _ => true | .int _, .non => true | .non, .bl _ => true | .bl _, .non => true | .non, .str _ => true | .str _, .non => true
  | .int _, .int _ => true | .bl _, .bl _ => true | .str _, .str _ => true | .byt _, .byt _ => true
  | .int _, .str _ => true | .str _, .int _ => true | .bl _, .str _ => true | .str _, .bl _ => true
  | _, _ => false
inductive rEq (x : V) (y : V) (H : Hp) (Q : VK) : Prop where
  | mk  (h_0 : scal x y = true) (h_1 : Q (.bl (decide (x = y))) H)
inductive rNe (x : V) (y : V) (H : Hp) (Q : VK) : Prop where
  | mk  (h_0 : scal x y = true) (h_1 : Q (.bl (!decide (x = y))) H)

theorem dec_int {i j : Int} : decide (V.int i = V.int j) = (i == j) := by
  rw [Bool.eq_iff_iff]
  simp
theorem dec_bl {i j : Bool} : decide (V.bl i = V.bl j) = (i == j) := by
  rw [Bool.eq_iff_iff]
  simp
theorem dec_str {i j : Str} : decide (V.str i = V.str j) = (i == j) := by
  rw [Bool.eq_iff_iff]
  simp
theorem dec_byt {i j : Array UInt8} : decide (V.byt i = V.byt j) = (i.toList == j.toList) := by
  rw [Bool.eq_iff_iff]
  cases i
  cases j
  simp

section
variable {X : Cx} {a b c : Expr} {ta tb tc : TE} {pos : Pos}
theorem fin_bl {pins : List (Addr × Obj)} {σ : St} {H : Hp} {s : Shared} {Q : VK} {k k' : Bool} (I : Inv X pins σ H s) (q : Q (.bl k) H) (e : k = k') : EP X pins σ Q (.bool k') s := by
  subst e
  exact ⟨.bl k, H, I, rfl, q⟩
theorem op_eq : OpR X (compareOp .Eq) rEq := by
  intro pins s σ H x y v u Q I rx ry h
  obtain ⟨hs, q⟩ := h
  cases x with
  | non =>
    cases rx
    cases y with
    | non => cases ry; exact PySem.EqNone.eq_none_none (fin_bl I q (by simp))
    | bl j => cases ry; exact PySem.EqNone.eq_none_bool (fin_bl I q (by simp))
    | int j => obtain ⟨t', rfl⟩ := ry; exact PySem.EqNone.eq_none_int (fin_bl I q (by simp))
    | str j => obtain ⟨t', rfl⟩ := ry; exact PySem.EqNone.eq_none_str (fin_bl I q (by simp))
    | _ => exact absurd (show false = true from hs) Bool.false_ne_true
  | bl i =>
    cases rx
    cases y with
    | non => cases ry; exact PySem.EqNone.eq_bool_none (fin_bl I q (by simp))
    | bl j => cases ry; exact eq_bool (fin_bl I q dec_bl)
    | str j => obtain ⟨t', rfl⟩ := ry; exact PySem.EqMixed.eq_bool_str (fin_bl I q (by simp))
    | _ => exact absurd (show false = true from hs) Bool.false_ne_true
  | int i =>
    obtain ⟨t, rfl⟩ := rx
    cases y with
    | non => cases ry; exact PySem.EqNone.eq_int_none (fin_bl I q (by simp))
    | int j => obtain ⟨t', rfl⟩ := ry; exact eq_int (fin_bl I q dec_int)
    | str j => obtain ⟨t', rfl⟩ := ry; exact PySem.EqMixed.eq_int_str (fin_bl I q (by simp))
    | _ => exact absurd (show false = true from hs) Bool.false_ne_true
  | str i =>
    obtain ⟨t, rfl⟩ := rx
    cases y with
    | non => cases ry; exact PySem.EqNone.eq_str_none (fin_bl I q (by simp))
    | bl j => cases ry; exact PySem.EqMixed.eq_str_bool (fin_bl I q (by simp))
    | int j => obtain ⟨t', rfl⟩ := ry; exact PySem.EqMixed.eq_str_int (fin_bl I q (by simp))
    | str j => obtain ⟨t', rfl⟩ := ry; exact eq_str (fin_bl I q dec_str)
    | _ => exact absurd (show false = true from hs) Bool.false_ne_true
  | byt i =>
    obtain ⟨t, rfl⟩ := rx
    cases y with
    | byt j => obtain ⟨t', rfl⟩ := ry; exact PySem.W.eq_bytes (fin_bl I q dec_byt)
    | _ => exact absurd (show false = true from hs) Bool.false_ne_true
  | _ => cases y <;> exact absurd (show false = true from hs) Bool.false_ne_true
theorem op_ne : OpR X (compareOp .NotEq) rNe := by
  intro pins s σ H x y v u Q I rx ry h
  obtain ⟨hs, q⟩ := h
  cases x with
  | non =>
    cases rx
    cases y with
    | non => cases ry; exact PySem.EqNone.ne_none_none (fin_bl I q (by simp))
    | bl j => cases ry; exact PySem.EqNone.ne_none_bool (fin_bl I q (by simp))
    | int j => obtain ⟨t', rfl⟩ := ry; exact PySem.EqNone.ne_none_int (fin_bl I q (by simp))
    | str j => obtain ⟨t', rfl⟩ := ry; exact PySem.EqNone.ne_none_str (fin_bl I q (by simp))
    | _ => exact absurd (show false = true from hs) Bool.false_ne_true
  | bl i =>
    cases rx
    cases y with
    | non => cases ry; exact PySem.EqNone.ne_bool_none (fin_bl I q (by simp))
    | bl j => cases ry; exact ne_bool (fin_bl I q (congrArg not dec_bl))
    | str j => obtain ⟨t', rfl⟩ := ry; exact PySem.EqMixed.ne_bool_str (fin_bl I q (by simp))
    | _ => exact absurd (show false = true from hs) Bool.false_ne_true
  | int i =>
    obtain ⟨t, rfl⟩ := rx
    cases y with
    | non => cases ry; exact PySem.EqNone.ne_int_none (fin_bl I q (by simp))
    | int j => obtain ⟨t', rfl⟩ := ry; exact ne_int (fin_bl I q (congrArg not dec_int))
    | str j => obtain ⟨t', rfl⟩ := ry; exact PySem.EqMixed.ne_int_str (fin_bl I q (by simp))
    | _ => exact absurd (show false = true from hs) Bool.false_ne_true
  | str i =>
    obtain ⟨t, rfl⟩ := rx
    cases y with
    | non => cases ry; exact PySem.EqNone.ne_str_none (fin_bl I q (by simp))
    | bl j => cases ry; exact PySem.EqMixed.ne_str_bool (fin_bl I q (by simp))
    | int j => obtain ⟨t', rfl⟩ := ry; exact PySem.EqMixed.ne_str_int (fin_bl I q (by simp))
    | str j => obtain ⟨t', rfl⟩ := ry; exact ne_str (fin_bl I q (congrArg not dec_str))
    | _ => exact absurd (show false = true from hs) Bool.false_ne_true
  | byt i =>
    obtain ⟨t, rfl⟩ := rx
    cases y with
    | byt j => obtain ⟨t', rfl⟩ := ry; exact PySem.W.ne_bytes (fin_bl I q (congrArg not dec_byt))
    | _ => exact absurd (show false = true from hs) Bool.false_ne_true
  | _ => cases y <;> exact absurd (show false = true from hs) Bool.false_ne_true

theorem op_lt : OpR X (compareOp .Lt) (rI0 fun i j => .bl (decide (i < j))) := opB0 fun _ _ _ _ _ _ _ q => lt_int q
theorem op_le : OpR X (compareOp .LtE) (rI0 fun i j => .bl (decide (i ≤ j))) := opB0 fun _ _ _ _ _ _ _ q => le_int q
theorem op_gt : OpR X (compareOp .Gt) (rI0 fun i j => .bl (decide (j < i))) := opB0 fun _ _ _ _ _ _ _ q => gt_int q
theorem op_isN : OpR X (compareOp .Is) (fun x y H Q => y = .non ∧ Q (.bl (decide (x = .non))) H) := by
  intro pins s σ H x y v u Q I rx ry h
  obtain ⟨rfl, q⟩ := h
  cases ry
  refine is_none_gen (fin_bl I q ?_)
  cases x <;> first
    | (cases rx; rfl)
    | (obtain ⟨t, rfl⟩ := rx; rfl)
theorem nomark (b : Expr) {op : CmpOp} (h : op ≠ .In := by decide) (h2 : op ≠ .NotIn := by decide) : behindInMarks op b = false := by
  have e1 : (op == CmpOp.In) = false := by cases op <;> first | rfl | exact absurd rfl h
  have e2 : (op == CmpOp.NotIn) = false := by cases op <;> first | rfl | exact absurd rfl h2
  cases b <;> simp [behindInMarks, e1, e2]
theorem pe_cmpR {op : CmpOp} {r : R2} (ho : OpR X (compareOp op) r) (ha : PE X a ta) (hb : PE X b tb) (hm : behindInMarks op b = false) : PE X (.Compare a [op] [b] pos) (tOp r ta tb) := by
  intro pins s σ H Q I h
  exact wpAny_Compare1 (binT ha hb I h fun v u s2 x y H2 I2 rx ry q => ho pins s2 σ H2 x y v u Q I2 rx ry q) hm
def tTest (t : TE) : TT := fun σ H Q => t σ H fun x H1 => IsBl x H1 Q
theorem pt_cmpR {op : CmpOp} {r : R2} (ho : OpR X (compareOp op) r) (ha : PE X a ta) (hb : PE X b tb) (hm : behindInMarks op b = false) : PT X (.Compare a [op] [b] pos) (tTest (tOp r ta tb)) := by
  intro pins s σ H Q I h
  refine wpAny_isTrue_Compare1 (thn (ha pins s σ H _ I h) fun v s1 ⟨x, H1, I1, r1, q1⟩ => thn (hb pins s1 σ H1 _ I1 q1) fun u s2 ⟨y, H2, I2, r2, q2⟩ =>
    thn (ho pins s2 σ H2 x y v u _ I2 r1 r2 q2) fun c s3 ⟨z, H3, I3, r3, k, e, q3⟩ => ?_) hm
  subst e
  cases r3
  exact wpAny_truthy_bool ⟨H3, I3, q3⟩
def tChain (r r' : R2) (ta tb tc : TE) : TE := fun σ H Q => ta σ H fun x H1 => tb σ H1 fun y H2 => r x y H2 fun z H3 => ∃ k, z = .bl k ∧
  (if k = true then tc σ H3 fun w' H4 => r' y w' H4 Q else Q (.bl false) H3)
theorem pe_chain {op op' : CmpOp} {r r' : R2} (ho : OpR X (compareOp op) r) (ho' : OpR X (compareOp op') r') (ha : PE X a ta) (hb : PE X b tb) (hc : PE X c tc)
    (hm : lastMarks [op, op'] [b, c] = false := by with_unfolding_all rfl) : PE X (.Compare a [op, op'] [b, c] pos) (tChain r r' ta tb tc) := by
  intro pins s σ H Q I h
  refine Compare_chain (thn (ha pins s σ H _ I h) fun v s1 ⟨x, H1, I1, r1, q1⟩ => chain_link (thn (hb pins s1 σ H1 _ I1 q1) fun u s2 ⟨y, H2, I2, r2, q2⟩ =>
    thn (ho pins s2 σ H2 x y v u _ I2 r1 r2 q2) fun d s3 ⟨z, H3, I3, r3, k, e, q3⟩ => ?_)) hm
  subst e
  cases r3
  refine wpAny_truthy_bool ?_
  cases k with
  | false => exact ite_ff ⟨.bl false, H3, I3, rfl, q3⟩
  | true => exact ite_tt (chain_last (thn (hc pins s3 σ H3 _ I3 q3) fun w' s4 ⟨z', H4, I4, r4, q4⟩ => ho' pins s4 σ H4 y z' u w' Q I4 r2 r4 q4))
theorem pt_chain {op op' : CmpOp} {r r' : R2} (ho : OpR X (compareOp op) r) (ho' : OpR X (compareOp op') r') (ha : PE X a ta) (hb : PE X b tb) (hc : PE X c tc)
    (hm : lastMarks [op, op'] [b, c] = false := by with_unfolding_all rfl) : PT X (.Compare a [op, op'] [b, c] pos) (tTest (tChain r r' ta tb tc)) := by
  intro pins s σ H Q I h
  refine isTrue_chain (thn (ha pins s σ H _ I h) fun v s1 ⟨x, H1, I1, r1, q1⟩ => test_link (thn (hb pins s1 σ H1 _ I1 q1) fun u s2 ⟨y, H2, I2, r2, q2⟩ =>
    thn (ho pins s2 σ H2 x y v u _ I2 r1 r2 q2) fun d s3 ⟨z, H3, I3, r3, k, e, q3⟩ => ?_)) hm
  subst e
  cases r3
  refine wpAny_truthy_bool ?_
  cases k with
  | false =>
    obtain ⟨k', e', q'⟩ := q3
    cases e'
    exact ite_ff ⟨H3, I3, q'⟩
  | true =>
    refine ite_tt (test_last (thn (hc pins s3 σ H3 _ I3 q3) fun w' s4 ⟨z', H4, I4, r4, q4⟩ => thn (ho' pins s4 σ H4 y z' u w' _ I4 r2 r4 q4) fun d' s5 ⟨z2, H5, I5, r5, k2, e2, q5⟩ => ?_))
    subst e2
    cases r5
    exact wpAny_truthy_bool ⟨H5, I5, q5⟩

theorem line63 : (sizeLine : Nat) < 2 ^ 63 := by rw [sizeLine_eq]; decide
theorem op_add_str : OpR X (binaryOp .Add) (fun x y H Q => ∃ i j, x = .str i ∧ y = .str j ∧ i.length + j.length ≤ sizeLine ∧ Q (.str (i ++ j)) H) := by
  intro pins s σ H x y v u Q I rx ry h
  obtain ⟨i, j, rfl, rfl, hz, q⟩ := h
  obtain ⟨t, rfl⟩ := rx
  obtain ⟨t', rfl⟩ := ry
  exact add_str (fun t' tk => ⟨.str (i ++ j), H, I.tok _, ⟨_, rfl⟩, q⟩) hz
theorem vals1 {x : V} {us : List Value} (r : Vals [x] us) : ∃ u, us = [u] ∧ RelV x u := by
  cases r with
  | cons r1 r2 => cases r2; exact ⟨_, rfl, r1⟩
theorem vals2 {x y : V} {us : List Value} (r : Vals [x, y] us) : ∃ u w', us = [u, w'] ∧ RelV x u ∧ RelV y w' := by
  cases r with
  | cons r1 r2 =>
    cases r2 with
    | cons r3 r4 => cases r4; exact ⟨_, _, rfl, r1, r3⟩
theorem call_abs : CallR X (.builtin "abs") (fun xs H Q => ∃ i, xs = [.int i] ∧ Q (.int (if i < 0 then -i else i)) H) := by
  intro pins s σ H xs us Q I r h
  obtain ⟨i, rfl, q⟩ := h
  obtain ⟨u, rfl, t, rfl⟩ := vals1 r
  exact call_abs_int fun u tk => ⟨.int (if i < 0 then -i else i), H, I.tok _, ⟨_, rfl⟩, q⟩
theorem call_str_int : CallR X (.type "str") (fun xs H Q => ∃ i, xs = [.int i] ∧ i.natAbs.log2 < 1920 ∧ Q (.str (toString i)) H) := by
  intro pins s σ H xs us Q I r h
  obtain ⟨i, rfl, hz, q⟩ := h
  obtain ⟨u, rfl, t, rfl⟩ := vals1 r
  exact PySem.P.str_of_int hz ⟨.str _, H, I.tok _, ⟨_, rfl⟩, q⟩
end
end L2

namespace L2
open PySem PySem.Spec PyProof.Rows

structure ObjM (h : Heap) (x dx C : Addr) (mA : Str → Option Value) : Prop where
  obj : h.get? x = some (PySem.W.instObj C dx)
  ns : h.Ns1 dx mA
  ne : dx ≠ x

theorem lookIn_ns {h : Heap} {dx : Addr} {mA : Str → Option Value} (n : h.Ns1 dx mA) : ∃ od, h.get? dx = some od ∧ ∀ name, PySem.W.lookIn name od = some (mA name) := by
  obtain ⟨o, es, ep, ho, hd, hk, _, hm⟩ := n
  refine ⟨o, ho, fun name => ?_⟩
  have e := hm name
  unfold nsFind findBy at e
  rw [← Array.find?_toList] at e
  unfold PySem.W.lookIn
  rw [hd]
  dsimp only
  split
  · rename_i y q
    rw [q] at e
    exact congrArg some e
  · rename_i q
    rw [q] at e
    have a : es.toList.any (·.refKey) = false := by
      rw [List.any_eq_false]
      intro y hy
      obtain ⟨z, t, hkey⟩ := hk y (Array.mem_toList_iff.mp hy)
      simp [DictEntry.refKey, hkey]
    have a' : ¬ es.toList.any (·.refKey) = true := by rw [a]; exact Bool.false_ne_true
    rw [if_neg a']
    exact congrArg some e

theorem ObjM.look {h : Heap} {x dx C : Addr} {mA : Str → Option Value} (I : ObjM h x dx C mA) : ∃ od, PySem.W.InstAt h x (PySem.W.instObj C dx) C (some od) ∧ ∀ name, PySem.W.lookIn name od = some (mA name) :=
  let ⟨od, ho, hl⟩ := lookIn_ns I.ns
  ⟨od, ⟨I.obj, rfl, rfl, ho⟩, hl⟩

section
variable {prog : Program} {w : World} {A : Around} {E : Value → Shared → Prop} {s : Shared} {K : PySem.W.Frag} {x dx C f : Addr} {mA : Str → Option Value} {name : Str} {v : Value}

end

section
variable {P : Program} {w : World} {H H' : Hp} {h h' : Heap} {a C dx : Addr} {fs fs' : List (Str × V)}
theorem ins_get (hok : HOk P w H h) (e : H a = some (.ins C dx fs)) : ∃ mA, ObjM h a dx C mA ∧ (∀ f, RelO (fs.lookup f) (mA f)) ∧ PySem.Within mA (fs.map (·.1)) ∧ fs.length ≤ 1000 ∧ H dx = some (.own a) := by
  obtain ⟨d, z, ne, ob, mA, n, r, q⟩ := (show ObjOk P w H h a (.ins C dx fs) from hok a _ e)
  exact ⟨mA, ⟨ob, n, ne⟩, r, q, z, d⟩
end

structure Cls (K : PySem.W.Frag) (C : Addr) : Prop where
  pg : PySem.W.plainGet K C Str.empty = true
  hd : PySem.W.hasDictIn K C = true
  po : PySem.W.plainOver K C = true
  sa : PySem.W.findIn K (.ref C) "__setattr__" = some (some (.builtin "object.__setattr__"))
theorem Cls.get {K : PySem.W.Frag} {C : Addr} (c : Cls K C) (f : Str) : PySem.W.plainGet K C f = true := c.pg
section
variable {X : Cx} {pins : List (Addr × Obj)} {σ : St} {H : Hp} {s : Shared} {a C dx : Addr} {fs : List (Str × V)} {f : Str} {v : V} {A : Around} {E : Value → Shared → Prop}

end

section
variable {X : Cx} {o e value : Expr} {f : Str} {pos pos' tpos : Pos} {ta tv : TE}
end

section
variable {X : Cx} {pins : List (Addr × Obj)} {σ : St} {H : Hp} {s : Shared} {A : Around} {E : Value → Shared → Prop} {Q : Value → Shared → Prop} {c : Value} {b : Bool}
inductive TyOf (K : PySem.W.Frag) (H : Hp) : V → Value → Prop where
  | non : TyOf K H .non (.type "NoneType")
  | bl (x : Bool) : TyOf K H (.bl x) (.type "bool")
  | int (i : Int) : TyOf K H (.int i) (.type "int")
  | str (x : Str) : TyOf K H (.str x) (.type "str")
  | flt (x : UInt64) : TyOf K H (.flt x) (.type "float")
  | lst {a : Addr} {xs : List V} (e : H a = some (.lst xs)) : TyOf K H (.ref a) (.type "list")
  | frz {a : Addr} {o : Obj} {xs : List V} (e : H a = some (.frz o (.lst xs))) : TyOf K H (.ref a) (.type "list")
  | tup {a : Addr} {xs : List V} (e : H a = some (.tup xs)) : TyOf K H (.ref a) (.type "tuple")
  | dK {a : Addr} {kvs : List (Key × V)} (e : H a = some (.dK kvs)) : TyOf K H (.ref a) (.type "dict")
  | dT {a : Addr} {kvs : List (List Key × V)} (e : H a = some (.dT kvs)) : TyOf K H (.ref a) (.type "dict")
  | ins {a C dx : Addr} {fs : List (Str × V)} (e : H a = some (.ins C dx fs)) (cl : Cls K C) (ha : PySem.W.findIn K (.ref C) "__class__" = some (some (.builtin "object.__class__")))
      (hn : PySem.W.specialIn K (.builtin "object.__class__") "__get__" = some (some (.builtin "getset_descriptor.__get__"))) (htk : PySem.W.takesIn K (.builtin "object.__class__") = some true)
      (hm : PySem.W.mroIn K C (.type "object") = some true) : TyOf K H (.ref a) (.ref C)
theorem isinst_ok {x : V} {u t : Value} (I : Inv X pins σ H s) (rx : RelV x u) (ty : TyOf X.K H x t) (e : PySem.W.kitOne X.K t c = some b) (h : ∀ tk, Q (.bool b) { s with toks := tk }) :
    wpAny (model X.prog X.w) A (call (.builtin "isinstance") [u, c]) Q E s := by
  cases ty with
  | non => cases (show u = Value.none from rx); exact PySem.W.kia_one PySem.W.kitx_none I.kIn True.intro e (fun z => nomatch z) h
  | bl y => cases (show u = Value.bool y from rx); exact PySem.W.kia_one PySem.W.kitx_bool I.kIn True.intro e (fun z => nomatch z) h
  | int i => obtain ⟨t, q⟩ := (show ∃ t, u = Value.int i t from rx); cases q; exact PySem.W.kia_one PySem.W.kitx_int I.kIn True.intro e (fun z => nomatch z) h
  | str y => obtain ⟨t, q⟩ := (show ∃ t, u = Value.str y t from rx); cases q; exact PySem.W.kia_one PySem.W.kitx_str I.kIn True.intro e (fun z => nomatch z) h
  | flt y => obtain ⟨t, q⟩ := (show ∃ t, u = Value.float y t from rx); cases q; exact PySem.W.kia_one PySem.W.kitx_float I.kIn True.intro e (fun z => nomatch z) h
  | @lst a xs ea =>
    cases (show u = Value.ref a from rx)
    obtain ⟨_, _, n, _, h1⟩ := (show ObjOk X.prog X.w H s.heap a (.lst xs) from I.hok a _ ea)
    exact PySem.W.kia_one PySem.W.kitx_list I.kIn ⟨_, h1, rfl⟩ e (fun z => nomatch z) h
  | @frz a ob xs ea =>
    cases (show u = Value.ref a from rx)
    obtain ⟨_, _, _, n, _, h1⟩ := (show ObjOk X.prog X.w H s.heap a (.frz ob (.lst xs)) from I.hok a _ ea)
    exact PySem.W.kia_one PySem.W.kitx_list I.kIn ⟨_, h1, rfl⟩ e (fun z => nomatch z) h
  | @tup a xs ea =>
    cases (show u = Value.ref a from rx)
    obtain ⟨_, _, _, p⟩ := (show ObjOk X.prog X.w H s.heap a (.tup xs) from I.hok a _ ea)
    obtain ⟨o, h1, h2, _⟩ := p
    exact PySem.W.kia_one PySem.W.kitx_tuple I.kIn ⟨o, h1, h2⟩ e (fun z => nomatch z) h
  | @dK a kvs ea =>
    cases (show u = Value.ref a from rx)
    obtain ⟨_, _, vs, _, p⟩ := (show ObjOk X.prog X.w H s.heap a (.dK kvs) from I.hok a _ ea)
    obtain ⟨o, es, ep, h1, h2, _⟩ := p
    exact PySem.W.kia_one PySem.W.kitx_dict I.kIn ⟨o, h1, h2.1⟩ e (fun z => nomatch z) h
  | @dT a kvs ea =>
    cases (show u = Value.ref a from rx)
    obtain ⟨_, _, xs, _, o, es, ep, h1, h2, _⟩ := (show ObjOk X.prog X.w H s.heap a (.dT kvs) from I.hok a _ ea)
    exact PySem.W.kia_one PySem.W.kitx_dict I.kIn ⟨o, h1, h2.1⟩ e (fun z => nomatch z) h
  | @ins a C dx fs ea cl ha hn htk hm =>
    cases (show u = Value.ref a from rx)
    obtain ⟨mA, O, _⟩ := ins_get I.hok ea
    obtain ⟨od, J, _⟩ := O.look
    exact PySem.W.kia_one (PySem.W.kitx_own (cl.get _) cl.hd ha hn htk hm) I.kIn J e (fun z => nomatch z) h
end
end L2

namespace L2
open PySem PySem.Spec PyProof.Rows

structure Room (k : Nat) (A : Around) : Prop where
  hd : A.handled = none
  dp : A.depth + 3 * k + 5 < recursionLimit
  un : A.units + 16 * k + 200 < cLine
theorem Room.mono {j k : Nat} {A : Around} (r : Room k A) (h : j ≤ k) : Room j A := ⟨r.hd, by have := r.dp; omega, by have := r.un; omega⟩
theorem Room.deeper {k : Nat} {A : Around} (r : Room (k + 1) A) (env : Env) : Room k (A.deeper env) :=
  ⟨r.hd, by have := r.dp; show A.depth + 1 + 3 * k + 5 < _; omega, by have := r.un; show A.units + 3 + 16 * k + 200 < _; omega⟩
theorem Room.depth {k : Nat} {A : Around} (r : Room k A) : A.depth < recursionLimit := by have := r.dp; omega
theorem Room.units {k : Nat} {A : Around} (r : Room k A) : A.units + 64 < cLine := by have := r.un; omega
def tNil : TA := fun _ H Q => Q [] H
def tCons (ta : TE) (tr : TA) : TA := fun σ H Q => ta σ H fun x H1 => tr σ H1 fun xs H2 => Q (x :: xs) H2
section
variable {X : Cx} {e : Expr} {es : List Expr} {te : TE} {t : TA} {pos : Pos}
theorem pa_nil : PA X [] tNil := fun _ _ _ _ H Q I h => Calls.spliced_nil ⟨[], H, I, .nil, h⟩
theorem pa_cons (ha : PE X e te) (hr : PA X es t) (hs : starEach (e :: es) X.env = (false, eval e X.env) :: starEach es X.env := by rfl) : PA X (e :: es) (tCons te t) := by
  intro pos pins s σ H Q I h
  rw [hs]
  show wpAny _ _ (spliced ((false, eval e X.env) :: backTo pos (starEach es X.env))) _ _ s
  refine Calls.spliced_cons (thn (ha pins s σ H _ I h) fun u s1 ⟨x, H1, I1, r1, q1⟩ => ?_)
  exact thn (hr pos pins s1 σ H1 _ I1 q1) fun us s2 ⟨xs, H2, I2, r2, q2⟩ => ⟨x :: xs, H2, I2, .cons r1 r2, q2⟩

def tTup (t : TA) : TE := fun σ H Q => t σ H fun xs H1 => NewT xs H1 Q
def tLst (t : TA) : TE := fun σ H Q => t σ H fun xs H1 => NewL xs H1 Q
theorem pe_tup {x1} (h : PA X es t) : PE X (.Tuple es x1 pos) (tTup t) := by
  intro pins s σ H Q I hq
  refine wpAny_Tuple_spliced (thn (h pos pins s σ H _ I hq) fun us s1 ⟨xs, H1, I1, r, z, q⟩ => ⟨by rw [← r.length]; exact z, ?_⟩)
  have hf : H1 s1.heap.objs.size = none := I1.hok.fresh (Nat.le_refl _)
  refine ⟨.ref s1.heap.objs.size, upd H1 s1.heap.objs.size (.tup xs), I1.laid (t' := s1.toks) (fun b u e => Heap.get?_push_of_some _ e) (Nat.le_refl _) ?_, rfl, q _ hf⟩
  exact ⟨z, us, r, ⟨_, Heap.get?_push_size _ rfl, rfl, _, rfl⟩⟩
theorem pe_lst (h : PA X es t) : PE X (.List es pos) (tLst t) := by
  intro pins s σ H Q I hq
  refine wpAny_List_spliced (thn (h pos pins s σ H _ I hq) fun us s1 ⟨xs, H1, I1, r, z, q⟩ => ⟨by rw [← r.length]; exact z, ?_⟩)
  have hf : H1 s1.heap.objs.size = none := I1.hok.fresh (Nat.le_refl _)
  refine ⟨.ref s1.heap.objs.size, upd H1 s1.heap.objs.size (.lst xs), I1.laid (t' := s1.toks) (fun b u e => Heap.get?_push_of_some _ e) (Nat.le_refl _) ?_, rfl, q _ hf⟩
  exact ⟨z, us, 0, r, Heap.get?_push_size _ rfl⟩
end

abbrev Sp := List V → Hp → VK → XK → Prop
abbrev CXT := List Env → Hp → Shared → XK → Value → Shared → Prop

structure Env0 (P : Program) (w : World) (K : PySem.W.Frag) (mg : Str → Option Value) (base : Heap) (A : Around) (outer : List Env) (s : Shared) (H : Hp) : Prop where
  frames : A.frames = some outer
  mod : Mod K mg base
  bs : ∀ b o, base.get? b = some o → s.heap.get? b = some o ∧ H b = none
  bsz : base.objs.size ≤ s.heap.objs.size
  funs : s.heap.FunFrames base outer
  frf : ∀ b ∈ frs outer, H b = none
  hok : HOk P w H s.heap
  bare : AllBare s.gens
def CE (outer : List Env) (P : Program) (w : World) (H : Hp) (s : Shared) (Q : VK) (u : Value) (s' : Shared) : Prop :=
  ∃ v H', s'.os = s.os ∧ AllBare s'.gens ∧ Un (frs outer) [] H H' s.heap s'.heap ∧ HOk P w H' s'.heap ∧ RelV v u ∧ Q v H'
def CR (CX : CXT) (outer : List Env) (P : Program) (w : World) (H : Hp) (s : Shared) (Q : VK) (E : XK) (r : Result) (s' : Shared) : Prop :=
  match r with
  | .ok (.ret u) => CE outer P w H s Q u s'
  | .ok _ => False
  | .error e => CX outer H s E e s'
structure FnOk (P : Program) (w : World) (K : PySem.W.Frag) (mg : Str → Option Value) (base : Heap) (CX : CXT) (k : Nat) (f : Addr) (fd : FuncData) (ps : List Str) (sp : Sp) : Prop where
  len : ∀ vs H Q E, sp vs H Q E → vs.length = ps.length
  run : ∀ (A : Around) (outer : List Env) (s : Shared) (H : Hp) (args : Args) (us : List Value) (vs : List V) (Q : VK) (E : XK), Room k A → Env0 P w K mg base A outer s H → BindsTo s fd args (ps.zip us) → Vals vs us → sp vs H Q E →
    codeAny (model P w) A (.call (.ref f) args) (CR CX outer P w H s Q E) s
section
variable {X : Cx} {pins : List (Addr × Obj)} {σ : St} {H : Hp} {s s' : Shared}
theorem Inv.env0 (I : Inv X pins σ H s) : Env0 X.prog X.w X.K X.mg X.base X.A X.stack s H :=
  ⟨I.ok.frames, I.ok.mod, I.bs, Nat.le_trans I.ok.bsz I.sz, I.stack, I.stkFree, I.hok, I.bare⟩
theorem Inv.after {Q : VK} {u : Value} (I : Inv X pins σ H s) (h : CE X.stack X.prog X.w H s Q u s') : EP X pins σ Q u s' := by
  obtain ⟨v, H', os, bare, un, hok, r, q⟩ := h
  obtain ⟨hh, g, d, t, os'⟩ := s'
  obtain rfl : os' = s.os := os
  exact ⟨v, H', I.call (h' := hh) (g' := g) (d' := d) (t' := t) (ch := []) un hok bare (fun b z => absurd z (by simp)), r, q⟩
end

def tCall (sp : Sp) (dvs : List V) (E : XK) (t : TA) : TE := fun σ H Q => t σ H fun vs H1 => sp (vs ++ dvs) H1 Q E
def Binds (K : PySem.W.Frag) (fd : FuncData) (ps : List Str) (ds : List Value) : Prop :=
  ∀ (s : Shared) (us : List Value), K.In s.heap → (us ++ ds).length = ps.length → BindsTo s fd ⟨us, []⟩ (ps.zip (us ++ ds))
theorem Binds.all {K : PySem.W.Frag} {fd : FuncData} {ps : List Str} (h : ∀ us : List Value, us.length = ps.length → bindArgs fd ⟨us, []⟩ = pure (ps.zip us)) : Binds K fd ps [] := fun s us _ hl => by
  rw [List.append_nil] at hl ⊢
  exact .of_eq (h us hl)

def Passes (CX : CXT) (X : Cx) (E : XK) : Prop := ∀ (pins : List (Addr × Obj)) (σ : St) (H : Hp) (s : Shared) (e : Value) (s' : Shared), Inv X pins σ H s → CX X.stack H s E e s' → X.xe e s'

section
variable {X : Cx} {CX : CXT} {k : Nat} {f C : Addr} {fd : FuncData} {ps : List Str} {sp : Sp} {dvs : List V} {ds : List Value} {E : XK} {x m : Str} {p pos apos : Pos} {e o : Expr} {es : List Expr} {ta : TE} {t : TA}

theorem run_fn {pins : List (Addr × Obj)} {σ : St} {H : Hp} {s : Shared} {Q : VK} {us : List Value} {vs : List V} (F : FnOk X.prog X.w X.K X.mg X.base CX k f fd ps sp) (hr : Room k X.A) (hb : Binds X.K fd ps ds) (hd : Vals dvs ds) (hx : Passes CX X E)
    (I : Inv X pins σ H s) (r : Vals vs us) (h : sp (vs ++ dvs) H Q E) : wpAny (model X.prog X.w) X.A (call (.ref f) us) (EP X pins σ Q) X.xe s := by
  have r2 : Vals (vs ++ dvs) (us ++ ds) := r.append hd
  have hl : (us ++ ds).length = ps.length := by rw [← r2.length]; exact F.len _ _ _ _ h
  refine wpAny_call (codeAny_mono (F.run X.A X.stack s H ⟨us, []⟩ (us ++ ds) (vs ++ dvs) Q E hr I.env0 (hb s us I.kIn hl) r2 h) fun r s' hq => ?_)
  cases r with
  | error e => exact hx pins σ H s e s' I hq
  | ok fl =>
    cases fl with
    | ret u => exact I.after hq
    | next => exact False.elim hq
    | brk => exact False.elim hq
    | cont => exact False.elim hq

theorem pe_call (F : FnOk X.prog X.w X.K X.mg X.base CX k f fd ps sp) (hr : Room k X.A) (hg : Gl X x) (hm : X.mg x = some (.ref f)) (hk : PySem.W.keepIn X.K (.ref f) = true) (hb : Binds X.K fd ps ds) (hd : Vals dvs ds) (hx : Passes CX X E)
    (ha : PA X (e :: es) t) (hdb : (x == ("__debug__" : Str)) = false := by decide) (he : starEach (e :: es) X.env = (false, eval e X.env) :: starEach es X.env := by rfl) (hpl : (backTo pos (starEach es X.env)).any (·.1) = false := by rfl) :
    PE X (.Call (.Name x p) (e :: es) [] pos) (tCall sp dvs E t) := by
  intro pins s σ H Q I h
  refine wpAny_Call_Name_kw (ld_glob I hg hm ?_ hdb)
  refine PySem.W.callWith_K (h₀ := X.base) I.ok.mod.kin hk (thn (ha pos pins s σ H _ I h) fun us s1 ⟨vs, H1, I1, r, q⟩ => ⟨I1.kIn, ?_⟩) he hpl
  exact run_fn F hr hb hd hx I1 r q
theorem pe_call0 (F : FnOk X.prog X.w X.K X.mg X.base CX k f fd ps sp) (hr : Room k X.A) (hg : Gl X x) (hm : X.mg x = some (.ref f)) (hk : PySem.W.keepIn X.K (.ref f) = true) (hb : Binds X.K fd ps ds) (hd : Vals dvs ds) (hx : Passes CX X E)
    (hdb : (x == ("__debug__" : Str)) = false := by decide) : PE X (.Call (.Name x p) [] [] pos) (tCall sp dvs E tNil) := by
  intro pins s σ H Q I h
  refine wpAny_Call_Name_kw (ld_glob I hg hm ?_ hdb)
  exact PySem.W.callWith_K0 I.kIn hk (run_fn (us := []) F hr hb hd hx I .nil h)

end

section
variable {X : Cx} {CX : CXT} {k : Nat} {f C : Addr} {fd : FuncData} {ps ks : List Str} {sp : Sp} {E : XK} {x m : Str} {p pos apos kpos : Pos} {e o : Expr} {es : List Expr} {kws : List Keyword} {te ta : TE} {t tk : TA} {nm : Option Str}
variable {g : List Value → List Value → List Value} {gV : List V → List V → List V}
end

structure FnScope (N P : List Str) (sc : Scope) : Prop where
  kind : sc.kind = .function
  co : sc.isCoroutine = false
  gen : sc.isGenerator = false
  nd : N.Nodup
  pre : N.take P.length = P
  par : ∀ x ∈ P, sc.names.lookup x = some .local ∨ sc.names.lookup x = some .cell
  nofree : ∀ y ∈ sc.names, y.2 ≠ .free

theorem bindL_out {kindOf : Str → Option NameKind} {x : Str} : ∀ {binds : List (Str × Value)} {m : Str → Option Value}, (∀ v, (x, v) ∉ binds) → bindL kindOf binds m x = m x
  | [], _, _ => rfl
  | (n, v) :: r, m, h => by
    unfold bindL
    rw [bindL_out fun w hw => h w (List.mem_cons_of_mem _ hw)]
    split
    · have : x ≠ n := by rintro rfl; exact h v List.mem_cons_self
      simp [this]
    · rfl
theorem bindC_out {kindOf : Str → Option NameKind} {x : Str} : ∀ {binds : List (Str × Value)} {m : Str → Option Value}, (∀ v, (x, v) ∉ binds) → bindC kindOf binds m x = m x
  | [], _, _ => rfl
  | (n, v) :: r, m, h => by
    unfold bindC
    rw [bindC_out fun w hw => h w (List.mem_cons_of_mem _ hw)]
    split
    · rfl
    · have : x ≠ n := by rintro rfl; exact h v List.mem_cons_self
      simp [this]
theorem bindL_get {kindOf : Str → Option NameKind} {x : Str} {v : Value} : ∀ {P : List Str} {vs : List Value} {i : Nat} {m : Str → Option Value}, P.Nodup → P[i]? = some x → vs[i]? = some v → kindOf x = some .local →
    bindL kindOf (P.zip vs) m x = some v
  | [], _, _, _, _, h, _, _ => by simp at h
  | _ :: _, [], _, _, _, _, h, _ => by simp at h
  | p :: P, w :: vs, 0, m, nd, h1, h2, hk => by
    simp at h1 h2; subst h1; subst h2
    show bindL kindOf ((p, w) :: P.zip vs) m p = _
    unfold bindL
    rw [bindL_out fun v hv => (List.nodup_cons.mp nd).1 (List.of_mem_zip hv).1, if_pos hk]
    simp
  | p :: P, w :: vs, i + 1, m, nd, h1, h2, hk => by
    show bindL kindOf ((p, w) :: P.zip vs) m x = _
    unfold bindL
    exact bindL_get (i := i) (List.nodup_cons.mp nd).2 (by simpa using h1) (by simpa using h2) hk
theorem bindC_get {kindOf : Str → Option NameKind} {x : Str} {v : Value} : ∀ {P : List Str} {vs : List Value} {i : Nat} {m : Str → Option Value}, P.Nodup → P[i]? = some x → vs[i]? = some v → kindOf x ≠ some .local →
    bindC kindOf (P.zip vs) m x = some v
  | [], _, _, _, _, h, _, _ => by simp at h
  | _ :: _, [], _, _, _, _, h, _ => by simp at h
  | p :: P, w :: vs, 0, m, nd, h1, h2, hk => by
    simp at h1 h2; subst h1; subst h2
    show bindC kindOf ((p, w) :: P.zip vs) m p = _
    unfold bindC
    rw [bindC_out fun v hv => (List.nodup_cons.mp nd).1 (List.of_mem_zip hv).1, if_neg hk]
    simp
  | p :: P, w :: vs, i + 1, m, nd, h1, h2, hk => by
    show bindC kindOf ((p, w) :: P.zip vs) m x = _
    unfold bindC
    exact bindC_get (i := i) (List.nodup_cons.mp nd).2 (by simpa using h1) (by simpa using h2) hk

def start (N : List Str) (vs : List V) : St := vs.map some ++ List.replicate (N.length - vs.length) none

def cxOf (CX : CXT) (P : Program) (w : World) (K : PySem.W.Frag) (mg : Str → Option Value) (base : Heap) (N : List Str) (qual : Str) (scope : Scope) (f : Addr) (cd : Value) (A : Around) (outer : List Env) (s : Shared) (H : Hp) (E : XK) : Cx where
  prog := P
  w := w
  K := K
  mg := mg
  base := base
  A := A.deeper (envOfC qual scope s.heap.objs.size f cd)
  N := N
  s₀ := s
  H₀ := H
  env := envOfC qual scope s.heap.objs.size f cd
  outer := outer
  stack := envOfC qual scope s.heap.objs.size f cd :: outer
  ex := []
  calm := true
  fn := fun _ => true
  pn := []
  xe := fun e s' => wpAny (model P w) (A.deeper (envOfC qual scope s.heap.objs.size f cd)) (leaving (envOfC qual scope s.heap.objs.size f cd) e) (fun _ s'' => CX outer H s E e s'') (fun e' s'' => CX outer H s E e' s'') s'

theorem cell_has {sc : Scope} {n : Nat} {x : Str} (h : sc.names.lookup x = some .cell) : ∃ c, (cellsFrom n sc.names []).lookup x = some c := by
  have q := PySem.W.cellsFrom_some sc.names n [] (.inl h)
  exact Option.isSome_iff_exists.mp q

theorem inv_start {CX : CXT} {P : Program} {w : World} {K : PySem.W.Frag} {mg : Str → Option Value} {base : Heap} {N ps : List Str} {qual : Str} {scope : Scope} {f : Addr} {cd : Value} {A : Around} {outer : List Env} {s s1 : Shared} {H : Hp} {E : XK} {us : List Value} {vs : List V}
    (S : FnScope N ps scope) (hd : A.handled = none) (e0 : Env0 P w K mg base A outer s H) (hl : vs.length = ps.length) (r : Vals vs us)
    (x : InCallC s s.heap.objs.size (bindL (envOfC qual scope s.heap.objs.size f cd).kindOf (ps.zip us) fun _ => none) (cellsFrom (s.heap.objs.size + 1) scope.names []) (bindC (envOfC qual scope s.heap.objs.size f cd).kindOf (ps.zip us) fun _ => none) s1) :
    Inv (cxOf CX P w K mg base N qual scope f cd A outer s H E) [] (start N vs) H s1 := by
  have hpl : ps.length ≤ N.length := by have := congrArg List.length S.pre; rw [List.length_take] at this; omega
  obtain ⟨h1, tk, rfl, hk⟩ := x.done
  have noA : ∀ b : Addr, b ∉ (cxOf CX P w K mg base N qual scope f cd A outer s H E).ex := fun b z => absurd (show b ∈ ([] : List Addr) from z) (by simp)
  refine ⟨⟨e0.mod, S.kind, rfl, rfl, Nat.le_refl _, fun y z c h1 h2 => ?_, fun y hy => ?_, fun y c _ h => ?_, fun _ => hd, Around.frames_deeper e0.frames, .inr ⟨rfl, rfl⟩, fun b z => absurd z (noA b), e0.bs, e0.bsz, fun b _ _ => noA b, fun b z => absurd z (noA b), e0.funs, e0.frf⟩,
    rfl, e0.bare, Un.kept hk, ⟨_, x.toInCall.ns, fun i y v h1 h2 h3 => ?_⟩, fun y c h => ⟨_, x.cell y c h⟩, e0.hok.fresh (Nat.le_refl _), fun y c h => ?_, fun p hp => absurd (show p ∈ ([] : List (Addr × Obj)) from hp) (by simp), e0.hok.kept hk, ?_⟩
  · exact name_of_addr x.apart (PySem.mem_of_lookup h1) (PySem.mem_of_lookup h2)
  · have hy : scope.names.lookup y = some .cell ∨ scope.names.lookup y = some .free := hy
    rcases hy with hy | hy
    · exact cell_has hy
    · exact absurd rfl (S.nofree _ (PySem.mem_of_lookup hy))
  · exact Nat.le_of_lt (x.above y c (PySem.mem_of_lookup h))
  · have hi : i < vs.length := by
      unfold start at h2
      by_cases hi : i < vs.length
      · exact hi
      · rw [List.getElem?_append_right (by simpa using hi)] at h2
        rw [List.getElem?_replicate] at h2
        split at h2 <;> cases h2
    have ha : vs[i]? = some v := by
      unfold start at h2
      rw [List.getElem?_append_left (by simpa using hi), List.getElem?_map] at h2
      cases e : vs[i]? with
      | none => rw [e] at h2; cases h2
      | some a => rw [e] at h2; cases h2; rfl
    obtain ⟨u, hu, rv⟩ := r.get ha
    have hp : ps[i]? = some y := by
      rw [← S.pre, List.getElem?_take_of_lt (by omega)]; exact h1
    have ndP : ps.Nodup := by rw [← S.pre]; exact S.nd.sublist (List.take_sublist _ _)
    refine ⟨u, rv, ?_⟩
    rcases S.par y (List.mem_of_getElem? hp) with k | k
    · exact .inl ⟨k, bindL_get ndP hp hu k⟩
    · obtain ⟨c, e⟩ := cell_has (n := s.heap.objs.size + 1) k
      refine .inr ⟨.inl k, c, e, ?_⟩
      have q := x.cell y c e
      rw [bindC_get ndP hp hu (by show scope.names.lookup y ≠ _; rw [k]; decide)] at q
      exact q
  · exact e0.hok.fresh (Nat.le_of_lt (x.above y c (PySem.mem_of_lookup h)))
  · unfold start
    show _ = N.length
    rw [List.length_append, List.length_map, List.length_replicate]
    omega

theorem fn_of {CX : CXT} {P : Program} {w : World} {K : PySem.W.Frag} {mg : Str → Option Value} {base : Heap} {k : Nat} {f : Addr} {name qual : Str} {params : Arguments} {body : List Stmt} {scope : Scope} {dV kV doc pm cdv ct oc : Value} {an od : Option Addr}
    {osl : Array (Option Value)} {N ps : List Str} {sp : Sp} (lk : K.lookup f = some ⟨oc, od, .func (PySem.W.fnOf name qual params body scope dV kV doc pm an cdv ct), osl⟩) (hcd : PySem.W.codeIn K cdv qual = true) (S : FnScope N ps scope)
    (len : ∀ vs H Q E, sp vs H Q E → vs.length = ps.length)
    (hbody : ∀ (A : Around) (outer : List Env) (s : Shared) (H : Hp) (vs : List V) (Q : VK) (E : XK), Room k (A.deeper (envOfC qual scope s.heap.objs.size f cdv)) → sp vs H Q E →
      ∃ t, PSs (cxOf CX P w K mg base N qual scope f cdv A outer s H E) body t ∧ t { nx := fun _ H' => Q .non H', rt := Q } (start N vs) H) :
    FnOk P w K mg base CX (k + 1) f (PySem.W.fnOf name qual params body scope dV kV doc pm an cdv ct) ps sp := by
  refine ⟨len, fun A outer s H args us vs Q E hr e0 hb r hsp => ?_⟩
  have hl := len _ _ _ _ hsp
  have KX : K.In s.heap := e0.mod.kin.keeps fun b o e => (e0.bs b o e).1
  have lim : s.heap.NoLimit := e0.mod.nolimit.keeps fun b o e => (e0.bs b o e).1
  have hkind : ∀ y ∈ ps.zip us, scope.names.lookup y.1 = some .local ∨ (scope.names.lookup y.1 = some .cell ∧ ((cellsFrom (s.heap.objs.size + 1) scope.names []).lookup y.1).isSome = true) := fun ⟨n, v⟩ hy => by
    rcases S.par n (List.of_mem_zip hy).1 with q | q
    · exact .inl q
    · exact .inr ⟨q, PySem.W.cellsFrom_some _ _ _ (.inl q)⟩
  refine codeAny_call_function hr.depth (KX _ _ lk) rfl S.co S.gen rfl (PySem.W.codeRec_of KX hcd) (hb _ _ _ _ ?_)
  refine wpAny_newFunctionEnv_cells S.kind hkind fun env he s1 x => ?_
  subst he
  refine ⟨lim.keeps x.toInCall.keep, codeAny_func ?_⟩
  obtain ⟨t, ht, hq⟩ := hbody A outer s H vs Q E (hr.deeper _) hsp
  have I : Inv (cxOf CX P w K mg base N qual scope f cdv A outer s H E) [] (start N vs) H s1 := inv_start S hr.hd e0 hl r x
  refine wpAny_mono (ht [] s1 (start N vs) H _ I hq) (fun fl s' hs => ?_) fun e s' hs => hs
  have fin : ∀ {σ' : St} {H' : Hp} {v : V} {u : Value}, Inv (cxOf CX P w K mg base N qual scope f cdv A outer s H E) [] σ' H' s' → RelV v u → Q v H' → CE outer P w H s Q u s' :=
    fun {σ' H' v u} J rv q => ⟨v, H', J.os, J.bare, J.base, J.hok, rv, q⟩
  cases fl with
  | ret u =>
    obtain ⟨v, σ', H', J, rv, q⟩ := hs
    exact fin J rv q
  | next =>
    obtain ⟨σ', H', J, q⟩ := hs
    exact fin (v := V.non) (u := Value.none) J rfl q
  | brk =>
    obtain ⟨_, _, _, q⟩ := hs
    exact False.elim q
  | cont =>
    obtain ⟨_, _, _, q⟩ := hs
    exact False.elim q
end L2

namespace L2
open PySem PySem.Spec PyProof.Rows
section
variable {X : Cx} {x : Str} {p pos : Pos} {e : Expr} {es : List Expr} {t : TA} {id T : String} {r : List V → Hp → VK → Prop}

def tCB (r : List V → Hp → VK → Prop) (t : TA) : TE := fun σ H Q => t σ H fun vs H1 => r vs H1 Q
theorem pe_callB (hc : CallR X (.builtin id) r) (hg : Gl X x) (hm : X.mg x = none) (hv : bootBuiltins x = some (.builtin id)) (ha : PA X (e :: es) t) (hn : x ≠ "__name__" := by decide) (hdb : (x == ("__debug__" : Str)) = false := by decide)
    (he : starEach (e :: es) X.env = (false, eval e X.env) :: starEach es X.env := by rfl) (hpl : (backTo pos (starEach es X.env)).any (·.1) = false := by rfl) : PE X (.Call (.Name x p) (e :: es) [] pos) (tCB r t) := by
  intro pins s σ H Q I h
  refine wpAny_Call_Name_kw (ld_blt I hg hm hv ?_ hn hdb)
  exact PyProof.Rows.callWith_builtin1 (thn (ha pos pins s σ H _ I h) fun us s1 ⟨vs, H1, I1, r1, q1⟩ => hc pins s1 σ H1 vs us Q I1 r1 q1) he hpl
theorem pe_callTy (hc : CallR X (.type T) r) (hg : Gl X x) (hm : X.mg x = none) (hv : bootBuiltins x = some (.type T)) (ha : PA X (e :: es) t) (hn : x ≠ "__name__" := by decide) (hdb : (x == ("__debug__" : Str)) = false := by decide)
    (he : starEach (e :: es) X.env = (false, eval e X.env) :: starEach es X.env := by rfl) (hpl : (backTo pos (starEach es X.env)).any (·.1) = false := by rfl) : PE X (.Call (.Name x p) (e :: es) [] pos) (tCB r t) := by
  intro pins s σ H Q I h
  refine wpAny_Call_Name_kw (ld_blt I hg hm hv ?_ hn hdb)
  exact PyProof.Rows.callWith_type1 (thn (ha pos pins s σ H _ I h) fun us s1 ⟨vs, H1, I1, r1, q1⟩ => hc pins s1 σ H1 vs us Q I1 r1 q1) he hpl
end
end L2

namespace HT
open PySem PyProof.Rows

section
open PySem.SeqAt
open PySem.AutoSeq1 (wpAny_loadPart')
open PySem.MeetsSeq PySem.MeetsSeq2 PySem.MeetsSeq3

end

section
variable {prog : Program} {w : World} {A : Around} {E : Value → Shared → Prop} {s : Shared}

end
end HT

namespace L2
open PySem PySem.Spec PyProof.Rows

abbrev TO := St → Hp → (Option Int → Hp → Prop) → Prop
def PO (X : Cx) (e : Option Expr) (t : TO) : Prop :=
  ∀ (pins : List (Addr × Obj)) (s : Shared) (σ : St) (H : Hp) (Q : Option Int → Hp → Prop), Inv X pins σ H s → t σ H Q →
    wpAny (model X.prog X.w) X.A (evalPart e X.env) (fun u s' => ∃ o H', Inv X pins σ H' s' ∧ IsPart u o ∧ Q o H') X.xe s
def tNoPart : TO := fun _ H Q => Q none H
def tPart (t : TE) : TO := fun σ H Q => t σ H fun x H1 => IsIn x H1 Q

section
variable {X : Cx} {e : Expr} {te : TE} {lo hi : Option Expr} {tl th : TO} {pos p2 : Pos}

theorem po_none : PO X none tNoPart := by
  intro pins s σ H Q I h
  rw [evalPart_none]
  exact wpAny_pure ⟨none, H, I, .none, h⟩
theorem po_some (h : PE X e te) : PO X (some e) (tPart te) := by
  intro pins s σ H Q I hw
  rw [evalPart_some]
  refine thn (h pins s σ H _ I hw) fun u s1 ⟨x, H1, I1, r1, q1⟩ => ?_
  obtain ⟨i, rfl, q⟩ := q1
  obtain ⟨t, rfl⟩ := r1
  exact ⟨some i, H1, I1, .int i t, q⟩

def SlR (X : Cx) (r : V → Option Int → Option Int → Hp → VK → Prop) : Prop :=
  ∀ (pins : List (Addr × Obj)) (s : Shared) (σ : St) (H : Hp) (x : V) (v vl vu : Value) (lo hi : Option Int) (sl : Addr) (Q : VK), Inv X pins σ H s → RelV x v → s.heap.IsSliceOf sl vl vu .none → IsPart vl lo → IsPart vu hi → r x lo hi H Q →
    ∃ T id, typeLookup (.type T) "__getitem__" = pure (some (.builtin id)) ∧ s.TypeIs v T ∧ wpAny (model X.prog X.w) X.A (getItem v (.ref sl)) (EP X pins σ Q) X.xe s
def tSl (r : V → Option Int → Option Int → Hp → VK → Prop) (te : TE) (tl th : TO) : TE := fun σ H Q => te σ H fun x H1 => tl σ H1 fun l H2 => th σ H2 fun u H3 => r x l u H3 Q
theorem pe_slice {r : V → Option Int → Option Int → Hp → VK → Prop} (hr : SlR X r) (he : PE X e te) (hl : PO X lo tl) (hu : PO X hi th) : PE X (.Subscript e (.Slice lo hi none p2) pos) (tSl r te tl th) := by
  intro pins s σ H Q I h
  refine Subscript_ (thn (he pins s σ H _ I h) fun v s1 ⟨x, H1, I1, r1, q1⟩ => ?_)
  refine wpAny_Slice (thn (hl pins s1 σ H1 _ I1 q1) fun vl s2 ⟨l, H2, I2, pl, q2⟩ => thn (hu pins s2 σ H2 _ I2 q2) fun vu s3 ⟨u, H3, I3, pu, q3⟩ => ?_)
  rw [evalPart_none]
  refine wpAny_pure ?_
  have I4 : Inv X pins σ H3 { s3 with heap := s3.heap.push { cls := .type "slice", data := .fields #[vl, vu, .none] } } := I3.kept (t' := s3.toks) fun b ob q => Heap.get?_push_of_some _ q
  obtain ⟨T, id, hT, ht, hg⟩ := hr pins { s3 with heap := s3.heap.push { cls := .type "slice", data := .fields #[vl, vu, .none] } } σ H3 x v vl vu l u s3.heap.objs.size Q I4 r1 (Heap.IsSliceOf.new ..) pl pu q3
  show wpAny (model X.prog X.w) X.A (subscriptTail e (.Slice lo hi none p2) v (.ref s3.heap.objs.size)) (EP X pins σ Q) X.xe { s3 with heap := s3.heap.push { cls := .type "slice", data := .fields #[vl, vu, .none] } }
  exact tail_any (ops := [.ref s3.heap.objs.size, v]) ht hT hg (by with_unfolding_all rfl)

end
end L2

namespace L2
open PySem PySem.Spec PyProof.Rows

def ixN (n : Nat) (i : Int) : Option Nat := if 0 ≤ i then (if i < n then some i.toNat else none) else if -(n : Int) ≤ i then some (i + n).toNat else none
def atI {α : Type} (xs : List α) (i : Int) : Option α := (ixN xs.length i).bind fun j => xs[j]?
theorem ixN_seq {n : Nat} {i : Int} {j : Nat} (h : ixN n i = some j) : seqIndex? i n = some j ∧ j < n ∧ -(n : Int) ≤ i ∧ i < n := by
  unfold ixN at h
  by_cases h0 : 0 ≤ i
  · rw [if_pos h0] at h
    by_cases h1 : i < n
    · rw [if_pos h1] at h
      have e : i.toNat = j := Option.some.inj h
      exact ⟨by rw [seqIndex_of h0 h1, e], by omega, by omega, h1⟩
    · rw [if_neg h1] at h; cases h
  · rw [if_neg h0] at h
    by_cases h1 : -(n : Int) ≤ i
    · rw [if_pos h1] at h
      have e : (i + n).toNat = j := Option.some.inj h
      exact ⟨by rw [seqIndex_neg (by omega) h1, e], by omega, h1, by omega⟩
    · rw [if_neg h1] at h; cases h
theorem atI_get {α : Type} {xs : List α} {i : Int} {v : α} (h : atI xs i = some v) : ∃ j, seqIndex? i xs.length = some j ∧ xs[j]? = some v ∧ j < xs.length ∧ -(xs.length : Int) ≤ i ∧ i < xs.length := by
  unfold atI at h
  cases e : ixN xs.length i with
  | none => rw [e] at h; cases h
  | some j =>
    rw [e] at h
    obtain ⟨h1, h2, h3, h4⟩ := ixN_seq e
    exact ⟨j, h1, h, h2, h3, h4⟩
theorem atI_nat {α : Type} {xs : List α} {j : Nat} {v : α} (h : xs[j]? = some v) : atI xs (j : Int) = some v := by
  have hj : j < xs.length := (List.getElem?_eq_some_iff.mp h).1
  have e : ixN xs.length (j : Int) = some j := by
    unfold ixN
    rw [if_pos (by omega), if_pos (by omega)]; simp
  unfold atI; rw [e]; exact h
def PlainIx (b : Expr) : Prop := ∀ o i, subscripted b false o i = operate [o, i] (getItem o i)
def IxR (X : Cx) (r : R2) : Prop :=
  ∀ (value slice : Expr) (pins : List (Addr × Obj)) (s : Shared) (σ : St) (H : Hp) (x y : V) (v u : Value) (Q : VK), Inv X pins σ H s → RelV x v → RelV y u → r x y H Q →
    subscripted slice false v u = operate [v, u] (getItem v u) → wpAny (model X.prog X.w) X.A (subscriptTail value slice v u) (EP X pins σ Q) X.xe s
def MtR (X : Cx) (id : String) (r : V → List V → Hp → VK → Prop) : Prop :=
  ∀ (pins : List (Addr × Obj)) (s : Shared) (σ : St) (H : Hp) (x : V) (xs : List V) (v : Value) (us : List Value) (Q : VK), Inv X pins σ H s → RelV x v → Vals xs us → r x xs H Q →
    wpAny (model X.prog X.w) X.A (call (.builtin id) (v :: us)) (EP X pins σ Q) X.xe s
section
variable {X : Cx} {a b : Expr} {ta tb : TE} {pos : Pos}
theorem pe_ix {r : R2} (hr : IxR X r) (ha : PE X a ta) (hb : PE X b tb) (hs : PlainIx b) : PE X (.Subscript a b pos) (tOp r ta tb) := by
  intro pins s σ H Q I h
  exact Subscript_ (binT ha hb I h fun v u s2 x y H2 I2 rx ry q => hr a b pins s2 σ H2 x y v u Q I2 rx ry q (hs _ _))

inductive rIxL (K : PySem.W.Frag) (x : V) (y : V) (H : Hp) (Q : VK) : Prop where
  | mk (p : _) (xs : _) (i : _) (v : _) (h_0 : x = .ref p) (h_1 : y = .int i) (h_2 : SqL K H p xs) (h_3 : atI xs i = some v) (h_4 : Q v H)
inductive rIxT (K : PySem.W.Frag) (x : V) (y : V) (H : Hp) (Q : VK) : Prop where
  | mk (p : _) (xs : _) (i : _) (v : _) (h_0 : x = .ref p) (h_1 : y = .int i) (h_2 : SqT K H p xs) (h_3 : atI xs i = some v) (h_4 : Q v H)
inductive rIxS (x : V) (y : V) (H : Hp) (Q : VK) : Prop where
  | mk (z : _) (i : _) (c : _) (h_0 : x = .str z) (h_1 : y = .int i) (h_2 : z.length ≤ sizeLine) (h_3 : atI z.cps.toList i = some c) (h_4 : Q (.str ⟨#[c]⟩) H)
theorem ix_list : IxR X (rIxL X.K) := by
  intro value slice pins s σ H x y v u Q I rx ry h hs
  obtain ⟨p, xs, i, z, rfl, rfl, hq, he, q⟩ := h
  cases rx
  obtain ⟨t, rfl⟩ := ry
  obtain ⟨its, r, pl, hz⟩ := I.list hq
  obtain ⟨j, h1, h2, h3, h4, h5⟩ := atI_get he
  obtain ⟨w, ew, rw'⟩ := r.get h2
  have hl := r.length
  have hn := line63
  have fin : EP X pins σ Q w s := ⟨z, H, I, rw', q⟩
  by_cases h0 : 0 ≤ i
  · have hj : i.toNat = j := by
      rw [seqIndex_of h0 h5] at h1
      exact Option.some.inj h1
    exact item_listR pl.isList h0 (by omega) (by rw [hj]; simpa using ew) fin hs
  · have hj : (i + (its.toArray.size : Int)).toNat = j := by
      rw [seqIndex_neg (by omega) h4] at h1
      rw [List.size_toArray, ← hl]
      exact Option.some.inj h1
    exact subscriptTail_builtinR (x := w) pl.isList.typeIs slot_list_getitem.lookup
      (wpAny_getItem_list_neg (Q := fun r s' => r = w ∧ EP X pins σ Q r s') pl.isList (by omega) (by rw [List.size_toArray] <;> omega) (by omega) (by rw [hj]; simpa using ew) ⟨rfl, fin⟩) hs
theorem ix_tup : IxR X (rIxT X.K) := by
  intro value slice pins s σ H x y v u Q I rx ry h hs
  obtain ⟨p, xs, i, z, rfl, rfl, hq, he, q⟩ := h
  cases rx
  obtain ⟨t, rfl⟩ := ry
  obtain ⟨its, r, pl, hz⟩ := I.tuple hq
  obtain ⟨j, h1, h2, h3, h4, h5⟩ := atI_get he
  obtain ⟨w, ew, rw'⟩ := r.get h2
  have hl := r.length
  have hn := line63
  have fin : EP X pins σ Q w s := ⟨z, H, I, rw', q⟩
  exact subscriptTail_builtinR (x := w) pl.typeIs slot_tuple_getitem.lookup
    (getItem_tuple (j := j) (Q := fun r s' => r = w ∧ EP X pins σ Q r s') pl (by omega) (by omega) (by rw [List.size_toArray, ← hl]; exact h1) (by simpa using ew) ⟨rfl, fin⟩) hs
theorem ix_str : IxR X rIxS := by
  intro value slice pins s σ H x y v u Q I rx ry h hs
  obtain ⟨z, i, c, rfl, rfl, hz, he, q⟩ := h
  obtain ⟨t, rfl⟩ := rx
  obtain ⟨t', rfl⟩ := ry
  obtain ⟨j, h1, h2, h3, h4, h5⟩ := atI_get he
  have hl : z.cps.toList.length = z.length := by simp [Str.length]
  rw [hl] at h1 h4 h5
  have hn := line63
  exact tail_any (typeIs_str s z t) slot_str_getitem.lookup (getItem_str (c := c) (by
    have e1 : decide (i < -(2 ^ 63 : Int)) = false := decide_eq_false (by omega)
    have e2 : decide (i ≥ 2 ^ 63) = false := decide_eq_false (by omega)
    rw [e1, e2, Bool.or_false]) (by rw [h1]; simpa using h2) ⟨.str ⟨#[c]⟩, H, I.tok _, ⟨_, rfl⟩, q⟩) hs
theorem mapSeq_set (its : List Value) (n j : Nat) (u : Value) : Obj.mapSeq (·.setIfInBounds j u) { cls := .type "list", data := .seq its.toArray n } = { cls := .type "list", data := .seq (its.set j u).toArray n } := by
  simp [Obj.mapSeq]
theorem Inv.lst {pins : List (Addr × Obj)} {σ : St} {H : Hp} {s : Shared} {p : Addr} {xs : List V} (I : Inv X pins σ H s) (h : H p = some (.lst xs)) :
    ∃ (its : List Value) (n : Nat), Vals xs its ∧ s.heap.get? p = some { cls := .type "list", data := .seq its.toArray n } ∧ xs.length ≤ sizeLine := by
  obtain ⟨z, its, n, r, e⟩ := I.hok p _ h
  exact ⟨its, n, r, e, z⟩
theorem Inv.lstUpd {pins : List (Addr × Obj)} {σ : St} {H : Hp} {s : Shared} {p : Addr} {xs ys : List V} {its its' : List Value} {n n' : Nat} {f : Obj → Obj} (I : Inv X pins σ H s) (h : H p = some (.lst xs))
    (ho : s.heap.get? p = some { cls := .type "list", data := .seq its.toArray n }) (hf : f { cls := .type "list", data := .seq its.toArray n } = { cls := .type "list", data := .seq its'.toArray n' }) (r : Vals ys its') (hz : ys.length ≤ sizeLine) (t : Nat) :
    Inv X pins σ (upd H p (.lst ys)) { s with heap := s.heap.update p f, toks := t } := by
  have e : (s.heap.update p f).get? p = some { cls := .type "list", data := .seq its'.toArray n' } := by
    rw [Heap.get?_update_self f ho (by rw [hf] <;> rfl), hf]
  refine I.write (x := p) (e := p) (by rw [h]; trivial) (.inl rfl) (fun b u hb q => (Heap.get?_update_other _ _ (Ne.symm hb)).trans q) ⟨_, e⟩ ?_
  exact ⟨hz, its', n', r, e⟩
inductive rSetL (o : V) (i : V) (v : V) (H : Hp) (Q : Hp → Prop) : Prop where
  | mk (p : _) (xs : _) (k : _) (j : _) (h_0 : o = .ref p) (h_1 : i = .int k) (h_2 : H p = some (.lst xs)) (h_3 : ixN xs.length k = some j) (h_4 : Q (upd H p (.lst (xs.set j v))))
theorem set_list : PSet X rSetL := by
  intro pins s σ H o i v ov iv u Q I ro ri rv h
  obtain ⟨p, xs, k, j, rfl, rfl, hp, hj, q⟩ := h
  cases ro
  obtain ⟨t, rfl⟩ := ri
  obtain ⟨its, n, r, ho, hz⟩ := I.lst hp
  obtain ⟨h1, h2, h3, h4⟩ := ixN_seq hj
  have hl := r.length
  have hn := line63
  have I' : Inv X pins σ (upd H p (.lst (xs.set j v))) { s with heap := s.heap.update p (Obj.mapSeq (·.setIfInBounds j u)) } :=
    I.lstUpd hp ho (mapSeq_set its n j u) (r.set rv j) (by rw [List.length_set]; exact hz) s.toks
  by_cases h0 : 0 ≤ k
  · have hk : k.toNat = j := by
      rw [seqIndex_of h0 h4] at h1
      exact Option.some.inj h1
    exact PySem.W.ki_setAt ho h0 (by omega) (by rw [List.size_toArray, ← hl]; exact h4) (by rw [hk]; exact ⟨_, I', q⟩)
  · have hk : (k + (its.toArray.size : Int)).toNat = j := by
      rw [seqIndex_neg (by omega) h3] at h1
      rw [List.size_toArray, ← hl]
      exact Option.some.inj h1
    exact PySem.W.ki_setBack ho (by omega) (by rw [List.size_toArray, ← hl]; exact h3) (by omega) (by rw [hk]; exact ⟨_, I', q⟩)

theorem call_len_seq : CallR X (.builtin "len") (fun xs H Q => ∃ p ys, xs = [.ref p] ∧ (SqL X.K H p ys ∨ SqT X.K H p ys) ∧ Q (.int ys.length) H) := by
  intro pins s σ H xs us Q I r h
  obtain ⟨p, ys, rfl, hq, q⟩ := h
  obtain ⟨u, rfl, rx⟩ := vals1 r
  cases rx
  have hn := line63
  rcases hq with hq | hq
  · obtain ⟨its, r', pl, hz⟩ := I.list hq
    have hlen := r'.length
    exact Calls.call_len_list pl.isList (by simp only [List.size_toArray] <;> omega) ⟨.int ys.length, H, I.tok _, ⟨s.toks + 1, by rw [List.size_toArray, hlen]⟩, q⟩
  · obtain ⟨its, r', pl, hz⟩ := I.tuple hq
    have hlen := r'.length
    exact len_tuple pl (by simp only [List.size_toArray] <;> omega) ⟨.int ys.length, H, I.tok _, ⟨s.toks + 1, by rw [List.size_toArray, hlen]⟩, q⟩
theorem call_len_str : CallR X (.builtin "len") (fun xs H Q => ∃ z, xs = [.str z] ∧ z.length ≤ sizeLine ∧ Q (.int z.length) H) := by
  intro pins s σ H xs us Q I r h
  obtain ⟨z, rfl, hz, q⟩ := h
  obtain ⟨u, rfl, t, rfl⟩ := vals1 r
  have hn := line63
  exact len_str (by omega) ⟨.int z.length, H, I.tok _, ⟨_, rfl⟩, q⟩
theorem call_list_of : CallR X (.type "list") (fun xs H Q => ∃ p ys, xs = [.ref p] ∧ (SqL X.K H p ys ∨ SqT X.K H p ys) ∧ ∀ l, H l = none → Q (.ref l) (upd H l (.lst ys))) := by
  intro pins s σ H xs us Q I r h
  obtain ⟨p, ys, rfl, hq, q⟩ := h
  obtain ⟨u, rfl, rx⟩ := vals1 r
  cases rx
  have fin : ∀ (its : List Value), Vals ys its → ys.length ≤ sizeLine → ∀ (h' : Heap) (c' : Nat), (∀ b o', s.heap.get? b = some o' → h'.get? b = some o') →
      h'.get? s.heap.objs.size = some { cls := .type "list", dict := none, data := .seq its.toArray c', slots := #[] } → EP X pins σ Q (.ref s.heap.objs.size) { s with heap := h' } := fun its r' hz h' c' kp e =>
    ⟨.ref s.heap.objs.size, _, I.laid (t' := s.toks) kp (Nat.le_refl _) (show ObjOk X.prog X.w _ h' _ (.lst ys) from ⟨hz, its, c', r', e⟩), rfl, q _ (I.hok.fresh (Nat.le_refl _))⟩
  rcases hq with hq | hq
  · obtain ⟨its, r', pl, hz⟩ := I.list hq
    have hlen := r'.length
    obtain ⟨o, ho, hc, n, hd⟩ := pl.isList
    exact call_list_seq p (.inl rfl) ho hc hd (fun h' c' kp e => fin its r' hz h' c' kp e) (by simp only [List.size_toArray] <;> omega)
  · obtain ⟨its, r', pl, hz⟩ := I.tuple hq
    have hlen := r'.length
    obtain ⟨o, ho, hc, n, hd⟩ := pl
    exact call_list_seq p (.inr rfl) ho hc hd (fun h' c' kp e => fin its r' hz h' c' kp e) (by simp only [List.size_toArray] <;> omega)
theorem call_tuple_of : CallR X (.type "tuple") (fun xs H Q => ∃ p ys, xs = [.ref p] ∧ ((SqL X.K H p ys ∧ ∀ l, H l = none → Q (.ref l) (upd H l (.tup ys))) ∨ (SqT X.K H p ys ∧ Q (.ref p) H))) := by
  intro pins s σ H xs us Q I r h
  obtain ⟨p, ys, rfl, h⟩ := h
  obtain ⟨u, rfl, rx⟩ := vals1 r
  cases rx
  rcases h with ⟨hq, q⟩ | ⟨hq, q⟩
  · obtain ⟨its, r', pl, hz⟩ := I.list hq
    have hlen := r'.length
    refine call_tuple_list pl.isList (fun h' kp => ?_) (by simp only [List.size_toArray] <;> omega)
    have I1 : Inv X pins σ H { s with heap := h' } := I.kept (t' := s.toks) kp
    have I2 : Inv X pins σ (upd H h'.objs.size (.tup ys)) { s with heap := h'.push { cls := .type "tuple", data := .seq its.toArray } } :=
      I1.laid (t' := s.toks) (fun b o e => Heap.get?_push_of_some _ e) (Nat.le_refl _) (show ObjOk X.prog X.w _ _ _ (.tup ys) from ⟨hz, its, r', IsTup.new _ _⟩)
    exact ⟨.ref h'.objs.size, _, I2, rfl, q _ (I1.hok.fresh (Nat.le_refl _))⟩
  · obtain ⟨its, r', pl, hz⟩ := I.tuple hq
    exact call_tuple_same pl ⟨.ref p, H, I, rfl, q⟩

def tyV (K : PySem.W.Frag) (T : String) (x : V) (H : Hp) : Prop := match x with
  | .str _ => T = "str"
  | .int _ => T = "int"
  | .ref p => (T = "list" ∧ ∃ xs, SqL K H p xs) ∨ (T = "tuple" ∧ ∃ o, K.lookup p = some o ∧ o.cls = .type "tuple" ∧ o.dict = none) ∨
      (T = "dict" ∧ ((∃ kvs, H p = some (.dK kvs)) ∨ ∃ kvs, H p = some (.dT kvs))) ∨ (T = "set" ∧ ∃ S n, H p = some (.set S n))
  | _ => False
theorem tyV_is {pins : List (Addr × Obj)} {σ : St} {H : Hp} {s : Shared} {T : String} {x : V} {v : Value} (I : Inv X pins σ H s) (r : RelV x v) (ty : tyV X.K T x H) :
    s.TypeIs v T ∧ ∀ a, v = .ref a → ∃ ob, s.heap.get? a = some ob ∧ ob.dict = none := by
  cases x with
  | str z =>
    obtain ⟨t, rfl⟩ := r
    cases (show T = "str" from ty)
    exact ⟨typeIs_str s z t, fun _ e => nomatch e⟩
  | int i =>
    obtain ⟨t, rfl⟩ := r
    cases (show T = "int" from ty)
    exact ⟨typeIs_int s i t, fun _ e => nomatch e⟩
  | ref p =>
    cases r
    rcases ty with ⟨rfl, xs, hq⟩ | ⟨rfl, o, hk, hc, hd⟩ | ⟨rfl, hk⟩ | ⟨rfl, S, n, hk⟩
    · obtain ⟨its, _, pl, _⟩ := I.list hq
      refine ⟨pl.isList.typeIs, fun a e => ?_⟩
      cases e
      obtain ⟨o, n, e, c, hd, _⟩ := pl
      exact ⟨o, e, hd⟩
    · refine ⟨⟨o, I.kIn p o hk, hc⟩, fun a e => ?_⟩
      cases e
      exact ⟨o, I.kIn _ o hk, hd⟩
    · have z : ∃ o, s.heap.get? p = some o ∧ o.ExactDict := by
        rcases hk with ⟨kvs, hk⟩ | ⟨kvs, hk⟩
        · obtain ⟨_, _, _, _, o, _, _, e, ex, _⟩ := I.hok p _ hk
          exact ⟨o, e, ex⟩
        · obtain ⟨_, _, _, _, o, _, _, e, ex, _⟩ := I.hok p _ hk
          exact ⟨o, e, ex⟩
      obtain ⟨o, e, ex⟩ := z
      refine ⟨⟨o, e, ex.1⟩, fun a e2 => ?_⟩
      cases e2
      exact ⟨o, e, ex.2.1⟩
    · obtain ⟨o, _, _, _, e, ex, _⟩ := I.hok p _ hk
      refine ⟨⟨o, e, ex.1⟩, fun a e2 => ?_⟩
      cases e2
      exact ⟨o, e, ex.2.1⟩
  | _ => exact False.elim ty
def tBM (K : PySem.W.Frag) (T : String) (r : V → List V → Hp → VK → Prop) (to : TE) (t : TA) : TE := fun σ H Q => to σ H fun x H1 => tyV K T x H1 ∧ t σ H1 fun xs H2 => r x xs H2 Q
variable {o e : Expr} {es : List Expr} {to : TE} {t : TA} {name : Str} {apos cpos : Pos} {T id : String} {r : V → List V → Hp → VK → Prop}
theorem pe_bm (pa : PlainAttrs T) (slot : Slot T name id) (hty : typeOf (.builtin id) = pure (.type "method_descriptor")) (hm : MtR X id r) (ho : PE X o to) (ha : PA X (e :: es) t)
    (hbase : attributeBase o name X.env (eval o X.env) = eval o X.env := by rfl)
    (hfew : ((backTo cpos (starEach (e :: es) X.env)).all (fun x => !x.1) && (backToKw cpos (keywordEach [] X.env)).all (fun x => x.1.isSome)
      && decide ((e :: es).length + ([] : List Keyword).length + (if ([] : List Keyword).isEmpty then 0 else 1) < 30)) = true := by rfl)
    (hline : (apos.endLine == cpos.line) = true := by rfl) (hs : starEach (e :: es) X.env = (false, eval e X.env) :: starEach es X.env := by rfl) (hplain : (backTo cpos (starEach es X.env)).any (·.1) = false := by rfl) :
    PE X (.Call (.Attribute o name apos) (e :: es) [] cpos) (tBM X.K T r to t) := by
  intro pins s σ H Q I h
  refine wpAny_Call_method_late hbase hfew hline rfl (thn (ho pins s σ H _ I h) fun v s1 ⟨x, H1, I1, r1, ty, q1⟩ => ?_)
  obtain ⟨h1, h2⟩ := tyV_is I1 r1 ty
  refine ⟨T, id, pa, slot, hty, h1, h2, ?_⟩
  have hA := ha cpos pins s1 σ H1 _ I1 q1
  rw [hs] at hA ⊢
  refine Calls.callWith_builtin (by show (false || (backTo cpos (starEach es X.env)).any (·.1)) = false; rw [hplain] <;> rfl) (Calls.evalArgs_plain ?_)
  exact thn hA fun us s2 ⟨vs, H2, I2, r2, q2⟩ => hm pins s2 σ H2 x vs v us Q I2 r1 r2 q2
/- xs.append(e), list.index on a module's tuple .. are MtR facts of 06m -/
end
end L2

namespace L2
open PySem PySem.Spec PyProof.Rows

def MtM (X : Cx) (id : String) (r : V → List V → Hp → VK → Prop) : Prop :=
  ∀ (pins : List (Addr × Obj)) (s : Shared) (σ : St) (H : Hp) (x : V) (xs : List V) (v : Value) (us : List Value) (Q : VK), Inv X pins σ H s → RelV x v → Vals xs us → r x xs H Q →
    wpAny (model X.prog X.w) X.A (call (.builtin id) (v :: us)) (EP X pins σ Q) X.xe s

theorem Vals.one : ∀ {x : V} {us : List Value}, Vals [x] us → ∃ u, us = [u] ∧ RelV x u
  | _, _, .cons r .nil => ⟨_, rfl, r⟩
theorem Vals.rep {xs : List V} {us : List Value} (h : Vals xs us) : ∀ k : Nat, Vals (List.replicate k xs).flatten (List.replicate k us).flatten
  | 0 => .nil
  | k + 1 => by
    rw [List.replicate_succ, List.replicate_succ, List.flatten_cons, List.flatten_cons]
    exact Vals.append h (Vals.rep h k)
theorem foldl_rep (its : List Value) : ∀ (k : Nat) (acc : List Value),
    List.foldl (fun x1 x2 => x1 ++ x2) acc.toArray (List.replicate k its.toArray) = (acc ++ (List.replicate k its).flatten).toArray
  | 0, acc => by simp
  | k + 1, acc => by
    have e : acc.toArray ++ its.toArray = (acc ++ its).toArray := by simp
    have e2 : (acc ++ its) ++ (List.replicate k its).flatten = acc ++ (List.replicate (k + 1) its).flatten := by
      rw [List.replicate_succ, List.flatten_cons, List.append_assoc]
    rw [← e2, ← foldl_rep its k (acc ++ its), ← e, List.replicate_succ, List.foldl_cons]

section
variable {X : Cx} {pins : List (Addr × Obj)} {σ : St} {H : Hp} {s : Shared} {l b : Addr} {xs ys zs : List V}

theorem Inv.lset {its its' : List Value} {n : Nat} {f : Array Value → Array Value} {t' : Nat} (I : Inv X pins σ H s) (hH : H l = some (.lst xs))
    (e : s.heap.get? l = some { cls := .type "list", data := .seq its.toArray n }) (hf : f its.toArray = its'.toArray) (hv : Vals ys its') (hz : ys.length ≤ sizeLine) :
    Inv X pins σ (upd H l (.lst ys)) { s with heap := s.heap.update l (Obj.mapSeq f), toks := t' } := by
  have q := PySem.IsL.update e f
  rw [hf] at q
  refine I.write (x := l) (e := l) (by rw [hH]; exact trivial) (.inl rfl) (fun b' u hb hu => (Heap.get?_update_other s.heap (Obj.mapSeq f) (Ne.symm hb)).trans hu) ⟨_, q⟩ ?_
  exact ⟨hz, its', _, hv, q⟩
theorem Inv.lnew {its : List Value} {t' : Nat} (I : Inv X pins σ H s) (hv : Vals ys its) (hz : ys.length ≤ sizeLine) :
    Inv X pins σ (upd H s.heap.objs.size (.lst ys)) { s with heap := s.heap.push { cls := .type "list", data := .seq its.toArray }, toks := t' } :=
  I.laid (fun _ _ q => Heap.get?_push_of_some _ q) (Nat.le_refl _) ⟨hz, its, 0, hv, Heap.get?_push_size _ rfl⟩
theorem Inv.fresh (I : Inv X pins σ H s) : H s.heap.objs.size = none := I.hok.fresh (Nat.le_refl _)
theorem Inv.lstM (I : Inv X pins σ H s) (hH : H l = some (.lst xs)) : xs.length ≤ sizeLine ∧ ∃ (its : List Value) (n : Nat), Vals xs its ∧ xs.length = its.length ∧ s.heap.get? l = some { cls := .type "list", data := .seq its.toArray n } := by
  obtain ⟨z, its, n, r, e⟩ := I.hok l _ hH
  exact ⟨z, its, n, r, r.length, e⟩

theorem notLongL {n : Nat} (h : n ≤ sizeLine) : Builtin.List.listTooLong n = false := by
  unfold Builtin.List.listTooLong
  exact decide_eq_false (by omega)
end

section
variable {X : Cx}

inductive rAppend (x : V) (vs : List V) (H : Hp) (Q : VK) : Prop where
  | mk (l : _) (xs : _) (y : _) (h_0 : x = .ref l) (h_1 : vs = [y]) (h_2 : H l = some (.lst xs)) (h_3 : xs.length < sizeLine) (h_4 : Q .non (upd H l (.lst (xs ++ [y]))))
theorem mt_append : MtM X "list.append" rAppend := by
  intro pins s σ H x vs v us Q I rx rv h
  obtain ⟨l, xs, y, rfl, rfl, hH, hz, q⟩ := h
  cases rx
  obtain ⟨u, rfl, ru⟩ := rv.one
  obtain ⟨z, its, n, r, hl, e⟩ := I.lstM hH
  refine call_meets F.slot_list_append ⟨_, e, rfl⟩ F.entry_list_append (F.args_list_append_2 _ _) (PySem.list_append l its.toArray n u (by rw [List.size_toArray]; omega)) ⟨e, ?_⟩
  refine ⟨.non, _, I.lset (its' := its ++ [u]) hH e (by simp) (r.append (.cons ru .nil)) ?_, rfl, q⟩
  rw [List.length_append, List.length_singleton]
  omega

inductive rCat (x : V) (y : V) (H : Hp) (Q : VK) : Prop where
  | mk (l : _) (b : _) (xs : _) (zs : _) (h_0 : x = .ref l) (h_1 : y = .ref b) (h_2 : H l = some (.lst xs)) (h_3 : H b = some (.lst zs)) (h_4 : xs.length + zs.length ≤ sizeLine) (h_5 : ∀ p, H p = none → Q (.ref p) (upd H p (.lst (xs ++ zs))))
theorem op_cat : OpR X (binaryOp .Add) rCat := by
  intro pins s σ H x y v u Q I rx ry h
  obtain ⟨l, b, xs, zs, rfl, rfl, hH, hB, hz, q⟩ := h
  cases rx
  cases ry
  obtain ⟨z, its, n, r, hl, e⟩ := I.lstM hH
  obtain ⟨z2, its2, n2, r2, hl2, e2⟩ := I.lstM hB
  refine PySem.P.add_list e e2 ?_ (by rw [List.size_toArray, List.size_toArray]; omega)
  have ea : its.toArray ++ its2.toArray = (its ++ its2).toArray := by simp
  rw [ea]
  exact ⟨.ref _, _, I.lnew (t' := s.toks) (r.append r2) (by rw [List.length_append]; omega), rfl, q _ I.fresh⟩
inductive rRep (x : V) (y : V) (H : Hp) (Q : VK) : Prop where
  | mk (l : _) (k : _) (xs : _) (h_0 : x = .ref l) (h_1 : y = .int k) (h_2 : H l = some (.lst xs)) (h_3 : -(2 ^ 63) ≤ k) (h_4 : k < 2 ^ 63) (h_5 : xs.length * k.toNat ≤ sizeLine) (h_6 : ∀ p, H p = none → Q (.ref p) (upd H p (.lst (List.replicate k.toNat xs).flatten)))
theorem len_rep {α : Type} (xs : List α) (k : Nat) : (List.replicate k xs).flatten.length = k * xs.length := by
  induction k with
  | zero => simp
  | succ k ih => rw [List.replicate_succ, List.flatten_cons, List.length_append, ih, Nat.succ_mul, Nat.add_comm]
theorem op_rep : OpR X (binaryOp .Mult) rRep := by
  intro pins s σ H x y v u Q I rx ry h
  obtain ⟨l, k, xs, rfl, rfl, hH, h1, h2, hz, q⟩ := h
  cases rx
  obtain ⟨t, rfl⟩ := ry
  obtain ⟨z, its, n, r, hl, e⟩ := I.lstM hH
  have hlen : its.toArray.size * k.toNat ≤ sizeLine := by rw [List.size_toArray, ← hl]; exact hz
  have hcap : ¬ its.toArray.size * k.toNat > (2 ^ 63 - 1) / 8 := by
    have : (sizeLine : Nat) ≤ (2 ^ 63 - 1) / 8 := by decide
    omega
  have hfit : ¬ (!Builtin.List.listFitsIndex k) = true := by
    rw [fitsIndex_both h1 h2]
    exact Bool.false_ne_true
  have hlong : ¬ Builtin.List.listTooLong (its.toArray.size * k.toNat) = true := by
    rw [notLongL hlen]
    exact Bool.false_ne_true
  have hnew : List.foldl (fun x1 x2 => x1 ++ x2) #[] (List.replicate (if its.toArray.isEmpty = true then 0 else k.toNat) its.toArray) = (List.replicate k.toNat its).flatten.toArray := by
    have f0 : ∀ m : Nat, List.foldl (fun x1 x2 => x1 ++ x2) #[] (List.replicate m its.toArray) = (List.replicate m its).flatten.toArray := fun m => by
      have := foldl_rep its m []
      rw [List.nil_append] at this
      exact this
    rw [f0]
    cases its with
    | nil => simp
    | cons a r' => rw [if_neg (by simp)]
  refine wpAny_binaryOp_repeat_ref (T := "list") (U := "int") (by decide) ⟨_, e, rfl⟩ (fun s' => typeIs_int s' k t) noFill_list_mul F.fills_int_mul F.slot_int_rmul repeat_list F.slot_int_index.lookup
    (call_meets F.slot_int_rmul (typeIs_int s k t) F.entry_int_rmul (F.args_int_rmul_2 _ _) (int___rmul___int_list k t l its.toArray n)
      ⟨e, rfl, ⟨_, e, rfl⟩, call_meets F.slot_list_mul ⟨_, e, rfl⟩ F.entry_list_mul (F.args_list_mul_2 _ _) (AutoListH.list___mul___list_int_3 l its.toArray n k t hfit hcap hlong) ⟨e, ?_⟩⟩)
  rw [hnew]
  exact ⟨.ref _, _, I.lnew (t' := s.toks) (r.rep k.toNat) (by rw [len_rep, Nat.mul_comm]; exact hz), rfl, q _ I.fresh⟩

end

section
variable {prog : Program} {w : World} {A : Around} {E : Value → Shared → Prop} {s : Shared}
end

section
variable {X : Cx}
end
end L2

namespace Att
open PySem PySem.W PySem.Calls PyProof.Rows

theorem ints_of_wellAll {P : Params} {h : Heap} : ∀ (ns : List Int) (vs : List Value), WellAll P h vs (ns.map WData.int) → IntsAre vs ns := by
  intro ns
  induction ns with
  | nil =>
    intro vs w
    rw [List.map_nil] at w
    cases w
    exact .nil
  | cons n ns ih =>
    intro vs w
    rw [List.map_cons] at w
    cases w with
    | cons a b =>
      cases a
      exact .cons _ _ (ih _ b)

theorem script_of {l : OpenLaw} {n : Nat} (hn : l.most = some n) {P : Params} {h : Heap} {args : List WData} {vals : List Value}
    (hpre : l.row.toRowW.claim.pre args = true) (hwl : WellAll P h vals args) :
    ∃ a vs ns, vals = [Value.ref a] ∧ args = [WData.list (ns.map WData.int)] ∧ h.get? a = some { cls := .type "list", data := .seq vs.toArray } ∧ IntsAre vs ns ∧ ns.length ≤ n := by
  have hsh : WShape.hasAll [] args [.list .int] = true := (pre_splitW hpre).1
  have hc : l.pre.holds [] { args := args } = true := (pre_splitW hpre).2
  obtain ⟨d, r, rfl, h1, h2⟩ := hasAllW_cons hsh
  obtain rfl := hasAllW_nil h2
  obtain ⟨xs, rfl, h3⟩ := hasW_list h1
  obtain ⟨ns, rfl⟩ := items_int h3
  have hlen : ns.length ≤ n := by
    unfold OpenLaw.pre at hc
    have h4 : (WTm.not (.lt (.lit (.int (n : Int))) (.len (.arg 0)))).holds [] { args := [.list (ns.map .int)] } = true := by
      have h4 := (holds_andW hc).1
      rw [hn] at h4
      exact h4
    have h5 := condW_of h4 (w_not (w_lt w_lit (w_len_list (w_arg rfl))))
    rw [List.length_map] at h5
    refine Nat.le_of_not_lt fun q => ?_
    have q' : (n : Int) < ((ns.length : Nat) : Int) := by omega
    first
      | (rw [decide_eq_true q'] at h5; exact absurd h5 (by decide))
      | (simp at h5; omega)
  cases hwl with
  | cons w1 w2 =>
    cases w2
    cases w1 with
    | list ho hall => exact ⟨_, _, ns, rfl, rfl, ho, ints_of_wellAll ns _ hall, hlen⟩

theorem post_true (l : OpenLaw) (args : List WData) : l.row.toRowW.claim.post args (.bool true) args = true :=
  postW_of (r := l.row.toRowW) (X := (true == true))
    (show WShape.has [] (.bool true) .bool = true by first | rfl | decide | simp [WShape.has, WShape.arms, WShape.armsAll])
    (show (WTm.eq .res (.lit (.bool true))).value [] { args := args, res := some (.bool true), after := args } = some (.bool (true == true)) from w_eq_bool (w_res rfl) w_lit) rfl

section
variable {prog : Program} {w : World} {A : Around} {E : Value → Shared → Prop} {s : Shared} {K : Frag}

end
end Att

namespace L2
open PySem PySem.Spec PyProof.Rows

theorem vals_ints : ∀ {vs : List Value} {ns : List Int}, IntsAre vs ns → Vals (ns.map V.int) vs
  | _, _, .nil => .nil
  | _, _, .cons n t h => .cons ⟨t, rfl⟩ (vals_ints h)

def Only (H : Hp) : Prop := ∀ b, H b = none ∨ ∃ o xs, H b = some (.frz o (.lst xs))

end L2

namespace L2
open PySem PySem.Spec PyProof.Rows

end L2

/- THE LAST THEOREM (shape; LID, My.* are yours):
   My.Adr: a structure of the addresses that your layer names (classes, functions); My.Txt K t: a structure (Prop) of the equations over K;
   My.txt_mk : {K} {implicit addresses ..} (e1 : nsIn K mainGlobals "law" = some (some (.ref f))) (e2 : K.lookup f = some ⟨oc, od, .func (fnOf "law" "law" params body scope dV kV doc pm an cdv ct), sl⟩) (e3 : codeIn K cdv "law" = true) .. : ∃ t, My.Txt K t

(the tactic k_is has no namespace: write k_is) -/

namespace L2
open PySem PySem.Spec PyProof.Rows

def defArgs (s : Stmt) : Arguments := match s with
  | .FunctionDef _ a _ _ _ _ _ _ _ _ => a
  | _ => { posonlyargs := [], args := [], vararg := none, kwonlyargs := [], kw_defaults := [], kwarg := none, defaults := [] }
def defBody (s : Stmt) : List Stmt := match s with
  | .FunctionDef _ _ b _ _ _ _ _ _ _ => b
  | _ => []
def defScope (s : Stmt) : Scope := match s with
  | .FunctionDef _ _ _ _ _ _ sc _ _ _ => sc
  | _ => { kind := .function, names := [], isGenerator := false, isCoroutine := false }

abbrev CX0 : CXT := fun _ _ _ _ _ _ => False
abbrev E0 : XK := fun _ _ _ => False
theorem pass0 {X : Cx} : Passes CX0 X E0 := fun _ _ _ _ _ _ _ h => h.elim

structure Fun (K : PySem.W.Frag) (x qual : Str) (st : Stmt) (f : Addr) (fd : FuncData) : Prop where
  ex : ∃ (oc : Value) (od : Option Addr) (kV doc pm : Value) (an : Option Addr) (cdv ct : Value) (osl : Array (Option Value)),
    fd = PySem.W.fnOf x qual (defArgs st) (defBody st) (defScope st) .none kV doc pm an cdv ct ∧ K.lookup f = some ⟨oc, od, .func fd, osl⟩ ∧ PySem.W.codeIn K cdv qual = true
  kp : PySem.W.keepIn K (.ref f) = true
section
variable {P : Program} {w : World} {K : PySem.W.Frag} {mg : Str → Option Value} {base : Heap}
theorem Fun.ok {x qual : Str} {st : Stmt} {f : Addr} {fd : FuncData} {N ps : List Str} {k : Nat} {sp : Sp} (F : Fun K x qual st f fd) (S : FnScope N ps (defScope st)) (len : ∀ vs H Q E, sp vs H Q E → vs.length = ps.length)
    (hbody : ∀ (cdv : Value) (A : Around) (outer : List Env) (s : Shared) (H : Hp) (vs : List V) (Q : VK) (E : XK), Room k (A.deeper (envOfC qual (defScope st) s.heap.objs.size f cdv)) → sp vs H Q E →
      ∃ t, PSs (cxOf CX0 P w K mg base N qual (defScope st) f cdv A outer s H E).nox (defBody st) t ∧ t { nx := fun _ H' => Q .non H', rt := Q } (start N vs) H) : FnOk P w K mg base CX0 (k + 1) f fd ps sp := by
  obtain ⟨oc, od, kV, doc, pm, an, cdv, ct, osl, rfl, lk, hcd⟩ := F.ex
  refine fn_of lk hcd S len fun A outer s H vs Q E hr hsp => ?_
  obtain ⟨t, h, q⟩ := hbody cdv A outer s H vs Q E hr hsp
  exact ⟨t, h.nox, q⟩
theorem Fun.binds {x qual : Str} {st : Stmt} {f : Addr} {fd : FuncData} {ps : List Str} (F : Fun K x qual st f fd)
    (h : ∀ (kV doc pm : Value) (an : Option Addr) (cdv ct : Value) (us : List Value), us.length = ps.length → bindArgs (PySem.W.fnOf x qual (defArgs st) (defBody st) (defScope st) .none kV doc pm an cdv ct) ⟨us, []⟩ = pure (ps.zip us)) : Binds K fd ps [] := by
  obtain ⟨oc, od, kV, doc, pm, an, cdv, ct, osl, rfl, lk, hcd⟩ := F.ex
  exact .all (h kV doc pm an cdv ct)
theorem fun_mk {x qual : Str} {st : Stmt} {f : Addr} {oc : Value} {od an : Option Addr} {osl : Array (Option Value)} {kV doc pm cdv ct : Value} (l : K.lookup f = some ⟨oc, od, .func (PySem.W.fnOf x qual (defArgs st) (defBody st) (defScope st) .none kV doc pm an cdv ct), osl⟩)
    (c : PySem.W.codeIn K cdv qual = true) (k : PySem.W.keepIn K (.ref f) = true) : Fun K x qual st f (PySem.W.fnOf x qual (defArgs st) (defBody st) (defScope st) .none kV doc pm an cdv ct) := ⟨⟨oc, od, kV, doc, pm, an, cdv, ct, osl, rfl, l, c⟩, k⟩
end
section
variable {X : Cx}
theorem pv (i : Nat) {x : Str} {pos : Pos} (hN : X.N[i]? = some x := by rfl) (hv : Vis X.env.scope x := by first | exact Or.inl rfl | exact Or.inr (Or.inl rfl) | exact Or.inr (Or.inr rfl)) (hd : (x == ("__debug__" : Str)) = false := by decide)
    (hcd : (x == ("__classdict__" : Str)) = false := by decide) : PE X (.Name x pos) (tVar i) := pe_var hN hv hd hcd
end

theorem iteF {A B : Prop} (h : B) : if false = true then A else B := by
  rw [if_neg Bool.false_ne_true]
  exact h
theorem iteT {A B : Prop} (h : A) : if true = true then A else B := by
  rw [if_pos rfl]
  exact h
theorem ite2 {c A B : Prop} [Decidable c] (h1 : c → A) (h2 : ¬ c → B) : if c then A else B := by
  by_cases h : c
  · rw [if_pos h]
    exact h1 h
  · rw [if_neg h]
    exact h2 h
def Same (H H' : Hp) : Prop := ∀ b o, H b = some o → H' b = some o
theorem Same.refl (H : Hp) : Same H H := fun _ _ h => h
theorem Same.trans {H H1 H2 : Hp} (a : Same H H1) (b : Same H1 H2) : Same H H2 := fun c o h => b c o (a c o h)
theorem Same.free {H H' : Hp} (e : Same H H') {l : Addr} (h : H' l = Option.none) : H l = Option.none := by
  cases q : H l with
  | none => rfl
  | some o =>
    rw [e l o q] at h
    cases h
theorem Same.seq {K : PySem.W.Frag} {H H' : Hp} {a : Addr} {xs : List V} (e : Same H H') (h : SqL K H a xs) : SqL K H' a xs := by
  rcases h with (h | ⟨o, h⟩) | h
  · exact .inl (.inl (e _ _ h))
  · exact .inl (.inr ⟨o, e _ _ h⟩)
  · exact .inr h

end L2
set_option Elab.async false
set_option linter.all false
set_option maxRecDepth 100000
set_option maxHeartbeats 4000000
namespace L2
open PySem PySem.Spec PyProof.Rows

theorem cells_look : ∀ (names : List (Str × NameKind)) (h : Heap) (acc : List (Str × Addr)) (x : Str) (c : Addr), (cellsFrom h.objs.size names acc).lookup x = some c →
    acc.lookup x = some c ∨ ((pushCells h names).IsCell c none ∧ h.objs.size ≤ c)
  | [], _, _, _, _, e => .inl e
  | (name, kind) :: r, h, acc, x, c, e => by
    unfold cellsFrom at e
    unfold pushCells
    split at e
    · rename_i hk
      rw [if_pos hk]
      have q := cells_look r (h.push { cls := .type "cell", data := .cell none }) ((name, h.objs.size) :: acc) x c (by rw [Heap.size_push]; exact e)
      rcases q with q | ⟨q, z⟩
      · rw [List.lookup_cons] at q
        cases hb : x == name with
        | true =>
          rw [hb] at q; cases q
          exact .inr ⟨⟨_, pushCells_keeps r _ _ _ (Heap.get?_push_size _ rfl), rfl⟩, Nat.le_refl _⟩
        | false => rw [hb] at q; exact .inl q
      · exact .inr ⟨q, by rw [Heap.size_push] at z; omega⟩
    · rename_i hk
      rw [if_neg hk]
      exact cells_look r h acc x c e
theorem cells_inj : ∀ (names : List (Str × NameKind)) (n : Nat) (acc : List (Str × Addr)), (∀ x c, acc.lookup x = some c → c < n) → (∀ x y c, acc.lookup x = some c → acc.lookup y = some c → x = y) →
    ∀ x y c, (cellsFrom n names acc).lookup x = some c → (cellsFrom n names acc).lookup y = some c → x = y
  | [], _, _, _, h => h
  | (name, kind) :: r, n, acc, hl, h => by
    unfold cellsFrom
    split
    · refine cells_inj r (n + 1) ((name, n) :: acc) (fun x c e => ?_) (fun x y c e1 e2 => ?_)
      · rw [List.lookup_cons] at e
        cases hb : x == name with
        | true => rw [hb] at e; cases e; exact Nat.lt_succ_self _
        | false => rw [hb] at e; exact Nat.lt_succ_of_lt (hl x c e)
      · rw [List.lookup_cons] at e1 e2
        cases hb : x == name with
        | true =>
          rw [hb] at e1; cases e1
          cases hb' : y == name with
          | true => rw [beq_iff_eq.mp hb, beq_iff_eq.mp hb']
          | false => rw [hb'] at e2; exact absurd (hl y _ e2) (Nat.lt_irrefl _)
        | false =>
          rw [hb] at e1
          cases hb' : y == name with
          | true => rw [hb'] at e2; cases e2; exact absurd (hl x _ e1) (Nat.lt_irrefl _)
          | false => rw [hb'] at e2; exact h x y c e1 e2
    · exact cells_inj r n acc hl h
theorem cells_own : ∀ (names : List (Str × NameKind)) (n : Nat) (acc : List (Str × Addr)) (x : Str) (c : Addr), (names.lookup x = some .cell ∨ ∀ c, acc.lookup x = some c → n ≤ c) → (cellsFrom n names acc).lookup x = some c → n ≤ c
  | [], _, _, x, c, h, e => by
    rcases h with h | h
    · cases h
    · exact h c e
  | (name, kind) :: r, n, acc, x, c, h, e => by
    unfold cellsFrom at e
    rw [List.lookup_cons] at h
    split at e
    · rename_i hk
      have : n ≤ c := by
        have q := cells_low r (n + 1) ((name, n) :: acc) n x c (by omega) ?_ e
        · exact q
        · cases hb : x == name with
          | true => exact .inr fun c' e' => by rw [List.lookup_cons, hb] at e'; cases e'; exact Nat.le_refl _
          | false =>
            rw [hb] at h
            rcases h with h | h
            · exact .inl h
            · exact .inr fun c' e' => by rw [List.lookup_cons, hb] at e'; exact h c' e'
      exact this
    · rename_i hk
      refine cells_own r n acc x c ?_ e
      cases hb : x == name with
      | true =>
        rw [hb] at h
        rcases h with h | h
        · cases h; exact absurd rfl hk
        · exact .inr h
      | false => rw [hb] at h; exact h
where
  cells_low : ∀ (names : List (Str × NameKind)) (n : Nat) (acc : List (Str × Addr)) (lo : Nat) (x : Str) (c : Addr), lo ≤ n → (names.lookup x = some .cell ∨ ∀ c, acc.lookup x = some c → lo ≤ c) → (cellsFrom n names acc).lookup x = some c → lo ≤ c
  | [], _, _, _, x, c, _, h, e => by
    rcases h with h | h
    · cases h
    · exact h c e
  | (name, kind) :: r, n, acc, lo, x, c, hl, h, e => by
    unfold cellsFrom at e
    rw [List.lookup_cons] at h
    split at e
    · refine cells_low r (n + 1) ((name, n) :: acc) lo x c (by omega) ?_ e
      cases hb : x == name with
      | true => exact .inr fun c' e' => by rw [List.lookup_cons, hb] at e'; cases e'; exact hl
      | false =>
        rw [hb] at h
        rcases h with h | h
        · exact .inl h
        · exact .inr fun c' e' => by rw [List.lookup_cons, hb] at e'; exact h c' e'
    · rename_i hk
      refine cells_low r n acc lo x c hl ?_ e
      cases hb : x == name with
      | true =>
        rw [hb] at h
        rcases h with h | h
        · cases h; exact absurd rfl hk
        · exact .inr h
      | false => rw [hb] at h; exact h
theorem cells_old : ∀ (names : List (Str × NameKind)) (n : Nat) (acc : List (Str × Addr)) (x : Str), (∀ k, (x, k) ∈ names → k ≠ .cell) → (cellsFrom n names acc).lookup x = acc.lookup x
  | [], _, _, _, _ => rfl
  | (name, kind) :: r, n, acc, x, h => by
    unfold cellsFrom
    split
    · rename_i hk
      rw [cells_old r (n + 1) _ x fun k hm => h k (List.mem_cons_of_mem _ hm), List.lookup_cons]
      cases hb : x == name with
      | true => exact absurd (beq_iff_eq.mp hk) (h kind (by rw [beq_iff_eq.mp hb]; exact List.mem_cons_self))
      | false => rfl
    · exact cells_old r n acc x fun k hm => h k (List.mem_cons_of_mem _ hm)

theorem newEnv_comp {M : Model} {A : Around} {E : Value → Shared → Prop} {s : Shared} {scope : Scope} {env : Env} {cl : List (Str × Addr)} {Q : Env → Shared → Prop}
    (hQ : ∀ h', (∀ b o, s.heap.get? b = some o → h'.get? b = some o) → h'.Ns s.heap.objs.size (fun _ => none) →
      (∀ x c, (cellsFrom (s.heap.objs.size + 1) scope.names cl).lookup x = some c → cl.lookup x = some c ∨ (h'.IsCell c none ∧ s.heap.objs.size + 1 ≤ c)) →
      Q (newEnv scope s.heap.objs.size env.globals (cellsFrom (s.heap.objs.size + 1) scope.names cl) env.qual none .none (some env) builtinsNs) { s with heap := h' }) :
    wpAny M A (newFunctionEnv scope env.globals cl [] env.qual none .none (some env)) Q E s := by
  simp only [newFunctionEnv, Option.isSome_some, if_true]
  refine wpAny_bind (wpAny_alloc ?_)
  refine wpAny_bind (wpAny_layCells _ (fun name kind cells => by cases hkc : kind == NameKind.cell <;> simp [hkc]) _ _ _ _ ?_)
  rw [show ({ s with heap := s.heap.push { cls := .type "dict", data := .dict #[] } } : Shared).heap.objs.size = s.heap.objs.size + 1 from Heap.size_push ..]
  refine wpAny_bind (wpAny_pure (wpAny_pure ?_))
  have look := cells_look scope.names (s.heap.push { cls := .type "dict", data := .dict #[] }) cl
  rw [Heap.size_push] at look
  exact hQ _ (fun b o e => pushCells_keeps _ _ b o (Heap.get?_push_of_some _ e)) ((Heap.Ns.new s.heap (.type "dict")).keeps (pushCells_keeps _ _)) look

structure CompSc (env : Env) (scope : Scope) (cl : List (Str × Addr)) : Prop where
  kind : scope.kind = .function
  names : ∀ y ∈ scope.names, y.2 = .local → scope.names.lookup y.1 = some .local
  clos : closureFor scope env = pure cl
  sub : ∀ x c, cl.lookup x = some c → env.cells.lookup x = some c
  has : ∀ x, scope.names.lookup x = some .free → ∃ c, cl.lookup x = some c
  nocell : ∀ x, scope.names.lookup x = some .free → ∀ k, (x, k) ∈ scope.names → k ≠ .cell

def clOf (env : Env) : List (Str × NameKind) → List (Str × Addr) → List (Str × Addr)
  | [], acc => acc
  | (n, k) :: r, acc => if k == .free then clOf env r ((n, (env.cells.lookup n).getD 0) :: acc) else clOf env r acc
def freeB (env : Env) (names : List (Str × NameKind)) : Bool := names.all fun y => !(y.2 == .free) || (env.cells.lookup y.1).isSome
def nameB (names : List (Str × NameKind)) : Bool := names.all fun y => (!(y.2 == .local) || names.lookup y.1 == some .local) && (!(y.2 == .cell) || !(names.lookup y.1 == some .free))
theorem closureFor_go (env : Env) (f : Str × NameKind → List (Str × Addr) → Sem (ForInStep (List (Str × Addr))))
    (hf : ∀ name kind cs, f (name, kind) cs = if kind == .free then (do let c ← cellOf env name; pure (.yield ((name, c) :: cs))) else pure (.yield cs)) : ∀ (names : List (Str × NameKind)) (acc : List (Str × Addr)), freeB env names = true →
    (forIn names acc f : Sem (List (Str × Addr))) = pure (clOf env names acc)
  | [], acc, _ => rfl
  | (n, k) :: r, acc, h => by
    have h' : ((!(k == .free) || (env.cells.lookup n).isSome) && freeB env r) = true := h
    obtain ⟨h1, h2⟩ := Bool.and_eq_true_iff.mp h'
    rw [List.forIn_cons, hf]
    unfold clOf
    by_cases hk : (k == NameKind.free) = true
    · rw [hk, Bool.not_true, Bool.false_or] at h1
      obtain ⟨c, hc⟩ := Option.isSome_iff_exists.mp h1
      have e : cellOf env n = pure c := by unfold cellOf; rw [hc]
      rw [if_pos hk, if_pos hk, e, pure_bind, pure_bind]
      have := closureFor_go env f hf r ((n, c) :: acc) h2
      rw [hc]
      exact this
    · rw [if_neg hk, if_neg hk, pure_bind]
      exact closureFor_go env f hf r acc h2
theorem closureFor_all {env : Env} {scope : Scope} (h : freeB env scope.names = true) : closureFor scope env = pure (clOf env scope.names []) := by
  unfold closureFor
  dsimp only
  rw [closureFor_go env _ (fun name kind cs => by cases hk : kind == NameKind.free <;> simp [hk]) scope.names [] h, pure_bind]
theorem clOf_look (env : Env) : ∀ (names : List (Str × NameKind)) (acc : List (Str × Addr)), freeB env names = true → (∀ x c, acc.lookup x = some c → env.cells.lookup x = some c) → ∀ x c, (clOf env names acc).lookup x = some c → env.cells.lookup x = some c
  | [], _, _, h, x, c, e => h x c e
  | (n, k) :: r, acc, hf, h, x, c, e => by
    have h' : ((!(k == .free) || (env.cells.lookup n).isSome) && freeB env r) = true := hf
    obtain ⟨h1, h2⟩ := Bool.and_eq_true_iff.mp h'
    unfold clOf at e
    split at e
    · rename_i hk
      rw [hk, Bool.not_true, Bool.false_or] at h1
      obtain ⟨c0, hc0⟩ := Option.isSome_iff_exists.mp h1
      refine clOf_look env r _ h2 (fun y d q => ?_) x c e
      rw [List.lookup_cons] at q
      cases hb : y == n with
      | true => rw [hb] at q; rw [beq_iff_eq.mp hb, hc0]; rw [hc0] at q; exact q
      | false => rw [hb] at q; exact h y d q
    · exact clOf_look env r _ h2 h x c e
theorem clOf_has (env : Env) (x : Str) : ∀ (names : List (Str × NameKind)) (acc : List (Str × Addr)), (names.lookup x = some .free ∨ ∃ c, acc.lookup x = some c) → ∃ c, (clOf env names acc).lookup x = some c
  | [], _, h => by
    rcases h with h | h
    · cases h
    · exact h
  | (n, k) :: r, acc, h => by
    unfold clOf
    split
    · refine clOf_has env x r _ ?_
      rw [List.lookup_cons] at h
      cases hb : x == n with
      | true => exact .inr ⟨_, by rw [List.lookup_cons, hb]⟩
      | false =>
        rw [hb] at h
        rcases h with h | ⟨c, h⟩
        · exact .inl h
        · exact .inr ⟨c, by rw [List.lookup_cons, hb]; exact h⟩
    · rename_i hk
      refine clOf_has env x r _ ?_
      rw [List.lookup_cons] at h
      cases hb : x == n with
      | true =>
        rw [hb] at h
        rcases h with h | h
        · cases h; exact absurd rfl hk
        · exact .inr h
      | false => rw [hb] at h; exact h
theorem comp_sc {env : Env} {scope : Scope} (hk : scope.kind = .function) (hn : nameB scope.names = true) (hf : freeB env scope.names = true) : CompSc env scope (clOf env scope.names []) := by
  have hn' : ∀ y ∈ scope.names, ((!(y.2 == .local) || scope.names.lookup y.1 == some .local) && (!(y.2 == .cell) || !(scope.names.lookup y.1 == some .free))) = true := List.all_eq_true.mp hn
  refine ⟨hk, fun y hy e => ?_, closureFor_all hf, clOf_look env scope.names [] hf (fun x c h => by cases h), fun x h => clOf_has env x scope.names [] (.inl h), fun x h k hm e => ?_⟩
  · have := (Bool.and_eq_true_iff.mp (hn' y hy)).1
    rw [e] at this
    simpa using this
  · have := (Bool.and_eq_true_iff.mp (hn' (x, k) hm)).2
    subst e
    rw [h] at this
    simp at this

def cxComp (X : Cx) (Nc : List Str) (scope : Scope) (cl : List (Str × Addr)) (fp : List Addr) (pins : List (Addr × Obj)) (s3 : Shared) (H3 : Hp) : Cx where
  prog := X.prog
  w := X.w
  K := X.K
  mg := X.mg
  base := X.base
  A := X.A
  N := Nc
  s₀ := s3
  H₀ := H3
  env := compEnvC scope (cellsFrom (s3.heap.objs.size + 1) scope.names cl) s3.heap.objs.size X.env
  outer := X.stack
  stack := X.stack
  ex := fp
  calm := X.calm
  fn := fun x => decide (scope.names.lookup x = some .cell)
  pn := X.pn ++ pins
  xe := fun _ _ => False

theorem relabel_look {env : Env} : ∀ {names : List (Str × NameKind)} {x : Str} {k : NameKind}, (names.map fun (n, k) => if (k == NameKind.free && env.scope.kind == .function && env.kindOf n == some .cell) then (n, NameKind.cell) else (n, k)).lookup x = some k →
    names.lookup x = some k ∨ names.lookup x = some .free
  | [], _, _, h => by simp at h
  | (n, j) :: r, x, k, h => by
    have ih := @relabel_look env r x k
    rw [List.map_cons] at h
    by_cases hc : (j == NameKind.free && env.scope.kind == .function && env.kindOf n == some .cell) = true
    · simp only [hc, if_true] at h
      rw [List.lookup_cons] at h ⊢
      cases hx : x == n with
      | true =>
        simp only [Bool.and_eq_true] at hc
        right
        rw [beq_iff_eq.mp hc.1.1]
      | false => rw [hx] at h; exact ih h
    · have hc' : (j == NameKind.free && env.scope.kind == .function && env.kindOf n == some .cell) = false := by simpa using hc
      simp only [hc', Bool.false_eq_true, if_false] at h
      rw [List.lookup_cons] at h ⊢
      cases hx : x == n with
      | true => rw [hx] at h; exact .inl h
      | false => rw [hx] at h; exact ih h

section
variable {X : Cx} {pins : List (Addr × Obj)} {σ : St} {H : Hp} {s : Shared} {scope : Scope} {cl : List (Str × Addr)} {fp : List Addr} {Nc : List Str} {σc : St}

theorem comp_ok (S : CompSc X.env scope cl) (I : Inv X pins σ H s) (hf : ∀ b ∈ fp, FpOk X pins H b) (hfp : ∀ b ∈ fp, b < s.heap.objs.size) : (cxComp X Nc scope cl fp pins s H).Ok := by
  have clt : ∀ x c, cl.lookup x = some c → c < s.heap.objs.size + 1 := fun x c e => by
    obtain ⟨v, q⟩ := I.cell x c (S.sub x c e)
    exact Nat.lt_succ_of_lt q.lt
  refine ⟨I.ok.mod, S.kind, I.ok.glob, I.ok.blt, Nat.le_refl _, ?_, ?_, ?_, I.ok.hd, I.ok.frames, .inl rfl, ?_, I.bs, Nat.le_trans I.ok.bsz I.sz, ?_, ?_, I.stack, I.stkFree⟩
  · exact cells_inj scope.names _ cl clt fun x y c e1 e2 => I.ok.inj x y c (S.sub x c e1) (S.sub y c e2)
  · intro x hx
    have hx' : (relabel scope X.env).names.lookup x = some .cell ∨ (relabel scope X.env).names.lookup x = some .free := hx
    have : scope.names.lookup x = some .cell ∨ scope.names.lookup x = some .free := by
      rcases hx' with h | h
      · exact relabel_look h
      · rcases relabel_look h with h | h <;> exact .inr h
    rcases this with h | h
    · exact Option.isSome_iff_exists.mp (PySem.W.cellsFrom_some scope.names _ cl (.inl h))
    · obtain ⟨c, e⟩ := S.has x h
      exact Option.isSome_iff_exists.mp (PySem.W.cellsFrom_some scope.names _ cl (.inr (by rw [e]; rfl)))
  · intro x c hx e
    have hx' : scope.names.lookup x = some .cell := of_decide_eq_true hx
    have := cells_own scope.names _ cl x c (.inl hx') e
    exact Nat.le_of_succ_le this
  · intro b hb
    obtain ⟨f0, f1, f2, f3, f4, f5⟩ := hf b hb
    refine ⟨Nat.ne_of_lt (hfp b hb), fun x c e => ?_⟩
    have e' : (cellsFrom (s.heap.objs.size + 1) scope.names cl).lookup x = some c := e
    rcases cells_look scope.names (s.heap.push { cls := .type "dict", data := .dict #[] }) cl x c (by rw [Heap.size_push]; exact e') with q | ⟨_, q⟩
    · exact f4 x c (S.sub x c q)
    · rw [Heap.size_push] at q
      exact fun e => absurd (Nat.lt_of_lt_of_le (hfp b hb) (Nat.le_of_succ_le q)) (by rw [e]; exact Nat.lt_irrefl _)
  · intro b o e hb
    obtain ⟨f0, f1, f2, f3, f4, f5⟩ := hf b hb
    rcases f3 with z | z
    · exact I.ok.noex b o e z
    · exact absurd (Nat.lt_of_lt_of_le (Heap.lt_size e) (Nat.le_trans I.ok.bsz z)) (Nat.lt_irrefl _)
  · intro b hb hs
    obtain ⟨f0, f1, f2, f3, f4, f5⟩ := hf b hb
    rcases List.mem_cons.mp (I.stkSub b hs) with z | z
    · exact f1 z
    · exact f2 z

theorem comp_inv (S : CompSc X.env scope cl) (I : Inv X pins σ H s) (hf : ∀ b ∈ fp, FpOk X pins H b) (hfp : ∀ b ∈ fp, b < s.heap.objs.size) (hlen : σc.length = Nc.length)
    (hσ : ∀ (i : Nat) (x : Str) (v : V), Nc[i]? = some x → σc[i]? = some (some v) → scope.names.lookup x = some .free ∧ X.env.kindOf x ≠ some .local ∧ Vis X.env.scope x ∧ ∃ j : Nat, X.N[j]? = some x ∧ σ[j]? = some (some v))
    {h' : Heap} (hk : ∀ b o, s.heap.get? b = some o → h'.get? b = some o) (hns : h'.Ns s.heap.objs.size (fun _ => none))
    (hcl : ∀ x c, (cellsFrom (s.heap.objs.size + 1) scope.names cl).lookup x = some c → cl.lookup x = some c ∨ (h'.IsCell c none ∧ s.heap.objs.size + 1 ≤ c)) :
    Inv (cxComp X Nc scope cl fp pins s H) [] σc H { s with heap := h' } := by
  have cellOf : ∀ x c, cl.lookup x = some c → ∃ v, h'.IsCell c v ∧ H c = none := fun x c e => by
    obtain ⟨v, q⟩ := I.cell x c (S.sub x c e)
    exact ⟨v, q.keeps hk, I.freeC x c (S.sub x c e)⟩
  refine ⟨comp_ok S I hf hfp, rfl, I.bare, Un.kept hk, ⟨_, hns, fun i x v e1 e2 e3 => ?_⟩, fun x c e => ?_, I.hok.fresh (Nat.le_refl _), fun x c e => ?_, fun p hp => ?_, I.hok.kept hk, hlen⟩
  · obtain ⟨hx, hnl, hv, j, j1, j2⟩ := hσ i x v e1 e2
    obtain ⟨m, hn, hl⟩ := I.loc
    obtain ⟨u, r, l⟩ := hl j x v j1 j2 hv
    refine ⟨u, r, ?_⟩
    rcases l with ⟨k, _⟩ | ⟨k, c, ec, q⟩
    · exact absurd k hnl
    · obtain ⟨c', ec'⟩ := S.has x hx
      have := S.sub x c' ec'
      rw [ec] at this; cases this
      refine .inr ⟨?_, c, ?_, q.keeps hk⟩
      · -- its kind: relabelled, or free
        show (relabel scope X.env).names.lookup x = some .cell ∨ (relabel scope X.env).names.lookup x = some .free
        have look : ∀ {names : List (Str × NameKind)}, names.lookup x = some .free → (names.map fun (n, k) => if (k == NameKind.free && X.env.scope.kind == .function && X.env.kindOf n == some .cell) then (n, NameKind.cell) else (n, k)).lookup x = some .cell ∨
            (names.map fun (n, k) => if (k == NameKind.free && X.env.scope.kind == .function && X.env.kindOf n == some .cell) then (n, NameKind.cell) else (n, k)).lookup x = some .free := by
          intro names
          induction names with
          | nil => intro h; cases h
          | cons y r ih =>
            obtain ⟨n, j⟩ := y
            intro h
            rw [List.lookup_cons] at h
            rw [List.map_cons]
            cases hx : x == n with
            | true =>
              rw [hx] at h; cases h
              by_cases hc : (NameKind.free == NameKind.free && X.env.scope.kind == .function && X.env.kindOf n == some .cell) = true
              · simp only [hc, if_true, List.lookup_cons, hx]; exact .inl trivial
              · have hc' : (NameKind.free == NameKind.free && X.env.scope.kind == .function && X.env.kindOf n == some .cell) = false := by simpa using hc
                simp only [hc', Bool.false_eq_true, if_false, List.lookup_cons, hx]; exact .inr trivial
            | false =>
              rw [hx] at h
              have q := ih h
              by_cases hc : (j == NameKind.free && X.env.scope.kind == .function && X.env.kindOf n == some .cell) = true
              · simp only [hc, if_true, List.lookup_cons, hx]; exact q
              · have hc' : (j == NameKind.free && X.env.scope.kind == .function && X.env.kindOf n == some .cell) = false := by simpa using hc
                simp only [hc', Bool.false_eq_true, if_false, List.lookup_cons, hx]; exact q
        exact look hx
      · show (cellsFrom (s.heap.objs.size + 1) scope.names cl).lookup x = some c
        rw [cells_old _ _ _ _ (S.nocell x hx)]; exact ec'
  · rcases hcl x c e with q | q
    · obtain ⟨v, z, _⟩ := cellOf x c q
      exact ⟨v, z⟩
    · exact ⟨none, q.1⟩
  · rcases hcl x c e with q | q
    · obtain ⟨v, _, z⟩ := cellOf x c q
      exact z
    · exact I.hok.fresh (Nat.le_of_succ_le q.2)
  · have hp' : p ∈ X.pn ++ pins := by
      have : p ∈ (X.pn ++ pins) ++ [] := hp
      simpa using this
    obtain ⟨e, n, ne, nf, d⟩ := I.pin p hp'
    refine ⟨hk _ _ e, n, Nat.ne_of_lt (Heap.lt_size e), fun z => ?_, d⟩
    rcases List.mem_cons.mp (I.stkSub p.1 z) with z | z
    · exact ne z
    · exact nf z
end

def PF (X : Cx) (ifs : List Expr) (t : TT) : Prop :=
  ∀ (pins : List (Addr × Obj)) (s : Shared) (σ : St) (H : Hp) (Q : Bool → Hp → Prop), Inv X pins σ H s → t σ H Q →
    wpAny (model X.prog X.w) X.A (forIn ifs true fun c r => if r = true then do let ok ← isTrue c X.env (eval c X.env); pure (ForInStep.yield ok) else pure (ForInStep.yield r)) (TP X pins σ Q) X.xe s
def tYes : TT := fun _ H Q => Q true H
theorem pf_nil {X : Cx} : PF X [] tYes := fun _ _ _ H _ I h => wpAny_pure ⟨H, I, h⟩
theorem compLoop_gen {prog : Program} {w : World} {A : Around} {R : Result → Shared → Prop} {s : Shared} {elt target iter : Expr} {ifs : List Expr} {scope : Scope} {pos : Pos} {it acc : Value} {env : Env} (I : Nat → Shared → Prop)
    (turn : ∀ n s, I n s → wpAny (model prog w) A (pyNext it) (fun r s₁ => match r with
      | none => R (.ok .next) s₁
      | some v => wpAny (model prog w) A (letOwnedTupleGo target it v) (fun _ s₁' => wpAny (model prog w) A (assign target env v) (fun _ s₂ =>
          wpAny (model prog w) A (forIn ifs true fun c r => if r = true then do let ok ← isTrue c env (eval c env); pure (ForInStep.yield ok) else pure (ForInStep.yield r)) (fun ok s₃ =>
            if ok = true then wpAny (model prog w) A (eval elt env) (fun x s₄ =>
              wpAny (model prog w) A (call (.builtin "list.append") [acc, x]) (fun _ s₅ => ∃ m, m < n ∧ I m s₅) (fun _ _ => False) s₄) (fun _ _ => False) s₃
            else ∃ m, m < n ∧ I m s₃) (fun _ _ => False) s₂) (fun _ _ => False) s₁') (fun _ _ => False) s₁) (fun _ _ => False) s)
    (n : Nat) (h : I n s) :
    codeAny (model prog w) A (.compLoop (.ListComp elt [⟨target, iter, ifs, 0⟩] scope pos) 0 it acc env) R s := by
  refine codeAny_loop rfl I (fun n s hI => ?_) n h
  show wpAny _ A ((compTurn (.ListComp elt [⟨target, iter, ifs, 0⟩] scope pos) 0 it acc env).onRaise (fun x => do noteFrame x env; theTreesLotGoes x)) _ _ s
  refine wpAny_noted ?_
  rw [compTurn_list]
  refine wpAny_bind (wpAny_standAt (wpAny_bind (wpAny_mono (turn n s hI) (fun r s₁ h₁ => ?_) fun _ _ h' => h'.elim)))
  cases r with
  | none => exact wpAny_pure h₁
  | some v =>
    refine wpAny_bind (wpAny_mono h₁ (fun _ s₁' h₁' => ?_) fun _ _ h' => h'.elim)
    refine wpAny_bind (wpAny_mono h₁' (fun _ s₂ h₂ => wpAny_bind (wpAny_mono h₂ (fun ok s₃ h₃ => ?_) fun _ _ h' => h'.elim)) fun _ _ h' => h'.elim)
    cases ok with
    | false => exact wpAny_pure ⟨rfl, h₃⟩
    | true =>
      exact wpAny_bind (wpAny_bind (wpAny_mono h₃ (fun x s₄ h₄ => wpAny_bind (wpAny_mono h₄ (fun _ s₅ h₅ => wpAny_pure (wpAny_pure ⟨rfl, h₅⟩)) fun _ _ h' => h'.elim)) fun _ _ h' => h'.elim))

def compSt (fi : List (Option Nat)) (σ : St) : St := fi.map fun o => match o with
  | none => none
  | some j => (σ[j]?).join
abbrev CT (α : Type) := List Addr → List (Addr × Obj) → Shared → Hp → α
def CompW (J : It) (a : Addr) (σ0 : St) (H1 : Hp) (g : TG) (tc : TT) (te : TE) (Q : VK) : Prop :=
  ∃ W : Nat → Nat → St → Hp → Prop, (∃ m, W 0 m σ0 (upd H1 a (.lst []))) ∧ ∀ i m σc Hc, W i m σc Hc →
    (J.stop i Hc ∧ Q (.ref a) Hc) ∨ (J.go i Hc ∧ ∀ x H', J.yld i Hc x H' → g x σc H' fun σ2 H2 => tc σ2 H2 fun b H3' =>
      if b = true then te σ2 H3' fun y H4 => ∃ ys, H4 a = some (.lst ys) ∧ ys.length < sizeLine ∧ ∃ m', m' < m ∧ W (i + 1) m' σ2 (upd H4 a (.lst (ys ++ [y])))
      else ∃ m', m' < m ∧ W (i + 1) m' σ2 H3')
def tComp (fi : List (Option Nat)) (wi : TI) (g : CT TG) (tc : CT TT) (te : CT TE) : TE := fun σ H Q => wi σ H fun J H1 => ∀ fp pins s3 H3 a, H1 a = none →
  CompW J a (compSt fi σ) H1 (g fp pins s3 H3) (tc fp pins s3 H3) (te fp pins s3 H3) Q
def CompFrom (X : Cx) (scope : Scope) (Nc : List Str) (fi : List (Option Nat)) : Prop :=
  fi.length = Nc.length ∧ ∀ (i : Nat) (x : Str) (j : Nat), Nc[i]? = some x → fi[i]? = some (some j) → scope.names.lookup x = some .free ∧ X.env.kindOf x ≠ some .local ∧ Vis X.env.scope x ∧ X.N[j]? = some x

def cfB (sc : Scope) (env : Env) (N : List Str) : List Str → List (Option Nat) → Bool
  | [], [] => true
  | _ :: xs, none :: os => cfB sc env N xs os
  | x :: xs, some j :: os => (sc.names.lookup x == some .free) && ((env.scope.names.lookup x == some .cell) || (env.scope.names.lookup x == some .free)) && (N[j]? == some x) && cfB sc env N xs os
  | _, _ => false
theorem comp_from_go {X : Cx} {scope : Scope} : ∀ {Nc : List Str} {fi : List (Option Nat)}, cfB scope X.env X.N Nc fi = true → CompFrom X scope Nc fi
  | [], [], _ => ⟨rfl, fun i x j e => by simp at e⟩
  | _ :: xs, none :: os, h => by
    obtain ⟨h1, h2⟩ := comp_from_go (X := X) (scope := scope) (Nc := xs) (fi := os) h
    refine ⟨by rw [List.length_cons, List.length_cons, h1], fun i x j e1 e2 => ?_⟩
    cases i with
    | zero => simp at e2
    | succ i => exact h2 i x j (by simpa using e1) (by simpa using e2)
  | x :: xs, some k :: os, h => by
    have h' : ((scope.names.lookup x == some .free) && ((X.env.scope.names.lookup x == some .cell) || (X.env.scope.names.lookup x == some .free)) && (X.N[k]? == some x) && cfB scope X.env X.N xs os) = true := h
    simp only [Bool.and_eq_true, Bool.or_eq_true, beq_iff_eq] at h'
    obtain ⟨⟨⟨a1, a2⟩, a3⟩, a4⟩ := h'
    obtain ⟨h1, h2⟩ := comp_from_go (X := X) (scope := scope) (Nc := xs) (fi := os) a4
    refine ⟨by rw [List.length_cons, List.length_cons, h1], fun i y j e1 e2 => ?_⟩
    cases i with
    | zero =>
      simp at e1 e2
      subst e1; subst e2
      refine ⟨a1, ?_, ?_, a3⟩
      · show X.env.scope.names.lookup x ≠ some .local
        rcases a2 with a2 | a2 <;> rw [a2] <;> decide
      · rcases a2 with a2 | a2
        · exact .inr (.inl a2)
        · exact .inr (.inr a2)
    | succ i => exact h2 i y j (by simpa using e1) (by simpa using e2)
  | [], _ :: _, h => by cases h
  | _ :: _, [], h => by cases h

section
variable {X : Cx} {elt tg iter : Expr} {ifs : List Expr} {scope : Scope} {pos : Pos} {cl : List (Str × Addr)} {Nc : List Str} {fi : List (Option Nat)} {wi : TI} {g : CT TG} {tc : CT TT} {te : CT TE}

theorem comp_block (S : CompSc X.env scope cl) (hc : X.calm = true) (hfr : CompFrom X scope Nc fi)
    (hb : ∀ fp pins s3 H3, PG (cxComp X Nc scope cl fp pins s3 H3) tg (g fp pins s3 H3) ∧ PF (cxComp X Nc scope cl fp pins s3 H3) ifs (tc fp pins s3 H3) ∧ PE (cxComp X Nc scope cl fp pins s3 H3) elt (te fp pins s3 H3))
    {pins : List (Addr × Obj)} {σ : St} {Q : VK} {itv : Value} {s2 : Shared} {RR : Value → Addr → Result → Shared → Prop}
    (h2 : PIE X pins σ tg (fun J H1 => ∀ fp pins s3 H3 a, H1 a = none → CompW J a (compSt fi σ) H1 (g fp pins s3 H3) (tc fp pins s3 H3) (te fp pins s3 H3) Q) itv s2)
    (hRR : ∀ a C s' H' m, s'.heap.Ns C m → (∀ h', Heap.SameBut C s'.heap h' → Inv X pins σ H' { s' with heap := h' }) → FpOk X pins H' C → Q (.ref a) H' → RR (.ref a) C (.ok .next) s') :
    wpAny (model X.prog X.w) X.A (newList []) (fun acc s₃ => wpAny (model X.prog X.w) X.A (newFunctionEnv scope X.env.globals cl [] X.env.qual none .none (some X.env)) (fun cenv s₄ =>
      codeAny (model X.prog X.w) X.A (.compStart (.ListComp elt [⟨tg, iter, ifs, 0⟩] scope pos) 0 itv acc { cenv with scope := relabel scope X.env }) (RR acc cenv.locals) s₄) X.xe s₃) X.xe s2 := by
  obtain ⟨it, fp, tn, J, H2, e, I2, T, st2, f2, hR⟩ := h2
  subst e
  refine wpAny_newObj_type ?_
  have hfr2 : H2 s2.heap.objs.size = none := I2.hok.fresh (Nat.le_refl _)
  -- the list, tracked
  have I3 : Inv X pins σ (upd H2 s2.heap.objs.size (.lst [])) { s2 with heap := s2.heap.push { cls := .type "list", dict := none, data := .seq ([] : List Value).toArray } } :=
    I2.laid (t' := s2.toks) (fun b u e => Heap.get?_push_of_some _ e) (Nat.le_refl _) ⟨Nat.zero_le _, [], 0, .nil, Heap.get?_push_size _ rfl⟩
  obtain ⟨W, ⟨m0, w0⟩, turn⟩ := hR fp pins { s2 with heap := s2.heap.push { cls := .type "list", dict := none, data := .seq ([] : List Value).toArray } } (upd H2 s2.heap.objs.size (.lst [])) s2.heap.objs.size hfr2
  generalize hH3 : upd H2 s2.heap.objs.size (.lst []) = H3 at I3 w0 turn
  generalize hs3 : ({ s2 with heap := s2.heap.push { cls := .type "list", dict := none, data := .seq ([] : List Value).toArray } } : Shared) = s3 at I3 turn
  have hheap3 : s3.heap = s2.heap.push { cls := .type "list", dict := none, data := .seq ([] : List Value).toArray } := by rw [← hs3]
  have hsz3 : s3.heap.objs.size = s2.heap.objs.size + 1 := by rw [hheap3, Heap.size_push]
  have keep3 : ∀ b o, s2.heap.get? b = some o → s3.heap.get? b = some o := fun b o e => by rw [hheap3]; exact Heap.get?_push_of_some _ e
  have st3 : tn 0 s3.heap := T.keep _ _ _ st2 fun b _ o e => keep3 b o e
  have hfp : ∀ b ∈ fp, b < s2.heap.objs.size := fun b hb => by
    obtain ⟨o, e, _⟩ := T.obj _ _ st2 b hb
    exact Heap.lt_size e
  have f3 : ∀ b ∈ fp, FpOk X pins H3 b := fun b hb => by
    obtain ⟨f0, fr⟩ := f2 b hb
    refine ⟨?_, fr⟩
    rw [← hH3, upd_ne (Nat.ne_of_lt (hfp b hb))]; exact f0
  have hfp3 : ∀ b ∈ fp, b < s3.heap.objs.size := fun b hb => by rw [hsz3]; exact Nat.lt_succ_of_lt (hfp b hb)
  show wpAny _ _ _ _ _ s3
  refine newEnv_comp fun h4 hk4 hns4 hcl4 => ?_
  have hlen : (compSt fi σ).length = Nc.length := by rw [← hfr.1]; simp [compSt]
  have I4 : Inv (cxComp X Nc scope cl fp pins s3 H3) [] (compSt fi σ) H3 { s3 with heap := h4 } := by
    refine comp_inv S I3 f3 hfp3 hlen (fun i x v e1 e2 => ?_) hk4 hns4 hcl4
    unfold compSt at e2
    rw [List.getElem?_map] at e2
    cases ef : fi[i]? with
    | none => rw [ef] at e2; cases e2
    | some o =>
      rw [ef] at e2
      cases o with
      | none => cases e2
      | some j =>
        obtain ⟨q1, q2, q3, q4⟩ := hfr.2 i x j e1 ef
        have e2' : (σ[j]?).join = some v := Option.some.inj e2
        refine ⟨q1, q2, q3, j, q4, ?_⟩
        cases es : σ[j]? with
        | none => rw [es] at e2'; cases e2'
        | some z => rw [es] at e2'; cases z with
          | none => cases e2'
          | some z => cases e2'; rfl
  have st4 : tn 0 h4 := T.keep _ _ _ st3 fun b _ o e => hk4 b o e
  obtain ⟨pg, pf, pe⟩ := hb fp pins s3 H3
  -- the loop
  have loop : codeAny (model X.prog X.w) X.A (.compLoop (.ListComp elt [⟨tg, iter, ifs, 0⟩] scope pos) 0 (.ref it) (.ref s2.heap.objs.size) (cxComp X Nc scope cl fp pins s3 H3).env) (RR (.ref s2.heap.objs.size) s3.heap.objs.size) { s3 with heap := h4 } := by
    have stat : ∀ {H' : Hp}, (∀ b ∈ fp, H' b = none) → ∀ b ∈ fp, FpOk (cxComp X Nc scope cl fp pins s3 H3) [] H' b := fun hn b hb => by
      obtain ⟨f0, f1, f2', f3', f4, f5⟩ := f3 b hb
      have ok := I4.ok
      refine ⟨hn b hb, (ok.exf b hb).1, ok.exfs b hb, .inl hb, (ok.exf b hb).2, fun p hp => ?_⟩
      have : p ∈ X.pn ++ pins := by
        have : p ∈ (X.pn ++ pins) ++ [] := hp
        simpa using this
      exact f5 p this
    refine compLoop_gen (fun n s' => ∃ i σ' H', Inv (cxComp X Nc scope cl fp pins s3 H3) [] σ' H' s' ∧ tn i s'.heap ∧ (∀ b ∈ fp, H' b = none) ∧ W i n σ' H') ?_ m0 ⟨0, _, H3, I4, st4, fun b hb => (f3 b hb).1, w0⟩
    rintro n s5 ⟨i, σ5, H5, I5, st5, fr5, w5⟩
    rcases turn i n σ5 H5 w5 with ⟨stop, q⟩ | ⟨go, step⟩
    · refine thn (T.done (cxComp X Nc scope cl fp pins s3 H3) rfl rfl rfl hc i [] s5 σ5 H5 _ I5 (stat fr5) st5 stop) fun r s6 ⟨hr, I6⟩ => ?_
      subst hr
      obtain ⟨m, hn, _⟩ := id I6.loc
      refine hRR _ _ s6 H5 m hn (fun h' hs' => ?_) (I3.fpOk (Nat.le_refl _) I6.free) q
      · -- back in the body
        have ub : Un (frs X.stack) fp H3 H5 s3.heap s6.heap := I6.base
        have neC : ∀ b o, s3.heap.get? b = some o → b ≠ s3.heap.objs.size := fun b o e => Nat.ne_of_lt (Heap.lt_size e)
        have ub' : Un (frs X.stack) fp H3 H5 s3.heap h' :=
          ⟨fun b o e n hb hx => (hs'.2 b (neC b o e)).trans (ub.keep b o e n hb hx), fun b o e n hb hx => (ub.slot b o e n hb hx).imp fun sl z => (hs'.2 b (neC b o e)).trans z, ub.free, fun b o e hx => (ub.there b o e hx).imp fun o' z => (hs'.2 b (neC b o e)).trans z, ub.tups, ub.frzs, ub.tbls⟩
        have hok' : HOk X.prog X.w H5 h' := fun b ob e => by
          refine (I6.hok b ob e).stay (fun c w' hcc z => (hs'.2 c ?_).trans z) (fun _ _ _ z => z) (fun _ z => z) fun _ _ z => z
          rintro rfl
          have hfree : H5 s3.heap.objs.size = none := I6.free
          rcases hcc with z | z
          · have z' : s3.heap.objs.size = b := z
            rw [← z', hfree] at e; cases e
          · have z' : H5 s3.heap.objs.size = some (.own b) := z
            rw [hfree] at z'; cases z'
        exact I3.call' (s' := { s6 with heap := h' }) (ch := fp) I6.os ub' hok' I6.bare fun b hb => by
          obtain ⟨f0, f1, f2', f3', f4, f5⟩ := f3 b hb
          exact ⟨f3', f1, f4, f5⟩
    · refine thn (T.item (cxComp X Nc scope cl fp pins s3 H3) rfl rfl rfl hc i [] s5 σ5 H5 _ I5 (stat fr5) st5 go) fun r s6 ⟨u, hr, h6⟩ => ?_
      subst hr
      refine thn h6 fun _ s7 ⟨x, H7, I7, r7, y7, st7, fr7⟩ => ?_
      have I7' := I7.pinned (stat fr7) (T.obj _ _ st7)
      refine thn (pg _ s7 σ5 H7 x u _ I7' r7 (step x H7 y7)) fun _ s8 ⟨σ8, H8, I8, q8⟩ => ?_
      refine thn (pf _ s8 σ8 H8 _ I8 q8) fun ok s9 ⟨H9, I9, q9⟩ => ?_
      have again : ∀ {σ' : St} {H' : Hp} {s' : Shared}, Inv (cxComp X Nc scope cl fp pins s3 H3) ([] ++ pinsAt fp s7.heap) σ' H' s' → (∃ m', m' < n ∧ W (i + 1) m' σ' H') →
          ∃ m, m < n ∧ ∃ i σ' H', Inv (cxComp X Nc scope cl fp pins s3 H3) [] σ' H' s' ∧ tn i s'.heap ∧ (∀ b ∈ fp, H' b = none) ∧ W i m σ' H' := fun {σ' H' s'} I' ⟨m', hm, w'⟩ => by
        refine ⟨m', hm, i + 1, σ', H', I'.unpinned, T.keep _ _ _ st7 fun b hb o e => (I'.pin (b, o) (List.mem_append_right _ (List.mem_append_right _ (mem_pinsAt hb e)))).1, fun b hb => ?_, w'⟩
        obtain ⟨o, e, d⟩ := T.obj _ _ st7 b hb
        exact (I'.pin (b, o) (List.mem_append_right _ (List.mem_append_right _ (mem_pinsAt hb e)))).2.1
      cases ok with
      | false => exact again I9 q9
      | true =>
        rw [if_pos rfl]
        refine thn (pe _ s9 σ8 H9 _ I9 q9) fun y s10 ⟨yv, H10, I10, r10, ys, ha, hz, q10⟩ => ?_
        refine thn (mt_append _ s10 σ8 H10 (.ref s2.heap.objs.size) [yv] (.ref s2.heap.objs.size) [y] (fun _ H' => ∃ m', m' < n ∧ W (i + 1) m' σ8 H') I10 rfl (.cons r10 .nil) ⟨_, ys, yv, rfl, rfl, ha, hz, q10⟩) fun _ s11 ⟨_, H11, I11, _, q11⟩ => ?_
        exact again I11 q11
  exact codeAny_compStart_list loop (T.self X.A 0 _ _ _ st4 loop)

theorem pe_comp (S : CompSc X.env scope cl) (hc : X.calm = true) (hfr : CompFrom X scope Nc fi) (hi : PI X tg iter wi)
    (hb : ∀ fp pins s3 H3, PG (cxComp X Nc scope cl fp pins s3 H3) tg (g fp pins s3 H3) ∧ PF (cxComp X Nc scope cl fp pins s3 H3) ifs (tc fp pins s3 H3) ∧ PE (cxComp X Nc scope cl fp pins s3 H3) elt (te fp pins s3 H3))
    (hs : ∀ x, foldedSetIterable iter X.env x = pure x := by intro _; rfl) : PE X (.ListComp elt [⟨tg, iter, ifs, 0⟩] scope pos) (tComp fi wi g tc te) := by
  intro pins s σ H Q I h
  rw [eval_ListComp]
  refine wpAny_comprehension_free (use := none) rfl hs S.clos S.kind S.names (thn (hi pins s σ H _ I h) fun v s1 h1 => thn h1 fun itv s2 h2 => ?_)
  refine comp_block (Q := Q) (RR := fun acc C => compPost (model X.prog X.w) X.A X.xe none (EP X pins σ Q) acc C) S hc hfr hb h2 ?_
  intro a C s' H' m hn hI _ q
  exact ⟨m, hn, fun h' hs' => ⟨.ref a, H', hI h' hs', rfl, q⟩⟩

theorem ps_setComp {i : Nat} {y : Str} {py spos : Pos} (S : CompSc X.env scope cl) (hc : X.calm = true) (hfr : CompFrom X scope Nc fi) (hN : X.N.Nodup) (hiy : X.N[i]? = some y) (hy : X.env.kindOf y = some .local) (hi : PI X tg iter wi)
    (hb : ∀ fp pins s3 H3, PG (cxComp X Nc scope cl fp pins s3 H3) tg (g fp pins s3 H3) ∧ PF (cxComp X Nc scope cl fp pins s3 H3) ifs (tc fp pins s3 H3) ∧ PE (cxComp X Nc scope cl fp pins s3 H3) elt (te fp pins s3 H3))
    (hsw : swapsWith (.ListComp elt [⟨tg, iter, ifs, 0⟩] scope pos) (some (.Name y py)) spos.line X.env = pure true)
    (hs : ∀ x, foldedSetIterable iter X.env x = pure x := by intro _; rfl) : PS X (.Assign [.Name y py] (.ListComp elt [⟨tg, iter, ifs, 0⟩] scope pos) spos) (tAsg (tComp fi wi g tc te) (gName i)) := by
  intro pins s σ H D I h
  rw [exec_Assign_Name_used _ _ _ _ hsw]
  refine wpAny_bind (wpAny_standAt (wpAny_bind ?_))
  show wpAny _ X.A (do let _ ← comprehension (.ListComp elt [⟨tg, iter, ifs, 0⟩] scope pos) scope X.env _ (newList []) false (eval iter X.env) (some (assign (.Name y py) X.env))) _ _ s
  refine wpAny_bind (wpAny_mono (wpAny_comprehension_free (use := some (assign (.Name y py) X.env)) (Q := fun _ s' => SP X pins D .next s') rfl hs S.clos S.kind S.names
    (thn (hi pins s σ H _ I h) fun v s1 h1 => thn h1 fun itv s2 h2 => ?_)) (fun _ s' hq => wpAny_pure (wpAny_pure hq)) fun _ _ e => e)
  refine comp_block (Q := fun v H' => gName i v σ H' D.nx) (RR := fun acc C => compPost (model X.prog X.w) X.A X.xe (some (assign (.Name y py) X.env)) (fun _ s' => SP X pins D .next s') acc C) S hc hfr hb h2 ?_
  intro a C s' H' m hn hI ⟨f0, f1, f2, f3, f4, f5⟩ q
  show wpAny _ X.A (assign (.Name y py) X.env (.ref a)) _ _ _
  have I' : Inv X pins σ H' s' := hI s'.heap (Heap.SameBut.refl ..)
  obtain ⟨mL, hnL, _⟩ := id I'.loc
  refine wpAny_assign_Name (store_ok2 I' hN hiy (.inl hy) (v := .ref a) rfl (fun s'' I'' ⟨b, sb, hbL⟩ => ?_) (.inr hy))
  have hb' : b ≠ C := by
    rcases hbL with z | z
    · rw [z]; exact Ne.symm f1
    · intro e
      exact f4 y b z e
  refine ⟨m, hn.sameBut sb (Ne.symm hb'), fun h3 hs3 => ?_⟩
  refine ⟨σ.set i (some (.ref a)), H', ?_, q⟩
  -- the frame of the comprehension changed behind the store
  have keep : ∀ b o, b ≠ C → s''.heap.get? b = some o → h3.get? b = some o := fun b o hb e => (hs3.2 b hb).trans e
  exact Inv.turned (t' := s''.toks) (it := C) I'' keep f0 f1 f3 f4 f5
end
end L2
set_option Elab.async false
set_option linter.all false
set_option maxRecDepth 100000
set_option maxHeartbeats 4000000
namespace PySem.L3
open PySem
theorem boot_len : bootBuiltins "len" = some (.builtin "len") := by decide +kernel
theorem boot_abs : bootBuiltins "abs" = some (.builtin "abs") := by decide +kernel
theorem boot_any : bootBuiltins "any" = some (.builtin "any") := by decide +kernel
theorem boot_all : bootBuiltins "all" = some (.builtin "all") := by decide +kernel
theorem boot_isinstance : bootBuiltins "isinstance" = some (.builtin "isinstance") := by decide +kernel
theorem boot_tuple : bootBuiltins "tuple" = some (.type "tuple") := by decide +kernel
theorem boot_list : bootBuiltins "list" = some (.type "list") := by decide +kernel
theorem boot_bool : bootBuiltins "bool" = some (.type "bool") := by decide +kernel
theorem boot_int : bootBuiltins "int" = some (.type "int") := by decide +kernel
theorem boot_str : bootBuiltins "str" = some (.type "str") := by decide +kernel
end PySem.L3

namespace L2
open PySem PySem.Spec PyProof.Rows

def Cal (P : Program) (w : World) (K : PySem.W.Frag) (mg : Str → Option Value) (base : Heap) (k : Nat) (x : Str) (sp : Sp) : Prop :=
  ∃ f fd ps, FnOk P w K mg base CX0 k f fd ps sp ∧ Binds K fd ps [] ∧ PySem.W.keepIn K (.ref f) = true ∧ mg x = some (.ref f)
def tCl (sp : Sp) (t : TA) : TE := fun σ H Q => t σ H fun vs H1 => sp vs H1 Q E0
section
variable {X : Cx} {k : Nat} {x : Str} {sp : Sp} {p pos : Pos} {e : Expr} {es : List Expr} {t : TA}
theorem pe_c (C : Cal X.prog X.w X.K X.mg X.base k x sp) (hr : Room k X.A) (hg : Gl X x) (ha : PA X (e :: es) t) (hdb : (x == ("__debug__" : Str)) = false := by decide)
    (he : starEach (e :: es) X.env = (false, eval e X.env) :: starEach es X.env := by rfl) (hpl : (backTo pos (starEach es X.env)).any (·.1) = false := by rfl) : PE X (.Call (.Name x p) (e :: es) [] pos) (tCl sp t) := by
  obtain ⟨f, fd, ps, F, hb, hk, hm⟩ := C
  have q := pe_call (dvs := []) (E := E0) (p := p) (pos := pos) F hr hg hm hk hb .nil pass0 ha hdb he hpl
  intro pins s σ H Q I h
  refine q pins s σ H Q I ?_
  show t σ H fun vs H1 => sp (vs ++ []) H1 Q E0
  have e0 : (fun vs H1 => sp (vs ++ []) H1 Q E0) = fun vs H1 => sp vs H1 Q E0 := by funext vs H1; rw [List.append_nil]
  rw [e0]; exact h
end
theorem cal_mk {P : Program} {w : World} {K : PySem.W.Frag} {mg : Str → Option Value} {base : Heap} {k : Nat} {x : Str} {sp : Sp} {f : Addr} {fd : FuncData} {ps : List Str}
    (F : FnOk P w K mg base CX0 k f fd ps sp) (b : Binds K fd ps []) (kp : PySem.W.keepIn K (.ref f) = true) (m : mg x = some (.ref f)) : Cal P w K mg base k x sp := ⟨f, fd, ps, F, b, kp, m⟩

section
variable {X : Cx}
theorem call_isinstance : CallR X (.builtin "isinstance") (fun xs H Q => ∃ x T t b, xs = [x, .ty T] ∧ TyOf X.K H x t ∧ PySem.W.kitOne X.K t (.type T) = some b ∧ Q (.bl b) H) := by
  intro pins s σ H xs us Q I rv h
  obtain ⟨x, T, t, b, rfl, ty, e, q⟩ := h
  obtain ⟨u, u', rfl, rx, rt⟩ := vals2 rv
  cases rt
  exact isinst_ok I rx ty e fun tk => ⟨.bl b, H, I.tok tk, rfl, q⟩

theorem bools_of : ∀ {bs : List Bool} {its : List Value}, Vals (bs.map V.bl) its → its = bs.map Value.bool
  | [], _, r => by cases r; rfl
  | b :: bs, _, r => by
    cases r with
    | cons r1 r2 => cases r1; rw [bools_of r2]; rfl
theorem range_any (bs : List Bool) : (List.range bs.length).any (fun i => bs.getD i false) = bs.any id := by
  induction bs with
  | nil => rfl
  | cons b bs ih =>
    rw [List.length_cons, List.range_succ_eq_map, List.any_cons, List.any_map, List.any_cons]
    simpa [Function.comp_def] using congrArg (b || ·) ih
theorem range_all (bs : List Bool) : (List.range bs.length).all (fun i => bs.getD i false) = bs.all id := by
  induction bs with
  | nil => rfl
  | cons b bs ih =>
    rw [List.length_cons, List.range_succ_eq_map, List.all_cons, List.all_map, List.all_cons]
    simpa [Function.comp_def] using congrArg (b && ·) ih
theorem walk_bools {pins : List (Addr × Obj)} {s : Shared} {σ : St} {H : Hp} {p : Addr} {bs : List Bool} {R : Bool → Bool} {E : Value → Shared → Prop} (hc : X.calm = true) (I : Inv X pins σ H s) (hq : SqL X.K H p (bs.map V.bl))
    {QQ : (Nat → Bool) → Nat → Shared → Prop} (hQ : ∀ h' tk, (∀ b o, s.heap.get? b = some o → h'.get? b = some o) → QQ (fun i => bs.getD i false) bs.length { s with heap := h', toks := tk }) :
    wpAny (model X.prog X.w) X.A.in1 (pyIter (.ref p)) (fun it s₂ => ∃ I fp wr n P St tr, it = .ref I ∧ Walks X.prog X.w X.A.in1 I fp wr n P St ∧ St 0 s₂.heap ∧ TruthOf X.prog X.w X.A.in1 P tr ∧
      ∀ h' tk, (∀ b o, b ∉ wr → s₂.heap.get? b = some o → h'.get? b = some o) → QQ tr n { s₂ with heap := h', toks := tk }) E s := by
  obtain ⟨its, rv, pl, hz⟩ := I.list hq
  have e := bools_of rv
  subst e
  have hl := pl.isList
  have hax : p < s.heap.objs.size := by obtain ⟨_, e, _⟩ := hl; exact Heap.lt_size e
  refine wpAny_pyIter_list hl ?_
  refine ⟨s.heap.objs.size, [s.heap.objs.size, p], [s.heap.objs.size], (bs.map Value.bool).toArray.size, (fun i v => (bs.map Value.bool).toArray[i]? = some v), _, fun i => bs.getD i false, rfl,
    Walks.list (prog := X.prog) (w := X.w) (A := X.A.in1) (I.ok.hd hc) s.heap.objs.size p (Nat.ne_of_lt hax) _, ⟨⟨_, Heap.get?_push_size _ rfl, rfl, rfl⟩, hl.push _⟩, ?_, fun h' tk hk => ?_⟩
  · intro i v s' Q' E' hP hQ'
    have : ∃ b, bs[i]? = some b ∧ v = .bool b := by
      have hP' : (bs.map Value.bool)[i]? = some v := by simpa using hP
      rw [List.getElem?_map] at hP'
      cases hb : bs[i]? with
      | none => rw [hb] at hP'; cases hP'
      | some b => rw [hb] at hP'; exact ⟨b, rfl, (Option.some.inj hP').symm⟩
    obtain ⟨b, hb, rfl⟩ := this
    refine wpAny_truthy_bool ?_
    have : bs.getD i false = b := by rw [List.getD_eq_getElem?_getD, hb]; rfl
    have hQ2 : Q' (bs.getD i false) s' := hQ'
    rw [this] at hQ2; exact hQ2
  · have : (bs.map Value.bool).toArray.size = bs.length := by simp
    rw [this]
    exact hQ h' tk fun b o e => hk b o (by
      intro hm
      have hb : b = s.heap.objs.size := by simpa using hm
      have hlt := Heap.lt_size e
      rw [hb] at hlt
      exact Nat.lt_irrefl _ hlt) (Heap.get?_push_of_some _ e)
theorem call_all (hc : X.calm = true) : CallR X (.builtin "all") (fun xs H Q => ∃ (p : Addr) (bs : List Bool), xs = [.ref p] ∧ SqL X.K H p (bs.map V.bl) ∧ Q (.bl (bs.all id)) H) := by
  intro pins s σ H xs us Q I rv h
  obtain ⟨p, bs, rfl, hq, q⟩ := h
  obtain ⟨u, rfl, rx⟩ := vals1 rv
  cases rx
  refine call_all_walk (walk_bools (R := id) hc I hq (QQ := fun tr n s' => EP X pins σ Q (.bool ((List.range n).all tr)) s') fun h' tk hk => ?_)
  rw [range_all]
  exact ⟨.bl (bs.all id), H, I.kept hk, rfl, q⟩
end

theorem comp_by {J : It} {l : Addr} {σ0 : St} {H1 : Hp} {g : TG} {tc : TT} {te : TE} {Q : VK} (n : Nat) (hn : n ≤ sizeLine) (Pv : Nat → List V → St → Hp → Prop) (h0 : Pv 0 [] σ0 (upd H1 l (.lst [])))
    (hl : ∀ i ys σ H, Pv i ys σ H → H l = some (.lst ys) ∧ ys.length ≤ i)
    (hs : ∀ i ys σ H, i < n → Pv i ys σ H → J.go i H ∧ ∀ x H', J.yld i H x H' → ∀ (Kt : St → V → Hp → Prop) (Kf : St → Hp → Prop),
      (∀ σ2 y H4, H4 l = some (.lst ys) → Pv (i + 1) (ys ++ [y]) σ2 (upd H4 l (.lst (ys ++ [y]))) → Kt σ2 y H4) → (∀ σ2 H3, Pv (i + 1) ys σ2 H3 → Kf σ2 H3) →
      g x σ H' fun σ2 H2 => tc σ2 H2 fun b H3 => if b = true then te σ2 H3 (Kt σ2) else Kf σ2 H3)
    (hd : ∀ ys σ H, Pv n ys σ H → J.stop n H ∧ Q (.ref l) H) :
    CompW J l σ0 H1 g tc te Q := by
  refine ⟨fun i m σ H => m = n - i ∧ i ≤ n ∧ ∃ ys, Pv i ys σ H, ⟨n, by simp, Nat.zero_le _, [], h0⟩, ?_⟩
  rintro i m σ H ⟨rfl, hi, ys, p⟩
  by_cases hlt : i < n
  · obtain ⟨go, step⟩ := hs i ys σ H hlt p
    refine .inr ⟨go, fun x H' y => ?_⟩
    refine step x H' y (fun σ2 y H4 => ∃ ys, H4 l = some (.lst ys) ∧ ys.length < sizeLine ∧ ∃ m', m' < n - i ∧ (m' = n - (i + 1) ∧ i + 1 ≤ n ∧ ∃ zs, Pv (i + 1) zs σ2 (upd H4 l (.lst (ys ++ [y]))))) (fun σ2 H3 => ∃ m', m' < n - i ∧ (m' = n - (i + 1) ∧ i + 1 ≤ n ∧ ∃ zs, Pv (i + 1) zs σ2 H3)) ?_ ?_
    · intro σ2 y H4 e q
      have := (hl i ys σ H p).2
      exact ⟨ys, e, by omega, n - (i + 1), by omega, rfl, hlt, _, q⟩
    · intro σ2 H3 q
      exact ⟨n - (i + 1), by omega, rfl, hlt, _, q⟩
  · have e : i = n := by omega
    subst e
    exact .inl (hd ys σ H p)
end L2
set_option Elab.async false
set_option linter.all false
set_option maxRecDepth 100000
set_option maxHeartbeats 4000000
namespace L2
open PySem PySem.Spec PyProof.Rows
section
variable (K : PySem.W.Frag) (H : Hp)
mutual
def Dn : PyData → V → Prop
  | .none, v => v = .non
  | .bool b, v => v = .bl b
  | .int i, v => v = .int i
  | .str x, v => v = .str x
  | .tuple ds, v => ∃ a xs, v = .ref a ∧ SqT K H a xs ∧ Dns ds xs
  | .list ds, v => ∃ a xs, v = .ref a ∧ SqL K H a xs ∧ Dns ds xs
  | .dict _, _ => False
def Dns : List PyData → List V → Prop
  | [], xs => xs = []
  | d :: ds, xs => ∃ x r, xs = x :: r ∧ Dn d x ∧ Dns ds r
end
end
theorem Same.seqT {K : PySem.W.Frag} {H H' : Hp} {a : Addr} {xs : List V} (e : Same H H') (h : SqT K H a xs) : SqT K H' a xs := by
  rcases h with (h | ⟨o, h⟩) | h
  · exact .inl (.inl (e _ _ h))
  · exact .inl (.inr ⟨o, e _ _ h⟩)
  · exact .inr h
section
variable {K : PySem.W.Frag} {H H' : Hp}
theorem dn_int {i : Int} : Dn K H (.int i) (.int i) := by rw [Dn]
theorem dn_tup {a : Addr} {xs : List V} {ds : List PyData} (h : SqT K H a xs) (d : Dns K H ds xs) : Dn K H (.tuple ds) (.ref a) := by rw [Dn]; exact ⟨a, xs, rfl, h, d⟩
theorem dn_lst {a : Addr} {xs : List V} {ds : List PyData} (h : SqL K H a xs) (d : Dns K H ds xs) : Dn K H (.list ds) (.ref a) := by rw [Dn]; exact ⟨a, xs, rfl, h, d⟩
theorem dns_nil : Dns K H [] [] := by rw [Dns]
theorem dns_cons {d : PyData} {ds : List PyData} {x : V} {xs : List V} (h1 : Dn K H d x) (h2 : Dns K H ds xs) : Dns K H (d :: ds) (x :: xs) := by rw [Dns]; exact ⟨x, xs, rfl, h1, h2⟩
theorem Dn.int {i : Int} {v : V} (h : Dn K H (.int i) v) : v = .int i := by rw [Dn] at h; exact h
theorem Dn.tup {ds : List PyData} {v : V} (h : Dn K H (.tuple ds) v) : ∃ a xs, v = .ref a ∧ SqT K H a xs ∧ Dns K H ds xs := by rw [Dn] at h; exact h
theorem Dns.nil {xs : List V} (h : Dns K H [] xs) : xs = [] := by rw [Dns] at h; exact h
theorem Dns.cons {d : PyData} {ds : List PyData} {xs : List V} (h : Dns K H (d :: ds) xs) : ∃ x r, xs = x :: r ∧ Dn K H d x ∧ Dns K H ds r := by rw [Dns] at h; exact h
mutual
theorem Same.dn (e : Same H H') : ∀ {d : PyData} {v : V}, Dn K H d v → Dn K H' d v
  | .none, _, h => by rw [Dn] at h ⊢; exact h
  | .bool _, _, h => by rw [Dn] at h ⊢; exact h
  | .int _, _, h => by rw [Dn] at h ⊢; exact h
  | .str _, _, h => by rw [Dn] at h ⊢; exact h
  | .dict _, _, h => by rw [Dn] at h; exact h.elim
  | .tuple ds, _, h => by
    rw [Dn] at h ⊢
    obtain ⟨a, xs, e1, h1, h2⟩ := h
    exact ⟨a, xs, e1, e.seqT h1, Same.dns e h2⟩
  | .list ds, _, h => by
    rw [Dn] at h ⊢
    obtain ⟨a, xs, e1, h1, h2⟩ := h
    exact ⟨a, xs, e1, e.seq h1, Same.dns e h2⟩
theorem Same.dns (e : Same H H') : ∀ {ds : List PyData} {xs : List V}, Dns K H ds xs → Dns K H' ds xs
  | [], _, h => by rw [Dns] at h ⊢; exact h
  | d :: ds, _, h => by
    rw [Dns] at h ⊢
    obtain ⟨x, r, e1, h1, h2⟩ := h
    exact ⟨x, r, e1, Same.dn e h1, Same.dns e h2⟩
end
theorem Dns.length : ∀ {ds : List PyData} {xs : List V}, Dns K H ds xs → xs.length = ds.length
  | [], _, h => by rw [h.nil]; rfl
  | d :: ds, _, h => by
    obtain ⟨x, r, rfl, _, h2⟩ := h.cons
    rw [List.length_cons, List.length_cons, Dns.length h2]
theorem Dns.get : ∀ {ds : List PyData} {xs : List V} {i : Nat} {d : PyData}, Dns K H ds xs → ds[i]? = some d → ∃ x, xs[i]? = some x ∧ Dn K H d x
  | [], _, _, _, _, e => by simp at e
  | d :: ds, _, 0, d', h, e => by
    obtain ⟨x, r, rfl, h1, _⟩ := h.cons
    simp at e; subst e
    exact ⟨x, rfl, h1⟩
  | d :: ds, _, i + 1, d', h, e => by
    obtain ⟨x, r, rfl, _, h2⟩ := h.cons
    obtain ⟨y, h3, h4⟩ := Dns.get (i := i) h2 (by simpa using e)
    exact ⟨y, by simpa using h3, h4⟩
theorem Dns.get' : ∀ {ds : List PyData} {xs : List V} {i : Nat} {x : V}, Dns K H ds xs → xs[i]? = some x → ∃ d, ds[i]? = some d ∧ Dn K H d x := fun {ds xs i x} h e => by
  have hl := h.length
  have hi : i < xs.length := (List.getElem?_eq_some_iff.mp e).1
  obtain ⟨y, h1, h2⟩ := h.get (i := i) (d := ds[i]'(by omega)) (by simp [show i < ds.length by omega])
  rw [e] at h1; cases h1
  exact ⟨_, by simp [show i < ds.length by omega], h2⟩
theorem Dns.append : ∀ {ds es : List PyData} {xs ys : List V}, Dns K H ds xs → Dns K H es ys → Dns K H (ds ++ es) (xs ++ ys)
  | [], _, _, _, h, g => by rw [h.nil]; exact g
  | d :: ds, es, _, ys, h, g => by
    obtain ⟨x, r, rfl, h1, h2⟩ := h.cons
    exact dns_cons h1 (Dns.append h2 g)
theorem Dns.set {d : PyData} {x : V} (hx : Dn K H d x) : ∀ (i : Nat) {ds : List PyData} {xs : List V}, Dns K H ds xs → Dns K H (ds.set i d) (xs.set i x)
  | _, [], _, h => by rw [h.nil]; exact dns_nil
  | 0, d' :: ds, _, h => by
    obtain ⟨y, r, rfl, h1, h2⟩ := h.cons
    exact dns_cons hx h2
  | i + 1, d' :: ds, _, h => by
    obtain ⟨y, r, rfl, h1, h2⟩ := h.cons
    exact dns_cons h1 (Dns.set hx i h2)
end
section
variable {X : Cx} {pins : List (Addr × Obj)} {s : Shared} {σ : St} {H : Hp}
mutual
theorem dn_reads (I : Inv X pins σ H s) : ∀ {d : PyData} {v : V} {u : Value}, Dn X.K H d v → RelV v u → ∃ as, Reads s.heap u d as
  | .none, _, _, h, r => by rw [Dn] at h; subst h; cases r; exact ⟨_, .none⟩
  | .bool b, _, _, h, r => by rw [Dn] at h; subst h; cases r; exact ⟨_, .bool b⟩
  | .int i, _, _, h, r => by rw [Dn] at h; subst h; obtain ⟨t, rfl⟩ := r; exact ⟨_, .int i t⟩
  | .str i, _, _, h, r => by rw [Dn] at h; subst h; obtain ⟨t, rfl⟩ := r; exact ⟨_, .str i t⟩
  | .dict _, _, _, h, _ => by rw [Dn] at h; exact h.elim
  | .tuple ds, _, _, h, r => by
    rw [Dn] at h
    obtain ⟨a, xs, rfl, h1, h2⟩ := h
    cases r
    obtain ⟨us, rx, p, _⟩ := I.tuple h1
    obtain ⟨as, q⟩ := dns_reads I h2 rx
    obtain ⟨o, ho, hc, n, hd⟩ := p
    exact ⟨_, .tuple ho hc hd (by simpa using q)⟩
  | .list ds, _, _, h, r => by
    rw [Dn] at h
    obtain ⟨a, xs, rfl, h1, h2⟩ := h
    cases r
    obtain ⟨us, rx, p, _⟩ := I.list h1
    obtain ⟨as, q⟩ := dns_reads I h2 rx
    obtain ⟨o, ho, hc, n, hd⟩ := p.isList
    exact ⟨_, .list ho hc hd (by simpa using q)⟩
theorem dns_reads (I : Inv X pins σ H s) : ∀ {ds : List PyData} {xs : List V} {us : List Value}, Dns X.K H ds xs → Vals xs us → ∃ as, ReadsAll s.heap us ds as
  | [], _, _, h, r => by rw [Dns] at h; subst h; cases r; exact ⟨_, .nil⟩
  | d :: ds, _, _, h, r => by
    rw [Dns] at h
    obtain ⟨x, q, rfl, h1, h2⟩ := h
    cases r with
    | cons r1 r2 =>
      obtain ⟨as, p1⟩ := dn_reads I h1 r1
      obtain ⟨bs, p2⟩ := dns_reads I h2 r2
      exact ⟨_, .cons p1 p2⟩
end
inductive rEqD (K : PySem.W.Frag) (neg : Bool) (x : V) (y : V) (H : Hp) (Q : VK) : Prop where
  | mk (d : _) (e : _) (h_0 : Dn K H d x) (h_1 : Dn K H e y) (h_2 : SeqAt.shaped d = true) (h_3 : SeqAt.shaped e = true) (h_4 : Q (.bl (if neg then !PyData.eqv d e else PyData.eqv d e)) H)
theorem op_eqD (hu : X.A.units + 64 < cLine) : OpR X (compareOp .Eq) (rEqD X.K false) := by
  intro pins s σ H x y v u Q I rx ry h
  obtain ⟨d, e, h1, h2, s1, s2, q⟩ := h
  obtain ⟨as, r1⟩ := dn_reads I h1 rx
  obtain ⟨bs, r2⟩ := dn_reads I h2 ry
  exact eq_dataH r1 r2 s1 s2 hu ⟨.bl (PyData.eqv d e), H, I, rfl, q⟩
theorem op_neD (hu : X.A.units + 64 < cLine) : OpR X (compareOp .NotEq) (rEqD X.K true) := by
  intro pins s σ H x y v u Q I rx ry h
  obtain ⟨d, e, h1, h2, s1, s2, q⟩ := h
  obtain ⟨as, r1⟩ := dn_reads I h1 rx
  obtain ⟨bs, r2⟩ := dn_reads I h2 ry
  exact ne_dataH r1 r2 s1 s2 hu ⟨.bl (!PyData.eqv d e), H, I, rfl, q⟩
end

end L2
set_option Elab.async false
set_option linter.all false
set_option maxRecDepth 100000
set_option maxHeartbeats 4000000
namespace L2
open PySem PySem.Spec PyProof.Rows
def intsOf : List Expr → Option (List Int)
  | [] => some []
  | .Constant (.int i) _ _ :: r => (intsOf r).map (i :: ·)
  | _ => none
def tInts (ns : List Int) : TA := fun _ H Q => Q (ns.map V.int) H
theorem pa_ints {X : Cx} {es : List Expr} : ∀ {ns : List Int}, intsOf es = some ns → PA X es (tInts ns) := by
  induction es with
  | nil => intro ns h; cases h; exact pa_nil
  | cons a r ih =>
    intro ns h
    unfold intsOf at h
    split at h
    · rename_i e; cases e
    · rename_i i k p r' e
      cases e
      cases e : intsOf r with
      | none => rw [e] at h; cases h
      | some ms =>
        rw [e] at h; cases h
        have q := pa_cons (X := X) (e := .Constant (.int i) k p) (es := r) pe_int (ih e)
        intro pos pins s σ H Q I hq
        exact q pos pins s σ H Q I hq
    · cases h
end L2
namespace L2
open PySem PySem.Spec PyProof.Rows
end L2
set_option linter.all false
set_option maxRecDepth 100000
namespace SortM
open PySem PySem.W PyProof.Rows
def run {α : Type} (T : Nat → Nat → Bool) : KasT α → α
  | .ret a => a
  | .ask i j k => run T (k (T i j))
structure Ord (n : Nat) (T : Nat → Nat → Bool) : Prop where
  irr : ∀ i, T i i = false
  tr : ∀ i j k, T i j = true → T j k = true → T i k = true
  tot : ∀ i j, i < n → j < n → i ≠ j → T i j = true ∨ T j i = true
section
variable {n : Nat} {T : Nat → Nat → Bool} (O : Ord n T)
include O
end
section
variable {n : Nat} {T : Nat → Nat → Bool} (O : Ord n T)
include O
end
section
variable {n : Nat} {T : Nat → Nat → Bool} (O : Ord n T)
include O
end
end SortM
set_option linter.all false
namespace Hull
abbrev P := Int × Int
def turn (a b c : P) : Int := (b.1 - a.1) * (c.2 - a.2) - (b.2 - a.2) * (c.1 - a.1)
def lt (a b : P) : Prop := a.1 < b.1 ∨ (a.1 = b.1 ∧ a.2 < b.2)
instance (a b : P) : Decidable (lt a b) := by unfold lt; infer_instance
def pos (u : P) : Prop := 0 < u.1 ∨ (u.1 = 0 ∧ 0 < u.2)
def sb (a b : P) : P := (a.1 - b.1, a.2 - b.2)
def pops (t : P) : List P → List P
  | b :: a :: r => if turn a b t ≤ 0 then pops t (a :: r) else b :: a :: r
  | l => l
def push (st : List P) (t : P) : List P := t :: pops t st
end Hull
set_option linter.all false
namespace Hull
section
variable {row : List P} (hrow : row.Pairwise lt)
include hrow

end
end Hull
set_option linter.all false
namespace Hull
section
variable {row : List P} (hrow : row.Pairwise lt)
include hrow

end
end Hull
set_option linter.all false
namespace Hull
section
open Classical
end
end Hull
set_option linter.all false
set_option maxRecDepth 100000
set_option maxHeartbeats 4000000
namespace SortM
open PySem PySem.W PyProof.Rows
section
variable {n : Nat} (h1 : 1 ≤ n)
include h1
end
open Hull
section
variable {prog : Program} {w : World} {A : Around} {E : Value → Shared → Prop} {s : Shared}
end
end SortM
set_option Elab.async false
set_option linter.all false
set_option maxRecDepth 100000
set_option maxHeartbeats 4000000
namespace L2
open PySem PySem.Spec PyProof.Rows Hull SortM
def spotD (p : P) : PyData := .tuple [.int p.1, .int p.2]
section
variable {X : Cx} {pins : List (Addr × Obj)} {s : Shared} {σ : St} {H : Hp}
theorem dn_spot {K : PySem.W.Frag} {a : Addr} {p : P} (h : SqT K H a [.int p.1, .int p.2]) : Dn K H (spotD p) (.ref a) := dn_tup h (dns_cons dn_int (dns_cons dn_int dns_nil))
theorem Dn.spot {K : PySem.W.Frag} {v : V} {p : P} (h : Dn K H (spotD p) v) : ∃ a, v = .ref a ∧ SqT K H a [.int p.1, .int p.2] := by
  obtain ⟨a, xs, rfl, h1, h2⟩ := Dn.tup h
  obtain ⟨x, r, rfl, hx, h2⟩ := h2.cons
  obtain ⟨y, r, rfl, hy, h2⟩ := h2.cons
  rw [h2.nil] at h1
  rw [hx.int, hy.int] at h1
  exact ⟨a, rfl, h1⟩
end
section
variable {prog : Program} {w : World} {A : Around} {E : Value → Shared → Prop} {s : Shared}
end
section
variable {X : Cx}
end
end L2
set_option linter.all false
set_option maxRecDepth 100000
namespace SetM
open PySem PySem.SetTable

def adv (mask : Nat) (p : Probe) : Probe :=
  if p.more > 0 then { p with j := p.j + 1, more := p.more - 1 } else
  let (i, perturb) := leap mask p.i p.perturb
  { p with j := i, more := runEnd mask i - i, i, perturb }
def iter (mask : Nat) (p : Probe) : Nat → Probe
  | 0 => p
  | k + 1 => adv mask (iter mask p k)
end SetM
set_option linter.all false
set_option maxRecDepth 100000
namespace SetM
open PySem PySem.SetTable
section
variable {α : Type} {t : SetTable} {es : List (Int × α)} {Z : List (Nat × (Int × α))}
end
end SetM
set_option linter.all false
set_option maxRecDepth 100000
namespace SetM
open PySem PySem.SetTable
end SetM
set_option linter.all false
set_option maxRecDepth 100000
set_option maxHeartbeats 4000000
namespace SetX
open PySem PySem.W PyProof.Rows Hull SortM SetM
section
variable {prog : Program} {w : World} {A : Around} {E : Value → Shared → Prop} {s : Shared}
end
end SetX
set_option linter.all false
set_option maxRecDepth 100000
set_option maxHeartbeats 4000000
namespace SetX
open PySem PySem.W PyProof.Rows Hull SortM SetM
abbrev VP := Value × P
section
variable {prog : Program} {w : World} {A : Around} {E : Value → Shared → Prop} {s : Shared}
end
end SetX
set_option linter.all false
set_option maxRecDepth 100000
set_option maxHeartbeats 4000000
namespace SetX
open PySem PySem.W PyProof.Rows Hull SortM SetM
section
variable {prog : Program} {w : World} {A : Around} {E : Value → Shared → Prop} {s : Shared}
end
end SetX
set_option linter.all false
set_option maxRecDepth 100000
set_option maxHeartbeats 8000000
namespace SetX
open PySem PySem.W PyProof.Rows Hull SortM SetM
section
variable {prog : Program} {w : World} {A : Around} {R : Result → Shared → Prop} {I : Addr} {fp wr : List Addr} {G : Array GenState → Array GenState → Prop} {n : Nat} {Pv : Nat → Value → Prop} {St : Nat → Shared → Prop}
end
section
variable {prog : Program} {w : World} {A : Around} {E : Value → Shared → Prop} {s : Shared}
end
end SetX
set_option linter.all false
set_option maxRecDepth 100000
set_option maxHeartbeats 8000000
namespace SetX
open PySem PySem.W PyProof.Rows Hull SortM SetM
section
variable {prog : Program} {w : World} {A : Around} {E : Value → Shared → Prop} {s : Shared}
end
end SetX
set_option linter.all false
set_option maxRecDepth 100000
set_option maxHeartbeats 8000000
namespace SetX
open PySem PySem.W PyProof.Rows Hull SortM SetM
namespace F
end F
def byText (w : World) : Bool := w.params.followText "set-order"
def ord (w : World) (a : Addr) (ep : Nat) (es : Array (Int × Value)) : Array (Int × Value) := if byText w then pickOrder (w.params.setOrder a ep) es else es
def sl (w : World) (t : SetTable) (i : Nat) : Nat := if byText w then 0 else if i = 0 then 0 else t.place.getD (i - 1) 0 + 1
section
variable {prog : Program} {w : World} {A : Around} {E : Value → Shared → Prop} {s : Shared} {a : Addr} {es : Array (Int × Value)} {ep : Nat} {t : SetTable} {L : List VP}
end
end SetX
set_option linter.all false
set_option maxRecDepth 100000
set_option maxHeartbeats 8000000
namespace SetX
open PySem PySem.W PyProof.Rows Hull SortM SetM
section
variable {prog : Program} {w : World} {A : Around} {E : Value → Shared → Prop} {s : Shared} {a it : Addr} {es : Array (Int × Value)} {ep : Nat} {t : SetTable} {L : List VP}
end
end SetX
set_option linter.all false
set_option maxRecDepth 100000
set_option maxHeartbeats 8000000
namespace SetX
open PySem PySem.W PyProof.Rows Hull SortM SetM
section
variable {prog : Program} {w : World} {A : Around} {E : Value → Shared → Prop} {s : Shared} {a it : Addr} {es : Array (Int × Value)} {ep : Nat} {t : SetTable} {L : List VP}
end
end SetX
set_option Elab.async false
set_option linter.all false
set_option maxRecDepth 100000
set_option maxHeartbeats 4000000
namespace L2
open PySem PySem.Spec PyProof.Rows Hull SortM SetX
section
variable {X : Cx}
end
end L2
set_option linter.all false
set_option maxRecDepth 100000
set_option maxHeartbeats 4000000
namespace SpotC
open PySem PySem.W PyProof.Rows Hull SortM
section
variable {prog : Program} {w : World} {A : Around} {E : Value → Shared → Prop} {s : Shared}
end
end SpotC
set_option linter.all false
set_option maxRecDepth 100000
set_option maxHeartbeats 4000000
namespace SpotC
open PySem PySem.W PyProof.Rows Hull SortM
end SpotC
set_option Elab.async false
set_option linter.all false
set_option maxRecDepth 100000
set_option maxHeartbeats 4000000
namespace L2
open PySem PySem.Spec PyProof.Rows Hull SortM SetX
section
variable {X : Cx}
end
end L2
set_option Elab.async false
set_option linter.all false
set_option maxRecDepth 100000
set_option maxHeartbeats 4000000
namespace L2
open PySem PySem.Spec PyProof.Rows Hull SortM SetX
theorem spot_eqv (p q : P) : PyData.eqv (spotD p) (spotD q) = decide (p = q) := by
  unfold spotD
  rw [PyData.eqv, PyData.eqvAll, PyData.eqvAll, PyData.eqvAll, PyData.eqv, PyData.eqv]
  by_cases h : p = q
  · rw [h]; simp
  · rw [decide_eq_false h]
    have : ¬ (p.1 = q.1 ∧ p.2 = q.2) := fun e => h (Prod.ext e.1 e.2)
    rw [Bool.and_true, ← Bool.not_eq_true, Bool.and_eq_true]
    simpa using this
theorem spots_eqvAll : ∀ ps qs : List P, PyData.eqvAll (ps.map spotD) (qs.map spotD) = decide (ps = qs)
  | [], [] => rfl
  | [], _ :: _ => by simp [PyData.eqvAll]
  | _ :: _, [] => by simp [PyData.eqvAll]
  | p :: ps, q :: qs => by
    rw [List.map_cons, List.map_cons, PyData.eqvAll, spots_eqvAll ps qs, spot_eqv]
    by_cases h : p = q <;> by_cases g : ps = qs <;> simp [h, g]
theorem spots_eqv (ps qs : List P) : PyData.eqv (.list (ps.map spotD)) (.list (qs.map spotD)) = decide (ps = qs) := by rw [PyData.eqv, spots_eqvAll]
theorem spot_can (p : P) : (spotD p).canLay0 = true ∧ (spotD p).depth ≤ 2 := by
  unfold spotD
  constructor
  · simp [PyData.canLay0, PyData.canLayAll0]
  · simp [PyData.depth, PyData.depthAll]
theorem spots_can : ∀ ps : List P, PyData.canLayAll0 (ps.map spotD) = true ∧ PyData.depthAll (ps.map spotD) ≤ 2
  | [] => ⟨rfl, Nat.zero_le _⟩
  | p :: ps => by
    obtain ⟨h1, h2⟩ := spots_can ps
    obtain ⟨g1, g2⟩ := spot_can p
    rw [List.map_cons]
    constructor
    · simp [PyData.canLayAll0, h1, g1]
    · rw [PyData.depthAll]; omega
theorem spot_shaped (p : P) : SeqAt.shaped (spotD p) = true := by
  obtain ⟨g1, g2⟩ := spot_can p
  unfold SeqAt.shaped
  rw [g1, decide_eq_true (by omega)]; rfl
theorem spots_shaped (ps : List P) : SeqAt.shaped (.list (ps.map spotD)) = true := by
  obtain ⟨h1, h2⟩ := spots_can ps
  unfold SeqAt.shaped
  have : (PyData.list (ps.map spotD)).depth ≤ 64 := by rw [PyData.depth]; omega
  rw [decide_eq_true this, PyData.canLay0, h1]; rfl
section
variable {X : Cx}
inductive rNeSp (K : PySem.W.Frag) (x : V) (y : V) (H : Hp) (Q : VK) : Prop where
  | mk (p : _) (q : _) (h_0 : Dn K H (spotD p) x) (h_1 : Dn K H (spotD q) y) (h_2 : Q (.bl (!decide (p = q))) H)
theorem op_neSp (hu : X.A.units + 64 < cLine) : OpR X (compareOp .NotEq) (rNeSp X.K) := by
  intro pins s σ H x y v u Q I rx ry h
  obtain ⟨p, q, h1, h2, k⟩ := h
  refine op_neD hu pins s σ H x y v u Q I rx ry ⟨_, _, h1, h2, spot_shaped p, spot_shaped q, ?_⟩
  rw [spot_eqv]; exact k
inductive rNeSps (K : PySem.W.Frag) (x : V) (y : V) (H : Hp) (Q : VK) : Prop where
  | mk (a : _) (b : _) (xs : _) (ys : _) (ps : _) (qs : _) (h_0 : x = .ref a) (h_1 : y = .ref b) (h_2 : SqL K H a xs) (h_3 : SqL K H b ys) (h_4 : Dns K H (List.map spotD ps) xs) (h_5 : Dns K H (List.map spotD qs) ys) (h_6 : Q (.bl (!decide (ps = qs))) H)
theorem op_neSps (hu : X.A.units + 64 < cLine) : OpR X (compareOp .NotEq) (rNeSps X.K) := by
  intro pins s σ H x y v u Q I rx ry h
  obtain ⟨a, b, xs, ys, ps, qs, rfl, rfl, h1, h2, d1, d2, k⟩ := h
  refine op_neD hu pins s σ H _ _ v u Q I rx ry ⟨_, _, dn_lst h1 d1, dn_lst h2 d2, spots_shaped ps, spots_shaped qs, ?_⟩
  rw [spots_eqv]; exact k
end
end L2
set_option linter.all false
set_option maxRecDepth 100000
set_option maxHeartbeats 8000000
namespace RevX
open PySem PySem.W PyProof.Rows
namespace F
end F
section
variable {prog : Program} {w : World} {A : Around} {E : Value → Shared → Prop} {s : Shared}
end
end RevX
set_option linter.all false
set_option maxRecDepth 100000
set_option maxHeartbeats 8000000
namespace RevX
open PySem PySem.W PyProof.Rows
namespace F
end F
end RevX
set_option linter.all false
set_option maxRecDepth 100000
set_option maxHeartbeats 8000000
namespace RevX
open PySem PySem.W PyProof.Rows
section
variable {prog : Program} {w : World} {A : Around} {E : Value → Shared → Prop} {s : Shared} {it l : Addr} {items : Array Value}
end
end RevX
set_option Elab.async false
set_option linter.all false
set_option maxRecDepth 100000
set_option maxHeartbeats 4000000
namespace L2
open PySem PySem.Spec PyProof.Rows Hull SortM SetX
section
variable {X : Cx} {pins : List (Addr × Obj)} {σ : St} {H : Hp} {s : Shared}
end
end L2
set_option Elab.async false
set_option linter.all false
set_option maxRecDepth 100000
set_option maxHeartbeats 4000000
namespace L2
open PySem PySem.Spec PyProof.Rows
section
variable {X : Cx}
inductive rIsSeq (K : PySem.W.Frag) (xs : List V) (H : Hp) (Q : VK) : Prop where
  | mk (a : Addr) (ys : List V) (T : String) (b : Bool) (h_0 : xs = [.ref a, .ty T]) (h_1 : ((SqT K H a ys ∧ PySem.W.kitOne K (.type "tuple") (.type T) = some b) ∨ (SqL K H a ys ∧ PySem.W.kitOne K (.type "list") (.type T) = some b))) (h_2 : Q (.bl b) H)
theorem call_isSeq : CallR X (.builtin "isinstance") (rIsSeq X.K) := by
  intro pins s σ H xs us Q I rv h
  obtain ⟨a, ys, T, b, rfl, ty, q⟩ := h
  obtain ⟨u, u', rfl, rx, rt⟩ := vals2 rv
  cases rt
  cases rx
  rcases ty with ⟨h1, e⟩ | ⟨h1, e⟩
  · obtain ⟨_, _, ⟨o, h2, h3, _⟩, _⟩ := I.tuple h1
    exact PySem.W.kia_one PySem.W.kitx_tuple I.kIn ⟨o, h2, h3⟩ e (fun z => nomatch z) fun tk => ⟨.bl b, H, I.tok tk, rfl, q⟩
  · obtain ⟨_, _, p, _⟩ := I.list h1
    obtain ⟨o, h2, h3, _⟩ := p.isList
    exact PySem.W.kia_one PySem.W.kitx_list I.kIn ⟨o, h2, h3⟩ e (fun z => nomatch z) fun tk => ⟨.bl b, H, I.tok tk, rfl, q⟩
end
end L2
set_option Elab.async false
set_option linter.all false
set_option maxRecDepth 100000
set_option maxHeartbeats 4000000
namespace L2
open PySem PySem.Spec PyProof.Rows
section
variable {X : Cx} {pins : List (Addr × Obj)} {σ : St} {H : Hp} {s : Shared} {h' : Heap}
end
section
variable {X : Cx}
end
section
variable {X : Cx}
end
end L2
set_option linter.all false
set_option maxRecDepth 100000
set_option maxHeartbeats 8000000
namespace ZipX
open PySem
section
variable {prog : Program} {w : World} {A : Around} {E : Value → Shared → Prop} {s : Shared}
end
end ZipX
set_option Elab.async false
set_option linter.all false
set_option maxRecDepth 100000
set_option maxHeartbeats 4000000
namespace L2
open PySem PySem.Spec PyProof.Rows
namespace ZF
end ZF
section
variable {X : Cx} {pins : List (Addr × Obj)} {σ : St}
end
end L2
set_option Elab.async false
set_option linter.all false
set_option maxRecDepth 100000
set_option maxHeartbeats 4000000
namespace L2
open PySem PySem.Spec PyProof.Rows
open Hull (P)
section
variable {X : Cx}
inductive rEqSp (K : PySem.W.Frag) (x : V) (y : V) (H : Hp) (Q : VK) : Prop where
  | mk (p : _) (q : _) (h_0 : Dn K H (spotD p) x) (h_1 : Dn K H (spotD q) y) (h_2 : Q (.bl (decide (p = q))) H)
theorem op_eqSp (hu : X.A.units + 64 < cLine) : OpR X (compareOp .Eq) (rEqSp X.K) := by
  intro pins s σ H x y v u Q I rx ry h
  obtain ⟨p, q, h1, h2, k⟩ := h
  refine op_eqD hu pins s σ H x y v u Q I rx ry ⟨_, _, h1, h2, spot_shaped p, spot_shaped q, ?_⟩
  rw [spot_eqv]; exact k
inductive rEqSps (K : PySem.W.Frag) (x : V) (y : V) (H : Hp) (Q : VK) : Prop where
  | mk (a : _) (b : _) (xs : _) (ys : _) (ps : _) (qs : _) (h_0 : x = .ref a) (h_1 : y = .ref b) (h_2 : SqL K H a xs) (h_3 : SqL K H b ys) (h_4 : Dns K H (List.map spotD ps) xs) (h_5 : Dns K H (List.map spotD qs) ys) (h_6 : Q (.bl (decide (ps = qs))) H)
theorem op_eqSps (hu : X.A.units + 64 < cLine) : OpR X (compareOp .Eq) (rEqSps X.K) := by
  intro pins s σ H x y v u Q I rx ry h
  obtain ⟨a, b, xs, ys, ps, qs, rfl, rfl, h1, h2, d1, d2, k⟩ := h
  refine op_eqD hu pins s σ H _ _ v u Q I rx ry ⟨_, _, dn_lst h1 d1, dn_lst h2 d2, spots_shaped ps, spots_shaped qs, ?_⟩
  rw [spots_eqv]; exact k
end
end L2
set_option Elab.async false
set_option linter.all false
set_option maxRecDepth 100000
set_option maxHeartbeats 4000000
namespace L2
open PySem PySem.Spec PyProof.Rows
section
variable {X : Cx}
def CDivB (i j : Int) : Prop := 0 < j ∧ j < 2 ^ 200
theorem noPylongB {x y : Int} (h1 : 0 < y) (h : y < 2 ^ 200) : Builtin.divisionGoesByPylong x y = false := by
  refine PyProof.noPylong_of_log2 ?_
  have h0 : y.natAbs ≠ 0 := by omega
  have h3 : y.natAbs < 2 ^ 200 := by omega
  have h30 : y.natAbs.log2 < 200 := (Nat.log2_lt h0).mpr h3
  omega
theorem op_fdivB : OpR X (binaryOp .FloorDiv) (rI CDivB fun i j => .int (i / j)) := opI fun i j _ _ _ _ _ hc q => by
  have e : i / j = i.fdiv j := (Int.fdiv_eq_ediv_of_nonneg _ (Int.le_of_lt hc.1)).symm
  rw [e] at q
  exact floordiv_int (by have := hc.1; omega) q (.inl (noPylongB hc.1 hc.2))
end
end L2
namespace L2
open PySem PySem.Spec PyProof.Rows
end L2
set_option Elab.async false
set_option linter.all false
set_option maxRecDepth 100000
namespace L2
open PySem PySem.Spec PyProof.Rows
section
variable {X : Cx}
end
section
variable {X : Cx}
end
section
variable {X : Cx} {e es : Expr} {te ts : TE} {pos p2 : Pos}
end
section
variable {X : Cx} {k : Nat} {x m : Str} {sp : Sp} {p pos apos : Pos} {e o : Expr} {es : List Expr} {t : TA} {ta : TE} {C : Addr}
end
end L2
set_option linter.all false
namespace L2
open PySem PySem.Spec PyProof.Rows
variable {K : PySem.W.Frag}
theorem Fun.binds0 {x qual : Str} {st : Stmt} {f : Addr} {fd : FuncData} {ps : List Str} (F : Fun K x qual st f fd) (hp : ps.length = 0)
    (h : ∀ (kV doc pm : Value) (an : Option Addr) (cdv ct : Value), bindArgs (PySem.W.fnOf x qual (defArgs st) (defBody st) (defScope st) .none kV doc pm an cdv ct) ⟨[], []⟩ = pure (ps.zip [])) : Binds K fd ps [] :=
  F.binds fun q1 q2 q3 q4 q5 q6 us hl => by
    rw [hp] at hl
    match us, hl with
    | [], _ => exact h q1 q2 q3 q4 q5 q6 
theorem Fun.binds1 {x qual : Str} {st : Stmt} {f : Addr} {fd : FuncData} {ps : List Str} (F : Fun K x qual st f fd) (hp : ps.length = 1)
    (h : ∀ (kV doc pm : Value) (an : Option Addr) (cdv ct : Value), ∀ a : Value, bindArgs (PySem.W.fnOf x qual (defArgs st) (defBody st) (defScope st) .none kV doc pm an cdv ct) ⟨[a], []⟩ = pure (ps.zip [a])) : Binds K fd ps [] :=
  F.binds fun q1 q2 q3 q4 q5 q6 us hl => by
    rw [hp] at hl
    match us, hl with
    | [a], _ => exact h q1 q2 q3 q4 q5 q6 a
theorem Fun.binds2 {x qual : Str} {st : Stmt} {f : Addr} {fd : FuncData} {ps : List Str} (F : Fun K x qual st f fd) (hp : ps.length = 2)
    (h : ∀ (kV doc pm : Value) (an : Option Addr) (cdv ct : Value), ∀ a b : Value, bindArgs (PySem.W.fnOf x qual (defArgs st) (defBody st) (defScope st) .none kV doc pm an cdv ct) ⟨[a, b], []⟩ = pure (ps.zip [a, b])) : Binds K fd ps [] :=
  F.binds fun q1 q2 q3 q4 q5 q6 us hl => by
    rw [hp] at hl
    match us, hl with
    | [a, b], _ => exact h q1 q2 q3 q4 q5 q6 a b
theorem Fun.binds3 {x qual : Str} {st : Stmt} {f : Addr} {fd : FuncData} {ps : List Str} (F : Fun K x qual st f fd) (hp : ps.length = 3)
    (h : ∀ (kV doc pm : Value) (an : Option Addr) (cdv ct : Value), ∀ a b c : Value, bindArgs (PySem.W.fnOf x qual (defArgs st) (defBody st) (defScope st) .none kV doc pm an cdv ct) ⟨[a, b, c], []⟩ = pure (ps.zip [a, b, c])) : Binds K fd ps [] :=
  F.binds fun q1 q2 q3 q4 q5 q6 us hl => by
    rw [hp] at hl
    match us, hl with
    | [a, b, c], _ => exact h q1 q2 q3 q4 q5 q6 a b c
theorem hold {t u : TS} {D : Ends} {σ : St} {H : Hp} (h : ∀ T : TS, (∀ D' σ' H', u D' σ' H' → T D' σ' H') → tSeq t T D σ H) : tSeq t u D σ H := h u fun _ _ _ q => q
end L2
set_option Elab.async false
set_option linter.all false
set_option maxRecDepth 100000
set_option maxHeartbeats 4000000
namespace L2
open PySem PySem.Spec PyProof.Rows
section
variable {X : Cx} {pins : List (Addr × Obj)} {σ : St} {H : Hp} {l q It S : Addr} {xs : List V} {E : Value → Shared → Prop}
end
end L2
set_option Elab.async false
set_option linter.all false
set_option maxRecDepth 100000
set_option maxHeartbeats 4000000
namespace L2
open PySem PySem.Spec PyProof.Rows
section
variable {X : Cx} {pins : List (Addr × Obj)} {σ : St} {H : Hp} {s : Shared} {scope : Scope} {cl : List (Str × Addr)} {x0 : Str} {Nc : List Str} {fr : List (Option Nat)} {q : Str} {f : Addr} {cd : Value}
variable {params : Arguments} {body : Expr} {c : Addr} {tb : TE}
end
end L2
set_option Elab.async false
set_option linter.all false
set_option maxRecDepth 100000
set_option maxHeartbeats 4000000
namespace L2
open PySem PySem.Spec PyProof.Rows
section
variable {P : Program} {w : World} {K : PySem.W.Frag} {mg : Str → Option Value} {base : Heap}
end
section
variable {X : Cx} {k1 k2 : Nat} {m : Str} {sp1 sp2 : Sp} {pos apos : Pos} {e o : Expr} {es : List Expr} {t : TA} {ta : TE} {C1 C2 : Addr}
end
end L2
set_option linter.all false
set_option maxRecDepth 100000
namespace PySem
open PySem.Calls
def Two (h : Heap) (x : Addr) (v : Value) : Prop := ∃ o vs, h.get? x = some o ∧ o.data = .fields vs ∧ vs[2]? = some v
def Ctx2 (B h : Heap) (e : Addr) : Prop := ∃ c, Two h e c ∧ (c = .none ∨ ∃ y, c = .ref y ∧ B.get? y = none ∧ y ≠ e ∧ Two h y .none)
def Keeps2 (h h' : Heap) : Prop := ∀ x v, Two h x v → Two h' x v
theorem Ctx2.keep {B h h' : Heap} {e : Addr} (c : Ctx2 B h e) (k : Keeps2 h h') : Ctx2 B h' e := by
  obtain ⟨c, h1, h2⟩ := c
  exact ⟨c, k _ _ h1, h2.imp id fun ⟨y, a, b, d, t⟩ => ⟨y, a, b, d, k _ _ t⟩⟩
theorem Keeps2.trans {h h1 h2 : Heap} (a : Keeps2 h h1) (b : Keeps2 h1 h2) : Keeps2 h h2 := fun x v t => b x v (a x v t)
theorem keeps2_push (h : Heap) (o : Obj) : Keeps2 h (h.push o) := fun x v ⟨o', vs, g, d, e⟩ => ⟨o', vs, Heap.get?_push_of_some _ g, d, e⟩
theorem keeps2_set {h : Heap} {a : Addr} {o : Obj} {vs : Array Value} {k : Nat} {w : Value} (g : h.get? a = some o) (d : o.data = .fields vs) (hk : k ≠ 2) : Keeps2 h (h.update a (Obj.mapFields (·.setIfInBounds k w))) := fun x v ⟨o', vs', g', d', e⟩ => by
  by_cases z : x = a
  · subst z
    rw [g] at g'; cases g'
    rw [d] at d'; cases d'
    have d3 := Obj.data_mapFields d (·.setIfInBounds k w)
    exact ⟨_, _, Heap.get?_update_self _ g (Obj.isFreed_of_fields d3), d3, by rw [Array.getElem?_setIfInBounds_ne hk]; exact e⟩
  · exact ⟨o', vs', (Heap.get?_update_other _ _ (Ne.symm z)).trans g', d', e⟩
theorem keeps2_slots {h h' : Heap} (k : ∀ b o, h.get? b = some o → ∃ sl, h'.get? b = some { o with slots := sl }) : Keeps2 h h' := fun x v ⟨o, vs, g, d, e⟩ => by
  obtain ⟨sl, z⟩ := k x o g
  exact ⟨_, vs, z, d, e⟩
structure Fl (B : Heap) (l : List Env) (e : Addr) (cls fl : Value) (h : Heap) : Prop where
  stays : B.StaysIn h
  new : B.get? e = none
  fr : h.FunFrames B l
  tr : ∃ oe vs T oT ts, h.get? e = some oe ∧ oe.cls = cls ∧ oe.dict = none ∧ oe.data = .fields vs ∧ vs[1]? = some (.ref T) ∧ B.get? T = none ∧ T ≠ e ∧ h.get? T = some oT ∧ oT.data = .fields ts ∧ ts[3]? = some fl
  cx : Ctx2 B h e
theorem Obj.dict_mapFields (o : Obj) (f : Array Value → Array Value) : (o.mapFields f).dict = o.dict := by
  obtain ⟨c, d, dt, sl⟩ := o
  cases dt <;> rfl
section
variable {M : Model} {A : Around} {E : Value → Shared → Prop} {s : Shared} {B : Heap} {env : Env} {outer l : List Env} {L e : Addr} {cls : Value}
theorem fl_entry {oe : Obj} {vs : Array Value} {head : Value} {hadNext : Bool} {Q : Unit → Shared → Prop} (hfr : A.frames = some (env :: outer)) (hl : s.heap.FunFrames B (env :: outer)) (hf : env.frame = some L)
    (he : s.heap.get? e = some oe) (hkb : B.StaysIn s.heap) (hen : B.get? e = none) (hd : oe.data = .fields vs) (hdi : oe.dict = none) (hsz : 1 < vs.size) (hcx : Ctx2 B s.heap e)
    (h : ∀ h', Fl B (env :: outer) e oe.cls (rawInt L) h' → s.heap.UpToSlots h' → Q () { s with heap := h' }) :
    wpAny M A (do let a ← frameOf env; let pl ← entryPlaceOf L hadNext; let b ← EntryCells.newEntry head a .none (rawInt L) .none pl; setField (.ref e) 1 b) Q E s := by
  have ne : e ∉ (env :: outer).filterMap (·.frame) := fun hm => by
    obtain ⟨_, o, ho, hnf⟩ := hl.mem hm
    rw [he] at ho; cases ho; exact hnf vs hd
  refine wpAny_bind (wpAny_frameOf_fun hfr hl hf fun h₁ sl => ?_)
  refine wpAny_bind (wpAny_entryPlaceOf fun pl hpl => ?_)
  unfold EntryCells.newEntry newFields
  refine wpAny_bind (wpAny_newObj_type ?_ (hpl.sizeOk5 _ _ _ _ _))
  have e1 : h₁.get? e = some oe := (sl.2.1 e ne).trans he
  have k1 : B.StaysIn h₁ := fun b o z => (sl.2.1 b fun hm => by rw [(hl.mem hm).1] at z; cases z).trans (hkb b o z)
  generalize htb : ({ cls := .type "traceback", dict := none, data := .fields ([head, .ref L, .none, rawInt L, .none] ++ (if pl.isEmpty then List.replicate 6 Value.none else pl)).toArray } : Obj) = tb
  have tbd : tb.data = .fields ([head, .ref L, .none, rawInt L, .none] ++ (if pl.isEmpty then List.replicate 6 Value.none else pl)).toArray := by rw [← htb]
  have tbf : tb.isFreed = false := by rw [← htb]; rfl
  have e2 := Heap.get?_push_of_some (h := h₁) tb e1
  refine wpAny_setField e2 hd hsz ?_
  have nT : h₁.objs.size ≠ e := Nat.ne_of_gt (Heap.lt_size e1)
  have d3 := Obj.data_mapFields hd (·.setIfInBounds 1 (Value.ref h₁.objs.size))
  have e3 := Heap.get?_update_self (Obj.mapFields (·.setIfInBounds 1 (Value.ref h₁.objs.size))) e2 (Obj.isFreed_of_fields d3)
  have t3 := (Heap.get?_update_other (h₁.push tb) (Obj.mapFields (·.setIfInBounds 1 (Value.ref h₁.objs.size))) (Ne.symm nT)).trans (Heap.get?_push_size h₁ tbf)
  have keep : ∀ b o, b ≠ e → h₁.get? b = some o → ((h₁.push tb).update e (Obj.mapFields (·.setIfInBounds 1 (Value.ref h₁.objs.size)))).get? b = some o := fun b o nb z =>
    (Heap.get?_update_other _ _ (Ne.symm nb)).trans (Heap.get?_push_of_some _ z)
  have norec : ∀ b o, s.heap.get? b = some o → (∀ vs, o.data ≠ .fields vs) → b ≠ e := fun b o z hnf q => by
    rw [q, he] at z; cases z; exact hnf vs hd
  have up : ∀ b o, s.heap.get? b = some o → (∀ vs, o.data ≠ .fields vs) → ∃ sl', ((h₁.push tb).update e (Obj.mapFields (·.setIfInBounds 1 (Value.ref h₁.objs.size)))).get? b = some { o with slots := sl' } := fun b o z hnf => by
    obtain ⟨s1, z1⟩ := sl.2.2 b o z
    exact ⟨s1, keep b _ (norec b o z hnf) z1⟩
  refine h _ ⟨fun b o z => keep b o (fun q => by rw [q, hen] at z; cases z) (k1 b o z), hen, hl.of_keeps fun b o z hnf => ?_, ?_, hcx.keep (((keeps2_slots fun b o z => sl.2.2 b o z).trans (keeps2_push h₁ tb)).trans (keeps2_set e2 hd (by decide)))⟩ up
  · obtain ⟨s1, z1⟩ := up b o z hnf
    exact ⟨_, z1, rfl⟩
  · refine ⟨_, _, h₁.objs.size, tb, _, e3, Obj.cls_mapFields _ _, (Obj.dict_mapFields _ _).trans hdi, d3, by simp [hsz], k1.fresh, nT, t3, tbd, ?_⟩
    first | (simp; done) | (rcases hpl with rfl | ⟨_, _, _, _, _, _, _, rfl⟩ <;> simp)
theorem fl_note {Q : Unit → Shared → Prop} (hfr : A.frames = some (env :: outer)) (hf : env.frame = some L) (F : Fl B (env :: outer) e cls .none s.heap)
    (h : ∀ h', Fl B (env :: outer) e cls (rawInt L) h' → s.heap.UpToSlots h' → Q () { s with heap := h' }) : wpAny M A (noteFrame (.ref e) env) Q E s := by
  obtain ⟨oe, vs, T, oT, ts, he, hc, hdi, hd, h1, nT, hTe, hT, hdT, h3⟩ := F.tr
  subst hc
  unfold noteFrame
  simp only [hf]
  refine wpAny_bind (wpAny_field he hd h1 ?_)
  rw [if_pos (show (Value.ref T != Value.none) = true from by simp)]
  refine wpAny_bind (wpAny_field hT hdT h3 ?_)
  rw [if_neg (show ¬ ((Value.none == rawInt L) = true) from by simp [rawInt])]
  refine wpAny_bind (wpAny_setField hT hdT (Array.getElem?_eq_some_iff.mp h3).1 ?_)
  have other : ∀ b, b ≠ T → (s.heap.update T (Obj.mapFields (·.setIfInBounds 3 Value.none))).get? b = s.heap.get? b := fun b hb => Heap.get?_update_other _ _ (Ne.symm hb)
  have norec : ∀ b o, s.heap.get? b = some o → (∀ vs, o.data ≠ .fields vs) → b ≠ T := fun b o z hnf q => by
    rw [q, hT] at z; cases z; exact hnf ts hdT
  refine fl_entry hfr (F.fr.of_keeps fun b o z hnf => ⟨o, (other b (norec b o z hnf)).trans z, rfl⟩) hf ((other e (Ne.symm hTe)).trans he)
    (fun b o z => (other b fun q => by rw [q, nT] at z; cases z).trans (F.stays b o z)) F.new hd hdi (Array.getElem?_eq_some_iff.mp h1).1 (F.cx.keep (keeps2_set hT hdT (by decide))) fun h' F' up => h h' F' fun b o z hnf => up b o ((other b (norec b o z hnf)).trans z) hnf
theorem fl_first {oe : Obj} {vs : Array Value} {Q : Unit → Shared → Prop} (hfr : A.frames = some (env :: outer)) (hl : s.heap.FunFrames B (env :: outer)) (hf : env.frame = some L)
    (he : s.heap.get? e = some oe) (hkb : B.StaysIn s.heap) (hen : B.get? e = none) (hd : oe.data = .fields vs) (hdi : oe.dict = none) (h1 : vs[1]? = some .none) (hcx : Ctx2 B s.heap e)
    (h : ∀ h', Fl B (env :: outer) e oe.cls (rawInt L) h' → s.heap.UpToSlots h' → Q () { s with heap := h' }) : wpAny M A (noteFrame (.ref e) env) Q E s := by
  unfold noteFrame
  simp only [hf]
  refine wpAny_bind (wpAny_field he hd h1 ?_)
  rw [if_neg (by decide)]
  exact fl_entry hfr hl hf he hkb hen hd hdi (Array.getElem?_eq_some_iff.mp h1).1 hcx h
theorem fl_land {fl : Value} {Q : Unit → Shared → Prop} (F : Fl B l e cls fl s.heap) (h : ∀ h', Fl B l e cls .none h' → s.heap.UpToSlots h' → Q () { s with heap := h' }) : wpAny M A (setFlight (.ref e) none) Q E s := by
  obtain ⟨oe, vs, T, oT, ts, he, hc, hdi, hd, h1, nT, hTe, hT, hdT, h3⟩ := F.tr
  unfold setFlight
  refine wpAny_bind (wpAny_field he hd h1 ?_)
  rw [if_pos (show (Value.ref T != Value.none) = true from by simp)]
  have sz := (Array.getElem?_eq_some_iff.mp h3).1
  refine wpAny_setField hT hdT sz ?_
  have other : ∀ b, b ≠ T → (s.heap.update T (Obj.mapFields (·.setIfInBounds 3 ((none : Option Addr).elim Value.none fun f => rawInt f)))).get? b = s.heap.get? b := fun b hb => Heap.get?_update_other _ _ (Ne.symm hb)
  have norec : ∀ b o, s.heap.get? b = some o → (∀ vs, o.data ≠ .fields vs) → b ≠ T := fun b o z hnf q => by
    rw [q, hT] at z; cases z; exact hnf ts hdT
  have d3 := Obj.data_mapFields hdT (·.setIfInBounds 3 ((none : Option Addr).elim Value.none fun f => rawInt f))
  refine h _ ⟨fun b o z => (other b fun q => by rw [q, nT] at z; cases z).trans (F.stays b o z), F.new, F.fr.of_keeps fun b o z hnf => ⟨o, (other b (norec b o z hnf)).trans z, rfl⟩, ?_, F.cx.keep (keeps2_set hT hdT (by decide))⟩ fun b o z hnf => ⟨o.slots, (other b (norec b o z hnf)).trans z⟩
  exact ⟨oe, vs, T, _, _, (other e (Ne.symm hTe)).trans he, hc, hdi, hd, h1, nT, hTe, Heap.get?_update_self _ hT (Obj.isFreed_of_fields d3), d3, by simp [sz]⟩
theorem Fl.tail {fl : Value} {h : Heap} (F : Fl B (env :: l) e cls fl h) : Fl B l e cls fl h := ⟨F.stays, F.new, F.fr.2.2, F.tr, F.cx⟩
theorem up_trans {h h1 h2 : Heap} (a : h.UpToSlots h1) (b : h1.UpToSlots h2) : h.UpToSlots h2 := fun x o z hnf => by
  obtain ⟨s1, z1⟩ := a x o z hnf
  obtain ⟨s2, z2⟩ := b x _ z1 hnf
  exact ⟨s2, z2⟩
theorem fl_leave {Q : Unit → Shared → Prop} (hfr : A.frames = some (env :: outer)) (hf : env.frame = some L) (F : Fl B (env :: outer) e cls .none s.heap)
    (h : ∀ h', Fl B outer e cls .none h' → s.heap.UpToSlots h' → Q () { s with heap := h' }) : wpAny M A (leaving env (.ref e)) Q E s := by
  unfold leaving
  exact wpAny_bind (fl_note hfr hf F fun h1 F1 u1 => fl_land F1 fun h2 F2 u2 => h h2 F2.tail (up_trans u1 u2))
theorem fl_made {h0 : Heap} {args : List Value} {Q : Unit → Shared → Prop} (hfr : A.frames = some (env :: outer)) (hf : env.frame = some L) (hkb : B.StaysIn h0) (hl : h0.FunFrames B (env :: outer)) (hx : Heap.MadeExcOf h0 s.heap e cls args)
    (h : ∀ h', Fl B outer e cls .none h' → s.heap.UpToSlots h' → Q () { s with heap := h' }) : wpAny M A (leaving env (.ref e)) Q E s := by
  obtain ⟨t, he, _, _⟩ := hx.there
  have hen : B.get? e = none := by
    cases q : B.get? e with
    | none => rfl
    | some o => have := hkb e o q; rw [hx.new] at this; cases this
  unfold leaving
  exact wpAny_bind (fl_first hfr (hl.of_keeps fun b o z _ => ⟨o, hx.keeps b o z, rfl⟩) hf he (fun b o z => hx.keeps b o (hkb b o z)) hen rfl rfl rfl ⟨.none, ⟨_, _, he, rfl, rfl⟩, .inl rfl⟩ fun h1 F1 u1 => fl_land F1 fun h2 F2 u2 => h h2 F2.tail (up_trans u1 u2))
end
end PySem
set_option linter.all false
set_option maxRecDepth 100000
namespace L2
open PySem PySem.Spec PyProof.Rows
structure Fly (P : Program) (w : World) (outer : List Env) (H : Hp) (s : Shared) (x : Addr) (cls : Value) (B : Heap) (H' : Hp) (s' : Shared) : Prop where
  os : s'.os = s.os
  bare : AllBare s'.gens
  un : Un [] [] H H' (PySem.W.hideAll s.heap (frs outer)) B
  hok : HOk P w H' B
  fly : Fl B outer x cls .none s'.heap
  slot : ∀ b ∈ frs outer, ∀ o, s.heap.get? b = some o → ∃ sl, s'.heap.get? b = some { o with slots := sl }
  frf : ∀ b ∈ frs outer, H' b = none
def CX1 (P : Program) (w : World) : CXT := fun outer H s E e s' => ∃ x cls B H', e = .ref x ∧ Fly P w outer H s x cls B H' s' ∧ E cls none H'
section
variable {P : Program} {w : World} {outer : List Env} {H H' : Hp} {s s' : Shared} {x : Addr} {cls : Value} {B : Heap}
theorem Fly.whole (F : Fly P w outer H s x cls B H' s') : Un (frs outer) [] H H' s.heap s'.heap where
  keep := fun b o e hn hf _ => F.fly.stays b o (F.un.keep b o (PySem.W.hideAll_get _ e hf) hn (by simp) (by simp))
  slot := fun b o e hn hf _ => F.slot b hf o e
  free := fun b o e hn _ => by
    by_cases hf : b ∈ frs outer
    · exact F.frf b hf
    · exact F.un.free b o (PySem.W.hideAll_get _ e hf) hn (by simp)
  there := fun b o e _ => by
    by_cases hf : b ∈ frs outer
    · obtain ⟨sl, h⟩ := F.slot b hf o e; exact ⟨_, h⟩
    · obtain ⟨o', h⟩ := F.un.there b o (PySem.W.hideAll_get _ e hf) (by simp); exact ⟨o', F.fly.stays _ _ h⟩
  tups := F.un.tups
  frzs := F.un.frzs
  tbls := F.un.tbls
theorem Fly.hok' (F : Fly P w outer H s x cls B H' s') : HOk P w H' s'.heap := F.hok.kept fun b u q => F.fly.stays b u q
end
theorem hide_at {h : Heap} {l : List Addr} {b : Addr} {o : Obj} (e : (PySem.W.hideAll h l).get? b = some o) : h.get? b = some o ∧ b ∉ l :=
  ⟨PySem.W.of_hideAll _ e, fun m => by rw [PySem.W.hideAll_none _ m] at e; cases e⟩
section
variable {X : Cx} {pins : List (Addr × Obj)} {σ : St} {H : Hp} {s : Shared}
theorem Inv.hideUn (I : Inv X pins σ H s) (hex : X.ex = []) : Un [] [] X.H₀ H (PySem.W.hideAll X.s₀.heap (frs X.outer)) (PySem.W.hideAll s.heap (frs X.stack)) := by
  have nex : ∀ b, b ∉ X.ex := fun b => by rw [hex]; simp
  have nst : ∀ b o, X.s₀.heap.get? b = some o → b ∉ frs X.outer → b ∉ frs X.stack := fun b o e hf hb => by
    rcases List.mem_cons.mp (I.stkSub b hb) with z | z
    · exact absurd z (Nat.ne_of_lt (Nat.lt_of_lt_of_le (Heap.lt_size e) I.ok.above))
    · exact hf z
  refine ⟨fun b o e hn _ _ => ?_, fun b o _ _ hb => absurd hb (by simp), fun b o e hn _ => ?_, fun b o e _ => ?_, I.base.tups, I.base.frzs, I.base.tbls⟩
  · obtain ⟨e1, e2⟩ := hide_at e
    exact PySem.W.hideAll_get _ (I.base.keep b o e1 hn e2 (nex b)) (nst b o e1 e2)
  · obtain ⟨e1, e2⟩ := hide_at e
    exact I.base.free b o e1 hn (nex b)
  · obtain ⟨e1, e2⟩ := hide_at e
    obtain ⟨o', h'⟩ := I.base.there b o e1 (nex b)
    exact ⟨o', PySem.W.hideAll_get _ h' (nst b o e1 e2)⟩
theorem Inv.hideHok (I : Inv X pins σ H s) : HOk X.prog X.w H (PySem.W.hideAll s.heap (frs X.stack)) := fun a o e =>
  (I.hok a o e).stay (fun b u hb q => PySem.W.hideAll_get _ q fun m => by
    have z := I.stkFree b m
    rcases hb with rfl | hb
    · rw [e] at z; cases z
    · rw [hb] at z; cases z) (fun _ _ _ q => q) (fun _ q => q) fun _ _ q => q
theorem Inv.slots (I : Inv X pins σ H s) (hex : X.ex = []) {b : Addr} (hb : b ∈ frs X.outer) {o : Obj} (e : X.s₀.heap.get? b = some o) : (∃ sl, s.heap.get? b = some { o with slots := sl }) ∧ ∀ vs, o.data ≠ .fields vs := by
  obtain ⟨_, o', e', hd⟩ := I.ok.funs.mem hb
  rw [e] at e'; cases e'
  exact ⟨I.base.slot b o e (I.ok.frf b hb) hb (by rw [hex]; simp), hd⟩
end
section
variable {P : Program} {w : World} {K : PySem.W.Frag} {mg : Str → Option Value} {base : Heap} {N : List Str} {qual : Str} {scope : Scope} {f : Addr} {cd : Value} {A : Around} {outer : List Env} {s : Shared} {H : Hp} {E : XK}
  {pins : List (Addr × Obj)} {σ : St} {H1 : Hp} {s1 : Shared}
theorem mem_stack {env : Env} {outer : List Env} {b : Addr} (hb : b ∈ frs outer) : b ∈ frs (env :: outer) := by
  unfold frs at hb ⊢
  obtain ⟨e, he, hf⟩ := List.mem_filterMap.mp hb
  exact List.mem_filterMap.mpr ⟨e, List.mem_cons_of_mem _ he, hf⟩
theorem leave_new {h' : Heap} {e : Addr} {cls : Value} {vs : List Value} (I : Inv (cxOf (CX1 P w) P w K mg base N qual scope f cd A outer s H E) pins σ H1 s1) (hx : Heap.MadeExcOf s1.heap h' e cls vs) (q : E cls none H1) :
    (cxOf (CX1 P w) P w K mg base N qual scope f cd A outer s H E).xe (.ref e) { s1 with heap := h' } := by
  have fr : (cxOf (CX1 P w) P w K mg base N qual scope f cd A outer s H E).A.frames = some (envOfC qual scope s.heap.objs.size f cd :: outer) := I.ok.frames
  have hf := PySem.W.funFrames_hide (as := frs (envOfC qual scope s.heap.objs.size f cd :: outer)) I.stack fun env he a ha => List.mem_filterMap.mpr ⟨env, he, ha⟩
  refine fl_made (B := PySem.W.hideAll s1.heap (frs (envOfC qual scope s.heap.objs.size f cd :: outer))) fr rfl (fun b o z => PySem.W.of_hideAll _ z) hf hx fun h2 x1 x4 => ?_
  refine ⟨e, cls, _, H1, rfl, ⟨I.os, I.bare, I.hideUn rfl, I.hideHok, x1, fun b hb o z => ?_, fun b hb => I.stkFree b (mem_stack hb)⟩, q⟩
  obtain ⟨⟨sl, z1⟩, hd⟩ := I.slots rfl hb z
  exact (x4 b _ (hx.keeps b _ z1) hd).imp fun sl' z' => z'
end
end L2
set_option linter.all false
set_option maxRecDepth 100000
namespace L2
open PySem PySem.Spec PyProof.Rows PySem.Calls
def tRaise (cls : Value) (E : XK) (te : TE) : TS := fun _ σ H => te σ H fun _ H1 => E cls none H1
section
variable {P : Program} {w : World} {K : PySem.W.Frag} {mg : Str → Option Value} {base : Heap} {N : List Str} {qual : Str} {scope : Scope} {f : Addr} {cd : Value} {A : Around} {outer : List Env} {s : Shared} {H : Hp} {E : XK}
theorem ps_raise {x : Str} {C : Addr} {bm : List Value} {newId initId Bn : String} {e : Expr} {te : TE} {np cpos pos : Pos} (O : OwnCls x C bm newId mg base) (FB : ExcBaseFacts Bn newId initId bm)
    (hg : Gl (cxOf (CX1 P w) P w K mg base N qual scope f cd A outer s H E) x) (he : PE (cxOf (CX1 P w) P w K mg base N qual scope f cd A outer s H E) e te) (hd : (x == ("__debug__" : Str)) = false := by decide)
    (hst : starEach [e] (cxOf (CX1 P w) P w K mg base N qual scope f cd A outer s H E).env = [(false, eval e (cxOf (CX1 P w) P w K mg base N qual scope f cd A outer s H E).env)] := by rfl)
    (hb : backTo cpos [(false, eval e (cxOf (CX1 P w) P w K mg base N qual scope f cd A outer s H E).env)] = [(false, eval e (cxOf (CX1 P w) P w K mg base N qual scope f cd A outer s H E).env)] := by rfl) :
    PS (cxOf (CX1 P w) P w K mg base N qual scope f cd A outer s H E) (.Raise (some (.Call (.Name x np) [e] [] cpos)) none pos) (tRaise (.ref C) E te) := by
  intro pins s1 σ H1 D I h
  obtain ⟨tl, Na, nm, q, bs, hdct, sn, sub, ab, col, dd, k0, k1, k2, k3, k5, mN, hC, hN, hni, T⟩ := O.obj
  refine wpAny_Raise_call_subT (C := C) (nm := nm) (q := q) (N := Na) (bs := bs) (bm := tl) (hdct := hdct) (sn := sn) (sub := sub) (ab := ab) (col := col) (dd := dd) (k0 := k0) (k1 := k1) (k2 := k2) (k3 := k3) (k5 := k5)
    FB (mN := mN) (T.hasType FB.hasBase) (I.ok.hd rfl) (by rw [hst, hb]; rfl) hni (ld_glob I hg O.bound ⟨rfl, ?_⟩ hd)
  rw [hst, hb]
  refine Calls.evalArgs_plain (Calls.spliced_cons (thn (he pins s1 σ H1 _ I h) fun v s2 ⟨vv, H2, I2, r, q2⟩ => Calls.spliced_nil ?_))
  exact ⟨rfl, by show 1 ≤ sizeLine; decide, I2.bk _ _ hC, hN.keeps I2.bk, T.keeps I2.bk, fun h' e' hm => leave_new I2 hm q2⟩
def tCl1 (sp : Sp) (E : XK) (t : TA) : TE := fun σ H Q => t σ H fun vs H1 => sp vs H1 Q E
end
end L2
set_option linter.all false
set_option maxRecDepth 100000
namespace L2
open PySem PySem.Spec PyProof.Rows PySem.Calls
theorem ObjOk.there {P : Program} {w : World} {H : Hp} {h : Heap} {a : Addr} {o : HO} (x : ObjOk P w H h a o) : ∃ ob, h.get? a = some ob := by
  cases o with
  | lst xs => obtain ⟨_, _, _, _, e⟩ := x; exact ⟨_, e⟩
  | tup xs => obtain ⟨_, _, _, p⟩ := x; obtain ⟨o, e, _⟩ := p; exact ⟨_, e⟩
  | dK kvs => obtain ⟨_, _, _, _, o, _, _, e, _⟩ := x; exact ⟨_, e⟩
  | dT kvs => obtain ⟨_, _, _, _, o, _, _, e, _⟩ := x; exact ⟨_, e⟩
  | set S n => obtain ⟨o, _, _, _, e, _⟩ := x; exact ⟨_, e⟩
  | ins C dx fs => obtain ⟨_, _, _, e, _⟩ := x; exact ⟨_, e⟩
  | own y => exact x
  | xd fs => obtain ⟨_, ⟨_, _, _, e, _⟩, _⟩ := x; exact ⟨_, e⟩
  | rng lo hi => obtain ⟨_, _, _, e⟩ := x; exact ⟨_, e⟩
  | frz ob u => obtain ⟨e, _⟩ := x; exact ⟨_, e⟩
  | tbl ps => obtain ⟨_, e, _⟩ := x; exact ⟨_, e⟩
  | met f y => exact ⟨_, show h.get? a = some _ from x⟩
  | ext φ => obtain ⟨_, e, _⟩ := x; exact e
section
variable {P : Program} {w : World} {outer : List Env} {H H' : Hp} {s s' : Shared} {x : Addr} {cls : Value} {B : Heap}
theorem Fly.next {h2 : Heap} (F : Fly P w outer H s x cls B H' s') (fly : Fl B outer x cls .none h2) (up : s'.heap.UpToSlots h2) (hf : ∀ b ∈ frs outer, ∀ o, s.heap.get? b = some o → ∀ vs, o.data ≠ .fields vs) :
    Fly P w outer H s x cls B H' { s' with heap := h2 } :=
  ⟨F.os, F.bare, F.un, F.hok, fly, fun b hb o e => by
    obtain ⟨sl, z⟩ := F.slot b hb o e
    exact (up b _ z (hf b hb o e)).imp fun sl' z' => z', F.frf⟩
theorem Fly.free (F : Fly P w outer H s x cls B H' s') : H' x = none := by
  cases e : H' x with
  | none => rfl
  | some o =>
    obtain ⟨ob, z⟩ := (F.hok x o e).there
    rw [F.fly.new] at z; cases z
end
abbrev HO.exc (x : Addr) (cls : Value) : HO := .ext fun h => ∃ o, h.get? x = some o ∧ o.cls = cls ∧ o.dict = none ∧ PySem.W.notCls o = true
section
variable {X : Cx} {pins : List (Addr × Obj)} {σ : St} {H H' : Hp} {s s' : Shared} {x : Addr} {cls : Value} {B : Heap}
theorem Inv.landed (I : Inv X pins σ H s) (F : Fly X.prog X.w X.stack H s x cls B H' s') : Inv X pins σ H' s' := by
  have u := F.whole
  have k := F.hok'
  have b := F.bare
  obtain ⟨hh, g, d, t, os'⟩ := s'
  obtain rfl : os' = s.os := F.os
  exact I.call (h' := hh) (g' := g) (d' := d) (t' := t) (ch := []) u k b fun b z => absurd z (by simp)
theorem Inv.track {o : HO} (I : Inv X pins σ H s) (h0 : X.s₀.heap.get? x = none) (hn : H x = none) (hl : x ≠ X.env.locals) (hc : ∀ y c, X.env.cells.lookup y = some c → c ≠ x) (hp : ∀ p ∈ X.pn ++ pins, p.1 ≠ x)
    (new : ObjOk X.prog X.w (upd H x o) s.heap x o) : Inv X pins σ (upd H x o) s := by
  have na : ∀ b u, H b = some u → b ≠ x := fun b u e z => by rw [z, hn] at e; cases e
  have n0 : ∀ b ob, X.s₀.heap.get? b = some ob → b ≠ x := fun b ob e z => by rw [z, h0] at e; cases e
  refine ⟨I.ok, I.os, I.bare, ⟨I.base.keep, I.base.slot, fun b ob e n hx => ?_, I.base.there, fun b xs e => ?_, fun b ob u e => ?_, fun b ps e => ?_⟩, I.loc, I.cell, ?_, fun y c e => ?_, fun p hp' => ?_, fun b u e => ?_, I.len⟩
  · rw [upd_ne (n0 b ob e)]; exact I.base.free b ob e n hx
  · have z := I.base.tups b xs e; rw [upd_ne (na b _ z)]; exact z
  · have z := I.base.frzs b ob u e; rw [upd_ne (na b _ z)]; exact z
  · obtain ⟨m, z⟩ := I.base.tbls b ps e; exact ⟨m, by rw [upd_ne (na b _ z)]; exact z⟩
  · rw [upd_ne (Ne.symm hl)]; exact I.free
  · rw [upd_ne (hc y c e)]; exact I.freeC y c e
  · obtain ⟨z1, z2, z3, z4, z5⟩ := I.pin p hp'
    exact ⟨z1, by rw [upd_ne (hp p hp')]; exact z2, z3, z4, z5⟩
  · by_cases hb : b = x
    · subst hb; rw [upd_same] at e; cases e; exact new
    · rw [upd_ne hb] at e
      exact (I.hok b u e).stay (fun _ _ _ q => q) (fun c ob v q => by rw [upd_ne (na c _ q)]; exact q) (fun c q => by rw [upd_ne (na c _ q)]; exact q) fun c xs q => by rw [upd_ne (na c _ q)]; exact q
abbrev Cx.held (X : Cx) (e : Value) : Cx := { X with A := X.A.mark (some e), calm := false, xe := fun _ _ => False }
theorem Inv.held (I : Inv X pins σ H s) (e : Value) : Inv (X.held e) pins σ H s :=
  ⟨⟨I.ok.mod, I.ok.kind, I.ok.glob, I.ok.blt, I.ok.above, I.ok.inj, I.ok.has, I.ok.cab, fun z => (by cases z), I.ok.frames, I.ok.stk, I.ok.exf, I.ok.bs, I.ok.bsz, I.ok.noex, I.ok.exfs, I.ok.funs, I.ok.frf⟩, I.os, I.bare, I.base, I.loc, I.cell, I.free, I.freeC, I.pin, I.hok, I.len⟩
theorem Inv.unheld {e : Value} (ok : X.Ok) (I : Inv (X.held e) pins σ H s) : Inv X pins σ H s := ⟨ok, I.os, I.bare, I.base, I.loc, I.cell, I.free, I.freeC, I.pin, I.hok, I.len⟩
end
end L2
set_option linter.all false
set_option maxRecDepth 100000
namespace PySem.W
open PySem PySem.Spec PySem.Calls PyProof.Rows
def ExcAt (x D : Addr) (h : Heap) : Prop := ∃ o, h.get? x = some o ∧ o.cls = .ref D ∧ o.dict = none ∧ notCls o = true
theorem ExcAt.inst {x D : Addr} {h : Heap} (e : ExcAt x D h) : ∃ o, InstAt h x o D none := by
  obtain ⟨o, h1, h2, h3, h4⟩ := e
  exact ⟨o, h1, h2, h4, by rw [h3]; trivial⟩
section
variable {K : Frag} {x D : Addr} {prog : Program} {w : World} {A : Around} {E : Value → Shared → Prop} {s : Shared} {ox : Obj}
theorem exc_check {nm : Value} {Q : Unit → Shared → Prop} (X : K.In s.heap) (I : InstAt s.heap x ox D none) (hb : subIn K (.ref D) (.type "BaseException") = some true) (k : Q () s) :
    wpAny (model prog w) A (checkBuiltinCall "BaseException.__getattribute__" ⟨[.ref x, nm], []⟩) Q E s := by
  have L0 := I.type (M := model prog w)
  have L4 := looks_subIn (M := model prog w) X hb
  have k1 : builtinKind "BaseException.__getattribute__" = some .slot := by decide +kernel
  have k2 : splitId "BaseException.__getattribute__" = some ("BaseException", "__getattribute__") := by decide +kernel
  have ha := F.args_bexc_ga (.ref x) nm
  simp only [checkBuiltinCall, k1, k2]
  refine wpAny_bind ?_
  unfold isInstance
  repeat (first | with_reducible refine L0.at ?_ | with_reducible refine L4.at ?_ | wp_step)
  exact k
theorem exc_find {tk : Tok} {Q : Fin → Shared → Prop} (X : K.In s.heap) (I : InstAt s.heap x ox D none)
    (hf : findObj K D none "__class__" = some (.bind (.builtin "getset_descriptor.__get__") (.builtin "object.__class__"))) (hm : mroIn K D (.type "object") = some true) (k : Q (.done (.ret (.ref D))) s) :
    wpAny (model prog w) A (Builtin.«object.__getattribute__» ⟨[.ref x, .str "__class__" tk], []⟩) Q E s := by
  have L0 := I.type (M := model prog w)
  have L3 := looks_find (M := model prog w) X I hf
  unfold Builtin.«object.__getattribute__»
  refine wpAny_bind (wpAny_pure ?_)
  refine wpAny_bind (wpAny_pure ?_)
  refine wpAny_bind (L0.at (wpAny_bind (L3.at ?_)))
  show wpAny _ _ (holding [.builtin "object.__class__"] (call (.builtin "getset_descriptor.__get__") [.builtin "object.__class__", .ref x, .ref D]) >>= ret) _ _ _
  exact wpAny_bind (wpAny_holding (wpAny_call (class_get (ox := ox) (od := none) X I hm (wpAny_pure k))))
theorem exc_class {Q : Option Value → Shared → Prop} (X : K.In s.heap) (I : InstAt s.heap x ox D none)
    (hga : findIn K (.ref D) "__getattribute__" = some (some (.builtin "BaseException.__getattribute__"))) (hgr : findIn K (.ref D) "__getattr__" = some none) (hb : subIn K (.ref D) (.type "BaseException") = some true)
    (hf : findObj K D none "__class__" = some (.bind (.builtin "getset_descriptor.__get__") (.builtin "object.__class__"))) (hm : mroIn K D (.type "object") = some true)
    (k : Q (some (.ref D)) { s with toks := s.toks + 1 }) : wpAny (model prog w) A (getAttr? (.ref x) "__class__") Q E s := by
  obtain ⟨hh, g, d, t, os⟩ := s
  have L0 := I.type (M := model prog w)
  have L1 := looks_findIn (M := model prog w) X hga
  have L2 := looks_findIn (M := model prog w) X hgr
  have fb := F.excAttr_ValueError.ga.bind (.ref x)
  have ne : (Value.builtin "BaseException.__getattribute__" == Value.builtin "object.__getattribute__") = false := by decide +kernel
  have hx1 : (onTheHeap (Value.ref D) && Value.builtin "BaseException.__getattribute__" == Value.builtin "object.__getattribute__") = false := by rw [ne]; rfl
  unfold getAttr? getAttrBy? getAttrBy
  refine wpAny_bind (wpAny_mkText (wpAny_bind (wpAny_attempt (wpAny_holding (wpAny_bind (L0.at (wpAny_bind (L1.at ?_))))))))
  simp only [hx1, Bool.false_eq_true, if_false]
  unfold getAttrByItsOwn hookBefore
  refine wpAny_bind ?_
  show wpAny _ _ (typeLookup (.ref D) "__getattr__") _ _ _
  refine L2.at ?_
  refine wpAny_bind (wpAny_attempt (wpAny_holding ?_))
  show wpAny _ _ (boundAndCalled (.builtin "BaseException.__getattribute__") (.ref x) (.str "__class__" t)) _ _ _
  unfold boundAndCalled
  rw [fb]
  refine wpAny_bind (wpAny_pure ?_)
  show wpAny _ _ (call (.builtin "BaseException.__getattribute__") [.ref x, .str "__class__" t]) _ _ _
  refine wpAny_call (codeAny_call_builtin F.excAttr_ValueError.ga.plain F.entry_bexc_ga (exc_check X I hb (exc_find X I hf hm ?_)))
  exact handed_on rfl (wpAny_pure k)
end
theorem kitx_exc {K : Frag} {x D : Addr} (hga : findIn K (.ref D) "__getattribute__" = some (some (.builtin "BaseException.__getattribute__"))) (hgr : findIn K (.ref D) "__getattr__" = some none) (hb : subIn K (.ref D) (.type "BaseException") = some true) (hc : (clsIn K D).isSome = true) (ha : findIn K (.ref D) "__class__" = some (some (.builtin "object.__class__")))
    (hn : specialIn K (.builtin "object.__class__") "__get__" = some (some (.builtin "getset_descriptor.__get__"))) (htk : takesIn K (.builtin "object.__class__") = some true) (hm : mroIn K D (.type "object") = some true) :
    KitX K (.ref x) (.ref D) (ExcAt x D) where
  ty := fun _ _ _ e => let ⟨_, I⟩ := e.inst; I.type
  it := fun _ _ X _ => by
    obtain ⟨cd, hcd⟩ := Option.isSome_iff_exists.mp hc
    unfold clsIn at hcd
    split at hcd
    · rename_i c' d' cd' sl' ho
      intro A' Q' E' s' k q
      unfold isType loadHead
      exact wpAny_bind (wpAny_loadPart (k _ _ (X _ _ ho)) (wpAny_pure q))
    · cases hcd
  ne := fun h tp dd its n sl X htp => by
    obtain ⟨cd, hcd⟩ := Option.isSome_iff_exists.mp hc
    refine Bool.eq_false_iff.mpr fun q => ?_
    have e : D = tp := Value.ref.inj (beq_iff_eq.mp q)
    subst e
    unfold clsIn at hcd
    split at hcd
    · rename_i c' d' cd' sl' ho
      cases (X _ _ ho).symm.trans htp
    · cases hcd
  ca := fun {prog w A E Q s} X e k => by
    obtain ⟨ox, I⟩ := e.inst
    have hf : findObj K D none "__class__" = some (.bind (.builtin "getset_descriptor.__get__") (.builtin "object.__class__")) := by
      obtain ⟨cd, hcd⟩ := Option.isSome_iff_exists.mp hc
      unfold findObj
      rw [hcd, Option.bind_some, ha, Option.bind_some]
      simp [hn, htk]
    exact exc_class X I hga hgr hb hf hm k
end PySem.W
namespace L2
open PySem PySem.Spec PyProof.Rows PySem.Calls
structure ExcCls (K : PySem.W.Frag) (D : Addr) : Prop where
  hga : PySem.W.findIn K (.ref D) "__getattribute__" = some (some (.builtin "BaseException.__getattribute__"))
  hgr : PySem.W.findIn K (.ref D) "__getattr__" = some none
  hb : PySem.W.subIn K (.ref D) (.type "BaseException") = some true
  hc : (PySem.W.clsIn K D).isSome = true
  ha : PySem.W.findIn K (.ref D) "__class__" = some (some (.builtin "object.__class__"))
  hn : PySem.W.specialIn K (.builtin "object.__class__") "__get__" = some (some (.builtin "getset_descriptor.__get__"))
  htk : PySem.W.takesIn K (.builtin "object.__class__") = some true
  hm : PySem.W.mroIn K D (.type "object") = some true
section
variable {X : Cx}
end
end L2
set_option linter.all false
set_option maxRecDepth 100000
namespace L2
open PySem PySem.Spec PyProof.Rows PySem.Calls
section
variable {P : Program} {w : World} {K : PySem.W.Frag} {mg : Str → Option Value} {base : Heap}
end
end L2
set_option linter.all false
set_option maxRecDepth 100000
namespace PySem.W
open PySem PySem.Spec PySem.Calls PyProof.Rows
theorem exc_match {K : Frag} {prog : Program} {w : World} {A : Around} {E : Value → Shared → Prop} {s : Shared} {x D C : Addr} {b : Bool} {Q : Bool → Shared → Prop} (X : K.In s.heap) (e : ExcAt x D s.heap)
    (hk : kitCls K (.ref C) (.ref C) ≠ none) (hb : subIn K (.ref C) (.type "BaseException") = some true) (hs : kitCls K (.ref D) (.ref C) = some b) (h : Q b s) : wpAny (model prog w) A (excMatches (.ref x) (.ref C)) Q E s := by
  obtain ⟨ox, I⟩ := e.inst
  have L0 := I.type (M := model prog w)
  obtain ⟨L1, L2, L3⟩ := kit_cls (M := model prog w) X hs
  have L4 := looks_subIn (M := model prog w) X hb
  have f := tc_notTuple
  unfold excMatches isInstance isExcClass
  refine wpAny_bind (wpAny_bind (L1.at ?_))
  rw [f]
  refine wpAny_pure ?_
  simp only [Bool.false_eq_true, if_false]
  refine wpAny_bind (wpAny_pure ?_)
  cases b <;> repeat (first | with_reducible exact h | with_reducible refine L2.at ?_ | with_reducible refine L4.at ?_ | with_reducible refine L0.at ?_ | with_reducible refine L3.at ?_ | wp_step)
end PySem.W
set_option linter.all false
set_option maxRecDepth 100000
namespace L2
open PySem PySem.Spec PyProof.Rows PySem.Calls
section
variable {X : Cx} {pins : List (Addr × Obj)} {σ : St} {H : Hp} {s : Shared}
theorem unbind_ok {M : Model} {A : Around} {E : Value → Shared → Prop} {i : Nat} {x : Str} {v : V} {Q : Unit → Shared → Prop} (I : Inv X pins σ H s) (hN : X.N.Nodup) (hi : X.N[i]? = some x) (hk : X.env.scope.names.lookup x = some .local) (hσ : σ[i]? = some (some v))
    (h : ∀ s', Inv X pins (σ.set i none) H s' → Q () s') : wpAny M A (unbindName X.env x) Q E s := by
  obtain ⟨m, hn, hl⟩ := id I.loc
  have hcls : (X.env.scope.kind == .class || (X.env.scope.kind == .module && X.env.locals != X.env.globals)) = false := by rw [I.ok.kind]; rfl
  have hiσ : i < σ.length := by rw [I.len]; exact (List.getElem?_eq_some_iff.mp hi).1
  obtain ⟨u0, _, look⟩ := hl i x v hi hσ (.inl hk)
  have hv : m x = some u0 := by
    rcases look with ⟨_, z⟩ | ⟨k, _⟩
    · exact z
    · rcases k with k | k
      · rw [show X.env.kindOf x = some .local from hk] at k; cases k
      · rw [show X.env.kindOf x = some .local from hk] at k; cases k
  have nL : ∀ b o, X.s₀.heap.get? b = some o → b ≠ X.env.locals := fun b o e => Nat.ne_of_lt (Nat.lt_of_lt_of_le (Heap.lt_size e) I.ok.above)
  refine wpAny_unbindName_local hk hn hv hcls fun h' u hn' hs => ?_
  refine h _ ⟨I.ok, I.os, I.bare, ⟨fun b o e n hb hx => (hs.2 b (nL b o e)).trans (I.base.keep b o e n hb hx), fun b o e n hb hx => ?_, I.base.free, fun b o e hx => ?_, I.base.tups, I.base.frzs, I.base.tbls⟩, ⟨_, hn', fun j y v' e1 e2 e3 => ?_⟩, fun y c e => ?_, I.free, I.freeC, fun p hp => ?_, fun b ob e => ?_, by simpa using I.len⟩
  · obtain ⟨sl, e1⟩ := I.base.slot b o e n hb hx
    exact ⟨sl, (hs.2 b (nL b o e)).trans e1⟩
  · obtain ⟨o', e1⟩ := I.base.there b o e hx
    exact ⟨o', (hs.2 b (nL b o e)).trans e1⟩
  · by_cases hj : j = i
    · subst hj
      rw [List.getElem?_set_self hiσ] at e2
      cases e2
    · rw [List.getElem?_set_ne (Ne.symm hj)] at e2
      obtain ⟨u', r', q⟩ := hl j y v' e1 e2 e3
      refine ⟨u', r', ?_⟩
      rcases q with ⟨k, e⟩ | ⟨k, c, e, z⟩
      · refine .inl ⟨k, ?_⟩
        have : y ≠ x := fun e => hj (nodup_ix hN e1 (e ▸ hi))
        simp [this, e]
      · exact .inr ⟨k, c, e, z.sameBut hs (I.cne y c e)⟩
  · obtain ⟨w', z⟩ := I.cell y c e
    exact ⟨w', z.sameBut hs (I.cne y c e)⟩
  · obtain ⟨e, n, ne, nf, d⟩ := I.pin p hp
    exact ⟨(hs.2 p.1 ne).trans e, n, ne, nf, d⟩
  · refine (I.hok b ob e).stay (fun c w' hc q => (hs.2 c ?_).trans q) (fun _ _ _ q => q) (fun _ q => q) fun _ _ q => q
    rintro rfl
    rcases hc with rfl | hc
    · have z := I.free; rw [e] at z; cases z
    · have z := I.free; rw [hc] at z; cases z
end
end L2
set_option linter.all false
set_option maxRecDepth 100000
namespace L2
open PySem PySem.Spec PyProof.Rows PySem.Calls
section
variable {X : Cx} {pins : List (Addr × Obj)} {σ : St} {H H' : Hp} {s s' : Shared} {x D C0 : Addr} {B : Heap} {c n : Str} {np hp : Pos} {i : Nat} {b₀ : Stmt} {suite : List Stmt} {D' : Ends} {ts : TS}
end
end L2
set_option linter.all false
set_option maxRecDepth 100000
namespace L2
open PySem PySem.Spec PyProof.Rows PySem.Calls
end L2
set_option linter.all false
set_option maxRecDepth 100000
namespace L2
open PySem PySem.Spec PyProof.Rows PySem.Calls
section
variable {P : Program} {w : World} {K : PySem.W.Frag} {mg : Str → Option Value} {base : Heap} {k : Nat} {fa : Addr} {sp : Sp} {H H' : Hp}
end
section
variable {P : Program} {w : World} {K : PySem.W.Frag} {mg : Str → Option Value} {base : Heap}
end
end L2
namespace L2
open PySem PySem.Spec PyProof.Rows PySem.Calls
end L2
namespace PySem.L3
open PySem
theorem boot_ValueError : bootBuiltins "ValueError" = some (.type "ValueError") := by decide +kernel
end PySem.L3
set_option linter.all false
set_option maxRecDepth 100000
namespace L2
open PySem PySem.Spec PyProof.Rows PySem.Calls PySem.Builtin PySem.Builtin.Str
theorem vals_strs : ∀ {l : List (Str × Tok)}, Vals ((l.map (·.1)).map V.str) (strValues l)
  | [] => .nil
  | p :: l => .cons ⟨p.2, rfl⟩ vals_strs
theorem strs_of : ∀ {xs : List Str} {its : List Value}, Vals (xs.map V.str) its → ∃ l : List (Str × Tok), l.map (·.1) = xs ∧ its = strValues l
  | [], _, r => by cases r; exact ⟨[], rfl, rfl⟩
  | x :: xs, _, r => by
    cases r with
    | cons r1 r2 =>
      obtain ⟨t, rfl⟩ := r1
      obtain ⟨l, h1, rfl⟩ := strs_of r2
      exact ⟨(x, t) :: l, by rw [List.map_cons, h1], rfl⟩
section
variable {X : Cx}
inductive rSplit (x : V) (xs : List V) (H : Hp) (Q : VK) : Prop where
  | mk (a b : Str) (h_0 : x = .str a) (h_1 : xs = [.str b]) (h_2 : (b.length == 0) = false) (h_3 : a.length ≤ 100000) (h_4 : (Txt.split a b).length ≤ sizeLine) (h_5 : ∀ p, H p = none → Q (.ref p) (upd H p (.lst ((Txt.split a b).map V.str))))
theorem mt_split : MtR X "str.split" rSplit := by
  intro pins s σ H x xs v us Q I rx rv h
  obtain ⟨a, b, rfl, rfl, hb, ha, hn, q⟩ := h
  obtain ⟨t, rfl⟩ := rx
  obtain ⟨u, rfl, ru⟩ := vals1 rv
  obtain ⟨u', rfl⟩ := ru
  have hz : a.length ≤ sizeLine := by rw [sizeLine_eq]; omega
  have fin : ∀ (l : List (Str × Tok)) (k : Nat), l.map (·.1) = Txt.split a b → EP X pins σ Q (.ref s.heap.objs.size) { s with heap := s.heap.push { cls := .type "list", data := .seq (strValues l).toArray }, toks := k } := fun l k e =>
    ⟨.ref s.heap.objs.size, _, I.laid (t' := k) (o := .lst ((Txt.split a b).map V.str)) (fun c o z => Heap.get?_push_of_some _ z) (Nat.le_refl _) ⟨by rw [List.length_map]; exact hn, _, 0, by rw [← e]; exact vals_strs, Heap.get?_push_size _ rfl⟩, rfl, q _ (I.hok.fresh (Nat.le_refl _))⟩
  cases h1 : (decide (a.length < b.length) || decide (strKind a < strKind b)) with
  | true => exact call_meets F.slot_str_split (typeIs_str _ _ _) F.entry_str_split (F.args_str_split_2 _ _) (meets_str_split_cannot_occur a b t u' h1) (fin [(a, t)] s.toks (if_pos h1).symm)
  | false =>
    cases hf : (occurrences a b 0 a.length (a.length + 1)).isEmpty with
    | true => exact call_meets F.slot_str_split (typeIs_str _ _ _) F.entry_str_split (F.args_str_split_2 _ _) (meets_str_split_not_found a b t u' h1 hb hf) (fin [(a, t)] s.toks ((if_neg (ne_true_of_eq_false h1)).trans (if_pos hf)).symm)
    | false =>
      have e : Txt.split a b = partsBetween a (occurrences a b 0 a.length (a.length + 1)) b.length := (if_neg (ne_true_of_eq_false h1)).trans (if_neg (ne_true_of_eq_false hf))
      refine call_meets F.slot_str_split (typeIs_str _ _ _) F.entry_str_split (F.args_str_split_2 _ _) (meets_str_split_sep a b t u' h1 hb hf hz (by rw [← e]; exact hn)) ?_
      have z := fin (numbered s.toks (partsBetween a (occurrences a b 0 a.length (a.length + 1)) b.length)) (s.toks + (partsBetween a (occurrences a b 0 a.length (a.length + 1)) b.length).length) ((numbered_texts _ _).trans e.symm)
      rw [← strsFrom_eq] at z
      exact z
inductive rPart (x : V) (xs : List V) (H : Hp) (Q : VK) : Prop where
  | mk (a b : Str) (h_0 : x = .str a) (h_1 : xs = [.str b]) (h_2 : (b.length == 0) = false) (h_3 : a.length ≤ 100000) (h_5 : ∀ p, H p = none → Q (.ref p) (upd H p (.tup [.str (Txt.partition a b).1, .str (Txt.partition a b).2.1, .str (Txt.partition a b).2.2])))
theorem mt_partition : MtR X "str.partition" rPart := by
  intro pins s σ H x xs v us Q I rx rv h
  obtain ⟨a, b, rfl, rfl, hb, ha, q⟩ := h
  obtain ⟨t, rfl⟩ := rx
  obtain ⟨u, rfl, ru⟩ := vals1 rv
  obtain ⟨u', rfl⟩ := ru
  have hz : a.length ≤ sizeLine := by rw [sizeLine_eq]; omega
  refine call_meets F.slot_str_partition (typeIs_str _ _ _) F.entry_str_partition (F.args_str_partition_2 _ _) (meets_str_partition a b t u' hb hz) ?_
  have fin : ∀ (p1 p2 p3 : Str) (t1 t2 t3 : Tok) (k : Nat), (∀ p, H p = none → Q (.ref p) (upd H p (.tup [.str p1, .str p2, .str p3]))) →
      EP X pins σ Q (.ref s.heap.objs.size) { s with toks := k, heap := s.heap.push { cls := .type "tuple", data := .seq [.str p1 t1, .str p2 t2, .str p3 t3].toArray } } := fun p1 p2 p3 t1 t2 t3 k q =>
    ⟨.ref s.heap.objs.size, _, I.laid (t' := k) (o := .tup [.str p1, .str p2, .str p3]) (fun c o z => Heap.get?_push_of_some _ z) (Nat.le_refl _) ⟨by show 3 ≤ sizeLine; decide, _, .cons ⟨t1, rfl⟩ (.cons ⟨t2, rfl⟩ (.cons ⟨t3, rfl⟩ .nil)), ⟨_, Heap.get?_push_size _ rfl, rfl, _, rfl⟩⟩, rfl, q _ (I.hok.fresh (Nat.le_refl _))⟩
  unfold Txt.partition at q
  revert q
  cases occurrences a b 0 a.length 1 with
  | nil => intro q; exact fin _ _ _ _ _ _ _ q
  | cons i r => intro q; exact fin _ _ _ _ _ _ _ q
inductive rStrip (x : V) (xs : List V) (H : Hp) (Q : VK) : Prop where
  | mk (a b : Str) (h_0 : x = .str a) (h_1 : xs = [.str b]) (h_3 : a.length ≤ 100000) (h_5 : Q (.str (Txt.stripChars a b)) H)
theorem mt_strip : MtR X "str.strip" rStrip := by
  intro pins s σ H x xs v us Q I rx rv h
  obtain ⟨a, b, rfl, rfl, ha, q⟩ := h
  obtain ⟨t, rfl⟩ := rx
  obtain ⟨u, rfl, ru⟩ := vals1 rv
  obtain ⟨u', rfl⟩ := ru
  exact SC.stripChars (fun t' k => ⟨.str _, H, I.tok k, ⟨t', rfl⟩, q⟩) (by rw [sizeLine_eq]; omega)
inductive rJoin (K : PySem.W.Frag) (x : V) (xs : List V) (H : Hp) (Q : VK) : Prop where
  | mk (a : Str) (l : Addr) (ts : List Str) (h_0 : x = .str a) (h_1 : xs = [.ref l]) (h_2 : SqL K H l (ts.map V.str)) (h_3 : JoinOk a ts = true) (h_5 : Q (.str (Txt.join a ts)) H)
theorem mt_join : MtR X "str.join" (rJoin X.K) := by
  intro pins s σ H x xs v us Q I rx rv h
  obtain ⟨a, l, ts, rfl, rfl, hl, hok, q⟩ := h
  obtain ⟨t, rfl⟩ := rx
  obtain ⟨u, rfl, ru⟩ := vals1 rv
  cases ru
  obtain ⟨its, r, pl, hz⟩ := I.list hl
  obtain ⟨tt, e, rfl⟩ := strs_of r
  exact SC.join pl.isList e hok fun t' k => ⟨.str _, H, I.tok k, ⟨t', rfl⟩, q⟩
inductive rIntS (xs : List V) (H : Hp) (Q : VK) : Prop where
  | mk (a : Str) (n : Int) (h_0 : xs = [.str a]) (h_1 : PySem.intText? a = some n) (h_2 : a.length ≤ 640) (h_3 : Q (.int n) H)
theorem call_intS : CallR X (.type "int") rIntS := by
  intro pins s σ H xs us Q I rv h
  obtain ⟨a, n, rfl, hn, hl, q⟩ := h
  obtain ⟨u, rfl, ru⟩ := vals1 rv
  obtain ⟨t, rfl⟩ := ru
  exact PySem.W.KIN.call_text hn hl ⟨.int n, H, I.tok _, ⟨_, rfl⟩, q⟩
inductive rSlS (x : V) (lo hi : Option Int) (H : Hp) (Q : VK) : Prop where
  | mk (a : Str) (h_0 : x = .str a) (h_1 : a.length ≤ 100000) (h_2 : Q (.str (Txt.slice a lo hi)) H)
theorem sl_str : SlR X rSlS := by
  intro pins s σ H x v vl vu lo hi sl Q I rx hs pl pu h
  obtain ⟨a, rfl, ha, q⟩ := h
  obtain ⟨t, rfl⟩ := rx
  have hz : a.length ≤ sizeLine := by rw [sizeLine_eq]; omega
  refine ⟨"str", _, F.slot_str_getitem.lookup, typeIs_str _ _ _, ?_⟩
  have fin : ∀ t' k, EP X pins σ Q (.str (Txt.slice a lo hi) t') { s with toks := k } := fun t' k => ⟨.str _, H, I.tok k, ⟨t', rfl⟩, q⟩
  cases pl with
  | none =>
    cases pu with
    | none => exact wpAny_getItem_str_slice (l := none) (u := none) (st := none) hs rfl (post_val_or_str ⟨Nat.le_trans (Txt.slice_le a _ _) hz, fin⟩)
    | int j u => exact wpAny_getItem_str_slice (l := none) (u := some (j, u)) (st := none) hs rfl (post_val_or_str ⟨Nat.le_trans (Txt.slice_le a _ _) hz, fin⟩)
  | int i u1 =>
    cases pu with
    | none => exact wpAny_getItem_str_slice (l := some (i, u1)) (u := none) (st := none) hs rfl (post_val_or_str ⟨Nat.le_trans (Txt.slice_le a _ _) hz, fin⟩)
    | int j u => exact wpAny_getItem_str_slice (l := some (i, u1)) (u := some (j, u)) (st := none) hs rfl (post_val_or_str ⟨Nat.le_trans (Txt.slice_le a _ _) hz, fin⟩)
end
end L2
set_option linter.all false
set_option maxRecDepth 100000
namespace PySem
open Sem (wp)
namespace C
def HasB (Γ : Ctx) : Prop := Γ.below.any (fun x => x.1.isCaller) = true
theorem HasB.enter {Γ : Ctx} (h : HasB Γ) (c : Code) (hd : Option Value) (p : Pos) : HasB (Γ.enter c hd p) := by
  show ((Γ.code, p) :: Γ.below).any (fun x => x.1.isCaller) = true
  rw [List.any_cons, h, Bool.or_true]
def wpC {α : Type} (M : Model) (A : Around) (t : Sem α) (Q : α → Shared → Prop) (E : Value → Shared → Prop) (s : Shared) : Prop :=
  ∀ Γ p, Γ.In A → HasB Γ → wp M Γ t (fun a _ s' => Q a s') (fun e _ s' => E e s') p s
def codeC (M : Model) (A : Around) (c : Code) (R : Result → Shared → Prop) (s : Shared) : Prop :=
  ∀ Γ p, Γ.code = c → Γ.Below A → HasB Γ → wpCode M Γ R p s
section
variable {α β : Type} {M : Model} {A : Around} {E : Value → Shared → Prop} {s : Shared}
theorem wpC_of {t : Sem α} {Q : α → Shared → Prop} (h : wpAny M A t Q E s) : wpC M A t Q E s := fun Γ p hΓ _ => h Γ p hΓ
theorem codeC_of {c : Code} {R : Result → Shared → Prop} (h : codeAny M A c R s) : codeC M A c R s := fun Γ p hc hΓ _ => h Γ p hc hΓ
theorem wpC_mono {t : Sem α} {Q Q' : α → Shared → Prop} {E' : Value → Shared → Prop} (h : wpC M A t Q E s) (hQ : ∀ a s, Q a s → Q' a s) (hE : ∀ e s, E e s → E' e s) : wpC M A t Q' E' s :=
  fun Γ p hΓ hB => Sem.wp_mono M Γ t (fun a _ s => hQ a s) (fun e _ s => hE e s) p s (h Γ p hΓ hB)
theorem wpC_bind {m : Sem α} {f : α → Sem β} {Q : β → Shared → Prop} (h : wpC M A m (fun a s' => wpC M A (f a) Q E s') E s) : wpC M A (m >>= f) Q E s := fun Γ p hΓ hB => by
  rw [Sem.wp_bind']
  exact Sem.wp_mono M Γ m (fun a p' s' h' => h' Γ p' hΓ hB) (fun _ _ _ h' => h') p s (h Γ p hΓ hB)
theorem wpC_pure {a : α} {Q : α → Shared → Prop} (h : Q a s) : wpC M A (pure a) Q E s := fun _ _ _ _ => h
theorem wpC_onRaise {m : Sem α} {k : Value → Sem Unit} {Q : α → Shared → Prop} (h : wpC M A m Q (fun e s' => wpC M A (k e) (fun _ s'' => E e s'') E s') s) : wpC M A (m.onRaise k) Q E s := fun Γ p hΓ hB => by
  rw [Sem.wp_onRaise]
  exact Sem.wp_mono M Γ m (fun _ _ _ h' => h') (fun e p' s' h' => h' Γ p' hΓ hB) p s (h Γ p hΓ hB)
theorem wpC_attempt {m : Sem α} {Q : Except Value α → Shared → Prop} (h : wpC M A m (fun a => Q (.ok a)) (fun e => Q (.error e)) s) : wpC M A m.attempt Q E s := fun Γ p hΓ hB => by rw [Sem.wp_attempt]; exact h Γ p hΓ hB
theorem wpC_holding {vs : List Value} {m : Sem α} {Q : α → Shared → Prop} (h : wpC M A m Q E s) : wpC M A (holding vs m) Q E s := fun Γ p hΓ hB => by rw [Sem.wp_holding]; exact h Γ p hΓ hB
theorem wpC_keep {vs : List Value} {m : Sem α} {Q : α → Shared → Prop} (h : wpC M A m Q E s) : wpC M A (m.keep vs) Q E s := fun Γ p hΓ hB => by rw [Sem.wp_keep]; exact h Γ p hΓ hB
theorem codeC_mono {c : Code} {R R' : Result → Shared → Prop} (h : codeC M A c R s) (hR : ∀ r s, R r s → R' r s) : codeC M A c R' s := fun Γ p hc hΓ hB => wpCode_mono hR (h Γ p hc hΓ hB)
theorem wpC_run {c : Code} {h : Option Value} {Q : Flow → Shared → Prop} (hc : codeC M (A.mark h) c (fun r s' => match r with | .ok f => Q f s' | .error e => E e s') s) (hnb : h ≠ some byPass := by intro x; cases x) : wpC M A (run c h) Q E s :=
  fun Γ p hΓ hB => by rw [Sem.wp_run]; exact hc _ p rfl (hΓ.enter c h p hnb) (hB.enter c h p)
theorem wpC_runValue {c : Code} {Q : Value → Shared → Prop} (hc : codeC M A c (fun r s' => match r with | .ok (.ret v) => Q v s' | .ok _ => False | .error e => E e s') s) : wpC M A (runValue c) Q E s :=
  fun Γ p hΓ hB => by rw [Sem.wp_runValue]; exact hc _ p rfl (hΓ.enter c none p (by intro x; cases x)) (hB.enter c none p)
theorem wpC_call {f : Value} {pos : List Value} {kw : List (Str × Value)} {Q : Value → Shared → Prop} (hc : codeC M A (.call f ⟨pos, kw⟩) (fun r s' => match r with | .ok (.ret v) => Q v s' | .ok _ => False | .error e => E e s') s) :
    wpC M A (call f pos kw) Q E s := wpC_runValue hc
theorem codeC_of_tree {c : Code} {R : Result → Shared → Prop}
    (h : wpC M (A.under c) (M.den c) (fun fin s' => match fin with | .done f => R (.ok f) s' | .again c' => c'.quiet = true ∧ codeC M A c' R s') (fun e s' => R (.error e) s') s) : codeC M A c R s := fun Γ p hc hΓ hB => by
  rw [wpCode_iff_wp, hc]
  refine Sem.wp_mono M Γ _ (fun fin p' s' h' => ?_) (fun _ _ _ h' => h') p s (h Γ p (hc ▸ hΓ.in) hB)
  cases fin with
  | done f => exact h'
  | again c' => exact ⟨h'.1, h'.2 (Γ.goto c') p' rfl (hΓ.goto c') hB⟩
theorem wpC_stack {Q : List (Code × Pos) → Shared → Prop} (h : ∀ st : List (Code × Pos), st.any (fun x => x.1.isCaller) = true → Q st s) : wpC M A stack Q E s := fun Γ p hΓ hB => by
  show Q ((Γ.code, p) :: Γ.below) s
  exact h _ (by rw [List.any_cons, show Γ.below.any (fun x => x.1.isCaller) = true from hB, Bool.or_true])
theorem wpC_mark {own : List String} {e : Value} {Q : Unit → Shared → Prop} (h : Q () s) : wpC M A (markTheRefusal own e) Q E s := by
  unfold markTheRefusal
  refine wpC_bind (wpC_stack fun st hst => ?_)
  have e0 : (st.map (·.1)).any Code.isCaller = true := by
    rw [List.any_map]
    exact hst
  have e1 : pythonCodeMadeTheCall own (st.map (·.1)) = false := by
    show ((!(st.map (·.1)).any Code.isCaller && _) && _) = false
    rw [e0]; rfl
  rw [e1]
  exact wpC_pure h
end
section
variable {prog : Program} {w : World} {A : Around} {R : Result → Shared → Prop} {s : Shared}
theorem codeC_builtin {id : String} {args : Args} {b : Builtin} (hb : entryFor table id = some b)
    (h : wpC (model prog w) (A.under (.builtin id args)) (b args) (fun fin s' => match fin with | .done f => R (.ok f) s' | .again c' => c'.quiet = true ∧ codeC (model prog w) A c' R s') (fun e s' => R (.error e) s') s) :
    codeC (model prog w) A (.builtin id args) R s := by
  refine codeC_of_tree ?_
  show wpC _ _ (match entryFor table id with | some b => b args | none => unsupported ((withoutEnding? id "#data").getD id)) _ _ s
  rw [hb]; exact h
theorem codeC_call_builtin {id : String} {args : Args} {b : Builtin} (hq : plainId id = true) (hb : entryFor table id = some b)
    (h : wpC (model prog w) A.in1 (checkBuiltinCall id args) (fun _ s₁ => wpC (model prog w) A.in1 (b args) (fun fin s' => match fin with | .done f => R (.ok f) s' | .again c' => c'.quiet = true ∧ codeC (model prog w) A c' R s') (fun e s' => R (.error e) s') s₁)
      (fun e s' => R (.error e) s') s) : codeC (model prog w) A (.call (.builtin id) args) R s := by
  refine codeC_of_tree ?_
  show wpC _ A.in1 (do checkBuiltinCall id args; again (.builtin id args)) _ _ s
  refine wpC_bind (wpC_mono h (fun _ s₁ h₁ => wpC_pure ⟨plainId_quiet hq args, codeC_builtin hb ?_⟩) fun _ _ h' => h')
  rw [Around.under_plainId hq args]; exact h₁
end
end C
end PySem
set_option linter.all false
set_option maxRecDepth 100000
namespace PySem
open Sem (wp)
open PySem.NumText PySem.Builtin
namespace C
section
variable {prog : Program} {w : World} {A : Around} {E : Value → Shared → Prop} {s : Shared} {x : Str} {u : Tok}
theorem bad_end {Q : Value → Shared → Prop} {shown : Str} (hh : A.handled = none) (hE : ∀ h' e k args, Heap.MadeExc s.heap h' e "ValueError" args → E (.ref e) { s with heap := h', toks := k }) :
    wpC (model prog w) A (do
      let m ← mkStr (Str.ofString (toString "invalid literal for int() with base " ++ toString 10 ++ toString ": ") ++ { cps := shown.cps.extract 0 200 })
      let refusal ← newExc (Value.type "ValueError") [m]
      markTheRefusal ["int.__new__"] refusal
      raiseNew refusal) Q E s := by
  have hl : (Str.ofString (toString "invalid literal for int() with base " ++ toString 10 ++ toString ": ") ++ { cps := shown.cps.extract 0 200 } : Str).length ≤ sizeLine := by
    have e1 : (Str.ofString (toString "invalid literal for int() with base " ++ toString 10 ++ toString ": ")).cps.size = 40 := by decide +kernel
    show (_ ++ shown.cps.extract 0 200).size ≤ sizeLine
    rw [Array.size_append, e1, Array.size_extract, sizeLine_eq]
    omega
  refine wpC_bind (wpC_of (wpAny_mkStr ?_ hl))
  refine wpC_bind (wpC_of (wpAny_newExc_plain plainExc_ValueError fun h' e hm => ?_))
  refine wpC_bind (wpC_mark ?_)
  exact wpC_of (wpAny_raiseNew_none hh (hE h' e _ _ hm))
theorem wp_bad {Q : Value → Shared → Prop} (hs : (numSeenOf x).length ≤ 640) (hn : PySem.intText? x = none) (hr : (reprText x).length ≤ sizeLine) (hh : A.handled = none)
    (hE : ∀ h' e k args, Heap.MadeExc s.heap h' e "ValueError" args → E (.ref e) { s with heap := h', toks := k }) :
    wpC (model prog w) A ((int_private% "intFromText") (.str x u) (numTextOf x) 10) Q E s := by
  k_delta "intFromText"
  dsimp only
  rw [if_pos hs]
  refine wpC_bind (wpC_pure ?_)
  have tail : ∀ s1 : Shared, s1.heap = s.heap → s1.gens = s.gens → s1.drawn = s.drawn → s1.os = s.os → wpC (model prog w) A (do
      let shown ← pyRepr (Value.str x u)
      let m ← mkStr (Str.ofString (toString "invalid literal for int() with base " ++ toString 10 ++ toString ": ") ++ { cps := shown.cps.extract 0 200 })
      let refusal ← newExc (Value.type "ValueError") [m]
      markTheRefusal ["int.__new__"] refusal
      raiseNew refusal) Q E s1 := by
    intro s1 e1 e2 e3 e4
    refine wpC_bind (wpC_of (wpAny_pyRepr_str ?_ hr))
    refine bad_end hh fun h' e k args hm => ?_
    obtain ⟨hh1, g1, d1, t1, o1⟩ := s1
    cases e1; cases e2; cases e3; cases e4
    exact hE h' e k args hm
  rcases read0 x hs with ⟨m, h1, _⟩ | ⟨_, h | ⟨i, h, hne⟩⟩
  · rw [hn] at h1; cases h1
  · rw [h]
    dsimp only
    refine wpC_bind ?_
    show wpC _ _ (pure none) _ _ _
    refine wpC_pure ?_
    show wpC _ _ (do rule "int.__new__.invalid-literal"; _) _ _ _
    refine wpC_bind (wpC_of (wpAny_rule ?_))
    refine wpC_bind ?_
    show wpC _ _ (pure none) _ _ _
    refine wpC_pure ?_
    exact tail s rfl rfl rfl rfl
  · rw [h]
    dsimp only
    rw [if_neg hne]
    refine wpC_bind (wpC_of (wpAny_rule ?_))
    refine wpC_bind ?_
    show wpC _ _ (pure none) _ _ _
    refine wpC_pure ?_
    exact tail s rfl rfl rfl rfl
theorem obj_bad {Q : Value → Shared → Prop} (hs : (numSeenOf x).length ≤ 640) (hn : PySem.intText? x = none) (hr : (reprText x).length ≤ sizeLine) (hh : A.handled = none)
    (hE : ∀ h' e k args, Heap.MadeExc s.heap h' e "ValueError" args → E (.ref e) { s with heap := h', toks := k }) :
    wpC (model prog w) A ((int_private% "intFromObject") (.str x u)) Q E s := by
  have f3 := PySem.W.KIN.str_int
  have f4 := PySem.W.KIN.str_idx
  have f5 := PySem.W.KIN.str_trunc
  have f6 : typeOf (.str x u) = pure (.type "str") := rfl
  k_delta "intFromObject"
  dsimp only
  refine wpC_bind (wpC_of ?_)
  obtain ⟨hp, g, d, tk, os⟩ := s
  repeat (first | assumption | wp_step)
  dsimp only
  refine wpC_bind (wpC_of ?_)
  repeat (first | assumption | wp_step)
  dsimp only [Option.isSome]
  rw [if_neg Bool.false_ne_true]
  refine wpC_bind (wpC_of ?_)
  repeat (first | assumption | wp_step)
  dsimp only
  refine wpC_bind (wpC_of ?_)
  refine wpAny_of_eq (a := some (numTextOf x)) rfl ?_
  dsimp only
  exact wp_bad hs hn hr hh hE
theorem wpC_else {α : Type} {M : Model} {c : Prop} [Decidable c] {a b : Sem α} {Q : α → Shared → Prop} (hc : ¬ c) (h : wpC M A b Q E s) : wpC M A (if c then a else b) Q E s := by rw [if_neg hc]; exact h
theorem wpC_then {α : Type} {M : Model} {c : Prop} [Decidable c] {a b : Sem α} {Q : α → Shared → Prop} (hc : c) (h : wpC M A a Q E s) : wpC M A (if c then a else b) Q E s := by rw [if_pos hc]; exact h
theorem bno {b : Bool} (h : b = false) : ¬ b = true := fun z => by rw [h] at z; cases z
theorem new_bad {Q : Fin → Shared → Prop} (hs : (numSeenOf x).length ≤ 640) (hn : PySem.intText? x = none) (hr : (reprText x).length ≤ sizeLine) (hh : A.handled = none)
    (hE : ∀ h' e k args, Heap.MadeExc s.heap h' e "ValueError" args → E (.ref e) { s with heap := h', toks := k }) :
    wpC (model prog w) A (Builtin.«int.__new__» ⟨[.type "int", .str x u], []⟩) Q E s := by
  unfold Builtin.«int.__new__»
  dsimp only
  refine wpC_bind ?_
  show wpC _ _ (pure true) _ _ _
  refine wpC_pure ?_
  refine wpC_else (bno rfl) ?_
  refine wpC_bind ?_
  rw [F.conv_sub_int]
  refine wpC_pure ?_
  refine wpC_else (bno rfl) ?_
  refine wpC_bind ?_
  rw [F.madeHere_int]
  refine wpC_pure ?_
  refine wpC_else (bno rfl) ?_
  refine wpC_else (show ¬ 1 + 0 > 2 by decide) ?_
  refine wpC_bind ?_
  show wpC _ _ (pure PUnit.unit) _ _ _
  refine wpC_pure ?_
  refine wpC_bind (obj_bad hs hn hr hh hE)
theorem call_bad {Q : Value → Shared → Prop} (hs : (numSeenOf x).length ≤ 640) (hn : PySem.intText? x = none) (hr : (reprText x).length ≤ sizeLine) (hh : A.handled = none)
    (hE : ∀ h' e k args, Heap.MadeExc s.heap h' e "ValueError" args → E (.ref e) { s with heap := h', toks := k }) :
    wpC (model prog w) A (call (.type "int") [.str x u]) Q E s := by
  obtain ⟨c, tl, hmro⟩ := F.called_int.mro
  have hmade := F.called_int.made
  have hsub := F.called_int.sub
  have hct := F.typeCall_int_1 (.str x u)
  have h1 := F.called_int.notType
  have h2 := F.called_int.canCreate
  refine wpC_call (codeC_of_tree ?_)
  show wpC _ _ (callAny (.type "int") _) _ _ _
  refine wpC_pure ⟨Code.quiet_builtin _ (by decide +kernel), codeC_builtin F.entry_type_call ?_⟩
  rw [Around.under_plain (weight_type_call_type "int" [.str x u] []) (units_type_call_type "int" [.str x u] [])]
  unfold Builtin.«type.__call__»
  dsimp only
  refine wpC_else (bno h1) ?_
  refine wpC_else (bno h2) ?_
  refine wpC_bind ?_
  rw [hct]
  refine wpC_pure ?_
  refine wpC_bind ?_
  rw [hmro]
  refine wpC_pure ?_
  refine wpC_else (bno rfl) ?_
  refine wpC_bind ?_
  rw [hmade]
  refine wpC_pure ?_
  dsimp only
  refine wpC_bind (wpC_pure ?_)
  refine wpC_bind (wpC_holding (wpC_call (codeC_call_builtin F.called_int.plain F.entry_int_new ?_)))
  rw [F.newCall_int_1]
  refine wpC_pure (new_bad hs hn hr hh ?_)
  exact hE
end
end C
end PySem
set_option linter.all false
set_option maxRecDepth 100000
namespace PySem
open Sem (wp)
namespace C
section
variable {α β : Type} {M : Model} {A : Around} {E : Value → Shared → Prop} {s : Shared} {env : Env}
theorem wpC_execs_cons {st : Stmt} {rest : List Stmt} {Q : Flow → Shared → Prop} (h : wpC M A (exec st env) (fun f s' => match f with | .next => wpC M A (execs rest env) Q E s' | f => Q f s') E s) : wpC M A (execs (st :: rest) env) Q E s := by
  rw [execs_cons]
  refine wpC_bind (wpC_mono h (fun f s' h' => ?_) fun _ _ x => x)
  cases f <;> first | exact h' | exact wpC_pure h'
theorem wpC_If {test : Expr} {body orelse : List Stmt} {pos : Pos} {Q : Flow → Shared → Prop} (h : wpC M A (isTrue test env (eval test env)) (fun b s₂ => if b then wpC M A (execs body env) Q E s₂ else wpC M A (execs orelse env) Q E s₂) E s) :
    wpC M A (exec (.If test body orelse pos) env) Q E s := by
  rw [exec_If]
  refine wpC_bind (wpC_of (wpAny_standAt (wpC_bind (wpC_mono h (fun b s₂ h₂ => ?_) fun _ _ x => x))))
  cases b <;> exact h₂
theorem wpC_Return {e : Expr} {pos : Pos} {Q : Flow → Shared → Prop} (h : wpC M A (eval e env) (fun v => Q (.ret v)) E s) : wpC M A (exec (.Return (some e) pos) env) Q E s := by
  rw [exec_Return_some]
  refine wpC_bind (wpC_of (wpAny_standAt (wpC_bind (wpC_mono h (fun v s₂ h₂ => ?_) fun _ _ x => x))))
  first | exact wpC_pure h₂ | exact wpC_bind (wpC_of (wpAny_standAt (wpC_pure h₂)))
theorem isTrueC_not {x : Expr} {pos : Pos} {whole : Sem Value} {Q : Bool → Shared → Prop} (h : wpC M A (isTrue x env (eval x env)) (fun c s' => Q (!c) s') E s) : wpC M A (isTrue (.UnaryOp .Not x pos) env whole) Q E s := by
  show wpC M A (do return !(← isTrue x env (eval x env))) Q E s
  exact wpC_bind (wpC_mono h (fun c s' h' => wpC_pure h') fun _ _ x => x)
theorem isTrueC_plain {e : Expr} {whole : Sem Value} {Q : Bool → Shared → Prop} (h : wpC M A whole (fun v s₁ => wpC M A (truthy v) Q E s₁) E s)
    (he : isTrue e env whole = (do let v ← whole; standAt e.pos; holding [v] (truthy v)) := by rfl) : wpC M A (isTrue e env whole) Q E s := by
  rw [he]
  exact wpC_bind (wpC_mono h (fun v s₁ h₁ => wpC_bind (wpC_of (wpAny_standAt (wpC_holding h₁)))) fun _ _ x => x)
theorem wpC_Call_Name {id : Str} {p pos : Pos} {args : List Expr} {keywords : List Keyword} {Q : Value → Shared → Prop}
    (h : wpC M A (eval (.Name id p) env) (fun f s₁ => wpC M A (callWith pos f [] (backTo pos (starEach args env)) (backToKw pos (keywordEach keywords env))) Q E s₁) E s) :
    wpC M A (eval (.Call (.Name id p) args keywords pos) env) Q E s := by
  rw [arm_eval_Call_Name']
  exact wpC_bind h
theorem callWithC {P : Heap → Prop} {f : Value} {pos : Pos} {first : List Value} {args : List (Bool × Sem Value)} {keywords : List (Option Str × Sem Value)} {Q : Value → Shared → Prop} (hplain : (args.any (·.1) || keywords.any (·.1.isNone)) = false)
    (hk : ∀ h, P h → ∃ k, (k = Keeper.frame ∨ k = Keeper.machine ∨ k = Keeper.boundFrame) ∧ PySem.W.Looks M h (keeperOf f) k)
    (h : wpC M A (evalArgs f true args keywords) (fun a s₁ => P s₁.heap ∧ wpC M A (call f (first ++ a.pos) a.kw) Q E s₁) E s) : wpC M A (callWith pos f first args keywords) Q E s := by
  unfold callWith
  refine wpC_bind (wpC_holding (wpC_mono h (fun a s₁ h₁ => wpC_bind (wpC_of (wpAny_standAt ?_))) fun _ _ x => x))
  obtain ⟨k, hk', L⟩ := hk _ h₁.1
  simp only [hplain]
  refine wpC_bind (wpC_of (L.here ?_))
  have tail : ∀ {t : Sem Value}, wpC M A t Q E s₁ → wpC M A (t >>= fun r => holding [r] point >>= fun _ => pure r) Q E s₁ :=
    fun ht => wpC_bind (wpC_mono ht (fun r s₂ hr => wpC_bind (wpC_holding (wpC_of (wpAny_point (wpC_pure hr))))) fun _ _ x => x)
  have marked (mk : Value) : wpC M A (callMarked mk f (first ++ a.pos) a.kw) Q E s₁ := by unfold callMarked; exact wpC_keep h₁.2
  rcases hk' with rfl | rfl | rfl <;> dsimp only <;> first | exact tail h₁.2 | (split <;> first | exact tail h₁.2 | exact tail (marked _))
end
section
variable {prog : Program} {w : World} {A : Around} {R : Result → Shared → Prop} {s : Shared}
theorem codeC_func {body : List Stmt} {env : Env}
    (h : wpC (model prog w) (A.deeper env) (execs body env) (fun f s' => R (.ok (.ret (match f with | .ret v => v | _ => .none))) s')
      (fun e s' => wpAny (model prog w) (A.deeper env) (leaving env e) (fun _ s'' => R (.error e) s'') (fun e' s'' => R (.error e') s'') s') s) : codeC (model prog w) A (.func body env) R s := by
  refine codeC_of_tree ?_
  show wpC _ (A.deeper env) (do point; match ← (execs body env).onRaise (leaving env) with | .ret v => ret v | _ => ret .none) _ _ s
  refine wpC_bind (wpC_of (wpAny_point (wpC_bind (wpC_onRaise (wpC_mono h (fun f s' h' => ?_) fun _ _ h' => wpC_of h')))))
  cases f <;> exact wpC_pure h'
theorem codeC_call_function {a : Addr} {args : Args} {o : Obj} {fd : FuncData} {body : List Stmt} (hroom : A.depth < recursionLimit) (ho : s.heap.get? a = some o)
    (hd' : o.data = .func fd) (hco : fd.scope.isCoroutine = false) (hgen : fd.scope.isGenerator = false) (hbody : fd.body = .stmts body) (hcd : s.heap.CodeRec fd.code fd.qualname)
    (h : wpAny (model prog w) A.in1 (bindArgs fd args) (fun binds s₁ =>
      wpAny (model prog w) A.in1 (newFunctionEnv fd.scope fd.globals fd.closure binds (fd.qualname ++ ".<locals>.") (some a) fd.code none fd.builtins)
        (fun env s₂ => s₂.heap.NoLimit ∧ codeC (model prog w) A (.func body env) R s₂) (fun e s' => R (.error e) s') s₁) (fun e s' => R (.error e) s') s) :
    codeC (model prog w) A (.call (.ref a) args) R s := by
  refine codeC_of_tree ?_
  show wpC _ A.in1 (callAny (.ref a) args) _ _ s
  simp only [callAny]
  refine wpC_bind (wpC_of (wpAny_load ho ?_))
  obtain ⟨c, oc, vs, tq, hc, hoc, hdc, hq⟩ := hcd
  simp only [hd', callFunction, hco, hgen, hbody, hc]
  rw [hc] at h
  refine wpC_bind (m := field (.ref c) 1) (wpC_of (wpAny_field hoc hdc hq (wpC_bind (wpC_pure ?_))))
  refine wpC_bind (wpC_of (wpAny_mono h (fun binds s₁ h₁ => wpC_bind (wpC_of (wpAny_mono h₁ (fun env s₂ h₂ => ?_) fun _ _ h' => h'))) fun _ _ h' => h'))
  exact wpC_bind (wpC_of (wpAny_enterFrame h₂.1 hroom (wpC_pure (And.intro rfl h₂.2))))
end
end C
end PySem
namespace L2
open PySem PySem.Spec PyProof.Rows PySem.Calls PySem.C
theorem thnC {α : Type} {t : Sem α} {Q Q' : α → Shared → Prop} {M : Model} {A : Around} {E : Value → Shared → Prop} {s : Shared} (h : wpC M A t Q E s) (hQ : ∀ a s, Q a s → Q' a s) : wpC M A t Q' E s := wpC_mono h hQ fun _ _ x => x
def PEc (X : Cx) (e : Expr) (t : TE) : Prop :=
  ∀ (pins : List (Addr × Obj)) (s : Shared) (σ : St) (H : Hp) (Q : VK), Inv X pins σ H s → t σ H Q → wpC (model X.prog X.w) X.A (eval e X.env) (EP X pins σ Q) X.xe s
def PTc (X : Cx) (e : Expr) (t : TT) : Prop :=
  ∀ (pins : List (Addr × Obj)) (s : Shared) (σ : St) (H : Hp) (Q : Bool → Hp → Prop), Inv X pins σ H s → t σ H Q → wpC (model X.prog X.w) X.A (isTrue e X.env (eval e X.env)) (TP X pins σ Q) X.xe s
def PSc (X : Cx) (st : Stmt) (t : TS) : Prop :=
  ∀ (pins : List (Addr × Obj)) (s : Shared) (σ : St) (H : Hp) (D : Ends), Inv X pins σ H s → t D σ H → wpC (model X.prog X.w) X.A (exec st X.env) (SP X pins D) X.xe s
def PSsc (X : Cx) (st : List Stmt) (t : TS) : Prop :=
  ∀ (pins : List (Addr × Obj)) (s : Shared) (σ : St) (H : Hp) (D : Ends), Inv X pins σ H s → t D σ H → wpC (model X.prog X.w) X.A (execs st X.env) (SP X pins D) X.xe s
section
variable {X : Cx} {e : Expr} {te : TE} {tt : TT} {st : Stmt} {rest : List Stmt} {t u : TS} {pos : Pos}
theorem PE.c (h : PE X e te) : PEc X e te := fun pins s σ H Q I q => wpC_of (h pins s σ H Q I q)
theorem PT.c (h : PT X e tt) : PTc X e tt := fun pins s σ H Q I q => wpC_of (h pins s σ H Q I q)
theorem PS.c (h : PS X st t) : PSc X st t := fun pins s σ H D I q => wpC_of (h pins s σ H D I q)
theorem PSs.c {sts : List Stmt} (h : PSs X sts t) : PSsc X sts t := fun pins s σ H D I q => wpC_of (h pins s σ H D I q)
theorem pssC_cons (h1 : PSc X st t) (h2 : PSsc X rest u) : PSsc X (st :: rest) (tSeq t u) := by
  intro pins s σ H D I h
  refine wpC_execs_cons (thnC (h1 pins s σ H { D with nx := u D } I h) fun f s1 q => ?_)
  cases f with
  | next =>
    obtain ⟨σ', H', I', q⟩ := q
    exact h2 pins s1 σ' H' D I' q
  | ret v => exact q
  | brk => exact q
  | cont => exact q
theorem pssC_one (h1 : PSc X st t) : PSsc X [st] t := by
  intro pins s σ H D I h
  refine wpC_execs_cons (thnC (h1 pins s σ H D I h) fun f s1 q => ?_)
  cases f with
  | next => exact wpC_of (wpAny_execs_nil q)
  | ret v => exact q
  | brk => exact q
  | cont => exact q
theorem psC_ret (he : PEc X e te) : PSc X (.Return (some e) pos) (tRet te) := by
  intro pins s σ H D I h
  exact wpC_Return (thnC (he pins s σ H _ I h) fun v s1 ⟨x, H1, I1, r1, q1⟩ => ⟨x, σ, H1, I1, r1, q1⟩)
theorem psC_if {c : Expr} {a b : List Stmt} {tc : TT} (hc : PTc X c tc) (ha : PSsc X a t) (hb : PSsc X b u) : PSc X (.If c a b pos) (tIfS tc t u) := by
  intro pins s σ H D I h
  refine wpC_If (thnC (hc pins s σ H _ I h) fun d s1 ⟨H1, I1, q1⟩ => ?_)
  cases d with
  | true => exact ha pins s1 σ H1 D I1 q1
  | false => exact hb pins s1 σ H1 D I1 q1
theorem ptC_val (h : PEc X e te) (he : ∀ whole, isTrue e X.env whole = (do let v ← whole; standAt e.pos; holding [v] (truthy v)) := by intro _; rfl) : PTc X e (tB te) := by
  intro pins s σ H Q I hw
  refine isTrueC_plain (thnC (h pins s σ H _ I hw) fun v s1 ⟨x, H1, I1, r1, q1⟩ => ?_) (he _)
  obtain ⟨d, rfl, q⟩ := q1
  cases r1
  exact wpC_of (wpAny_truthy_bool ⟨H1, I1, q⟩)
theorem ptC_not {a : Expr} {tA : TT} (ha : PTc X a tA) : PTc X (.UnaryOp .Not a pos) (tNot tA) := by
  intro pins s σ H Q I h
  exact isTrueC_not (thnC (ha pins s σ H (fun c H1 => Q (!c) H1) I h) fun c s1 ⟨H1, I1, q1⟩ => ⟨H1, I1, q1⟩)
end
structure FnC (P : Program) (w : World) (K : PySem.W.Frag) (mg : Str → Option Value) (base : Heap) (k : Nat) (f : Addr) (fd : FuncData) (ps : List Str) (sp : Sp) : Prop where
  len : ∀ vs H Q E, sp vs H Q E → vs.length = ps.length
  run : ∀ (A : Around) (outer : List Env) (s : Shared) (H : Hp) (args : Args) (us : List Value) (vs : List V) (Q : VK) (E : XK), Room k A → Env0 P w K mg base A outer s H → BindsTo s fd args (ps.zip us) → Vals vs us → sp vs H Q E →
    codeC (model P w) A (.call (.ref f) args) (CR (CX1 P w) outer P w H s Q E) s
section
variable {P : Program} {w : World} {K : PySem.W.Frag} {mg : Str → Option Value} {base : Heap}
theorem Fun.okc {x qual : Str} {st : Stmt} {f : Addr} {fd : FuncData} {N ps : List Str} {k : Nat} {sp : Sp} (F : Fun K x qual st f fd) (S : FnScope N ps (defScope st)) (len : ∀ vs H Q E, sp vs H Q E → vs.length = ps.length)
    (hbody : ∀ (cdv : Value), fd.code = cdv → ∀ (A : Around) (outer : List Env) (s : Shared) (H : Hp) (vs : List V) (Q : VK) (E : XK), Room k (A.deeper (envOfC qual (defScope st) s.heap.objs.size f cdv)) → sp vs H Q E →
      ∃ t, PSsc (cxOf (CX1 P w) P w K mg base N qual (defScope st) f cdv A outer s H E) (defBody st) t ∧ t { nx := fun _ H' => Q .non H', rt := Q } (start N vs) H) : FnC P w K mg base (k + 1) f fd ps sp := by
  obtain ⟨oc, od, kV, doc, pm, an, cdv, ct, osl, rfl, lk, hcd⟩ := F.ex
  refine ⟨len, fun A outer s H args us vs Q E hr e0 hb r hsp => ?_⟩
  have hl := len _ _ _ _ hsp
  have KX : K.In s.heap := e0.mod.kin.keeps fun b o e => (e0.bs b o e).1
  have lim : s.heap.NoLimit := e0.mod.nolimit.keeps fun b o e => (e0.bs b o e).1
  have hkind : ∀ y ∈ ps.zip us, (defScope st).names.lookup y.1 = some .local ∨ ((defScope st).names.lookup y.1 = some .cell ∧ ((cellsFrom (s.heap.objs.size + 1) (defScope st).names []).lookup y.1).isSome = true) := fun ⟨n, v⟩ hy => by
    rcases S.par n (List.of_mem_zip hy).1 with q | q
    · exact .inl q
    · exact .inr ⟨q, PySem.W.cellsFrom_some _ _ _ (.inl q)⟩
  refine codeC_call_function hr.depth (KX _ _ lk) rfl S.co S.gen rfl (PySem.W.codeRec_of KX hcd) (hb _ _ _ _ ?_)
  refine wpAny_newFunctionEnv_cells S.kind hkind fun env he s1 x => ?_
  subst he
  refine ⟨lim.keeps x.toInCall.keep, codeC_func ?_⟩
  obtain ⟨t, ht, hq⟩ := hbody cdv rfl A outer s H vs Q E (hr.deeper _) hsp
  have I : Inv (cxOf (CX1 P w) P w K mg base N qual (defScope st) f cdv A outer s H E) [] (start N vs) H s1 := inv_start S hr.hd e0 hl r x
  refine wpC_mono (ht [] s1 (start N vs) H _ I hq) (fun fl s' hs => ?_) fun e s' hs => hs
  have fin : ∀ {σ' : St} {H' : Hp} {v : V} {u : Value}, Inv (cxOf (CX1 P w) P w K mg base N qual (defScope st) f cdv A outer s H E) [] σ' H' s' → RelV v u → Q v H' → CE outer P w H s Q u s' :=
    fun {σ' H' v u} J rv q => ⟨v, H', J.os, J.bare, J.base, J.hok, rv, q⟩
  cases fl with
  | ret u => obtain ⟨v, σ', H', J, rv, q⟩ := hs; exact fin J rv q
  | next => obtain ⟨σ', H', J, q⟩ := hs; exact fin (v := V.non) (u := Value.none) J rfl q
  | brk => obtain ⟨_, _, _, q⟩ := hs; exact False.elim q
  | cont => obtain ⟨_, _, _, q⟩ := hs; exact False.elim q
def CalC (P : Program) (w : World) (K : PySem.W.Frag) (mg : Str → Option Value) (base : Heap) (k : Nat) (x : Str) (sp : Sp) : Prop :=
  ∃ f fd ps, FnC P w K mg base k f fd ps sp ∧ Binds K fd ps [] ∧ PySem.W.keepIn K (.ref f) = true ∧ mg x = some (.ref f)
theorem calC_mk {k : Nat} {x : Str} {sp : Sp} {f : Addr} {fd : FuncData} {ps : List Str} (F : FnC P w K mg base k f fd ps sp) (b : Binds K fd ps []) (kp : PySem.W.keepIn K (.ref f) = true) (m : mg x = some (.ref f)) : CalC P w K mg base k x sp := ⟨f, fd, ps, F, b, kp, m⟩
theorem peC_c {X : Cx} {k : Nat} {x : Str} {sp : Sp} {E : XK} {p pos : Pos} {e : Expr} {es : List Expr} {t : TA} (C : CalC X.prog X.w X.K X.mg X.base k x sp) (hr : Room k X.A) (hx : Passes (CX1 X.prog X.w) X E) (hg : Gl X x) (ha : PA X (e :: es) t) (hdb : (x == ("__debug__" : Str)) = false := by decide)
    (he : starEach (e :: es) X.env = (false, eval e X.env) :: starEach es X.env := by rfl) (hpl : (backTo pos (starEach es X.env)).any (·.1) = false := by rfl) : PEc X (.Call (.Name x p) (e :: es) [] pos) (tCl1 sp E t) := by
  obtain ⟨f, fd, ps, F, hb, hk, hm⟩ := C
  intro pins s σ H Q I h
  refine wpC_Call_Name (wpC_of (ld_glob I hg hm ?_ hdb))
  rw [he]
  refine callWithC (P := fun h => X.K.In h) (by show ((false || (backTo pos (starEach es X.env)).any (·.1)) || false) = false; rw [hpl]; rfl) (PySem.W.keeps_K hk) (wpC_of (evalArgs_plain ?_))
  have hA := ha pos pins s σ H _ I h
  rw [he] at hA
  refine thn hA fun us s1 ⟨vs, H1, I1, r, q⟩ => ⟨I1.kIn, ?_⟩
  have hl : us.length = ps.length := by rw [← r.length]; exact F.len _ _ _ _ q
  have hb' := hb s1 us I1.kIn (by rw [List.append_nil]; exact hl)
  rw [List.append_nil] at hb'
  refine wpC_call (codeC_mono (F.run X.A X.stack s1 H1 ⟨us, []⟩ us vs Q E hr I1.env0 hb' r q) fun r s' hq => ?_)
  cases r with
  | error ev => exact hx pins σ H1 s1 ev s' I1 hq
  | ok fl =>
    cases fl with
    | ret u => exact I1.after hq
    | next => exact False.elim hq
    | brk => exact False.elim hq
    | cont => exact False.elim hq
end
end L2
set_option linter.all false
set_option maxRecDepth 100000
namespace PySem
open Sem (wp)
namespace C
theorem entry_unchain : entryFor table "proto.unchain" = some Builtin.«proto.unchain» := entryFor_of_tree (by kernel_rfl)
section
variable {prog : Program} {w : World} {A : Around} {E : Value → Shared → Prop} {s : Shared} {env : Env} {e0 : Addr}
variable {nm q : Str} {C N : Addr} {bs bm : List Value} {hdct : Bool} {sn : List Str} {sub : List Value} {ab : Bool} {col : Option Bool} {dd : Option Addr} {k0 k1 k2 k3 k5 : Option Value} {newId : String}
theorem raise_new {o0 oe : Obj} {vs0 vs : Array Value} {e : Addr} {Q : Flow → Shared → Prop} (hh : A.handled = some (.ref e0)) (ne : e ≠ e0) (h0 : s.heap.get? e0 = some o0) (d0 : o0.data = .fields vs0) (c0 : vs0[2]? = some .none)
    (he : s.heap.get? e = some oe) (hd : oe.data = .fields vs) (hz : 2 < vs.size) (hE : E (.ref e) { s with heap := s.heap.update e (Obj.mapFields (·.setIfInBounds 2 (.ref e0))) }) : wpAny (model prog w) A (raiseNew (.ref e) : Sem Flow) Q E s := by
  unfold raiseNew
  refine wpAny_bind (wpAny_handled ?_)
  rw [hh]
  dsimp only
  rw [if_pos (by simpa using Ne.symm ne)]
  refine wpAny_bind (wpAny_holding (wpAny_runValue (codeAny_builtin entry_unchain ?_)))
  unfold Builtin.«proto.unchain»
  dsimp only
  refine wpAny_bind (wpAny_field h0 d0 c0 ?_)
  rw [if_pos (show (Value.none == Value.none) = true from rfl)]
  refine wpAny_pure ?_
  show wpAny _ _ (setField (.ref e) 2 (.ref e0) >>= fun _ => throw (.ref e)) _ _ _
  exact wpAny_bind (wpAny_setField he hd hz (wpAny_throw hE))
theorem raise_from {x c : Sem Value} {Q : Flow → Shared → Prop} (hbase : bm.contains (.type "BaseException") = true) (hh : A.handled = some (.ref e0)) (hc : ∀ {E' : Value → Shared → Prop} {Q' : Value → Shared → Prop} {s'}, Q' .none s' → wpAny (model prog w) A c Q' E' s')
    (h : wpAny (model prog w) A x (fun v s₁ => ∃ e t o0 vs0, v = .ref e ∧ s₁.heap.get? C = some (excClassObj nm q C N bs bm hdct sn sub ab col dd k0 k1 k2 k3 k5 newId) ∧
      s₁.heap.get? e = some { cls := .ref C, data := .fields #[.ref t, .none, .none, .none, .bool false, .none] } ∧ e ≠ e0 ∧ C ≠ e ∧ s₁.heap.get? e0 = some o0 ∧ o0.data = .fields vs0 ∧ vs0[2]? = some .none ∧
      ∀ h', (∀ b, b ≠ e → h'.get? b = s₁.heap.get? b) → h'.get? e = some { cls := .ref C, data := .fields #[.ref t, .none, .ref e0, .none, .bool true, .none] } → E (.ref e) { s₁ with heap := h' }) E s) :
    wpAny (model prog w) A (raiseStmt env (some x) (some c)) Q E s := by
  have hcB : (Value.ref C :: bm).contains (.type "BaseException") = true := by rw [List.contains_cons, hbase, Bool.or_true]
  unfold raiseStmt
  refine wpAny_bind (wpAny_mono h (fun v s₁ h₁ => ?_) fun _ _ x => x)
  obtain ⟨e, t, o0, vs0, rfl, hC, he, ne, nC, h0, d0, c0, hE⟩ := h₁
  obtain ⟨hp, g, d, tk, os⟩ := s₁
  dsimp only
  refine wpAny_bind (wpAny_holding (hc ?_))
  refine wpAny_bind (wpAny_pure ?_)
  refine wpAny_bind (wpAny_holding ?_)
  unfold excFromValue
  repeat (first | with_reducible refine wpAny_loadPart_at he ?_ | with_reducible refine wpAny_loadPart_at hC ?_ | (with_reducible refine wpAny_isSubtype_exc hC ?_; rw [hcB]) | wp_step)
  have e1 := Heap.get?_update_self (Obj.mapFields fun x => x.setIfInBounds 3 Value.none) he rfl
  have e2 := Heap.get?_update_self (Obj.mapFields fun x => x.setIfInBounds 4 (Value.bool true)) e1 rfl
  have z0 := (Heap.get?_update_other (hp.update e (Obj.mapFields fun x => x.setIfInBounds 3 Value.none)) (Obj.mapFields fun x => x.setIfInBounds 4 (Value.bool true)) ne).trans ((Heap.get?_update_other hp (Obj.mapFields fun x => x.setIfInBounds 3 Value.none) ne).trans h0)
  refine raise_new hh ne z0 d0 c0 e2 rfl (show 2 < 6 by decide) ?_
  refine hE _ (fun b hb => ?_) ?_
  · exact (Heap.get?_update_other _ _ (Ne.symm hb)).trans ((Heap.get?_update_other _ _ (Ne.symm hb)).trans (Heap.get?_update_other _ _ (Ne.symm hb)))
  · exact Heap.get?_update_self (Obj.mapFields fun x => x.setIfInBounds 2 (Value.ref e0)) e2 rfl
end
end C
end PySem
set_option linter.all false
set_option maxRecDepth 100000
namespace PySem
section
variable {M : Model} {A : Around} {E : Value → Shared → Prop} {s : Shared} {B : Heap} {env : Env} {outer l : List Env} {L e : Addr} {cls : Value}
def NoCtx (e : Addr) (h : Heap) : Prop := ∃ oe vs, h.get? e = some oe ∧ oe.data = .fields vs ∧ vs[2]? = some .none
theorem fl_entry2 {oe : Obj} {vs : Array Value} {head : Value} {hadNext : Bool} {Q : Unit → Shared → Prop} (hfr : A.frames = some (env :: outer)) (hl : s.heap.FunFrames B (env :: outer)) (hf : env.frame = some L)
    (he : s.heap.get? e = some oe) (hkb : B.StaysIn s.heap) (hen : B.get? e = none) (hd : oe.data = .fields vs) (hdi : oe.dict = none) (hsz : 1 < vs.size)
    (h2 : vs[2]? = some .none) (h : ∀ h', Fl B (env :: outer) e oe.cls (rawInt L) h' → NoCtx e h' → s.heap.UpToSlots h' → Q () { s with heap := h' }) :
    wpAny M A (do let a ← frameOf env; let pl ← entryPlaceOf L hadNext; let b ← EntryCells.newEntry head a .none (rawInt L) .none pl; setField (.ref e) 1 b) Q E s := by
  have ne : e ∉ (env :: outer).filterMap (·.frame) := fun hm => by
    obtain ⟨_, o, ho, hnf⟩ := hl.mem hm
    rw [he] at ho; cases ho; exact hnf vs hd
  refine wpAny_bind (wpAny_frameOf_fun hfr hl hf fun h₁ sl => ?_)
  refine wpAny_bind (wpAny_entryPlaceOf fun pl hpl => ?_)
  unfold EntryCells.newEntry newFields
  refine wpAny_bind (wpAny_newObj_type ?_ (hpl.sizeOk5 _ _ _ _ _))
  have e1 : h₁.get? e = some oe := (sl.2.1 e ne).trans he
  have k1 : B.StaysIn h₁ := fun b o z => (sl.2.1 b fun hm => by rw [(hl.mem hm).1] at z; cases z).trans (hkb b o z)
  generalize htb : ({ cls := .type "traceback", dict := none, data := .fields ([head, .ref L, .none, rawInt L, .none] ++ (if pl.isEmpty then List.replicate 6 Value.none else pl)).toArray } : Obj) = tb
  have tbd : tb.data = .fields ([head, .ref L, .none, rawInt L, .none] ++ (if pl.isEmpty then List.replicate 6 Value.none else pl)).toArray := by rw [← htb]
  have tbf : tb.isFreed = false := by rw [← htb]; rfl
  have e2 := Heap.get?_push_of_some (h := h₁) tb e1
  refine wpAny_setField e2 hd hsz ?_
  have nT : h₁.objs.size ≠ e := Nat.ne_of_gt (Heap.lt_size e1)
  have d3 := Obj.data_mapFields hd (·.setIfInBounds 1 (Value.ref h₁.objs.size))
  have e3 := Heap.get?_update_self (Obj.mapFields (·.setIfInBounds 1 (Value.ref h₁.objs.size))) e2 (Obj.isFreed_of_fields d3)
  have t3 := (Heap.get?_update_other (h₁.push tb) (Obj.mapFields (·.setIfInBounds 1 (Value.ref h₁.objs.size))) (Ne.symm nT)).trans (Heap.get?_push_size h₁ tbf)
  have keep : ∀ b o, b ≠ e → h₁.get? b = some o → ((h₁.push tb).update e (Obj.mapFields (·.setIfInBounds 1 (Value.ref h₁.objs.size)))).get? b = some o := fun b o nb z =>
    (Heap.get?_update_other _ _ (Ne.symm nb)).trans (Heap.get?_push_of_some _ z)
  have norec : ∀ b o, s.heap.get? b = some o → (∀ vs, o.data ≠ .fields vs) → b ≠ e := fun b o z hnf q => by
    rw [q, he] at z; cases z; exact hnf vs hd
  have up : ∀ b o, s.heap.get? b = some o → (∀ vs, o.data ≠ .fields vs) → ∃ sl', ((h₁.push tb).update e (Obj.mapFields (·.setIfInBounds 1 (Value.ref h₁.objs.size)))).get? b = some { o with slots := sl' } := fun b o z hnf => by
    obtain ⟨s1, z1⟩ := sl.2.2 b o z
    exact ⟨s1, keep b _ (norec b o z hnf) z1⟩
  refine (fun (a : Fl B (env :: outer) e oe.cls (rawInt L) _) b => h _ a ⟨_, _, e3, d3, by rw [Array.getElem?_setIfInBounds_ne (by decide)]; exact h2⟩ b) ⟨fun b o z => keep b o (fun q => by rw [q, hen] at z; cases z) (k1 b o z), hen, hl.of_keeps fun b o z hnf => ?_, ?_, (show Ctx2 B s.heap e from ⟨.none, ⟨oe, vs, he, hd, h2⟩, .inl rfl⟩).keep (((keeps2_slots fun b o z => sl.2.2 b o z).trans (keeps2_push h₁ tb)).trans (keeps2_set e2 hd (by decide)))⟩ up
  · obtain ⟨s1, z1⟩ := up b o z hnf
    exact ⟨_, z1, rfl⟩
  · refine ⟨_, _, h₁.objs.size, tb, _, e3, Obj.cls_mapFields _ _, (Obj.dict_mapFields _ _).trans hdi, d3, by simp [hsz], k1.fresh, nT, t3, tbd, ?_⟩
    first | (simp; done) | (rcases hpl with rfl | ⟨_, _, _, _, _, _, _, rfl⟩ <;> simp)
theorem fl_first2 {oe : Obj} {vs : Array Value} {Q : Unit → Shared → Prop} (hfr : A.frames = some (env :: outer)) (hl : s.heap.FunFrames B (env :: outer)) (hf : env.frame = some L)
    (he : s.heap.get? e = some oe) (hkb : B.StaysIn s.heap) (hen : B.get? e = none) (hd : oe.data = .fields vs) (hdi : oe.dict = none) (h1 : vs[1]? = some .none) (h2 : vs[2]? = some .none)
    (h : ∀ h', Fl B (env :: outer) e oe.cls (rawInt L) h' → NoCtx e h' → s.heap.UpToSlots h' → Q () { s with heap := h' }) : wpAny M A (noteFrame (.ref e) env) Q E s := by
  unfold noteFrame
  simp only [hf]
  refine wpAny_bind (wpAny_field he hd h1 ?_)
  rw [if_neg (by decide)]
  exact fl_entry2 hfr hl hf he hkb hen hd hdi (Array.getElem?_eq_some_iff.mp h1).1 h2 h
theorem fl_land2 {fl : Value} {Q : Unit → Shared → Prop} (F : Fl B l e cls fl s.heap) (hn : NoCtx e s.heap) (h : ∀ h', Fl B l e cls .none h' → NoCtx e h' → s.heap.UpToSlots h' → Q () { s with heap := h' }) : wpAny M A (setFlight (.ref e) none) Q E s := by
  obtain ⟨oe, vs, T, oT, ts, he, hc, hdi, hd, h1, nT, hTe, hT, hdT, h3⟩ := F.tr
  unfold setFlight
  refine wpAny_bind (wpAny_field he hd h1 ?_)
  rw [if_pos (show (Value.ref T != Value.none) = true from by simp)]
  have sz := (Array.getElem?_eq_some_iff.mp h3).1
  refine wpAny_setField hT hdT sz ?_
  have other : ∀ b, b ≠ T → (s.heap.update T (Obj.mapFields (·.setIfInBounds 3 ((none : Option Addr).elim Value.none fun f => rawInt f)))).get? b = s.heap.get? b := fun b hb => Heap.get?_update_other _ _ (Ne.symm hb)
  have norec : ∀ b o, s.heap.get? b = some o → (∀ vs, o.data ≠ .fields vs) → b ≠ T := fun b o z hnf q => by
    rw [q, hT] at z; cases z; exact hnf ts hdT
  have d3 := Obj.data_mapFields hdT (·.setIfInBounds 3 ((none : Option Addr).elim Value.none fun f => rawInt f))
  refine (fun (a : Fl B l e cls .none _) b => h _ a (let ⟨o1, v1, z1, z2⟩ := hn; ⟨o1, v1, (other e (Ne.symm hTe)).trans z1, z2⟩) b) ⟨fun b o z => (other b fun q => by rw [q, nT] at z; cases z).trans (F.stays b o z), F.new, F.fr.of_keeps fun b o z hnf => ⟨o, (other b (norec b o z hnf)).trans z, rfl⟩, ?_, F.cx.keep (keeps2_set hT hdT (by decide))⟩ fun b o z hnf => ⟨o.slots, (other b (norec b o z hnf)).trans z⟩
  exact ⟨oe, vs, T, _, _, (other e (Ne.symm hTe)).trans he, hc, hdi, hd, h1, nT, hTe, Heap.get?_update_self _ hT (Obj.isFreed_of_fields d3), d3, by simp [sz]⟩
theorem fl_again {Q : Unit → Shared → Prop} (hf : env.frame = some L) (F : Fl B l e cls (rawInt L) s.heap) (h : Q () s) : wpAny M A (noteFrame (.ref e) env) Q E s := by
  obtain ⟨oe, vs, T, oT, ts, he, hc, hdi, hd, h1, nT, hTe, hT, hdT, h3⟩ := F.tr
  unfold noteFrame
  simp only [hf]
  refine wpAny_bind (wpAny_field he hd h1 ?_)
  rw [if_pos (show (Value.ref T != Value.none) = true from by simp)]
  refine wpAny_bind (wpAny_field hT hdT h3 ?_)
  rw [if_pos (show (rawInt L == rawInt L) = true from by simp)]
  exact wpAny_pure h
theorem fl_set {fl : Value} {Q : Unit → Shared → Prop} (F : Fl B l e cls fl s.heap) (h : ∀ h', Fl B l e cls (rawInt L) h' → s.heap.UpToSlots h' → Q () { s with heap := h' }) : wpAny M A (setFlight (.ref e) (some L)) Q E s := by
  obtain ⟨oe, vs, T, oT, ts, he, hc, hdi, hd, h1, nT, hTe, hT, hdT, h3⟩ := F.tr
  unfold setFlight
  refine wpAny_bind (wpAny_field he hd h1 ?_)
  rw [if_pos (show (Value.ref T != Value.none) = true from by simp)]
  have sz := (Array.getElem?_eq_some_iff.mp h3).1
  refine wpAny_setField hT hdT sz ?_
  have other : ∀ b, b ≠ T → (s.heap.update T (Obj.mapFields (·.setIfInBounds 3 ((some L).elim Value.none fun f => rawInt f)))).get? b = s.heap.get? b := fun b hb => Heap.get?_update_other _ _ (Ne.symm hb)
  have norec : ∀ b o, s.heap.get? b = some o → (∀ vs, o.data ≠ .fields vs) → b ≠ T := fun b o z hnf q => by
    rw [q, hT] at z; cases z; exact hnf ts hdT
  have d3 := Obj.data_mapFields hdT (·.setIfInBounds 3 ((some L).elim Value.none fun f => rawInt f))
  refine h _ ⟨fun b o z => (other b fun q => by rw [q, nT] at z; cases z).trans (F.stays b o z), F.new, F.fr.of_keeps fun b o z hnf => ⟨o, (other b (norec b o z hnf)).trans z, rfl⟩, ?_, F.cx.keep (keeps2_set hT hdT (by decide))⟩ fun b o z hnf => ⟨o.slots, (other b (norec b o z hnf)).trans z⟩
  exact ⟨oe, vs, T, _, _, (other e (Ne.symm hTe)).trans he, hc, hdi, hd, h1, nT, hTe, Heap.get?_update_self _ hT (Obj.isFreed_of_fields d3), d3, by simp [sz]⟩
theorem fl_back {fl : Value} (hf : env.frame = some L) (F : Fl B l e cls fl s.heap) (h : ∀ h', Fl B l e cls (rawInt L) h' → s.heap.UpToSlots h' → E (.ref e) { s with heap := h' }) : cameBackBy M A env E (.ref e) s := by
  obtain ⟨oe, vs, T, oT, ts, he, hc, hdi, hd, h1, _⟩ := id F.tr
  unfold cameBackBy
  refine wpAny_bind (wpAny_field he hd h1 ?_)
  rw [if_neg (show ¬ (Value.ref T == Value.none) = true from by simp)]
  rw [hf]
  exact fl_set F h
end
namespace C
section
variable {M : Model} {A : Around} {E : Value → Shared → Prop} {s : Shared} {env : Env}
theorem wpC_Try {body orelse : List Stmt} {h₀ : ExceptHandler} {hs : List ExceptHandler} {pos : Pos} {Q : Flow → Shared → Prop}
    (h : wpC M A (execs body env) (fun f s₁ => match f with | .next => wpC M A (execs orelse env) Q E s₁ | f => Q f s₁)
      (fun e s₁ => wpAny M A (noteFrame e env) (fun _ s₂ => wpAny M A (setFlight e none) (fun _ s₃ => wpC M A (handleBy e env (h₀ :: hs)) Q E s₃) E s₂) E s₁) s) :
    wpC M A (exec (.Try body (h₀ :: hs) orelse [] pos) env) Q E s := by
  rw [arm_exec_Try]
  refine wpC_bind (wpC_of (wpAny_standAt ?_))
  unfold tryStmt
  simp only [List.isEmpty_nil, if_true, List.isEmpty_cons, Bool.false_and, Bool.false_eq_true, if_false]
  refine wpC_bind (wpC_attempt (wpC_mono h (fun f s₁ h₁ => ?_) fun e s₁ h₁ => ?_))
  · cases f <;> first | exact h₁ | exact wpC_pure h₁
  · exact wpC_bind (wpC_of (wpAny_mono h₁ (fun _ _ h₂ => wpC_bind (wpC_of h₂)) fun _ _ x => x))
end
section
variable {prog : Program} {w : World} {A : Around} {E : Value → Shared → Prop} {s : Shared} {env : Env} {e0 : Addr}
variable {nm q : Str} {C N : Addr} {bs bm bmB : List Value} {hdct : Bool} {sn : List Str} {sub : List Value} {ab : Bool} {col : Option Bool} {dd : Option Addr} {k0 k1 k2 k3 k5 : Option Value} {B newId initId : String}
theorem Raise_from (F : ExcBaseFacts B newId initId bmB) {mN : Str → Option Value} {x : Str} {np cpos pos npos : Pos} {args : List Expr} {k : Nat} {Q : Flow → Shared → Prop}
    (hbase : bm.contains (.type "BaseException") = true) (hh : A.handled = some (.ref e0)) (hplain : (backTo cpos (starEach args env)).any (·.1) = false) (hni : mN "__init__" = none)
    (h : wpAny (model prog w) A (eval (.Name x np) env) (fun f s₁ => f = .ref C ∧ wpAny (model prog w) A (evalArgs (.ref C) true (backTo cpos (starEach args env)) [])
      (fun a s₂ => a.kw = [] ∧ a.pos.length ≤ sizeLine ∧ s₂.heap.get? C = some (excClassObj nm q C N bs bm hdct sn sub ab col dd k0 k1 k2 k3 k5 newId) ∧ s₂.heap.Ns N mN ∧ OwnTail s₂.heap bmB bm ∧
        (∃ o0 vs0, s₂.heap.get? e0 = some o0 ∧ o0.data = .fields vs0 ∧ vs0[2]? = some .none) ∧
        ∀ h1 h' e t, Heap.MadeExcOf s₂.heap h1 e (.ref C) a.pos → (∀ b, b ≠ e → h'.get? b = h1.get? b) → h'.get? e = some { cls := .ref C, data := .fields #[.ref t, .none, .ref e0, .none, .bool true, .none] } → E (.ref e) { s₂ with heap := h' }) E s₁) E s) :
    wpAny (model prog w) A (exec (.Raise (some (.Call (.Name x np) args [] cpos)) (some (.Constant .none k npos)) pos) env) Q E s := by
  rw [arm_exec_Raise]
  refine wpAny_bind (wpAny_standAt ?_)
  simp only [evalOpt, Option.map]
  refine raise_from (C := C) (nm := nm) (q := q) (N := N) (bs := bs) (bm := bm) (hdct := hdct) (sn := sn) (sub := sub) (ab := ab) (col := col) (dd := dd) (k0 := k0) (k1 := k1) (k2 := k2) (k3 := k3) (k5 := k5) (newId := newId) hbase hh (fun hq => wpAny_bind (wpAny_pure (wpAny_bind (wpAny_standAt (wpAny_pure hq))))) ?_
  refine wpAny_bind (wpAny_Call_Name_kw (wpAny_mono h (fun f s₁ h₁ => ?_) fun _ _ x => x))
  obtain ⟨rfl, h₁⟩ := h₁
  unfold callWith
  refine wpAny_bind (wpAny_holding (wpAny_mono h₁ (fun a s₂ h₂ => wpAny_bind (wpAny_standAt ?_)) fun _ _ x => x))
  obtain ⟨apos, akw⟩ := a
  obtain ⟨hkw, hlen, hC, hn, T, ⟨o0, vs0, z0, z1, z2⟩, h₂⟩ := h₂
  obtain rfl : akw = [] := hkw
  obtain ⟨hp, g, d, tk, os⟩ := s₂
  have hpl2 : ((backTo cpos (starEach args env)).any (·.1) || (backToKw cpos (keywordEach [] env)).any (·.1.isNone)) = false := by rw [hplain]; rfl
  simp only [hpl2]
  refine wpAny_bind (wpAny_keeperOf_exc hC ?_)
  refine wpAny_bind (wpAny_call_exc_subT (hrest := hlen) F T hC hn hni fun h' e hm => wpAny_bind (wpAny_holding (wpAny_point (wpAny_pure ?_))))
  refine wpAny_bind (wpAny_standAt (wpAny_pure ?_))
  obtain ⟨t, ht, _, _⟩ := hm.there
  have nC : C ≠ e := fun z => by have := hm.new; rw [← z, hC] at this; cases this
  have ne : e ≠ e0 := fun z => by have := hm.new; rw [z, z0] at this; cases this
  exact ⟨e, t, o0, vs0, rfl, hm.keeps _ _ hC, ht, ne, nC, hm.keeps _ _ z0, z1, z2, fun h'' k1 k2 => h₂ h' h'' e t hm k1 k2⟩
end
end C
end PySem
set_option linter.all false
set_option maxRecDepth 100000
namespace PySem
open Sem (wp)
open PySem.NumText PySem.Builtin
namespace C
theorem wpA_else {α : Type} {M : Model} {A : Around} {E : Value → Shared → Prop} {s : Shared} {c : Prop} [Decidable c] {a b : Sem α} {Q : α → Shared → Prop} (hc : ¬ c) (h : wpAny M A b Q E s) : wpAny M A (if c then a else b) Q E s := by rw [if_neg hc]; exact h
section
variable {prog : Program} {w : World} {A : Around} {E : Value → Shared → Prop} {s : Shared} {x : Str} {u : Tok} {n : Int}
theorem wp_big {Q : Value → Shared → Prop} (hs : ¬ (numSeenOf x).length ≤ 640) (hx : x.length ≤ sizeLine) (hn : PySem.intText? x = some n) (hd : s.heap.NoDigits) (h : Q (.int n s.toks) { s with toks := s.toks + 1 }) :
    wpAny (model prog w) A ((int_private% "intFromText") (.str x u) (numTextOf x) 10) Q E s := by
  k_delta "intFromText"
  dsimp only
  rw [if_neg hs]
  unfold Builtin.intMaxStrDigits
  obtain ⟨mc, hns, hnone⟩ := hd
  refine wpAny_bind (wpAny_bind (wpAny_nsGet hns ?_))
  rw [hnone]
  refine wpAny_pure ?_
  rcases read4300 x hx with ⟨m, h1, h2, h3⟩ | ⟨h1, _⟩
  · rw [hn] at h1
    injection h1 with h1
    subst h1
    rw [h3]
    dsimp only
    rw [if_pos h2]
    exact wpAny_mkInt h
  · rw [hn] at h1; cases h1
theorem obj_big {Q : Value → Shared → Prop} (hs : ¬ (numSeenOf x).length ≤ 640) (hx : x.length ≤ sizeLine) (hn : PySem.intText? x = some n) (hd : s.heap.NoDigits) (h : Q (.int n s.toks) { s with toks := s.toks + 1 }) :
    wpAny (model prog w) A ((int_private% "intFromObject") (.str x u)) Q E s := by
  have f3 := PySem.W.KIN.str_int
  have f4 := PySem.W.KIN.str_idx
  have f5 := PySem.W.KIN.str_trunc
  have f6 : typeOf (.str x u) = pure (.type "str") := rfl
  obtain ⟨hp, g, d, tk, os⟩ := s
  have hk := PySem.W.KIN.Hid.mk (And.intro hs (And.intro hx (And.intro hn (And.intro hd h))))
  clear hs hx hn hd h
  k_delta "intFromObject"
  repeat (any_goals (first
    | assumption
    | ((with_reducible show wpAny _ _ ((int_private% "intFromText") _ _ _) _ _ _); exact wp_big hk.out.1 hk.out.2.1 hk.out.2.2.1 hk.out.2.2.2.1 hk.out.2.2.2.2)
    | wp_step))
end
theorem meets_big {x : Str} {u : Tok} {n : Int} (hs : ¬ (numSeenOf x).length ≤ 640) (hx : x.length ≤ sizeLine) (hn : PySem.intText? x = some n) :
    Meets (Builtin.«int.__new__» ⟨[.type "int", .str x u], []⟩) (fun _ R s => s.heap.NoDigits ∧ R (.ok (.ret (.int n s.toks))) { s with toks := s.toks + 1 }) := by
  intro prog w A R s h
  unfold Builtin.«int.__new__»
  dsimp only
  refine wpAny_bind ?_
  show wpAny _ _ (pure true) _ _ _
  refine wpAny_pure ?_
  refine wpA_else (bno rfl) ?_
  refine wpAny_bind ?_
  rw [F.conv_sub_int]
  refine wpAny_pure ?_
  refine wpA_else (bno rfl) ?_
  refine wpAny_bind ?_
  rw [F.madeHere_int]
  refine wpAny_pure ?_
  refine wpA_else (bno rfl) ?_
  refine wpA_else (show ¬ 1 + 0 > 2 by decide) ?_
  refine wpAny_bind ?_
  show wpAny _ _ (pure PUnit.unit) _ _ _
  refine wpAny_pure ?_
  refine wpAny_bind (obj_big hs hx hn h.1 ?_)
  rw [if_pos (show (Value.type "int" == Value.type "int") = true from rfl)]
  exact wpAny_pure h.2
end C
end PySem
set_option linter.all false
set_option maxRecDepth 100000
namespace L2
open PySem PySem.Spec PyProof.Rows PySem.Calls PySem.C
def IntOk (a : Str) (n : Int) : Prop := ∀ (prog : Program) (w : World) (A : Around) (E : Value → Shared → Prop) (Q : Value → Shared → Prop) (s : Shared) (t : Tok), s.heap.NoDigits → (∀ t' k, Q (.int n t') { s with toks := k }) → wpAny (model prog w) A (call (.type "int") [.str a t]) Q E s
theorem IntOk.of {a : Str} {n : Int} (hn : PySem.intText? a = some n) (hl : a.length ≤ 640) : IntOk a n := fun _ _ _ _ _ _ _ _ h => PySem.W.KIN.call_text hn hl (h _ _)
theorem IntOk.big {a : Str} {n : Int} (hn : PySem.intText? a = some n) (hs : ¬ (numSeenOf a).length ≤ 640) (hx : a.length ≤ sizeLine) : IntOk a n := fun _ _ _ _ _ _ _ hd h => call_int_1 (meets_big hs hx hn) ⟨hd, rfl, h _ _⟩
def tInt (C : Addr) (E : XK) (te : TE) : TS := fun D σ H => te σ H fun v H1 => ∃ a, v = .str a ∧ ((∃ n, IntOk a n ∧ D.rt (.int n) H1) ∨ (PySem.intText? a = none ∧ a.length ≤ 640 ∧ (reprText a).length ≤ sizeLine ∧ E (.ref C) none H1))
theorem up_keeps {h h' : Heap} (k : ∀ b o, h.get? b = some o → h'.get? b = some o) : h.UpToSlots h' := fun b o z _ => ⟨o.slots, k b o z⟩
section
variable {P : Program} {w : World} {K : PySem.W.Frag} {mg : Str → Option Value} {base : Heap} {N : List Str} {qual : Str} {scope : Scope} {f : Addr} {cd : Value} {A : Around} {outer : List Env} {s : Shared} {H : Hp} {E : XK}
theorem int_land {x : Str} {C : Addr} {bm : List Value} {newId initId Bn : String} {m : Str} {kk kn : Nat} {mp np cpos npos pos vp hp : Pos} {pins : List (Addr × Obj)} {σ : St} {H2 : Hp} {s2 : Shared} {h' : Heap} {e0 : Addr} {k : Nat} {args : List Value} {D : Ends}
    (O : OwnCls x C bm newId mg base) (FB : ExcBaseFacts Bn newId initId bm)
    (hgv : Gl (cxOf (CX1 P w) P w K mg base N qual scope f cd A outer s H E) "ValueError") (hmv : mg "ValueError" = none) (hgx : Gl (cxOf (CX1 P w) P w K mg base N qual scope f cd A outer s H E) x) (hd : (x == ("__debug__" : Str)) = false)
    (I : Inv (cxOf (CX1 P w) P w K mg base N qual scope f cd A outer s H E) pins σ H2 s2) (hm : Heap.MadeExc s2.heap h' e0 "ValueError" args) (q : E (.ref C) none H2) (hml : m.length ≤ sizeLine) :
    wpAny (model P w) (cxOf (CX1 P w) P w K mg base N qual scope f cd A outer s H E).A (noteFrame (.ref e0) (cxOf (CX1 P w) P w K mg base N qual scope f cd A outer s H E).env) (fun _ s₂ => wpAny (model P w) (cxOf (CX1 P w) P w K mg base N qual scope f cd A outer s H E).A (setFlight (.ref e0) none) (fun _ s₃ =>
      wpC (model P w) (cxOf (CX1 P w) P w K mg base N qual scope f cd A outer s H E).A (handleBy (.ref e0) (cxOf (CX1 P w) P w K mg base N qual scope f cd A outer s H E).env
        [.ExceptHandler (some (.Name "ValueError" vp)) none [.Raise (some (.Call (.Name x np) [.Constant (.str m) kk mp] [] cpos)) (some (.Constant .none kn npos)) pos] hp]) (SP (cxOf (CX1 P w) P w K mg base N qual scope f cd A outer s H E) pins D) (cxOf (CX1 P w) P w K mg base N qual scope f cd A outer s H E).xe s₃)
        (cxOf (CX1 P w) P w K mg base N qual scope f cd A outer s H E).xe s₂) (cxOf (CX1 P w) P w K mg base N qual scope f cd A outer s H E).xe { s2 with heap := h', toks := k } := by
  generalize hX : cxOf (CX1 P w) P w K mg base N qual scope f cd A outer s H E = X at *
  have hXA : X.A = A.deeper X.env := by rw [← hX]; rfl
  have hXs : X.stack = X.env :: outer := by rw [← hX]; rfl
  have hXo : X.outer = outer := by rw [← hX]; rfl
  have hXp : X.prog = P := by rw [← hX]; rfl
  have hXw : X.w = w := by rw [← hX]; rfl
  have hXm : X.mg = mg := by rw [← hX]; rfl
  have hXb : X.base = base := by rw [← hX]; rfl
  have hXf : X.env.frame = some X.env.locals := by rw [← hX]; rfl
  have hXe : X.ex = [] := by rw [← hX]; rfl
  have hX0 : X.H₀ = H := by rw [← hX]; rfl
  have hX1 : X.s₀ = s := by rw [← hX]; rfl
  have hXx : X.xe = fun e s' => wpAny (model P w) X.A (leaving X.env e) (fun _ s'' => CX1 P w outer H s E e s'') (fun e' s'' => CX1 P w outer H s E e' s'') s' := by rw [← hX]; rfl
  have fr : X.A.frames = some (X.env :: outer) := by rw [I.ok.frames, hXs]
  have hf := PySem.W.funFrames_hide (as := frs X.stack) I.stack fun env he a ha => List.mem_filterMap.mpr ⟨env, he, ha⟩
  rw [hXs] at hf
  generalize hB : PySem.W.hideAll s2.heap (frs (X.env :: outer)) = B at hf
  have hkb : B.StaysIn s2.heap := fun b o z => PySem.W.of_hideAll (frs (X.env :: outer)) (by rw [hB]; exact z)
  obtain ⟨t0, he0, _, _⟩ := hm.there
  have hen : B.get? e0 = none := by
    cases z : B.get? e0 with
    | none => rfl
    | some o => have := hkb e0 o z; rw [hm.new] at this; cases this
  refine fl_first2 (B := B) fr (hf.of_keeps fun b o z _ => ⟨o, hm.keeps b o z, rfl⟩) hXf he0 (fun b o z => hm.keeps b o (hkb b o z)) hen rfl rfl rfl rfl fun h1 F1 n1 u1 => ?_
  refine fl_land2 F1 n1 fun h2 F2 n2 u2 => ?_
  have hun : Un [] [] H2 H2 (PySem.W.hideAll s2.heap (frs X.stack)) B := by rw [hXs, hB]; exact Un.kept fun b o z => z
  have hhok : HOk X.prog X.w H2 B := by have := I.hideHok; rw [hXs, hB] at this; exact this
  have nofld : ∀ b ∈ frs X.stack, ∀ o, s2.heap.get? b = some o → ∀ vs, o.data ≠ .fields vs := fun b hb o z => by
    obtain ⟨_, o', z', d⟩ := I.stack.mem hb
    rw [z] at z'; cases z'; exact d
  have mk : ∀ (h3 : Heap) (k' : Nat), Fl B (X.env :: outer) e0 (.type "ValueError") .none h3 → s2.heap.UpToSlots h3 → Inv X pins σ H2 { s2 with heap := h3, toks := k' } := fun h3 k' F3 u3 =>
    I.landed (s' := { s2 with heap := h3, toks := k' }) (cls := .type "ValueError") (x := e0) (B := B) ⟨rfl, I.bare, hun, hhok, by rw [hXs]; exact F3, fun b hb o z => u3 b o z (nofld b hb o z), fun b hb => I.stkFree b hb⟩
  have u02 : s2.heap.UpToSlots h2 := up_trans (up_keeps hm.keeps) (up_trans u1 u2)
  have I3 := mk h2 k F2 u02
  refine wpC_of (wpAny_handleBy_cons (codeAny_handlers_test ?_) (by intro z; cases z))
  rw [← hXp, ← hXw]
  refine ld_blt (I3.held (.ref e0)) hgv (by show X.mg "ValueError" = none; rw [hXm]; exact hmv) PySem.L3.boot_ValueError ?_
  obtain ⟨oe, _, _, _, _, g1, g2, _⟩ := id F2.tr
  refine wpAny_excMatches_type (X := "ValueError") (T := "ValueError") (b := true) ⟨oe, g1, g2⟩ F.isExc_ValueError F.notTuple_ValueError F.self_ValueError ?_
  refine codeAny_handlers_suite ?_
  refine fl_land2 F2 n2 fun h3 F3 n3 u3 => ?_
  have u03 := up_trans u02 u3
  have I4 := mk h3 k F3 u03
  obtain ⟨tl, Na, nm, q0, bs, hdct, sn, sub, ab, col, dd, k0, k1, k2, k3, k5, mN, hC, hN, hni, T⟩ := O.obj
  have bk : ∀ b o, base.get? b = some o → h3.get? b = some o := fun b o z => I4.bk b o (by rw [hXb]; exact z)
  refine wpAny_execs_cons (PySem.C.Raise_from (C := C) (e0 := e0) (nm := nm) (q := q0) (N := Na) (bs := bs) (bm := tl) (hdct := hdct) (sn := sn) (sub := sub) (ab := ab) (col := col) (dd := dd) (k0 := k0) (k1 := k1) (k2 := k2) (k3 := k3) (k5 := k5) FB (T.hasType FB.hasBase) rfl rfl hni (ld_glob (I4.held (.ref e0)) hgx (by show X.mg x = _; rw [hXm]; exact O.bound) ⟨rfl, ?_⟩ hd))
  refine evalArgs_plain (Calls.spliced_cons (Calls.Constant_str (k := kk) (pos := mp) (Calls.spliced_nil ?_)))
  obtain ⟨oe3, vs3, f1, f4, f5⟩ := n3
  refine ⟨rfl, by show 1 ≤ sizeLine; decide, bk _ _ hC, hN.keeps bk, T.keeps bk, ⟨oe3, vs3, f1, f4, f5⟩, fun h4 h5 e1 t1 hx k6 k7 => ?_⟩
  have new : h3.get? e1 = none := hx.new
  have k35 : ∀ b o, h3.get? b = some o → h5.get? b = some o := fun b o z => by
    have nb : b ≠ e1 := fun q => by rw [q, new] at z; cases z
    rw [k6 b nb]; exact hx.keeps b o z
  have he1 : B.get? e1 = none := by
    cases z : B.get? e1 with
    | none => rfl
    | some o => have := F3.stays e1 o z; rw [new] at this; cases this
  refine fl_first (A := (X.A.mark (some (.ref e0)))) (B := B) fr (F3.fr.of_keeps fun b o z _ => ⟨o, k35 b o z, rfl⟩) hXf k7 (fun b o z => k35 b o (F3.stays b o z)) he1 rfl rfl rfl ⟨.ref e0, ⟨_, _, k7, rfl, rfl⟩, .inr ⟨e0, rfl, hen, (fun q => by rw [q, new] at f1; cases f1), ⟨oe3, vs3, k35 _ _ f1, f4, f5⟩⟩⟩ fun h6 F6 u6 => ?_
  refine fl_back (B := B) hXf F6 fun h7 F7 u7 => ?_
  rw [hXx]
  unfold leaving
  refine wpAny_bind (fl_again (B := B) hXf F7 (fl_land F7 fun h8 F8 u8 => ?_))
  have u08 : s2.heap.UpToSlots h8 := up_trans u03 (up_trans (up_keeps k35) (up_trans u6 (up_trans u7 u8)))
  have hu := I.hideUn hXe
  rw [hXs, hB, hXo, hX0, hX1] at hu
  refine ⟨e1, .ref C, B, H2, rfl, ⟨by have := I.os; rw [hX1] at this; exact this, I.bare, hu, by rw [← hXp, ← hXw]; exact hhok, F8.tail, fun b hb o z => ?_, fun b hb => I.stkFree b (by rw [hXs]; exact mem_stack hb)⟩, q⟩
  obtain ⟨⟨sl, z1⟩, hd'⟩ := I.slots hXe (b := b) (by rw [hXo]; exact hb) (o := o) (by rw [hX1]; exact z)
  exact (u08 b _ z1 hd').imp fun sl' z' => z'
theorem int_eval (ND : base.NoDigits) {C : Addr} {p ipos : Pos} {e : Expr} {te : TE} {pins : List (Addr × Obj)} {s1 : Shared} {σ : St} {H1 : Hp} {RT : VK} (EX : Value → Shared → Prop) (hgi : Gl (cxOf (CX1 P w) P w K mg base N qual scope f cd A outer s H E) "int") (hmi : mg "int" = none) (he : ∀ E', PE ((cxOf (CX1 P w) P w K mg base N qual scope f cd A outer s H E).wish E') e te)
    (hst : starEach [e] (cxOf (CX1 P w) P w K mg base N qual scope f cd A outer s H E).env = [(false, eval e (cxOf (CX1 P w) P w K mg base N qual scope f cd A outer s H E).env)]) (I : Inv (cxOf (CX1 P w) P w K mg base N qual scope f cd A outer s H E) pins σ H1 s1) (h : te σ H1 fun v H2 => ∃ a, v = .str a ∧ ((∃ n, IntOk a n ∧ RT (.int n) H2) ∨ (PySem.intText? a = none ∧ a.length ≤ 640 ∧ (reprText a).length ≤ sizeLine ∧ E (.ref C) none H2)))
    (hbad : ∀ H2 s2, Inv (cxOf (CX1 P w) P w K mg base N qual scope f cd A outer s H E) pins σ H2 s2 → E (.ref C) none H2 → ∀ h' e0 k args, Heap.MadeExc s2.heap h' e0 "ValueError" args → EX (.ref e0) { s2 with heap := h', toks := k }) :
    wpC (model P w) (cxOf (CX1 P w) P w K mg base N qual scope f cd A outer s H E).A (eval (.Call (.Name "int" p) [e] [] ipos) (cxOf (CX1 P w) P w K mg base N qual scope f cd A outer s H E).env) (fun u s2 => ∃ n H2, RelV (.int n) u ∧ Inv (cxOf (CX1 P w) P w K mg base N qual scope f cd A outer s H E) pins σ H2 s2 ∧ RT (.int n) H2) EX s1 := by
  have hh := I.ok.hd rfl
  refine wpC_Call_Name (wpC_of (ld_blt I hgi hmi PySem.L3.boot_int ?_))
  rw [hst, show backTo ipos [(false, eval e (cxOf (CX1 P w) P w K mg base N qual scope f cd A outer s H E).env)] = [(false, eval e (cxOf (CX1 P w) P w K mg base N qual scope f cd A outer s H E).env)] from rfl]
  refine callWithC (P := fun _ => True) rfl (fun _ _ => ⟨.machine, .inr (.inl rfl), PySem.W.Looks.of_pure rfl⟩) (wpC_of (evalArgs_plain (Calls.spliced_cons (thn (he EX pins s1 σ H1 _ (I.wish EX) h) fun v s2 ⟨vv, H2, I2, r, a, hv, q⟩ => Calls.spliced_nil ⟨trivial, ?_⟩))))
  subst hv
  obtain ⟨t, rfl⟩ := r
  rcases q with ⟨n, ok, q⟩ | ⟨hn, hl, hr, q⟩
  · exact wpC_of (ok _ _ _ _ _ _ _ (let ⟨mc, h1, h2⟩ := ND; ⟨mc, h1.keeps I2.bk, h2⟩) fun t' k => ⟨n, H2, ⟨t', rfl⟩, I2.unwish.tok k, q⟩)
  · exact call_bad (Nat.le_trans (seen_length a) hl) hn hr hh fun h' e0 k args hm => hbad H2 s2 I2.unwish q h' e0 k args hm
theorem psC_intTry (ND : base.NoDigits) {x : Str} {C : Addr} {bm : List Value} {newId initId Bn : String} {m : Str} {kk kn : Nat} {p mp np cpos npos pos vp hp ipos rpos tpos : Pos} {e : Expr} {te : TE}
    (O : OwnCls x C bm newId mg base) (FB : ExcBaseFacts Bn newId initId bm) (hgi : Gl (cxOf (CX1 P w) P w K mg base N qual scope f cd A outer s H E) "int") (hmi : mg "int" = none)
    (hgv : Gl (cxOf (CX1 P w) P w K mg base N qual scope f cd A outer s H E) "ValueError") (hmv : mg "ValueError" = none) (hgx : Gl (cxOf (CX1 P w) P w K mg base N qual scope f cd A outer s H E) x)
    (he : ∀ E', PE ((cxOf (CX1 P w) P w K mg base N qual scope f cd A outer s H E).wish E') e te) (hml : m.length ≤ sizeLine) (hd : (x == ("__debug__" : Str)) = false := by decide)
    (hst : starEach [e] (cxOf (CX1 P w) P w K mg base N qual scope f cd A outer s H E).env = [(false, eval e (cxOf (CX1 P w) P w K mg base N qual scope f cd A outer s H E).env)] := by rfl) :
    PSc (cxOf (CX1 P w) P w K mg base N qual scope f cd A outer s H E) (.Try [.Return (some (.Call (.Name "int" p) [e] [] ipos)) rpos]
      [.ExceptHandler (some (.Name "ValueError" vp)) none [.Raise (some (.Call (.Name x np) [.Constant (.str m) kk mp] [] cpos)) (some (.Constant .none kn npos)) pos] hp] [] [] tpos) (tInt C E te) := by
  intro pins s1 σ H1 D I h
  refine wpC_Try (wpC_execs_cons (wpC_Return (thnC (int_eval ND (C := C) (RT := D.rt) _ hgi hmi he hst I h fun H2 s2 I2 q h' e0 k args hm => int_land O FB hgv hmv hgx hd I2 hm q hml) fun u s2 ⟨n, H2, r, I2, q⟩ => ?_)))
  exact ⟨.int n, σ, H2, I2, r, q⟩
end
end L2
set_option linter.all false
set_option maxRecDepth 100000
namespace PySem
open Sem (wp)
open PyProof.Rows
theorem note_congr {env env' : Env} (h : env.frame = env'.frame) (x : Value) : noteFrame x env = noteFrame x env' := by
  unfold noteFrame frameOf
  rw [h]
namespace C
section
variable {M : Model} {A : Around} {E : Value → Shared → Prop} {s : Shared} {env : Env}
def compPostC (M : Model) (A : Around) (E : Value → Shared → Prop) (use : Option (Value → Sem Unit)) (Q : Value → Shared → Prop) (acc : Value) (cenv : Env) (r : Result) (s' : Shared) : Prop :=
  match r, use with
  | .ok _, none => ∃ m, s'.heap.Ns cenv.locals m ∧ ∀ h', Heap.SameBut cenv.locals s'.heap h' → Q acc { s' with heap := h' }
  | .ok _, some u => wpAny M A (u acc) (fun _ s'' => ∃ m, s''.heap.Ns cenv.locals m ∧ ∀ h', Heap.SameBut cenv.locals s''.heap h' → Q .none { s'' with heap := h' }) E s'
  | .error x, _ => ∃ m, s'.heap.Ns cenv.locals m ∧ ∀ h' m', h'.Ns cenv.locals m' → Heap.SameBut cenv.locals s'.heap h' → wpAny M A (passOn "comprehension.variables-let-go" x cenv : Sem Value) (fun _ _ => False) E { s' with heap := h' }
theorem wpC_comprehension {e : Expr} {scope : Scope} {pos : Pos} {newAcc first : Sem Value} {g : Comprehension} {gs : List Comprehension} {cl : List (Str × Addr)} {use : Option (Value → Sem Unit)} {Q : Value → Shared → Prop}
    (hcl : clausesOf e = g :: gs) (hs : ∀ x, foldedSetIterable g.iter env x = pure x) (hclos : closureFor scope env = pure cl) (hkind : scope.kind = .function) (hnames : ∀ x ∈ scope.names, x.2 = .local → scope.names.lookup x.1 = some .local)
    (h : wpAny M A first (fun x s₁ => wpAny M A (pyIter x) (fun it s₂ => wpAny M A newAcc (fun acc s₃ =>
      wpAny M A (newFunctionEnv scope env.globals cl [] env.qual none .none (some env)) (fun cenv s₄ =>
        codeC M A (.compStart e 0 it acc { cenv with scope := relabel scope env }) (compPostC M A E use Q acc { cenv with scope := relabel scope env }) s₄) E s₃) E s₂) E s₁) E s) :
    wpC M A (comprehension e scope env pos newAcc false first use) Q E s := by
  unfold comprehension
  rw [hclos, hcl]
  refine wpC_bind (wpC_of (wpAny_mono h (fun x s₁ h₁ => wpC_bind (wpC_of (wpAny_standAt (wpC_bind (wpC_of (wpAny_of_eq (hs x) (wpC_bind (wpC_holding (wpC_of (wpAny_mono h₁ (fun it s₂ h₂ => ?_) fun _ _ h' => h')))))))))) fun _ _ h' => h'))
  have hv : ∀ (cenv : Env), ∀ x ∈ (scope.names.filter fun x => (x.2 == .local || x.2 == .cell) && x.1 != (".0" : Str)).reverse, x.2 = .local → Env.kindOf { cenv with scope := relabel scope env } x.1 = some .local := fun cenv x hx hl =>
    lookup_relabel_local (hnames x (List.mem_filter.mp (List.mem_reverse.mp hx)).1 hl)
  have hv' : ∀ (cenv : Env), ∀ x ∈ (scope.names.filter fun x => (x.2 == .local || x.2 == .cell) && x.1 != (".0" : Str)).reverse.drop 1 ++ (scope.names.filter fun x => (x.2 == .local || x.2 == .cell) && x.1 != (".0" : Str)).reverse.take 1,
      x.2 = .local → Env.kindOf { cenv with scope := relabel scope env } x.1 = some .local := fun cenv x hx hl => by
    rcases List.mem_append.mp hx with h1 | h1
    · exact hv cenv x (List.mem_of_mem_drop h1) hl
    · exact hv cenv x (List.mem_of_mem_take h1) hl
  dsimp only
  cases use with
  | none =>
    refine wpC_else (bno rfl) (wpC_bind (wpC_of (wpAny_mono h₂ (fun acc s₃ h₃ => wpC_bind (wpC_pure (wpC_bind (wpC_of (wpAny_mono h₃ (fun cenv s₄ h₄ => ?_) fun _ _ h' => h'))))) fun _ _ h' => h')))
    refine wpC_holding (wpC_bind (wpC_attempt (wpC_holding (wpC_run (codeC_mono h₄ fun r s' hr => ?_)))))
    cases r with
    | ok f =>
      obtain ⟨m, hn, hr⟩ := hr
      exact wpC_of (wpAny_bind (wpAny_holding (wpAny_comp_letGo (cenv := { cenv with scope := relabel scope env }) hkind _ s' m (hv cenv) hn fun h' m' _ hs' => wpAny_pure (hr h' hs'))))
    | error x =>
      obtain ⟨m, hn, hr⟩ := hr
      exact wpC_of (wpAny_bind (wpAny_holding (wpAny_comp_letGo (cenv := { cenv with scope := relabel scope env }) hkind _ s' m (hv cenv) hn fun h' m' hn' hs' => wpAny_mono (hr h' m' hn' hs') (fun _ _ f => f.elim) fun _ _ y => y)))
  | some u =>
    refine wpC_then rfl (wpC_bind (wpC_of (wpAny_standAt (wpC_bind (wpC_of (wpAny_mono h₂ (fun acc s₃ h₃ => wpC_bind (wpC_pure (wpC_bind (wpC_of (wpAny_mono h₃ (fun cenv s₄ h₄ => ?_) fun _ _ h' => h'))))) fun _ _ h' => h'))))))
    refine wpC_holding (wpC_bind (wpC_attempt (wpC_holding (wpC_run (codeC_mono h₄ fun r s' hr => ?_)))))
    cases r with
    | ok f =>
      refine wpC_of (wpAny_bind (wpAny_rule (wpAny_bind (wpAny_holding (wpAny_mono hr (fun _ s'' hr' => ?_) fun _ _ h' => h')))))
      obtain ⟨m, hn, hr'⟩ := hr'
      exact wpAny_bind (wpAny_comp_letGo (cenv := { cenv with scope := relabel scope env }) hkind _ s'' m (hv' cenv) hn fun h' m' _ hs' => wpAny_pure (hr' h' hs'))
    | error x =>
      obtain ⟨m, hn, hr⟩ := hr
      exact wpC_of (wpAny_bind (wpAny_holding (wpAny_comp_letGo (cenv := { cenv with scope := relabel scope env }) hkind _ s' m (hv cenv) hn fun h' m' hn' hs' => wpAny_mono (hr h' m' hn' hs') (fun _ _ f => f.elim) fun _ _ y => y)))
theorem codeC_loop {c : Code} {R : Result → Shared → Prop} (hq : c.quiet = true) (I : Nat → Shared → Prop)
    (turn : ∀ n s, I n s → wpC M (A.under c) (M.den c) (fun fin s' => match fin with | .done f => R (.ok f) s' | .again c' => c' = c ∧ ∃ m, m < n ∧ I m s') (fun e s' => R (.error e) s') s)
    (n : Nat) (h : I n s) : codeC M A c R s := by
  induction n using Nat.strongRecOn generalizing s with
  | ind n ih =>
    refine codeC_of_tree (wpC_mono (turn n s h) (fun fin s' hf => ?_) fun _ _ h' => h')
    cases fin with
    | done f => exact hf
    | again c' => obtain ⟨rfl, m, hm, hI⟩ := hf; exact ⟨hq, ih m hm hI⟩
end
section
variable {prog : Program} {w : World} {A : Around} {R : Result → Shared → Prop} {s : Shared}
theorem codeC_compStart {elt target iter : Expr} {ifs : List Expr} {scope : Scope} {pos : Pos} {it acc : Value} {env : Env}
    (h0 : codeC (model prog w) A (.compLoop (.ListComp elt [⟨target, iter, ifs, 0⟩] scope pos) 0 it acc env) R s)
    (h : wpC (model prog w) A (pyIter it) (fun it' s' => codeC (model prog w) A (.compLoop (.ListComp elt [⟨target, iter, ifs, 0⟩] scope pos) 0 it' acc env) R s') (fun _ _ => False) s) :
    codeC (model prog w) A (.compStart (.ListComp elt [⟨target, iter, ifs, 0⟩] scope pos) 0 it acc env) R s := by
  refine codeC_of_tree ?_
  show wpC _ _ ((compStart (.ListComp elt [⟨target, iter, ifs, 0⟩] scope pos) 0 it acc env).onRaise (fun x => do noteFrame x env; standAt theWindowsPlace)) _ _ s
  refine wpC_onRaise ?_
  unfold compStart
  show wpC _ _ (ask >>= _) _ _ s
  refine wpC_bind (wpC_of (wpAny_askSetting ?_))
  split
  · first
      | exact wpC_bind (wpC_pure (wpC_pure (And.intro rfl h0)))
      | exact wpC_pure (And.intro rfl h0)
  · refine wpC_bind (wpC_of (wpAny_rule ?_))
    show wpC _ _ (standAt iter.pos >>= _) _ _ s
    exact wpC_bind (wpC_of (wpAny_standAt (wpC_bind (wpC_mono h (fun it' s' h' => wpC_pure (And.intro rfl h')) fun _ _ x => x.elim))))
theorem codeC_compLoop {elt target iter : Expr} {scope : Scope} {pos : Pos} {it acc : Value} {env : Env} (I : Nat → Shared → Prop) (X : Value → Shared → Prop) (hX : ∀ x s, X x s → wpAny (model prog w) A (noteFrame x env) (fun _ s' => R (.error x) s') (fun _ _ => False) s)
    (turn : ∀ n s, I n s → wpAny (model prog w) A (pyNext it) (fun r s₁ => match r with
      | none => R (.ok .next) s₁
      | some v => wpAny (model prog w) A (letOwnedTupleGo target it v) (fun _ s₁' => wpAny (model prog w) A (assign target env v) (fun _ s₂ =>
          wpC (model prog w) A (eval elt env) (fun x s₄ => wpAny (model prog w) A (call (.builtin "list.append") [acc, x]) (fun _ s₅ => ∃ m, m < n ∧ I m s₅) (fun _ _ => False) s₄) X s₂) (fun _ _ => False) s₁') (fun _ _ => False) s₁) (fun _ _ => False) s)
    (n : Nat) (h : I n s) : codeC (model prog w) A (.compLoop (.ListComp elt [⟨target, iter, [], 0⟩] scope pos) 0 it acc env) R s := by
  refine codeC_loop rfl I (fun n s hI => ?_) n h
  show wpC _ A ((compTurn (.ListComp elt [⟨target, iter, [], 0⟩] scope pos) 0 it acc env).onRaise (fun x => do noteFrame x env; theTreesLotGoes x)) _ _ s
  refine wpC_onRaise ?_
  have fin : ∀ x s, X x s → wpC (model prog w) A (do noteFrame x env; theTreesLotGoes x) (fun _ s'' => R (.error x) s'') (fun e s' => R (.error e) s') s := fun x s hx =>
    wpC_of (wpAny_bind (wpAny_mono (hX x s hx) (fun _ _ e => wpAny_theTreesLotGoes e) fun _ _ e => e.elim))
  have non : ∀ {α : Type} {t : Sem α} {Q : α → Shared → Prop} {E : Value → Shared → Prop} {s : Shared}, wpAny (model prog w) A t Q (fun _ _ => False) s → wpC (model prog w) A t Q E s := fun h => wpC_of (wpAny_mono h (fun _ _ q => q) fun _ _ f => f.elim)
  rw [compTurn_list1]
  refine wpC_bind (wpC_of (wpAny_standAt (wpC_bind (non (wpAny_mono (turn n s hI) (fun r s₁ h₁ => ?_) fun _ _ h' => h')))))
  cases r with
  | none => exact wpC_pure h₁
  | some v =>
    refine wpC_bind (non (wpAny_mono h₁ (fun _ s₁' h₁' => ?_) fun _ _ h' => h'))
    refine wpC_bind (non (wpAny_mono h₁' (fun _ s₂ h₂ => ?_) fun _ _ h' => h'))
    refine wpC_bind (wpC_bind (wpC_mono h₂ (fun x s₄ h₄ => ?_) fun x s₄ h₄ => fin x s₄ h₄))
    exact wpC_bind (non (wpAny_mono h₄ (fun _ s₅ h₅ => wpC_pure (wpC_pure ⟨rfl, h₅⟩)) fun _ _ h' => h'))
end
end C
end PySem
set_option linter.all false
set_option maxRecDepth 100000
namespace L2
open PySem PySem.Spec PyProof.Rows PySem.Calls PySem.C
structure FlyF (P : Program) (w : World) (outer : List Env) (H : Hp) (s : Shared) (x : Addr) (cls fl : Value) (B : Heap) (H' : Hp) (s' : Shared) : Prop where
  os : s'.os = s.os
  bare : AllBare s'.gens
  un : Un [] [] H H' (PySem.W.hideAll s.heap (frs outer)) B
  hok : HOk P w H' B
  fly : Fl B outer x cls fl s'.heap
  slot : ∀ b ∈ frs outer, ∀ o, s.heap.get? b = some o → ∃ sl, s'.heap.get? b = some { o with slots := sl }
  frf : ∀ b ∈ frs outer, H' b = none
def CXF (P : Program) (w : World) (L : Addr) (outer : List Env) (H : Hp) (s : Shared) (E : XK) (e : Value) (s' : Shared) : Prop :=
  ∃ x cls fl B H', e = .ref x ∧ FlyF P w outer H s x cls fl B H' s' ∧ (fl = .none ∨ fl = rawInt L) ∧ E cls none H'
theorem fun_base {h B B' : Heap} : ∀ {l : List Env}, h.FunFrames B l → (∀ a ∈ frs l, B.get? a = none → B'.get? a = none) → h.FunFrames B' l
  | [], _, _ => trivial
  | env :: l, ⟨hk, ⟨L, o, hf, hn, ho, hd⟩, hr⟩, k => ⟨hk, ⟨L, o, hf, k L (by unfold frs; rw [List.filterMap_cons, hf]; exact List.mem_cons_self ..) hn, ho, hd⟩, fun_base hr fun a ha => k a (mem_stack ha)⟩
section
variable {P : Program} {w : World} {outer : List Env} {H H' : Hp} {s s' : Shared} {x : Addr} {cls fl : Value} {B : Heap} {L : Addr} {E : XK}
theorem Fly.f (F : Fly P w outer H s x cls B H' s') : FlyF P w outer H s x cls .none B H' s' := ⟨F.os, F.bare, F.un, F.hok, F.fly, F.slot, F.frf⟩
theorem CX1.f {e : Value} (h : CX1 P w outer H s E e s') : CXF P w L outer H s E e s' := by
  obtain ⟨x, cls, B, H', rfl, F, q⟩ := h
  exact ⟨x, cls, .none, B, H', rfl, F.f, .inl rfl, q⟩
theorem FlyF.next {fl' : Value} {h2 : Heap} (F : FlyF P w outer H s x cls fl B H' s') (fly : Fl B outer x cls fl' h2) (up : s'.heap.UpToSlots h2) (hf : ∀ b ∈ frs outer, ∀ o, s.heap.get? b = some o → ∀ vs, o.data ≠ .fields vs) :
    FlyF P w outer H s x cls fl' B H' { s' with heap := h2 } :=
  ⟨F.os, F.bare, F.un, F.hok, fly, fun b hb o e => by
    obtain ⟨sl, z⟩ := F.slot b hb o e
    exact (up b _ z (hf b hb o e)).imp fun sl' z' => z', F.frf⟩
theorem FlyF.swap {C : Addr} {o0 o1 : Obj} {h5 h' : Heap} (F : FlyF P w outer H s x cls fl B H' s') (hC : H C = none) (g0 : s.heap.get? C = some o0) (nC : C ∉ frs outer) (k' : Heap.SameBut C s'.heap h') (g1 : h'.get? C = some o1)
    (k5 : Heap.SameBut C s.heap h5) (g5 : h5.get? C = some o1) : ∃ B1, FlyF P w outer H { s with heap := h5 } x cls fl B1 H' { s' with heap := h' } := by
  have b0 : B.get? C = some o0 := F.un.keep C o0 (PySem.W.hideAll_get _ g0 nC) hC (by simp) (by simp)
  have hC' : H' C = none := F.un.free C o0 (PySem.W.hideAll_get _ g0 nC) hC (by simp)
  have fr1 : o1.isFreed = false := (Heap.get?_some_iff.mp g1).2
  have self : (B.update C fun _ => o1).get? C = some o1 := Heap.get?_update_self (fun _ => o1) b0 fr1
  have other : ∀ b, b ≠ C → (B.update C fun _ => o1).get? b = B.get? b := fun b hb => Heap.get?_update_other _ _ (Ne.symm hb)
  have nf : ∀ b ∈ frs outer, b ≠ C := fun b hb z => nC (z ▸ hb)
  have toH : ∀ b o, b ≠ C → (PySem.W.hideAll h5 (frs outer)).get? b = some o → (PySem.W.hideAll s.heap (frs outer)).get? b = some o := fun b o hb e => by
    obtain ⟨e1, e2⟩ := hide_at e
    exact PySem.W.hideAll_get _ ((k5.2 b hb).symm.trans e1) e2
  have xC : x ≠ C := fun z => by have := F.fly.new; rw [z, b0] at this; cases this
  refine ⟨B.update C fun _ => o1, F.os, F.bare, ⟨fun b o e n _ _ => ?_, fun b o _ _ hb => absurd hb (by simp), fun b o e n _ => ?_, fun b o e _ => ?_, F.un.tups, F.un.frzs, F.un.tbls⟩, fun a o e => ?_, ⟨fun b o e => ?_, ?_, ?_, ?_, ?_⟩, fun b hb o e => ?_, F.frf⟩
  · by_cases hb : b = C
    · subst hb
      have e1 := (hide_at e).1
      rw [g5] at e1; cases e1; exact self
    · rw [other b hb]; exact F.un.keep b o (toH b o hb e) n (by simp) (by simp)
  · by_cases hb : b = C
    · rw [hb]; exact hC'
    · exact F.un.free b o (toH b o hb e) n (by simp)
  · by_cases hb : b = C
    · exact ⟨o1, by rw [hb]; exact self⟩
    · obtain ⟨o', z⟩ := F.un.there b o (toH b o hb e) (by simp)
      exact ⟨o', by rw [other b hb]; exact z⟩
  · refine (F.hok a o e).stay (fun b u hb q => (other b fun z => ?_).trans q) (fun _ _ _ q => q) (fun _ q => q) fun _ _ q => q
    rcases hb with hb | hb
    · rw [← hb, z, hC'] at e; cases e
    · rw [z, hC'] at hb; cases hb
  · by_cases hb : b = C
    · subst hb; rw [self] at e; cases e; exact g1
    · rw [other b hb] at e
      exact (k'.2 b hb).trans (F.fly.stays b o e)
  · rw [other x xC]; exact F.fly.new
  · have f1 : s'.heap.FunFrames (B.update C fun _ => o1) outer := fun_base F.fly.fr fun a ha hn => by rw [other a (nf a ha)]; exact hn
    have lem : ∀ {l : List Env}, s'.heap.FunFrames (B.update C fun _ => o1) l → (∀ b ∈ frs l, b ≠ C) → h'.FunFrames (B.update C fun _ => o1) l := by
      intro l
      induction l with
      | nil => intro _ _; trivial
      | cons env l ih =>
        rintro ⟨hk, ⟨L', o, hf, hn, ho, hd⟩, hr⟩ k
        exact ⟨hk, ⟨L', o, hf, hn, (k'.2 L' (k L' (by unfold frs; rw [List.filterMap_cons, hf]; exact List.mem_cons_self ..))).trans ho, hd⟩, ih hr fun b hb => k b (mem_stack hb)⟩
    exact lem f1 nf
  · obtain ⟨oe, vs, T, oT, ts, he, hc, hdi, hd, h1, nT, hTe, hT, hdT, h3⟩ := F.fly.tr
    have TC : T ≠ C := fun z => by rw [z, b0] at nT; cases nT
    exact ⟨oe, vs, T, oT, ts, (k'.2 x xC).trans he, hc, hdi, hd, h1, by rw [other T TC]; exact nT, hTe, (k'.2 T TC).trans hT, hdT, h3⟩
  · obtain ⟨c, ⟨oc, vc, z1, z2, z3⟩, hc⟩ := F.fly.cx
    refine ⟨c, ⟨oc, vc, (k'.2 x xC).trans z1, z2, z3⟩, hc.imp id fun ⟨y, a1, a2, a3, oy, vy, b1, b2, b3⟩ => ?_⟩
    have yC : y ≠ C := fun z => by rw [z, b0] at a2; cases a2
    exact ⟨y, a1, by rw [other y yC]; exact a2, a3, oy, vy, (k'.2 y yC).trans b1, b2, b3⟩
  · obtain ⟨sl, z⟩ := F.slot b hb o ((k5.2 b (nf b hb)).symm.trans e)
    exact ⟨sl, (k'.2 b (nf b hb)).trans z⟩
end
def PassesF (X : Cx) (E : XK) (L : Addr) : Prop := ∀ (pins : List (Addr × Obj)) (σ : St) (H : Hp) (s : Shared) (e : Value) (s' : Shared), Inv X pins σ H s → CXF X.prog X.w L X.stack H s E e s' → X.xe e s'
theorem PassesF.one {X : Cx} {E : XK} {L : Addr} (h : PassesF X E L) : Passes (CX1 X.prog X.w) X E := fun pins σ H s e s' I c => h pins σ H s e s' I c.f
section
variable {P : Program} {w : World} {K : PySem.W.Frag} {mg : Str → Option Value} {base : Heap} {N : List Str} {qual : Str} {scope : Scope} {f : Addr} {cd : Value} {A : Around} {outer : List Env} {s : Shared} {H : Hp} {E : XK}
theorem passF : PassesF (cxOf (CX1 P w) P w K mg base N qual scope f cd A outer s H E) E s.heap.objs.size := by
  rintro pins σ H1 s1 e s2 I ⟨x, cls, fl, B, H2, rfl, F, hfl, q⟩
  have fr : (cxOf (CX1 P w) P w K mg base N qual scope f cd A outer s H E).A.frames = some (envOfC qual scope s.heap.objs.size f cd :: outer) := I.ok.frames
  have fin : ∀ h2, Fl B outer x cls .none h2 → s2.heap.UpToSlots h2 → CX1 P w outer H s E (.ref x) { s2 with heap := h2 } := fun h2 fly up => by
    refine ⟨x, cls, B, H2, rfl, ⟨F.os.trans I.os, F.bare, (I.hideUn rfl).trans F.un, F.hok, fly, fun b hb o z => ?_, fun b hb => F.frf b (mem_stack hb)⟩, q⟩
    obtain ⟨⟨sl, z1⟩, hd⟩ := I.slots rfl hb z
    obtain ⟨sl2, z2⟩ := F.slot b (mem_stack hb) _ z1
    exact (up b _ z2 hd).imp fun sl' z' => z'
  rcases hfl with rfl | rfl
  · exact fl_leave fr rfl F.fly fin
  · show wpAny _ _ (leaving _ _) _ _ _
    unfold leaving
    exact wpAny_bind (fl_again rfl F.fly (fl_land F.fly fun h2 F2 u2 => fin h2 F2.tail u2))
end
end L2
set_option linter.all false
set_option maxRecDepth 100000
namespace L2
open PySem PySem.Spec PyProof.Rows PySem.Calls PySem.C
def XEof (Xc : Cx) (E : XK) (L : Addr) : Value → Shared → Prop := fun e s' => ∃ pins' σ' H5 s5, Inv Xc pins' σ' H5 s5 ∧ CXF Xc.prog Xc.w L Xc.stack H5 s5 E e s'
theorem XEof.pass {Xc : Cx} {E : XK} {L : Addr} : PassesF (Xc.wish (XEof Xc E L)) E L := fun pins σ H s e s' I c => ⟨pins, σ, H, s, I.unwish, c⟩
section
variable {X : Cx} {elt tg iter : Expr} {scope : Scope} {pos : Pos} {cl : List (Str × Addr)} {Nc : List Str} {fi : List (Option Nat)} {wi : TI} {g : CT TG} {te : CT TE}
theorem comp_blockC {L : Addr} {E : XK} (S : CompSc X.env scope cl) (hc : X.calm = true) (hfr : CompFrom X scope Nc fi)
    (hb : ∀ fp pins s3 H3, PG (cxComp X Nc scope cl fp pins s3 H3) tg (g fp pins s3 H3) ∧ PEc ((cxComp X Nc scope cl fp pins s3 H3).wish (XEof (cxComp X Nc scope cl fp pins s3 H3) E L)) elt (te fp pins s3 H3))
    {pins : List (Addr × Obj)} {σ : St} {Q : VK} {itv : Value} {s2 : Shared} {RR : Value → Env → Result → Shared → Prop} (hXf : X.env.frame = some L) (hst : ∃ env0 outer0, X.stack = env0 :: outer0 ∧ env0.frame = some L)
    (h2 : PIE X pins σ tg (fun J H1 => ∀ fp pins s3 H3 a, H1 a = none → CompW J a (compSt fi σ) H1 (g fp pins s3 H3) tYes (te fp pins s3 H3) Q) itv s2)
    (hRR : ∀ a C s' H' m, s'.heap.Ns C m → (∀ h', Heap.SameBut C s'.heap h' → Inv X pins σ H' { s' with heap := h' }) → FpOk X pins H' C → Q (.ref a) H' → ∀ cenv : Env, cenv.locals = C → RR (.ref a) cenv (.ok .next) s')
    (hRE : ∀ a cenv x s' , cenv.frame = some L → (∃ m, s'.heap.Ns cenv.locals m ∧ ∀ h' m', h'.Ns cenv.locals m' → Heap.SameBut cenv.locals s'.heap h' → ∃ H1 s1, Inv X pins σ H1 s1 ∧ ∃ xa cls B H2, x = .ref xa ∧ FlyF X.prog X.w X.stack H1 s1 xa cls (rawInt L) B H2 { s' with heap := h' } ∧ E cls none H2) → RR (.ref a) cenv (.error x) s') :
    wpAny (model X.prog X.w) X.A (newList []) (fun acc s₃ => wpAny (model X.prog X.w) X.A (newFunctionEnv scope X.env.globals cl [] X.env.qual none .none (some X.env)) (fun cenv s₄ =>
      codeC (model X.prog X.w) X.A (.compStart (.ListComp elt [⟨tg, iter, [], 0⟩] scope pos) 0 itv acc { cenv with scope := relabel scope X.env }) (RR acc { cenv with scope := relabel scope X.env }) s₄) X.xe s₃) X.xe s2 := by
  obtain ⟨it, fp, tn, J, H2, e, I2, T, st2, f2, hR⟩ := h2
  subst e
  refine wpAny_newObj_type ?_
  have hfr2 : H2 s2.heap.objs.size = none := I2.hok.fresh (Nat.le_refl _)
  -- the list, tracked
  have I3 : Inv X pins σ (upd H2 s2.heap.objs.size (.lst [])) { s2 with heap := s2.heap.push { cls := .type "list", dict := none, data := .seq ([] : List Value).toArray } } :=
    I2.laid (t' := s2.toks) (fun b u e => Heap.get?_push_of_some _ e) (Nat.le_refl _) ⟨Nat.zero_le _, [], 0, .nil, Heap.get?_push_size _ rfl⟩
  obtain ⟨W, ⟨m0, w0⟩, turn⟩ := hR fp pins { s2 with heap := s2.heap.push { cls := .type "list", dict := none, data := .seq ([] : List Value).toArray } } (upd H2 s2.heap.objs.size (.lst [])) s2.heap.objs.size hfr2
  generalize hH3 : upd H2 s2.heap.objs.size (.lst []) = H3 at I3 w0 turn
  generalize hs3 : ({ s2 with heap := s2.heap.push { cls := .type "list", dict := none, data := .seq ([] : List Value).toArray } } : Shared) = s3 at I3 turn
  have hheap3 : s3.heap = s2.heap.push { cls := .type "list", dict := none, data := .seq ([] : List Value).toArray } := by rw [← hs3]
  have hsz3 : s3.heap.objs.size = s2.heap.objs.size + 1 := by rw [hheap3, Heap.size_push]
  have keep3 : ∀ b o, s2.heap.get? b = some o → s3.heap.get? b = some o := fun b o e => by rw [hheap3]; exact Heap.get?_push_of_some _ e
  have st3 : tn 0 s3.heap := T.keep _ _ _ st2 fun b _ o e => keep3 b o e
  have hfp : ∀ b ∈ fp, b < s2.heap.objs.size := fun b hb => by
    obtain ⟨o, e, _⟩ := T.obj _ _ st2 b hb
    exact Heap.lt_size e
  have f3 : ∀ b ∈ fp, FpOk X pins H3 b := fun b hb => by
    obtain ⟨f0, fr⟩ := f2 b hb
    refine ⟨?_, fr⟩
    rw [← hH3, upd_ne (Nat.ne_of_lt (hfp b hb))]; exact f0
  have hfp3 : ∀ b ∈ fp, b < s3.heap.objs.size := fun b hb => by rw [hsz3]; exact Nat.lt_succ_of_lt (hfp b hb)
  show wpAny _ _ _ _ _ s3
  refine newEnv_comp fun h4 hk4 hns4 hcl4 => ?_
  have hlen : (compSt fi σ).length = Nc.length := by rw [← hfr.1]; simp [compSt]
  have I4 : Inv (cxComp X Nc scope cl fp pins s3 H3) [] (compSt fi σ) H3 { s3 with heap := h4 } := by
    refine comp_inv S I3 f3 hfp3 hlen (fun i x v e1 e2 => ?_) hk4 hns4 hcl4
    unfold compSt at e2
    rw [List.getElem?_map] at e2
    cases ef : fi[i]? with
    | none => rw [ef] at e2; cases e2
    | some o =>
      rw [ef] at e2
      cases o with
      | none => cases e2
      | some j =>
        obtain ⟨q1, q2, q3, q4⟩ := hfr.2 i x j e1 ef
        have e2' : (σ[j]?).join = some v := Option.some.inj e2
        refine ⟨q1, q2, q3, j, q4, ?_⟩
        cases es : σ[j]? with
        | none => rw [es] at e2'; cases e2'
        | some z => rw [es] at e2'; cases z with
          | none => cases e2'
          | some z => cases e2'; rfl
  have st4 : tn 0 h4 := T.keep _ _ _ st3 fun b _ o e => hk4 b o e
  obtain ⟨pg, pe⟩ := hb fp pins s3 H3
  -- the loop
  have loop : codeC (model X.prog X.w) X.A (.compLoop (.ListComp elt [⟨tg, iter, [], 0⟩] scope pos) 0 (.ref it) (.ref s2.heap.objs.size) (cxComp X Nc scope cl fp pins s3 H3).env) (RR (.ref s2.heap.objs.size) (cxComp X Nc scope cl fp pins s3 H3).env) { s3 with heap := h4 } := by
    have stat : ∀ {H' : Hp}, (∀ b ∈ fp, H' b = none) → ∀ b ∈ fp, FpOk (cxComp X Nc scope cl fp pins s3 H3) [] H' b := fun hn b hb => by
      obtain ⟨f0, f1, f2', f3', f4, f5⟩ := f3 b hb
      have ok := I4.ok
      refine ⟨hn b hb, (ok.exf b hb).1, ok.exfs b hb, .inl hb, (ok.exf b hb).2, fun p hp => ?_⟩
      have : p ∈ X.pn ++ pins := by
        have : p ∈ (X.pn ++ pins) ++ [] := hp
        simpa using this
      exact f5 p this
    have back : ∀ {pins' : List (Addr × Obj)} {σ' : St} {H6 : Hp} {s6 : Shared}, Inv (cxComp X Nc scope cl fp pins s3 H3) pins' σ' H6 s6 → ∀ h', Heap.SameBut s3.heap.objs.size s6.heap h' → Inv X pins σ H6 { s6 with heap := h' } := by
      intro pins' σ' H6 s6 I6 h' hs'
      have ub : Un (frs X.stack) fp H3 H6 s3.heap s6.heap := I6.base
      have neC : ∀ b o, s3.heap.get? b = some o → b ≠ s3.heap.objs.size := fun b o e => Nat.ne_of_lt (Heap.lt_size e)
      have ub' : Un (frs X.stack) fp H3 H6 s3.heap h' :=
        ⟨fun b o e n hb hx => (hs'.2 b (neC b o e)).trans (ub.keep b o e n hb hx), fun b o e n hb hx => (ub.slot b o e n hb hx).imp fun sl z => (hs'.2 b (neC b o e)).trans z, ub.free, fun b o e hx => (ub.there b o e hx).imp fun o' z => (hs'.2 b (neC b o e)).trans z, ub.tups, ub.frzs, ub.tbls⟩
      have hok' : HOk X.prog X.w H6 h' := fun b ob e => by
        refine (I6.hok b ob e).stay (fun c w' hcc z => (hs'.2 c ?_).trans z) (fun _ _ _ z => z) (fun _ z => z) fun _ _ z => z
        rintro rfl
        have hfree : H6 s3.heap.objs.size = none := I6.free
        rcases hcc with z | z
        · have z' : s3.heap.objs.size = b := z
          rw [← z', hfree] at e; cases e
        · have z' : H6 s3.heap.objs.size = some (.own b) := z
          rw [hfree] at z'; cases z'
      exact I3.call' (s' := { s6 with heap := h' }) (ch := fp) I6.os ub' hok' I6.bare fun b hb => by
        obtain ⟨f0, f1, f2', f3', f4, f5⟩ := f3 b hb
        exact ⟨f3', f1, f4, f5⟩
    obtain ⟨env0, outer0, hst0, hf0⟩ := hst
    have fr0 : X.A.frames = some (env0 :: outer0) := by rw [I3.ok.frames, hst0]
    have nC : s3.heap.objs.size ∉ frs X.stack := fun hb => by
      obtain ⟨_, o, ho, _⟩ := I3.stack.mem hb
      exact absurd (Heap.lt_size ho) (Nat.lt_irrefl _)
    refine codeC_compLoop (fun n s' => ∃ i σ' H', Inv (cxComp X Nc scope cl fp pins s3 H3) [] σ' H' s' ∧ tn i s'.heap ∧ (∀ b ∈ fp, H' b = none) ∧ W i n σ' H') (XEof (cxComp X Nc scope cl fp pins s3 H3) E L) ?_ ?_ m0 ⟨0, _, H3, I4, st4, fun b hb => (f3 b hb).1, w0⟩
    · rintro x s6 ⟨pins', σ', H5, s5, I5, xa, cls, fl, B, H6, rfl, F, hfl, q⟩
      rw [note_congr (env' := env0) (by show X.env.frame = env0.frame; rw [hXf, hf0])]
      have F0 : Fl B (env0 :: outer0) xa cls fl s6.heap := by rw [← hst0]; exact F.fly
      have nofld : ∀ b ∈ frs X.stack, ∀ o, s5.heap.get? b = some o → ∀ vs, o.data ≠ .fields vs := fun b hb o z => by
        obtain ⟨_, o', z', d⟩ := (back I5 s5.heap (Heap.SameBut.refl ..)).stack.mem hb
        rw [z] at z'; cases z'; exact d
      have after : ∀ h7, Fl B (env0 :: outer0) xa cls (rawInt L) h7 → s6.heap.UpToSlots h7 → RR (.ref s2.heap.objs.size) (cxComp X Nc scope cl fp pins s3 H3).env (.error (.ref xa)) { s6 with heap := h7 } := fun h7 F7 u7 => by
        have G := F.next (fl' := rawInt L) (h2 := h7) (by rw [show (cxComp X Nc scope cl fp pins s3 H3).stack = env0 :: outer0 from hst0]; exact F7) u7 nofld
        obtain ⟨m, hn, _⟩ := id I5.loc
        obtain ⟨oC, es, ep, g0, rst⟩ := id hn
        have hC : H5 s3.heap.objs.size = none := I5.free
        have keepC : h7.get? s3.heap.objs.size = some oC := F7.stays _ _ (F.un.keep _ _ (PySem.W.hideAll_get _ g0 nC) hC (by simp) (by simp))
        refine hRE _ _ _ _ hXf ⟨m, ⟨oC, es, ep, keepC, rst⟩, fun h' m' hn' hs' => ?_⟩
        obtain ⟨o1, es1, ep1, g1, _⟩ := id hn'
        obtain ⟨B1, FF⟩ := G.swap (h5 := s5.heap.update s3.heap.objs.size fun _ => o1) hC g0 nC hs' g1 (Heap.SameBut.update ..) (Heap.get?_update_self (fun _ => o1) g0 (Heap.get?_some_iff.mp g1).2)
        exact ⟨H5, _, back I5 _ (Heap.SameBut.update ..), xa, cls, B1, H6, rfl, FF, q⟩
      rcases hfl with rfl | rfl
      · exact fl_note (B := B) fr0 hf0 F0 after
      · exact fl_again (B := B) hf0 F0 (after s6.heap F0 fun b o z _ => ⟨o.slots, z⟩)
    rintro n s5 ⟨i, σ5, H5, I5, st5, fr5, w5⟩
    rcases turn i n σ5 H5 w5 with ⟨stop, q⟩ | ⟨go, step⟩
    · refine thn (T.done (cxComp X Nc scope cl fp pins s3 H3) rfl rfl rfl hc i [] s5 σ5 H5 _ I5 (stat fr5) st5 stop) fun r s6 ⟨hr, I6⟩ => ?_
      subst hr
      obtain ⟨m, hn, _⟩ := id I6.loc
      exact hRR _ _ s6 H5 m hn (back I6) (I3.fpOk (Nat.le_refl _) I6.free) q _ rfl
    · refine thn (T.item (cxComp X Nc scope cl fp pins s3 H3) rfl rfl rfl hc i [] s5 σ5 H5 _ I5 (stat fr5) st5 go) fun r s6 ⟨u, hr, h6⟩ => ?_
      subst hr
      refine thn h6 fun _ s7 ⟨x, H7, I7, r7, y7, st7, fr7⟩ => ?_
      have I7' := I7.pinned (stat fr7) (T.obj _ _ st7)
      refine thn (pg _ s7 σ5 H7 x u _ I7' r7 (step x H7 y7)) fun _ s8 ⟨σ8, H8, I8, q8⟩ => ?_
      have again : ∀ {σ' : St} {H' : Hp} {s' : Shared}, Inv (cxComp X Nc scope cl fp pins s3 H3) ([] ++ pinsAt fp s7.heap) σ' H' s' → (∃ m', m' < n ∧ W (i + 1) m' σ' H') →
          ∃ m, m < n ∧ ∃ i σ' H', Inv (cxComp X Nc scope cl fp pins s3 H3) [] σ' H' s' ∧ tn i s'.heap ∧ (∀ b ∈ fp, H' b = none) ∧ W i m σ' H' := fun {σ' H' s'} I' ⟨m', hm, w'⟩ => by
        refine ⟨m', hm, i + 1, σ', H', I'.unpinned, T.keep _ _ _ st7 fun b hb o e => (I'.pin (b, o) (List.mem_append_right _ (List.mem_append_right _ (mem_pinsAt hb e)))).1, fun b hb => ?_, w'⟩
        obtain ⟨o, e, d⟩ := T.obj _ _ st7 b hb
        exact (I'.pin (b, o) (List.mem_append_right _ (List.mem_append_right _ (mem_pinsAt hb e)))).2.1
      have q9 : te fp pins s3 H3 σ8 H8 fun y H4 => ∃ ys, H4 s2.heap.objs.size = some (.lst ys) ∧ ys.length < sizeLine ∧ ∃ m', m' < n ∧ W (i + 1) m' σ8 (upd H4 s2.heap.objs.size (.lst (ys ++ [y]))) := by
        have q8' := q8
        simp only [tYes, ↓reduceIte] at q8'
        exact q8'
      refine thnC (pe _ s8 σ8 H8 _ (I8.wish _) q9) fun y s10 ⟨yv, H10, I10, r10, ys, ha, hz, q10⟩ => ?_
      refine thn (mt_append _ s10 σ8 H10 (.ref s2.heap.objs.size) [yv] (.ref s2.heap.objs.size) [y] (fun _ H' => ∃ m', m' < n ∧ W (i + 1) m' σ8 H') I10.unwish rfl (.cons r10 .nil) ⟨_, ys, yv, rfl, rfl, ha, hz, q10⟩) fun _ s11 ⟨_, H11, I11, _, q11⟩ => ?_
      exact again I11 q11
  exact codeC_compStart loop (wpC_of (T.self X.A 0 _ _ _ st4 loop))
theorem peC_comp {L : Addr} {E : XK} (S : CompSc X.env scope cl) (hc : X.calm = true) (hfr : CompFrom X scope Nc fi) (hXf : X.env.frame = some L) (hst : ∃ env0 outer0, X.stack = env0 :: outer0 ∧ env0.frame = some L) (hpf : PassesF X E L) (hi : PI X tg iter wi)
    (hb : ∀ fp pins s3 H3, PG (cxComp X Nc scope cl fp pins s3 H3) tg (g fp pins s3 H3) ∧ PEc ((cxComp X Nc scope cl fp pins s3 H3).wish (XEof (cxComp X Nc scope cl fp pins s3 H3) E L)) elt (te fp pins s3 H3))
    (hs : ∀ x, foldedSetIterable iter X.env x = pure x := by intro _; rfl) : PEc X (.ListComp elt [⟨tg, iter, [], 0⟩] scope pos) (tComp fi wi g (fun _ _ _ _ => tYes) te) := by
  intro pins s σ H Q I h
  rw [eval_ListComp]
  refine wpC_comprehension (use := none) rfl hs S.clos S.kind S.names (thn (hi pins s σ H _ I h) fun v s1 h1 => thn h1 fun itv s2 h2 => ?_)
  refine comp_blockC (Q := Q) (RR := fun acc cenv => compPostC (model X.prog X.w) X.A X.xe none (EP X pins σ Q) acc cenv) S hc hfr hb hXf hst h2 ?_ ?_
  · rintro a C s' H' m hn hI _ q cenv rfl
    exact ⟨m, hn, fun h' hs' => ⟨.ref a, H', hI h' hs', rfl, q⟩⟩
  · rintro a cenv x s' hcf ⟨m, hn, k⟩
    refine ⟨m, hn, fun h' m' hn' hs' => ?_⟩
    obtain ⟨H1, s1, I1, xa, cls, B, H2, rfl, F, q⟩ := k h' m' hn' hs'
    obtain ⟨oe, vs, T, oT, ts, he, hcl, hdi, hd, h1, _⟩ := id F.fly.tr
    unfold PySem.passOn
    refine wpAny_bind (wpAny_field he hd h1 ?_)
    rw [if_neg (show ¬ (Value.ref T == Value.none) = true from by simp)]
    rw [hcf]
    refine wpAny_bind (fl_set F.fly fun h2 F2 u2 => wpAny_throw ?_)
    have nofld : ∀ b ∈ frs X.stack, ∀ o, s1.heap.get? b = some o → ∀ vs, o.data ≠ .fields vs := fun b hb o z => by
      obtain ⟨_, o', z', d⟩ := I1.stack.mem hb
      rw [z] at z'; cases z'; exact d
    exact hpf pins σ H1 s1 _ _ I1 ⟨xa, cls, rawInt L, B, H2, rfl, F.next F2 u2 nofld, .inr rfl, q⟩
theorem comp_out {L : Addr} {E : XK} {pins : List (Addr × Obj)} {σ : St} {cenv : Env} {x : Value} {s' : Shared} {h' : Heap} (hpf : PassesF X E L) (hcf : cenv.frame = some L)
    (k : ∃ H1 s1, Inv X pins σ H1 s1 ∧ ∃ xa cls B H2, x = .ref xa ∧ FlyF X.prog X.w X.stack H1 s1 xa cls (rawInt L) B H2 { s' with heap := h' } ∧ E cls none H2) :
    wpAny (model X.prog X.w) X.A (PySem.passOn "comprehension.variables-let-go" x cenv : Sem Value) (fun _ _ => False) X.xe { s' with heap := h' } := by
  obtain ⟨H1, s1, I1, xa, cls, B, H2, rfl, F, q⟩ := k
  obtain ⟨oe, vs, T, oT, ts, he, hcl, hdi, hd, h1, _⟩ := id F.fly.tr
  unfold PySem.passOn
  refine wpAny_bind (wpAny_field he hd h1 ?_)
  rw [if_neg (show ¬ (Value.ref T == Value.none) = true from by simp)]
  rw [hcf]
  refine wpAny_bind (fl_set F.fly fun h2 F2 u2 => wpAny_throw ?_)
  have nofld : ∀ b ∈ frs X.stack, ∀ o, s1.heap.get? b = some o → ∀ vs, o.data ≠ .fields vs := fun b hb o z => by
    obtain ⟨_, o', z', d⟩ := I1.stack.mem hb
    rw [z] at z'; cases z'; exact d
  exact hpf pins σ H1 s1 _ _ I1 ⟨xa, cls, rawInt L, B, H2, rfl, F.next F2 u2 nofld, .inr rfl, q⟩
theorem psC_setComp {L : Addr} {E : XK} {i : Nat} {y : Str} {py spos : Pos} (S : CompSc X.env scope cl) (hc : X.calm = true) (hfr : CompFrom X scope Nc fi) (hXf : X.env.frame = some L) (hst : ∃ env0 outer0, X.stack = env0 :: outer0 ∧ env0.frame = some L) (hpf : PassesF X E L)
    (hN : X.N.Nodup) (hiy : X.N[i]? = some y) (hy : X.env.kindOf y = some .local) (hi : PI X tg iter wi)
    (hb : ∀ fp pins s3 H3, PG (cxComp X Nc scope cl fp pins s3 H3) tg (g fp pins s3 H3) ∧ PEc ((cxComp X Nc scope cl fp pins s3 H3).wish (XEof (cxComp X Nc scope cl fp pins s3 H3) E L)) elt (te fp pins s3 H3))
    (hsw : swapsWith (.ListComp elt [⟨tg, iter, [], 0⟩] scope pos) (some (.Name y py)) spos.line X.env = pure true)
    (hs : ∀ x, foldedSetIterable iter X.env x = pure x := by intro _; rfl) : PSc X (.Assign [.Name y py] (.ListComp elt [⟨tg, iter, [], 0⟩] scope pos) spos) (tAsg (tComp fi wi g (fun _ _ _ _ => tYes) te) (gName i)) := by
  intro pins s σ H D I h
  rw [exec_Assign_Name_used _ _ _ _ hsw]
  refine wpC_bind (wpC_of (wpAny_standAt (wpC_bind ?_)))
  show wpC _ X.A (do let _ ← comprehension (.ListComp elt [⟨tg, iter, [], 0⟩] scope pos) scope X.env _ (newList []) false (eval iter X.env) (some (assign (.Name y py) X.env))) _ _ s
  refine wpC_bind (wpC_mono (wpC_comprehension (use := some (assign (.Name y py) X.env)) (Q := fun _ s' => SP X pins D .next s') rfl hs S.clos S.kind S.names
    (thn (hi pins s σ H _ I h) fun v s1 h1 => thn h1 fun itv s2 h2 => ?_)) (fun _ s' hq => wpC_pure (wpC_pure hq)) fun _ _ e => e)
  refine comp_blockC (Q := fun v H' => gName i v σ H' D.nx) (RR := fun acc cenv => compPostC (model X.prog X.w) X.A X.xe (some (assign (.Name y py) X.env)) (fun _ s' => SP X pins D .next s') acc cenv) S hc hfr hb hXf hst h2 ?_ ?_
  · rintro a C s' H' m hn hI ⟨f0, f1, f2, f3, f4, f5⟩ q cenv rfl
    show wpAny _ X.A (assign (.Name y py) X.env (.ref a)) _ _ _
    have I' : Inv X pins σ H' s' := hI s'.heap (Heap.SameBut.refl ..)
    obtain ⟨mL, hnL, _⟩ := id I'.loc
    refine wpAny_assign_Name (store_ok2 I' hN hiy (.inl hy) (v := .ref a) rfl (fun s'' I'' ⟨b, sb, hbL⟩ => ?_) (.inr hy))
    have hb' : b ≠ cenv.locals := by
      rcases hbL with z | z
      · rw [z]; exact Ne.symm f1
      · intro e
        exact f4 y b z e
    refine ⟨m, hn.sameBut sb (Ne.symm hb'), fun h3 hs3 => ?_⟩
    refine ⟨σ.set i (some (.ref a)), H', ?_, q⟩
    have keep : ∀ b o, b ≠ cenv.locals → s''.heap.get? b = some o → h3.get? b = some o := fun b o hb e => (hs3.2 b hb).trans e
    exact Inv.turned (t' := s''.toks) (it := cenv.locals) I'' keep f0 f1 f3 f4 f5
  · rintro a cenv x s' hcf ⟨m, hn, k⟩
    exact ⟨m, hn, fun h' m' hn' hs' => comp_out hpf hcf (k h' m' hn' hs')⟩
end
end L2
set_option linter.all false
set_option maxRecDepth 100000
namespace PySem.C
open PySem PySem.Calls PyProof.Rows PySem.W PySem.Spec
abbrev here : Ctx := ⟨.builtin "claim.caller" {}, none, none, [], none⟩
def wpK {α : Type} (M : Model) (t : Sem α) (Q : α → Shared → Prop) (E : Value → Shared → Prop) (s : Shared) : Prop := ∀ p, PySem.Sem.wp M here t (fun a _ s' => Q a s') (fun e _ s' => E e s') p s
section
variable {α β : Type} {M : Model} {E : Value → Shared → Prop} {s : Shared}
theorem wpK_of {t : Sem α} {Q : α → Shared → Prop} (h : wpAny M callerA t Q E s) : wpK M t Q E s := fun p => h here p caller_in
theorem wpK_bind {m : Sem α} {f : α → Sem β} {Q : β → Shared → Prop} (h : wpK M m (fun a s' => wpK M (f a) Q E s') E s) : wpK M (m >>= f) Q E s := fun p => by
  rw [Sem.wp_bind']
  exact Sem.wp_mono M here m (fun a p' s' h' => h' p') (fun _ _ _ h' => h') p s (h p)
theorem wpK_mono {t : Sem α} {Q Q' : α → Shared → Prop} {E' : Value → Shared → Prop} (h : wpK M t Q E s) (hQ : ∀ a s, Q a s → Q' a s) (hE : ∀ e s, E e s → E' e s) : wpK M t Q' E' s :=
  fun p => Sem.wp_mono M here t (fun a _ s => hQ a s) (fun e _ s => hE e s) p s (h p)
theorem wpK_call {f : Value} {pos : List Value} {Q : Value → Shared → Prop} (hc : codeC M callerA (.call f ⟨pos, []⟩) (fun r s' => match r with | .ok (.ret v) => Q v s' | .ok _ => False | .error e => E e s') s) :
    wpK M (PySem.call f pos) Q E s := fun p => by
  show PySem.Sem.wp M here (runValue (.call f ⟨pos, []⟩)) _ _ p s
  rw [Sem.wp_runValue]
  exact hc _ p rfl (caller_in.enter _ none p (by intro x; cases x)) (by show ((Code.builtin "claim.caller" {}, p) :: []).any (fun x => x.1.isCaller) = true; rfl)
end
theorem ends_here {prog : Program} {w : World} {t : Sem Fin} {s : Shared} {R : Result → Shared → Prop} (hz : s.asleep)
    (h : wpK (model prog w) t (fun fin s' => ∃ f, fin = .done f ∧ R (.ok f) s' ∧ leftWithCleanup s'.gens = false) (fun e s' => R (.error e) s' ∧ leftWithCleanup s'.gens = false) s) :
    ∃ n r s' s'', runN (denote table) prog w n s ⟨t, .builtin "claim.caller" {}, default, []⟩ = .halted (outcomeOf r) s' ∧
      schedN (denote table) prog w n (.single s ⟨t, .builtin "claim.caller" {}, default, []⟩) = .halted (outcomeOf r) s' ∧ s'.forget = s''.forget ∧ R r s'' := by
  have h' : PySem.Sem.wp (model prog w) here t (Sem.finPost (model prog w) here fun r s' => R r s' ∧ leftWithCleanup s'.gens = false) (fun e _ s' => R (.error e) s' ∧ leftWithCleanup s'.gens = false) default s := by
    refine Sem.wp_mono _ here t (fun fin p' s' ⟨f, e, q⟩ => ?_) (fun _ _ _ q => q) default s (h default)
    subst e
    exact q
  obtain ⟨n, r, u, v, a, b, c, d⟩ := wp_halts_full (M := model prog w) (R := R) hz h'
  exact ⟨n, r, v, u, b, a, c, d⟩
theorem from_here {c : ClaimW} {tree : List Value → Sem Fin} {w : World} {s : Shared} {free : Addr → Prop} {gens : Prop} {kept : Heap → Prop} (hz : s.asleep) (hg : s.gens = #[])
    (hs : ∀ xs, c.pre xs = true → WData.layableAll xs = true → ∀ ord : List DictEntry → List DictEntry, (∀ l, (ord l).Perm l) → ∃ vs t, layAllW c.records (classAt s.heap) w.params ord xs s = some (vs, t) ∧
        wpK (model c.prog w) (tree vs) (fun fin s' => ∃ f, fin = .done f ∧ (c.Ends s xs vs t (.ok f) s' ∧ s'.os = s.os ∧ AllBare s'.gens ∧ kept s'.heap)) (fun e s' => c.Ends s xs vs t (.error e) s' ∧ s'.os = s.os ∧ AllBare s'.gens ∧ kept s'.heap) t) :
    c.CallFrom (fun vs => ⟨tree vs, .builtin "claim.caller" {}, default, []⟩) w free gens kept s := by
  intro xs hp hl ord ho
  obtain ⟨vs, t, ht, hc⟩ := hs xs hp hl ord ho
  have rest := layAllW_rest _ _ _ ht
  obtain ⟨k, r, u, v, e1, e2, e3, e4, e5, e6⟩ := ends_here (prog := c.prog) (w := w) (t := tree vs) (s := t) (R := fun r s' => c.Ends s xs vs t r s' ∧ s'.os = s.os ∧ kept s'.heap) (Shared.asleep_of_life rest.2.2.2 hz)
    (wpK_mono hc (fun fin s' ⟨f, e, a1, a2, a3, a4⟩ => ⟨f, e, ⟨a1, a2, a4⟩, leftWithCleanup_false_of_bare a3⟩) fun e s' ⟨a1, a2, a3, a4⟩ => ⟨⟨a1, a2, a4⟩, leftWithCleanup_false_of_bare a3⟩)
  obtain ⟨eh, _, _, eo, _⟩ := Shared.forget_eq e3
  have e4 := e4.congr eh
  rw [← eh] at e6
  rw [← eo] at e5
  have hlf : u.heap.life = s.heap.life := (runN_life _ _ _ e1).trans rest.2.2.2
  refine ⟨vs, t, ht, k, _, u, e2, ?_, fun _ i x hx => ?_, e6, by rw [hlf], Shared.rest_eq e5⟩
  · rcases e4 with ⟨z, rfl, d1, d2, d3, d4, d5⟩ | ⟨z, ob, cls, rfl, d1, d2, d3, d4, d5⟩
    · exact .inl ⟨z, rfl, d1, d2, d3, fun b o y _ => d4 b o y, d5⟩
    · exact .inr ⟨z, ob, cls, rfl, d1, d2, d3, d4, fun b o y _ => d5 b o y⟩
  · rw [hg] at hx; simp at hx
abbrev WalkB (q : Program) (loose : List Str) (XP : (Str → Option Value) → Heap → Prop) (YP : World → Heap → Prop) (r : RowW) (d : DefRec) (kwd : List (Str × Expr)) : Prop :=
  ∀ (w : World) (s₀ s : Shared) (mg mb : Str → Option Value), Ground q loose r.records XP w s₀ mg mb s.heap → YP w s.heap → ∀ (a : Addr) (o : Obj) (pm cd doc dV kV : Value), s.heap.get? a = some o → o.data = .func { docDef d.name d.params d.body d.scope pm cd doc with defaults := dV, kwdefaults := kV } →
    s.heap.CodeRec cd d.name → Dflts mg s.heap d.params kwd dV kV → mg d.name = some (.ref a) → s.gens = #[] → ∀ (xs : List WData) (vs : List Value) (as : List Addr), r.claim.pre xs = true → WData.layableAll xs = true → ReadsAllW r.records (classAt s₀.heap) s.heap vs xs as → WellAll w.params s.heap vs xs →
      codeC (model r.prog w) callerA (.call (.ref a) ⟨vs, []⟩) (GoodWG r.claim (classAt s₀.heap) (ExcName.means s₀.heap) xs s) s
end PySem.C
namespace Kx
open PySem PySem.Calls PyProof.Rows PySem.W PySem.Spec PySem.C
theorem PySem.W.holds_open {r : OpenRow} {q : Program} {loose : List Str} {Xt : Shared → Bool} {XP : (Str → Option Value) → Heap → Prop} {α : Type} {Yf : Shared → α} {Ya : World → α} {YP : World → Heap → Prop} {d : DefRec} {kwd : List (Str × PySem.Expr)} {N : Nat} (left : LeftO r.prog q loose Xt Yf Ya N)
    (hY : ∀ w s, Yf s = Ya w → YP w s.heap) (hYk : ∀ w h h', YP w h → (∀ b o, h.get? b = some o → h'.get? b = some o) → YP w h') (hX : ∀ s, Xt s = true → XP (s.heap.nsMap mainGlobals) s.heap)
    (hXk : ∀ mg h h', XP mg h → (∀ b o, h.get? b = some o → h'.get? b = some o) → XP mg h') (hdef : defOf q r.name = some (d, kwd)) (hp : r.prog.theDef r.name = some (d.params, d.body, d.scope)) (hk : kwWritten? d.params.kwonlyargs d.params.kw_defaults = some kwd)
    (hR : ∀ s, Xt s = true → RecFacts r.records s.heap) (hwr : (!r.writes || r.records.isEmpty) = true) (k1 : r.wellSaid = true) (ok : (chainsOk q && opensWell r.prog && (frees r.toRowW && r.within.isEmpty)) = true) (hb : r.prog.bare) (hw : r.toRowW.promised)
    (call : WalkB q loose XP YP r.toRowW d kwd) : r.Holds := by
  obtain ⟨ok1, ok2⟩ := Bool.and_eq_true_iff.mp ok
  obtain ⟨hch, ho⟩ := Bool.and_eq_true_iff.mp ok1
  obtain ⟨ok3, ok4⟩ := Bool.and_eq_true_iff.mp ok2
  obtain ⟨f1, f2, f3, f4, f5⟩ := frees_parts ok3
  refine ⟨k1, hw, ⟨hb, ho, ?_⟩, hw.witness, fun w => ⟨(left.behind hX hch w).1, fun s' hs' => ?_⟩⟩
  · show r.makers.map _ = []
    rw [f5]; rfl
  obtain ⟨s₀, b1, b2, s, T, hz, g0, hg, G0, y⟩ := (left.behind (XP := fun mg h => XP mg h ∧ RecFacts r.records h) (fun s hs => ⟨hX s hs, hR s hs⟩) hch w).2 s' hs'
  have G1 : Ground q loose [] XP w s (s.heap.nsMap mainGlobals) (s.heap.nsMap builtinsNs) s.heap := by
    obtain ⟨a1, a2, a3, a4, a5, a6, a7, a8, a9, a10, a11, a12⟩ := G0
    exact ⟨a1, a2, a3, a4, a5, a6, a7.1, a8, a9, a10, a11, a12⟩
  have RF := G0.X.2
  have T' := T
  refine ⟨s₀, b1, b2, s, T, fun n hn => ?_, RF.1, RF.2.1, ?_⟩
  · obtain rfl : n = r.name := by split at hn <;> simp_all
    exact pinned_of_view hg G1 hdef hp hk
  have g1 : s.gens = #[] := Array.eq_empty_of_size_eq_zero (beq_iff_eq.mp g0)
  have G : Ground q loose r.records XP w s _ _ s.heap := RF.ground G1
  refine from_here (c := r.toRowW.claim) hz g1 fun xs hpre hlay ord hord => ?_
  obtain ⟨⟨vs, t⟩, hl⟩ := Option.isSome_iff_exists.mp (layAllW_isSome (P := w.params) (ord := ord) G.has xs r.toRowW.args s (pre_splitW hpre).1)
  have kp := layAllW_keeps _ _ _ hl
  have rs := layAllW_rest _ _ _ hl
  obtain ⟨as, r1, r2, r3⟩ := reads_layAllW hord _ _ _ hl hlay t.heap fun _ _ e => e
  have L : Laid r.records w s t xs vs as := ⟨⟨ord, hord, hl⟩, r1, r2, r3, kp, rs.1.trans g1, rs.2.2.1⟩
  have G2 := G.keeps hXk kp
  obtain ⟨a, o, pm, cd, doc, dV, kV, h1, h2, h3, h4, h5⟩ := G2.fn hdef
  have run := call w s t _ _ G2 (hYk _ _ _ (hY w s y) kp) a o pm cd doc dV kV h2 h3 h4 h5 (defOf_name hdef ▸ h1) L.gens xs vs as hpre hlay L.reads L.well
  have hi := ident_freeW f2 f3 f4
  have hwi : r.toRowW.claim.within = [] := List.isEmpty_iff.mp ok4
  refine ⟨vs, t, hl, wpK_bind (wpK_of (wpAny_nsGet G2.T.g ?_))⟩
  rw [h1]
  refine wpK_bind (wpK_call (codeC_mono run fun res s' g => ?_))
  have z := g.laid (c := r.toRowW.claim) f1 hwi hi L
  have nk := namesKept_of T' hg r.keeps kp g.2.1.old
  rcases id g.1 with ⟨v, _, _, rfl, _⟩ | ⟨e, _, _, rfl, _⟩
  · exact wpK_of (wpAny_pure ⟨_, rfl, z.1, z.2.1, z.2.2, fun q => ⟨nk, noTable hwr q⟩⟩)
  · exact ⟨z.1, z.2.1, z.2.2, fun q => ⟨nk, noTable hwr q⟩⟩
end Kx
set_option linter.all false
set_option maxRecDepth 100000
namespace L2
open PySem PySem.Spec PyProof.Rows PySem.C
theorem law_callC {P : Program} {w : World} {K : PySem.W.Frag} {mg mb : Str → Option Value} {k : Nat} {fa a : Addr} {fd : FuncData} {x : Str} {sp : Sp} {s₁ : Shared} {vs : List Value} {ns : List Int}
    (KX : K.In s₁.heap) (hns : s₁.heap.Ns mainGlobals mg) (hb : s₁.heap.Ns builtinsNs mb) (hbb : ∀ x : Str, x ≠ "__name__" → mb x = bootBuiltins x) (hlim : s₁.heap.NoLimit) (hdg : s₁.heap.NoDigits) (hg : s₁.gens = #[])
    (ha : s₁.heap.get? a = some { cls := .type "list", data := .seq vs.toArray }) (hi : IntsAre vs ns) (hl : ns.length ≤ sizeLine) (hr : Room k callerA)
    (F : ∀ base : Heap, K.In base → base.Ns mainGlobals mg → base.NoDigits → FnC P w K mg base k fa fd [x] sp) (hbind : ∀ (s : Shared) (u : Value), BindsTo s fd ⟨[u], []⟩ [(x, u)])
    (hsp : ∀ H : Hp, Only H → SqL K H a (ns.map V.int) → sp [.ref a] H (fun v _ => v = .bl true) fun _ _ _ => False) :
    codeC (model P w) callerA (.call (.ref fa) ⟨[.ref a], []⟩) (fun r s' => r = .ok (.ret (.bool true)) ∧ OldK s₁.heap s'.heap ∧ s'.os = s₁.os ∧ AllBare s'.gens) s₁ := by
  have rv := vals_ints hi
  have lenV := hi.length
  -- from an abstract heap in which nothing but the script may be tracked
  have core : ∀ H : Hp, Only H → SqL K H a (ns.map V.int) → HOk P w H s₁.heap → (∀ b, H b ≠ none → b = a) → (H a ≠ none → K.lookup a = none) →
      codeC (model P w) callerA (.call (.ref fa) ⟨[.ref a], []⟩) (fun r s' => r = .ok (.ret (.bool true)) ∧ OldK s₁.heap s'.heap ∧ s'.os = s₁.os ∧ AllBare s'.gens) s₁ := by
    intro H hO hS hok hA hK
    have base_of : ∀ {b : Addr} {o : Obj}, s₁.heap.get? b = some o → H b = none → (hidT s₁.heap H).get? b = some o := fun e n => hidT_get e n
    have noA : ∀ {b : Addr} {o : Obj} {es : Array DictEntry} {ep : Nat}, s₁.heap.get? b = some o → o.data = .dict es ep → H b = none := fun {b o es ep} e d => by
      cases q : H b with
      | none => rfl
      | some u =>
        have e' : b = a := hA b (by rw [q]; simp)
        subst e'
        rw [ha] at e; cases e
        have d' : Data.seq vs.toArray _ = Data.dict es ep := d
        cases d'
    have nsK : ∀ {b : Addr} {m : Str → Option Value}, s₁.heap.Ns b m → (hidT s₁.heap H).Ns b m := fun {b m} ⟨o, es, ep, e, d, r⟩ => ⟨o, es, ep, base_of e (noA e d), d, r⟩
    have hKb : K.In (hidT s₁.heap H) := fun b o e => base_of (KX b o e) (by
      cases q : H b with
      | none => rfl
      | some u =>
        have e' : b = a := hA b (by rw [q]; simp)
        subst e'
        rw [hK (by rw [q]; simp)] at e; cases e)
    have hM : Mod K mg (hidT s₁.heap H) := ⟨hKb, nsK hns, ⟨mb, nsK hb, hbb⟩, let ⟨mc, h1, h2⟩ := hlim; ⟨mc, nsK h1, h2⟩⟩
    have e0 : Env0 P w K mg (hidT s₁.heap H) callerA [] s₁ H := ⟨rfl, hM, fun b o e => of_hidT e, Nat.le_of_eq (hidT_size _ _), trivial, fun b hb => absurd (show b ∈ ([] : List Addr) from hb) (by simp), hok, .of_eq hg⟩
    refine codeC_mono ((F _ hKb (nsK hns) (let ⟨mc, h1, h2⟩ := hdg; ⟨mc, nsK h1, h2⟩)).run callerA [] s₁ H ⟨[.ref a], []⟩ [.ref a] [.ref a] _ _ hr e0 (hbind s₁ (.ref a)) (.cons rfl .nil) (hsp H hO hS)) fun r s' h => ?_
    cases r with
    | error e => obtain ⟨_, _, _, _, _, _, z⟩ := h; exact z.elim
    | ok fl =>
      cases fl with
      | next => exact False.elim h
      | brk => exact False.elim h
      | cont => exact False.elim h
      | ret u =>
        obtain ⟨v, H', os, bare, un, hok', r', q⟩ := h
        have q' : v = .bl true := q
        subst q'
        obtain rfl : u = Value.bool true := r'
        refine ⟨rfl, OldK.of_keep fun b o e => ?_, os, bare⟩
        cases q : H b with
        | none => exact un.keep b o e q (by intro z; exact absurd (show b ∈ ([] : List Addr) from z) (by simp)) (by simp)
        | some u =>
          rcases hO b with z | ⟨ob, xs, z⟩
          · rw [q] at z; cases z
          · have z2 := un.frzs b ob _ z
            obtain ⟨e1, _⟩ := hok b _ z
            obtain ⟨e2, _⟩ := hok' b _ z2
            rw [e] at e1; cases e1
            exact e2
  cases hk : K.lookup a with
  | some o =>
    -- the script is one of the module's own objects
    have e := KX a o hk
    rw [ha] at e
    cases e
    refine core (fun _ => none) (fun _ => .inl rfl) (.inr ⟨_, vs.toArray, _, hk, rfl, rfl, rfl, by rw [List.size_toArray, lenV]; exact hl, by simpa using rv⟩) (fun b u z => by have z' : (none : Option HO) = some u := z; cases z') (fun b z => absurd rfl z) fun z => absurd rfl z
  | none =>
    refine core (fun b => if b = a then some (.frz { cls := .type "list", data := .seq vs.toArray } (.lst (ns.map V.int))) else none) (fun b => ?_) (.inl (.inr ⟨{ cls := .type "list", data := .seq vs.toArray }, if_pos rfl⟩)) (fun b u z => ?_) (fun b z => ?_) fun _ => hk
    · by_cases hb : b = a
      · exact .inr ⟨_, _, if_pos hb⟩
      · exact .inl (if_neg hb)
    · by_cases hb : b = a
      · have z' := (if_pos hb).symm.trans z
        cases z'
        subst hb
        exact ⟨ha, by rw [List.length_map]; exact hl, vs, _, rv, ha⟩
      · have z' := (if_neg hb).symm.trans z
        cases z'
    · by_cases hb : b = a
      · exact hb
      · exact absurd (if_neg hb) z

theorem walk_ofC {l : PySem.W.OpenLaw} {n k : Nat} {q : Program} {loose : List Str} {XP : (Str → Option Value) → Heap → Prop} {YP : World → Heap → Prop} {d : DefRec} {K : Params → PySem.W.Frag} {sp : PySem.W.Frag → Sp} {x : Str}
    (hn : l.most = some n) (hn2 : n ≤ sizeLine) (hdf : d.params.defaults = []) (hr : Room k callerA) (hY : ∀ (w : World) (h : Heap), YP w h → (K w.params).In h)
    (F : ∀ (w : World) (mg : Str → Option Value) (fa : Addr) (h : Heap), (K w.params).In h → h.Ns mainGlobals mg → mg d.name = some (.ref fa) → ∃ fd : FuncData, (∀ (s : Shared) (u : Value), BindsTo s fd ⟨[u], []⟩ [(x, u)]) ∧ ∀ base : Heap, (K w.params).In base → base.Ns mainGlobals mg → base.NoDigits → FnC l.prog w (K w.params) mg base k fa fd [x] (sp (K w.params)))
    (hsp : ∀ (K : PySem.W.Frag) (H : Hp) (a : Addr) (ns : List Int), ns.length ≤ n → Only H → SqL K H a (ns.map V.int) → sp K [.ref a] H (fun v _ => v = .bl true) fun _ _ _ => False) : WalkB q loose XP YP l.row.toRowW d [] := by
  intro w s₀ s mg mb G Y fa o pm cd doc dV kV ho hd hcd hD hmg hg xs vals as hpre hlay hrd hwl
  obtain rfl : dV = .none := PySem.W.Dflts.none hD hdf
  obtain rfl : kV = .none := PySem.W.Dflts.noKw hD
  obtain ⟨a, vs, ns, rfl, rfl, hobj, hints, hlen⟩ := Att.script_of hn hpre hwl
  obtain ⟨fd, hb, hF⟩ := F w mg fa _ (hY w _ Y) G.T.g hmg
  refine codeC_mono (law_callC (hY w _ Y) G.T.g G.T.b G.T.builtins G.T.nolimit G.T.nodigits hg hobj hints (Nat.le_trans hlen hn2) hr hF hb fun H hO hS => hsp (K w.params) H a ns hlen hO hS) fun r s' hq => ?_
  obtain ⟨rfl, h2, h3, h4⟩ := hq
  exact ⟨.inl ⟨.bool true, .bool true, [], rfl, fun _ => rfl, .bool true, Att.post_true l _, fun _ => ⟨List.Pairwise.nil, fun _ hm => (nomatch hm)⟩⟩, h2, h3, h4⟩
end L2
set_option linter.all false
set_option maxRecDepth 100000
namespace PySem
namespace C
open PyProof.Rows
section
variable {M : Model} {A : Around} {E : Value → Shared → Prop} {s : Shared} {env : Env}
theorem isTrueC_or {x : Expr} {rest : List Expr} {pos : Pos} {whole : Sem Value} {Q : Bool → Shared → Prop}
    (h : wpC M A (isTrue x env (eval x env)) (fun c s' => if c then Q true s' else wpC M A (isTrue (.BoolOp .Or rest pos) env whole) Q E s') E s) : wpC M A (isTrue (.BoolOp .Or (x :: rest) pos) env whole) Q E s := by
  show wpC M A (isTrue x env (eval x env) >>= fun c => match BoolOp.Or, c with | .And, false => pure false | .Or, true => pure true | _, _ => allTrue .Or rest env) Q E s
  refine wpC_bind (wpC_mono h (fun c s' h' => ?_) fun _ _ x => x)
  cases c with
  | false => exact h'
  | true => exact wpC_pure h'
theorem BoolOpC_and {e₁ e₂ : Expr} {rest : List Expr} {pos : Pos} {Q : Value → Shared → Prop}
    (h : wpC M A (eval e₁ env) (fun v s₁ => wpC M A (truthy v) (fun c s₂ => if c then wpC M A (eval (.BoolOp .And (e₂ :: rest) pos) env) Q E s₂ else Q v s₂) E s₁) E s) : wpC M A (eval (.BoolOp .And (e₁ :: e₂ :: rest) pos) env) Q E s := by
  show wpC M A (eval e₁ env >>= fun v => standAt pos >>= fun _ => holding [v] (truthy v) >>= fun c => match BoolOp.And, c with | .And, false | .Or, true => pure v | _, _ => boolOp pos .And (eval e₂ env :: evalEach rest env)) Q E s
  refine wpC_bind (wpC_mono h (fun v s₁ h₁ => wpC_bind (wpC_of (wpAny_standAt (wpC_bind (wpC_holding (wpC_mono h₁ (fun c s₂ h₂ => ?_) fun _ _ x => x)))))) fun _ _ x => x)
  cases c with
  | false => exact wpC_pure h₂
  | true => exact h₂
theorem isTrueC_cmp {l r : Expr} {op : CmpOp} {pos : Pos} {whole : Sem Value} {Q : Bool → Shared → Prop} (h : wpC M A (eval l env) (fun a s₁ => wpC M A (eval r env) (fun b s₂ => wpC M A (compareOp op a b) (fun c s₃ => wpC M A (truthy c) Q E s₃) E s₂) E s₁) E s)
    (hm : behindInMarks op r = false) : wpC M A (isTrue (.Compare l [op] [r] pos) env whole) Q E s := fun Γ p hΓ hB => by
  simp only [isTrue_Compare1, markedBehindIn_of_false hm, Sem.wp_bind', Sem.wp_holding, Sem.wp_cmd_standAt, Sem.wp_operate]
  exact Sem.wp_mono M Γ _ (fun a p₁ s₁ h₁ => Sem.wp_mono M Γ _ (fun b _ s₂ h₂ => Sem.wp_mono M Γ _ (fun c p₃ s₃ h₃ => h₃ Γ p₃ hΓ hB) (fun _ _ _ q => q) _ _ (h₂ Γ _ hΓ hB)) (fun _ _ _ q => q) _ _ (h₁ Γ p₁ hΓ hB)) (fun _ _ _ q => q) _ _ (h Γ p hΓ hB)
theorem AssignC {x : Str} {pos' pos : Pos} {value : Expr} {Q : Flow → Shared → Prop} (h : wpC M A (eval value env) (fun v s₁ => wpAny M A (storeName env x v) (fun _ => Q .next) E s₁) E s) (hs : swapsWith value (some (.Name x pos')) pos.line env = pure false) :
    wpC M A (exec (.Assign [.Name x pos'] value pos) env) Q E s := fun Γ p hΓ hB => by
  simp only [exec_Assign_Name env x pos' value pos hs, Sem.wp_bind', Sem.wp_cmd_standAt, Sem.wp_bindName, Sem.wp_pure']
  exact Sem.wp_mono M Γ _ (fun v _ s₁ h₁ => h₁ Γ _ hΓ) (fun _ _ _ q => q) _ _ (h Γ _ hΓ hB)
theorem splicedC {x : Sem Value} {Q : List Value → Shared → Prop} (h : wpC M A x (fun v s₁ => Q [v] s₁) E s) : wpC M A (spliced [(false, x)]) Q E s := by
  rw [spliced]
  refine wpC_bind (wpC_mono h (fun v s₁ h₁ => ?_) fun _ _ x => x)
  simp only [Bool.false_eq_true, if_false]
  exact wpC_of (wpAny_bind (wpAny_pure (wpAny_bind (wpAny_holding (Calls.spliced_nil (wpAny_pure h₁))))))
theorem evalArgsC {f : Value} {x : Sem Value} {rest : List (Bool × Sem Value)} {Q : Args → Shared → Prop} (h : wpC M A (spliced ((false, x) :: rest)) (fun vs s' => Q ⟨vs, []⟩ s') E s) : wpC M A (evalArgs f true ((false, x) :: rest) []) Q E s := by
  unfold evalArgs
  show wpC M A (spliced ((false, x) :: rest) >>= _) Q E s
  refine wpC_bind (wpC_mono h (fun vs s' h' => ?_) fun _ _ x => x)
  exact wpC_of (wpAny_holding (wpAny_bind (wpAny_pure (wpAny_bind (wpAny_pure (wpAny_pure h'))))))
theorem codeC_loop2 {c : Code} {R : Result → Shared → Prop} (hq : c.quiet = true) (I : Nat → Shared → Prop)
    (turn : ∀ n s, I n s → wpC M (A.under c) (M.den c) (fun fin s' => match fin with | .done f => R (.ok f) s' | .again c' => (c' = c ∧ ∃ m, m < n ∧ I m s') ∨ (c'.quiet = true ∧ codeC M A c' R s')) (fun e s' => R (.error e) s') s)
    (n : Nat) (h : I n s) : codeC M A c R s := by
  induction n using Nat.strongRecOn generalizing s with
  | ind n ih =>
    refine codeC_of_tree (wpC_mono (turn n s h) (fun fin s' hf => ?_) fun _ _ h' => h')
    cases fin with
    | done f => exact hf
    | again c' =>
      rcases hf with ⟨rfl, m, hm, hI⟩ | hf
      · exact ⟨hq, ih m hm hI⟩
      · exact hf
end
section
variable {prog : Program} {w : World} {A : Around} {E : Value → Shared → Prop} {s : Shared}
theorem ExprC {env : Env} {e : Expr} {pos : Pos} {Q : Flow → Shared → Prop} (h : wpC (model prog w) A (eval e env) (fun _ => Q .next) E s) (hi : interactive env = false) (hs : swapsWith e none pos.line env = pure false) : wpC (model prog w) A (exec (.Expr e pos) env) Q E s := by
  rw [exec_Expr env e pos hi hs]
  exact wpC_bind (wpC_of (wpAny_standAt (wpC_bind (wpC_mono h (fun v s' h' => wpC_of (wpAny_dropValue h')) fun _ _ x => x))))
theorem codeC_for {R : Result → Shared → Prop} {target : Expr} {it : Value} {body : List Stmt} {env : Env} (I : Nat → Shared → Prop)
    (turn : ∀ n s, I n s → wpAny (model prog w) A (pyNext it) (fun r s₁ => match r with
      | none => R (.ok .next) s₁
      | some v => wpAny (model prog w) A (letOwnedTupleGo target it v) (fun _ s₁' => wpAny (model prog w) A (assign target env v) (fun _ s₂ => wpC (model prog w) A (execs body env) (fun f s₃ => match f with
            | .next | .cont => ∃ m, m < n ∧ I m s₃
            | .brk => R (.ok .next) s₃
            | .ret v => R (.ok (.ret v)) s₃) (fun _ _ => False) s₂) (fun _ _ => False) s₁') (fun _ _ => False) s₁) (fun _ _ => False) s)
    (n : Nat) (h : I n s) : codeC (model prog w) A (.forLoop target it body [] env) R s := by
  refine codeC_loop2 rfl I (fun n s hI => ?_) n h
  show wpC _ A ((forTurn target it body [] env).onRaise (fun x => do noteFrame x env; theTreesLotGoes x)) _ _ s
  refine wpC_onRaise (wpC_mono (E := fun _ _ => False) ?_ (fun _ _ q => q) fun _ _ f => f.elim)
  simp only [forTurn]
  refine wpC_bind (wpC_of (wpAny_standAt (wpC_bind (wpC_onRaise (wpC_of (wpAny_mono (turn n s hI) (fun r s₁ h₁ => ?_) fun _ _ f => f.elim))))))
  cases r with
  | none => exact wpC_pure (.inr ⟨rfl, codeC_of (codeAny_block (wpAny_execs_nil h₁))⟩)
  | some v =>
    refine wpC_bind (wpC_of (wpAny_mono h₁ (fun _ s₁' h₁' => ?_) fun _ _ q => q))
    refine wpC_bind (wpC_of (wpAny_mono h₁' (fun _ s₂ h₂ => wpC_bind (wpC_mono h₂ (fun f s₃ h₃ => ?_) fun _ _ q => q)) fun _ _ q => q))
    cases f with
    | next => exact wpC_pure (.inl ⟨rfl, h₃⟩)
    | cont => exact wpC_pure (.inl ⟨rfl, h₃⟩)
    | brk => exact wpC_pure h₃
    | ret v => exact wpC_pure h₃
theorem ForC {target iter : Expr} {body : List Stmt} {pos : Pos} {env : Env} {Q : Flow → Shared → Prop} (h : wpAny (model prog w) A (eval iter env) (fun x s₁ => wpAny (model prog w) A (pyIter x) (fun it s₂ =>
      codeC (model prog w) A (.forLoop target it body [] env) (fun r s' => match r with | .ok f => Q f s' | .error e => False) s₂) E s₁) E s) (hs : ∀ x, foldedSetIterable iter env x = pure x) :
    wpC (model prog w) A (exec (.For target iter body [] pos) env) Q E s := by
  rw [exec_For]
  refine wpC_bind (wpC_of (wpAny_standAt (wpC_bind (wpC_of (wpAny_mono h (fun x s₁ h₁ => wpC_bind (wpC_of (wpAny_of_eq (hs x) (wpC_bind (wpC_of (wpAny_standAt (wpC_bind (wpC_holding (wpC_of (wpAny_mono h₁ (fun it s₂ h₂ => ?_) fun _ _ q => q))))))))) ) fun _ _ q => q)))))
  unfold runOwn
  refine wpC_onRaise (wpC_run (codeC_mono h₂ fun r s' hr => ?_))
  cases r with
  | ok f => exact hr
  | error e => exact hr.elim
end
end C
end PySem
namespace L2
open PySem PySem.Spec PyProof.Rows PySem.Calls PySem.C
def PWc (X : Cx) (e : Expr) (t : TT) : Prop :=
  ∀ (whole : Sem Value) (pins : List (Addr × Obj)) (s : Shared) (σ : St) (H : Hp) (Q : Bool → Hp → Prop), Inv X pins σ H s → t σ H Q → wpC (model X.prog X.w) X.A (isTrue e X.env whole) (TP X pins σ Q) X.xe s
section
variable {X : Cx} {a b e : Expr} {ta tb te : TE} {tA tB' : TT} {rest : List Expr} {pos : Pos} {x : Str} {p : Pos}
theorem PWc.pt (h : PWc X e tA) : PTc X e tA := h _
theorem pwC_or1 (ha : PTc X a tA) : PWc X (.BoolOp .Or [a] pos) tA := by
  intro wh pins s σ H Q I h
  refine isTrueC_or (thnC (ha pins s σ H Q I h) fun c s1 e => ?_)
  cases c with
  | false => exact wpC_of (isTrue_or_nil e)
  | true => exact e
theorem pwC_or (ha : PTc X a tA) (hb : PWc X (.BoolOp .Or (b :: rest) pos) tB') : PWc X (.BoolOp .Or (a :: b :: rest) pos) (tOr tA tB') := by
  intro wh pins s σ H Q I h
  refine isTrueC_or (thnC (ha pins s σ H _ I h) fun c s1 ⟨H1, I1, q1⟩ => ?_)
  cases c with
  | true => exact ⟨H1, I1, q1⟩
  | false => exact hb wh pins s1 σ H1 Q I1 q1
theorem peC_one {op : BoolOp} (h : PEc X a ta) : PEc X (.BoolOp op [a] pos) ta := fun pins s σ H Q I hw => h pins s σ H Q I hw
theorem peC_and (ha : PEc X a ta) (hb : PEc X (.BoolOp .And (b :: rest) pos) tb) : PEc X (.BoolOp .And (a :: b :: rest) pos) (tAndV ta tb) := by
  intro pins s σ H Q I h
  refine BoolOpC_and (thnC (ha pins s σ H _ I h) fun v s1 ⟨x, H1, I1, r1, q1⟩ => ?_)
  obtain ⟨c, rfl, q1⟩ := q1
  cases r1
  cases c with
  | true => exact wpC_of (wpAny_truthy_bool (hb pins s1 σ H1 Q I1 q1))
  | false => exact wpC_of (wpAny_truthy_bool ⟨.bl false, H1, I1, rfl, q1⟩)
theorem ptC_cmpR {op : CmpOp} {r : R2} (ho : OpR X (compareOp op) r) (ha : PEc X a ta) (hb : PE X b tb) (hm : behindInMarks op b = false) : PTc X (.Compare a [op] [b] pos) (tTest (tOp r ta tb)) := by
  intro pins s σ H Q I h
  refine isTrueC_cmp (thnC (ha pins s σ H _ I h) fun v s1 ⟨x, H1, I1, r1, q1⟩ => wpC_of (thn (hb pins s1 σ H1 _ I1 q1) fun u s2 ⟨y, H2, I2, r2, q2⟩ => wpC_of (thn (ho pins s2 σ H2 x y v u _ I2 r1 r2 q2) fun c s3 ⟨z, H3, I3, r3, k, e, q3⟩ => ?_))) hm
  subst e
  cases r3
  exact wpC_of (wpAny_truthy_bool ⟨H3, I3, q3⟩)
theorem psC_set {i : Nat} {pos' : Pos} (hN : X.N.Nodup) (hi : X.N[i]? = some x) (hx : Loc X.env.scope x) (he : PEc X e te) (hs : swapsWith e (some (.Name x pos')) pos.line X.env = pure false := by rfl) (hf : X.fn x = true ∨ X.env.scope.names.lookup x = some .local := by first | exact .inl rfl | exact .inr rfl | assumption) :
    PSc X (.Assign [.Name x pos'] e pos) (tAsg te (gName i)) := by
  intro pins s σ H D I h
  exact AssignC (thnC (he pins s σ H _ I h) fun v s1 ⟨y, H1, I1, r1, q1⟩ => store_ok I1 hN hi hx r1 (fun s2 I2 => ⟨_, H1, I2, q1⟩) hf) hs
def tA1 (t : TE) : TA := fun σ H Q => t σ H fun v H1 => Q [v] H1
theorem peC_callV {f : Value} {r : List V → Hp → VK → Prop} (hc : CallR X f r) (hkp : PySem.W.Looks (model X.prog X.w) default (keeperOf f) Keeper.machine ∧ ∀ h, PySem.W.Looks (model X.prog X.w) h (keeperOf f) Keeper.machine) (hg : Gl X x) (hm : X.mg x = none) (hv : bootBuiltins x = some f) (he : PEc X e te) (hn : x ≠ "__name__" := by decide) (hdb : (x == ("__debug__" : Str)) = false := by decide)
    (hst : starEach [e] X.env = [(false, eval e X.env)] := by rfl) : PEc X (.Call (.Name x p) [e] [] pos) (tCB r (tA1 te)) := by
  intro pins s σ H Q I h
  refine wpC_Call_Name (wpC_of (ld_blt I hg hm hv ?_ hn hdb))
  rw [hst, show backTo pos [(false, eval e X.env)] = [(false, eval e X.env)] from rfl]
  refine callWithC (P := fun _ => True) rfl (fun h _ => ⟨.machine, .inr (.inl rfl), hkp.2 h⟩) (evalArgsC (splicedC (thnC (he pins s σ H _ I h) fun v s1 ⟨y, H1, I1, r1, q1⟩ => ⟨trivial, ?_⟩)))
  exact wpC_of (hc pins s1 σ H1 [y] [v] Q I1 (.cons r1 .nil) q1)
theorem peC_callB {id : String} {r : List V → Hp → VK → Prop} (hc : CallR X (.builtin id) r) (hg : Gl X x) (hm : X.mg x = none) (hv : bootBuiltins x = some (.builtin id)) (he : PEc X e te) (hn : x ≠ "__name__" := by decide) (hdb : (x == ("__debug__" : Str)) = false := by decide)
    (hst : starEach [e] X.env = [(false, eval e X.env)] := by rfl) : PEc X (.Call (.Name x p) [e] [] pos) (tCB r (tA1 te)) := peC_callV hc ⟨PySem.W.Looks.of_pure rfl, fun _ => PySem.W.Looks.of_pure rfl⟩ hg hm hv he hn hdb hst
theorem peC_callTy {T : String} {r : List V → Hp → VK → Prop} (hc : CallR X (.type T) r) (hg : Gl X x) (hm : X.mg x = none) (hv : bootBuiltins x = some (.type T)) (he : PEc X e te) (hn : x ≠ "__name__" := by decide) (hdb : (x == ("__debug__" : Str)) = false := by decide)
    (hst : starEach [e] X.env = [(false, eval e X.env)] := by rfl) : PEc X (.Call (.Name x p) [e] [] pos) (tCB r (tA1 te)) := peC_callV hc ⟨PySem.W.Looks.of_pure rfl, fun _ => PySem.W.Looks.of_pure rfl⟩ hg hm hv he hn hdb hst
theorem PSsc.nox {st : List Stmt} {t : TS} (h : PSsc X.nox st t) : PSsc X st t := fun pins s σ H D I hw =>
  wpC_mono (h pins s σ H D (I.wish _) hw) (fun f s' q => by
    cases f with
    | next => obtain ⟨σ', H', J, z⟩ := q; exact ⟨σ', H', J.unwish, z⟩
    | brk => obtain ⟨σ', H', J, z⟩ := q; exact ⟨σ', H', J.unwish, z⟩
    | cont => obtain ⟨σ', H', J, z⟩ := q; exact ⟨σ', H', J.unwish, z⟩
    | ret v => obtain ⟨y, σ', H', J, r, z⟩ := q; exact ⟨y, σ', H', J.unwish, r, z⟩) fun _ _ f => f.elim
theorem psC_for {tg iter : Expr} {body : List Stmt} {wi : TI} {g : TG} {tb : TS} (hc : X.calm = true) (hxe : X.xe = fun _ _ => False) (hi : PI X tg iter wi) (hg : PG X tg g) (hb : PSsc X body tb) (hs : ∀ x, foldedSetIterable iter X.env x = pure x := by intro _; rfl) : PSc X (.For tg iter body [] pos) (tFor wi g tb) := by
  intro pins s σ H D I h
  refine ForC (thn (hi pins s σ H _ I h) fun v s1 h1 => thn h1 fun itv s2 h2 => ?_) hs
  obtain ⟨it, fp, tn, J, H2, e, I2, T, st2, f2, W, ⟨m0, w0⟩, turn⟩ := h2
  subst e
  have stat : ∀ {H' : Hp}, (∀ b ∈ fp, H' b = none) → ∀ b ∈ fp, FpOk X pins H' b := fun hn b hb => ⟨hn b hb, (f2 b hb).2⟩
  refine codeC_for (fun n s' => ∃ i σ' H', Inv X pins σ' H' s' ∧ tn i s'.heap ∧ (∀ b ∈ fp, H' b = none) ∧ W i n σ' H') ?_ m0 ⟨0, σ, H2, I2, st2, fun b hb => (f2 b hb).1, w0⟩
  rintro n s3 ⟨i, σ3, H3, I3, st3, fr3, w3⟩
  rcases turn i n σ3 H3 w3 with ⟨stop, qn⟩ | ⟨go, N, hN, step⟩
  · refine thn (T.done X rfl rfl rfl hc i pins s3 σ3 H3 _ I3 (stat fr3) st3 stop) fun r s4 ⟨hr, I4⟩ => ?_
    subst hr
    exact ⟨σ3, H3, I4, qn⟩
  · refine thn (T.item X rfl rfl rfl hc i pins s3 σ3 H3 _ I3 (stat fr3) st3 go) fun r s4 ⟨u, hr, h4⟩ => ?_
    subst hr
    refine thn h4 fun _ s5 ⟨x, H5, I5, r5, y5, st5, fr5⟩ => ?_
    have I5' := I5.pinned (stat fr5) (T.obj _ _ st5)
    have hgo := hg _ s5 σ3 H5 x u _ I5' r5 (step x H5 y5)
    rw [hxe] at hgo
    refine thn hgo fun _ s6 ⟨σ6, H6, I6, q6⟩ => ?_
    have hbo := hb _ s6 σ6 H6 _ I6 q6
    rw [hxe] at hbo
    refine thnC hbo fun f s7 q7 => ?_
    have again : ∀ {σ7 : St} {H7 : Hp}, Inv X (pins ++ pinsAt fp s5.heap) σ7 H7 s7 → N σ7 H7 → ∃ m, m < n ∧ ∃ i σ' H', Inv X pins σ' H' s7 ∧ tn i s7.heap ∧ (∀ b ∈ fp, H' b = none) ∧ W i m σ' H' := fun {σ7 H7} I7 n7 => by
      obtain ⟨m', hm, w7⟩ := hN σ7 H7 n7
      have pin : ∀ {b : Addr} {o : Obj}, b ∈ fp → s5.heap.get? b = some o → _ := fun {b o} hb e => I7.pin (b, o) (List.mem_append_right _ (List.mem_append_right _ (mem_pinsAt hb e)))
      refine ⟨m', hm, i + 1, σ7, H7, I7.unpinned, T.keep _ _ _ st5 fun b hb o e => (pin hb e).1, fun b hb => ?_, w7⟩
      obtain ⟨o, e, d⟩ := T.obj _ _ st5 b hb
      exact (pin hb e).2.1
    cases f with
    | next => obtain ⟨σ7, H7, I7, n7⟩ := q7; exact again I7 n7
    | cont => obtain ⟨σ7, H7, I7, n7⟩ := q7; exact again I7 n7
    | brk => obtain ⟨σ7, H7, I7, q7⟩ := q7; exact ⟨σ7, H7, I7.unpinned, q7⟩
    | ret v => obtain ⟨x7, σ7, H7, I7, r7, q7⟩ := q7; exact ⟨x7, σ7, H7, I7.unpinned, r7, q7⟩
end
section
variable {P : Program} {w : World} {K : PySem.W.Frag} {mg : Str → Option Value} {base : Heap}
def E0x : XK := fun _ _ _ => False
theorem passes0 {X : Cx} : Passes (CX1 X.prog X.w) X E0x := fun pins σ H s e s' _ h => by obtain ⟨_, _, _, _, _, _, z⟩ := h; exact z.elim
theorem passesF0 {X : Cx} {L : Addr} : PassesF X E0x L := fun pins σ H s e s' _ h => by obtain ⟨_, _, _, _, _, _, _, _, z⟩ := h; exact z.elim
theorem Fun.okcN {x qual : Str} {st : Stmt} {f : Addr} {fd : FuncData} {N ps : List Str} {k : Nat} {sp : Sp} (F : Fun K x qual st f fd) (S : FnScope N ps (defScope st)) (len : ∀ vs H Q E, sp vs H Q E → vs.length = ps.length)
    (hbody : ∀ (cdv : Value), fd.code = cdv → ∀ (A : Around) (outer : List Env) (s : Shared) (H : Hp) (vs : List V) (Q : VK) (E : XK), Room k (A.deeper (envOfC qual (defScope st) s.heap.objs.size f cdv)) → sp vs H Q E →
      ∃ t, PSsc (cxOf (CX1 P w) P w K mg base N qual (defScope st) f cdv A outer s H E).nox (defBody st) t ∧ t { nx := fun _ H' => Q .non H', rt := Q } (start N vs) H) : FnC P w K mg base (k + 1) f fd ps sp :=
  F.okc S len fun cdv e A outer s H vs Q E hr hs => let ⟨t, h, q⟩ := hbody cdv e A outer s H vs Q E hr hs; ⟨t, h.nox, q⟩
end
end L2
set_option linter.all false
set_option maxRecDepth 100000
namespace PySem
open Sem (wp)
open PyProof.Rows
namespace C
section
variable {prog : Program} {w : World} {A : Around} {E : Value → Shared → Prop} {s : Shared}
def Chain (h : Heap) (x : Addr) (ys : List Addr) : Prop := (ys = [] ∧ Two h x .none) ∨ ∃ y, ys = [y] ∧ Two h x (.ref y) ∧ y ≠ x ∧ Two h y .none
theorem Chain.keep {h h' : Heap} {x : Addr} {ys : List Addr} (c : Chain h x ys) (k : ∀ b ∈ x :: ys, ∀ v, Two h b v → Two h' b v) : Chain h' x ys := by
  rcases c with ⟨e, t⟩ | ⟨y, e, t, n, t'⟩
  · exact .inl ⟨e, k x (List.mem_cons_self ..) _ t⟩
  · exact .inr ⟨y, e, k x (List.mem_cons_self ..) _ t, n, k y (by rw [e]; simp) _ t'⟩
theorem Chain.lt {h : Heap} {x : Addr} {ys : List Addr} (c : Chain h x ys) : ∀ b ∈ x :: ys, ∃ v, Two h b v := fun b hb => by
  rcases c with ⟨e, t⟩ | ⟨y, e, t, n, t'⟩
  · rw [e] at hb; obtain rfl := List.mem_singleton.mp hb; exact ⟨_, t⟩
  · rw [e] at hb
    simp only [List.mem_cons, List.not_mem_nil, or_false] at hb
    rcases hb with rfl | rfl
    · exact ⟨_, t⟩
    · exact ⟨_, t'⟩
theorem two_lt {h : Heap} {b : Addr} {v : Value} (t : Two h b v) : b < h.objs.size := by obtain ⟨o, _, g, _⟩ := t; exact Heap.lt_size g
theorem unchain0 {v u : Value} {x : Addr} {t : Bool} {R : Result → Shared → Prop} (h0 : Two s.heap x .none) (h : R (.ok (.ret .none)) s) : codeAny (model prog w) A (.builtin "proto.unchain" ⟨[v, .ref x, u, .bool t], []⟩) R s := by
  obtain ⟨o, vs, g, d, e⟩ := h0
  refine codeAny_builtin entry_unchain ?_
  unfold Builtin.«proto.unchain»
  dsimp only
  refine wpAny_bind (wpAny_field g d e ?_)
  rw [if_pos (show (Value.none == Value.none) = true from rfl)]
  exact wpAny_pure h
theorem raise_new2 {α : Type} {x e : Addr} {ys : List Addr} {oe : Obj} {vs : Array Value} {Q : α → Shared → Prop} (hh : A.handled = some (.ref x)) (hc : Chain s.heap x ys) (ne : ∀ b ∈ x :: ys, b ≠ e)
    (he : s.heap.get? e = some oe) (hd : oe.data = .fields vs) (hz : 2 < vs.size) (hE : E (.ref e) { s with heap := s.heap.update e (Obj.mapFields (·.setIfInBounds 2 (.ref x))) }) : wpAny (model prog w) A (raiseNew (.ref e) : Sem α) Q E s := by
  unfold raiseNew
  refine wpAny_bind (wpAny_handled ?_)
  rw [hh]
  dsimp only
  rw [if_pos (by simpa using ne x (List.mem_cons_self ..))]
  refine wpAny_bind (wpAny_holding (wpAny_runValue ?_))
  have fin : wpAny (model prog w) A (setField (.ref e) 2 (.ref x) >>= fun _ => (throw (.ref e) : Sem α)) Q E s := wpAny_bind (wpAny_setField he hd hz (wpAny_throw hE))
  rcases hc with ⟨_, h0⟩ | ⟨y, ey, h0, nyx, hy0⟩
  · exact unchain0 h0 fin
  · obtain ⟨o, vs', g, d, e'⟩ := id h0
    refine codeAny_builtin entry_unchain ?_
    unfold Builtin.«proto.unchain»
    dsimp only
    refine wpAny_bind (wpAny_field g d e' ?_)
    rw [if_neg (show ¬ (Value.ref y == Value.none) = true from by simp), if_neg (show ¬ (Value.ref y == Value.ref e) = true from fun z => ne y (by rw [ey]; simp) (by simpa using z)), if_neg (show ¬ (Value.ref y == Value.ref x) = true from fun z => nyx (by simpa using z))]
    refine wpAny_bind (wpAny_pure (wpAny_pure ⟨Code.quiet_builtin _ (by decide +kernel), unchain0 hy0 fin⟩))
theorem list_endH {it l x : Addr} {ys : List Addr} {i : Nat} {items : Array Value} {Q : Option Value → Shared → Prop} (hh : A.handled = some (.ref x)) (hch : Chain s.heap x ys)
    (hit : s.heap.IsListIter it l i) (hl : s.heap.IsList l items) (hx : items[i]? = none) (hQ : ∀ h', Heap.ExtBut it s.heap h' → Q none { s with heap := h' }) : wpAny (model prog w) A (pyNext (.ref it)) Q E s := by
  obtain ⟨o, ho, hc, hd⟩ := id hit
  obtain ⟨ol, hol, _, nl, hdl⟩ := hl
  unfold pyNext
  refine wpAny_bind (wpAny_attempt (wpAny_callSpecial?_slot (name := Str.ofString "__next__") hit.typeIs slot_listiter_next (wpAny_call_entry slot_listiter_next hit.typeIs entry_listiter_next ?_ (args_listiter_next _))))
  show wpAny _ _ (field (.ref it) 0 >>= _) _ _ s
  refine wpAny_bind (wpAny_field ho hd (x := .ref l) rfl ?_)
  show wpAny _ _ (if (Value.ref l == Value.none) = true then _ else _) _ _ s
  rw [if_neg (show ¬ ((Value.ref l == Value.none) = true) from Bool.false_ne_true)]
  show wpAny _ _ (field (.ref it) 1 >>= _) _ _ s
  refine wpAny_bind (wpAny_field ho hd (x := .int i 0) rfl ?_)
  show wpAny _ _ (seqItems? (.ref l) >>= _) _ _ s
  refine wpAny_bind (wpAny_seqItems hol hdl ?_)
  simp only [Int.toNat_natCast, hx]
  refine wpAny_bind (wpAny_rule (wpAny_bind (wpAny_setField ho hd (by simp) ?_)))
  show wpAny _ _ (newExc (.type "StopIteration") [] >>= _) _ _ _
  refine wpAny_bind ?_
  simp only [newExc, newTuple]
  refine wpAny_bind (wpAny_newObj_type ?_ (by size_fits))
  refine wpAny_bind (m := firstArgMember _ _) (wpAny_of_eq (a := Value.none) (by first | rfl | (simp only [firstArgMember]; rfl)) ?_)
  refine wpAny_newObj_type ?_ (by size_fits)
  have k0 := keeps2_set (k := 0) (w := Value.none) ho hd (by decide)
  have hch1 : Chain (s.heap.update it (Obj.mapFields (·.setIfInBounds 0 Value.none))) x ys := hch.keep fun b _ v t => k0 b v t
  have sz : (s.heap.update it (Obj.mapFields (·.setIfInBounds 0 Value.none))).objs.size = s.heap.objs.size := Heap.size_update ..
  refine raise_new2 (A := A.in1) (x := x) (ys := ys) hh (hch1.keep fun b _ v t => keeps2_push _ _ b v (keeps2_push _ _ b v t)) (fun b hb z => ?_) (Heap.get?_push_size _ rfl) rfl (by simp; omega) ?_
  · obtain ⟨v, t⟩ := hch1.lt b hb
    have l1 := two_lt t
    have z' : b = (s.heap.update it (Obj.mapFields (·.setIfInBounds 0 Value.none))).objs.size + 1 := z.trans (Heap.size_push ..)
    rw [z'] at l1
    exact absurd l1 (Nat.not_lt.mpr (Nat.le_succ _))
  · refine wpAny_bind (wpAny_isInstance (T := "StopIteration") (b := true) ⟨_, Heap.get?_update_self _ (Heap.get?_push_size _ rfl) rfl, rfl⟩ isSubtype_stop ?_)
    refine wpAny_pure (hQ _ fun b o nb e => ?_)
    have e0 : (s.heap.update it (Obj.mapFields (·.setIfInBounds 0 Value.none))).get? b = some o := (Heap.get?_update_other _ _ (Ne.symm nb)).trans e
    refine (Heap.get?_update_other _ _ fun z => ?_).trans (Heap.get?_push_of_some _ (Heap.get?_push_of_some _ e0))
    have l1 := Heap.lt_size e0
    have z' : (s.heap.update it (Obj.mapFields (·.setIfInBounds 0 Value.none))).objs.size + 1 = b := (Heap.size_push ..).symm.trans z
    rw [← z'] at l1
    exact absurd l1 (Nat.not_lt.mpr (Nat.le_succ _))
theorem walksH {x : Addr} {ys : List Addr} (hh : A.handled = some (.ref x)) (I ax : Addr) (hne : ax ≠ I) (hni : ∀ b ∈ x :: ys, b ≠ I) (items : Array Value) :
    Walks prog w A I (I :: ax :: x :: ys) [I] items.size (fun i v => items[i]? = some v) (fun i h => h.IsListIter I ax i ∧ h.IsList ax items ∧ Chain h x ys) where
  sub := fun b hb => by simp at hb; simp [hb]
  frame := fun _ h h' st hk => ⟨st.1.at fun o e => hk I (by simp) o e, st.2.1.at fun o e => hk ax (by simp) o e, st.2.2.keep fun b hb v ⟨o, vs, g, d, e⟩ => ⟨o, vs, hk b (List.mem_cons_of_mem _ (List.mem_cons_of_mem _ hb)) o g, d, e⟩⟩
  item := fun i s Q E hi st hQ => by
    refine wpAny_pyNext_list_item st.1 st.2.1 (x := items[i]) (by simp [hi]) fun h' hit' hs' => ?_
    exact hQ _ h' s.toks (by simp [hi]) ⟨hit', st.2.1.extBut hs'.extBut hne, st.2.2.keep fun b hb v ⟨o, vs, g, d, e⟩ => ⟨o, vs, hs'.extBut b o (hni b hb) g, d, e⟩⟩ fun b o hb e => hs'.extBut b o (fun h => hb (by simp [h])) e
  done := fun s Q E st hQ => list_endH hh st.2.2 st.1 st.2.1 (by simp) fun h' he' => hQ h' s.toks fun b o hb e => he' b o (fun h => hb (by simp [h])) e
  self := fun _ _ _ _ st hQ => wpAny_pyIter_listiter st.1 hQ
end
end C
end PySem
namespace L2
open PySem PySem.Spec PyProof.Rows PySem.Calls PySem.C
abbrev HO.excC (x : Addr) (cls c : Value) : HO := .ext fun h => ∃ o vs, h.get? x = some o ∧ o.cls = cls ∧ o.dict = none ∧ PySem.W.notCls o = true ∧ o.data = .fields vs ∧ vs[2]? = some c
abbrev HO.ctx0 (y : Addr) : HO := .ext fun h => ∃ o vs, h.get? y = some o ∧ o.data = .fields vs ∧ vs[2]? = some .none
def Caught (H : Hp) (x : Addr) (cls : Value) : Prop := ∃ c, H x = some (HO.excC x cls c) ∧ (c = .none ∨ ∃ y, c = .ref y ∧ y ≠ x ∧ H y = some (HO.ctx0 y))
theorem Caught.same {H H' : Hp} {x : Addr} {cls : Value} (e : Same H H') (h : Caught H x cls) : Caught H' x cls := by
  obtain ⟨c, h1, h2⟩ := h
  exact ⟨c, e _ _ h1, h2.imp id fun ⟨y, a, b, d⟩ => ⟨y, a, b, e _ _ d⟩⟩
section
variable {X : Cx}
theorem Caught.chain {P : Program} {w : World} {H : Hp} {h : Heap} {x : Addr} {cls : Value} (hok : HOk P w H h) (k : Caught H x cls) : ∃ ys, Chain h x ys := by
  obtain ⟨c, h1, h2⟩ := k
  obtain ⟨⟨o, vs, g, _, _, _, d, e⟩, _, _⟩ := (show ObjOk P w H h x (HO.excC x cls c) from hok x _ h1)
  rcases h2 with rfl | ⟨y, rfl, n, hy⟩
  · exact ⟨[], .inl ⟨rfl, o, vs, g, d, e⟩⟩
  · obtain ⟨⟨o', vs', g', d', e'⟩, _, _⟩ := (show ObjOk P w H h y (HO.ctx0 y) from hok y _ hy)
    exact ⟨[y], .inr ⟨y, rfl, ⟨o, vs, g, d, e⟩, n, o', vs', g', d', e'⟩⟩
theorem walk_boolsH {pins : List (Addr × Obj)} {s : Shared} {σ : St} {H : Hp} {p x : Addr} {cls : Value} {bs : List Bool} {E : Value → Shared → Prop} (hh : X.A.handled = some (.ref x)) (hk : Caught H x cls) (I : Inv X pins σ H s) (hq : SqL X.K H p (bs.map V.bl))
    {QQ : (Nat → Bool) → Nat → Shared → Prop} (hQ : ∀ h' tk, (∀ b o, s.heap.get? b = some o → h'.get? b = some o) → QQ (fun i => bs.getD i false) bs.length { s with heap := h', toks := tk }) :
    wpAny (model X.prog X.w) X.A.in1 (pyIter (.ref p)) (fun it s₂ => ∃ I fp wr n P St tr, it = .ref I ∧ Walks X.prog X.w X.A.in1 I fp wr n P St ∧ St 0 s₂.heap ∧ TruthOf X.prog X.w X.A.in1 P tr ∧
      ∀ h' tk, (∀ b o, b ∉ wr → s₂.heap.get? b = some o → h'.get? b = some o) → QQ tr n { s₂ with heap := h', toks := tk }) E s := by
  obtain ⟨ys, ch⟩ := hk.chain I.hok
  obtain ⟨its, rv, pl, hz⟩ := I.list hq
  have e := bools_of rv
  subst e
  have hl := pl.isList
  have hax : p < s.heap.objs.size := by obtain ⟨_, e, _⟩ := hl; exact Heap.lt_size e
  refine wpAny_pyIter_list hl ?_
  refine ⟨s.heap.objs.size, s.heap.objs.size :: p :: x :: ys, [s.heap.objs.size], (bs.map Value.bool).toArray.size, (fun i v => (bs.map Value.bool).toArray[i]? = some v), _, fun i => bs.getD i false, rfl,
    walksH (prog := X.prog) (w := X.w) (A := X.A.in1) (x := x) (ys := ys) hh s.heap.objs.size p (Nat.ne_of_lt hax) (fun b hb => by obtain ⟨v, t⟩ := ch.lt b hb; exact Nat.ne_of_lt (two_lt t)) _, ⟨⟨_, Heap.get?_push_size _ rfl, rfl, rfl⟩, hl.push _, ch.keep fun b _ v t => keeps2_push _ _ b v t⟩, ?_, fun h' tk hk => ?_⟩
  · intro i v s' Q' E' hP hQ'
    have : ∃ b, bs[i]? = some b ∧ v = .bool b := by
      have hP' : (bs.map Value.bool)[i]? = some v := by simpa using hP
      rw [List.getElem?_map] at hP'
      cases hb : bs[i]? with
      | none => rw [hb] at hP'; cases hP'
      | some b => rw [hb] at hP'; exact ⟨b, rfl, (Option.some.inj hP').symm⟩
    obtain ⟨b, hb, rfl⟩ := this
    refine wpAny_truthy_bool ?_
    have : bs.getD i false = b := by rw [List.getD_eq_getElem?_getD, hb]; rfl
    have hQ2 : Q' (bs.getD i false) s' := hQ'
    rw [this] at hQ2; exact hQ2
  · have : (bs.map Value.bool).toArray.size = bs.length := by simp
    rw [this]
    refine hQ h' tk fun b o e => hk b o (fun hm => ?_) (Heap.get?_push_of_some _ e)
    have hb : b = s.heap.objs.size := by simpa using hm
    have hlt := Heap.lt_size e
    rw [hb] at hlt
    exact Nat.lt_irrefl _ hlt
theorem call_anyH : CallR X (.builtin "any") (fun xs H Q => ∃ (p : Addr) (bs : List Bool) (x : Addr) (cls : Value), xs = [.ref p] ∧ SqL X.K H p (bs.map V.bl) ∧ X.A.handled = some (.ref x) ∧ Caught H x cls ∧ Q (.bl (bs.any id)) H) := by
  intro pins s σ H xs us Q I rv h
  obtain ⟨p, bs, x, cls, rfl, hq, hh, hk, q⟩ := h
  obtain ⟨u, rfl, rx⟩ := vals1 rv
  cases rx
  refine call_any_walk (walk_boolsH hh hk I hq (QQ := fun tr n s' => EP X pins σ Q (.bool ((List.range n).any tr)) s') fun h' tk hk => ?_)
  rw [range_any]
  exact ⟨.bl (bs.any id), H, I.kept hk, rfl, q⟩
theorem call_isCt : CallR X (.builtin "isinstance") (fun xs H Q => ∃ x D C b, xs = [.ref x, .ref C] ∧ Caught H x (.ref D) ∧ ExcCls X.K D ∧ PySem.W.kitOne X.K (.ref D) (.ref C) = some b ∧ Q (.bl b) H) := by
  intro pins s σ H xs us Q I rv h
  obtain ⟨x, D, C, b, rfl, ⟨cc, hx, _⟩, c, e, q⟩ := h
  obtain ⟨u, u', rfl, rx, rt⟩ := vals2 rv
  cases rt
  cases (show u = Value.ref x from rx)
  obtain ⟨⟨o, vs, p1, p2, p3, p4, _⟩, _, _⟩ := (show ObjOk X.prog X.w H s.heap x (HO.excC x (.ref D) cc) from I.hok x _ hx)
  exact PySem.W.kia_one (PySem.W.kitx_exc c.hga c.hgr c.hb c.hc c.ha c.hn c.htk c.hm) I.kIn ⟨o, p1, p2, p3, p4⟩ e (fun z => nomatch z) fun tk => ⟨.bl b, H, I.tok tk, rfl, q⟩
theorem call_isCtT : CallR X (.builtin "isinstance") (fun xs H Q => ∃ x D T b, xs = [.ref x, .ty T] ∧ Caught H x (.ref D) ∧ ExcCls X.K D ∧ PySem.W.kitOne X.K (.ref D) (.type T) = some b ∧ Q (.bl b) H) := by
  intro pins s σ H xs us Q I rv h
  obtain ⟨x, D, T, b, rfl, ⟨cc, hx, _⟩, c, e, q⟩ := h
  obtain ⟨u, u', rfl, rx, rt⟩ := vals2 rv
  cases rt
  cases (show u = Value.ref x from rx)
  obtain ⟨⟨o, vs, p1, p2, p3, p4, _⟩, _, _⟩ := (show ObjOk X.prog X.w H s.heap x (HO.excC x (.ref D) cc) from I.hok x _ hx)
  exact PySem.W.kia_one (PySem.W.kitx_exc c.hga c.hgr c.hb c.hc c.ha c.hn c.htk c.hm) I.kIn ⟨o, p1, p2, p3, p4⟩ e (fun z => nomatch z) fun tk => ⟨.bl b, H, I.tok tk, rfl, q⟩
end
end L2
set_option linter.all false
set_option maxRecDepth 100000
namespace L2
open PySem PySem.Spec PyProof.Rows PySem.Calls PySem.C
section
variable {X : Cx} {pins : List (Addr × Obj)} {σ : St} {H H' : Hp} {s s' : Shared} {x : Addr} {cls : Value} {B : Heap}
theorem Inv.trackY {y : Addr} {oy : Obj} {vy : Array Value} {H2 : Hp} {o : HO} (I : Inv X pins σ H s) (F : Fly X.prog X.w X.stack H s x cls B H' s') (J : Inv X pins σ H2 s') (hn : H2 y = none) (hex : X.ex = []) (hst : X.stack = X.env :: X.outer) (hfr : X.env.frame = some X.env.locals)
    (nB : B.get? y = none) (he : s'.heap.get? y = some oy) (hd : oy.data = .fields vy) (new : ObjOk X.prog X.w (upd H2 y o) s'.heap y o) : Inv X pins σ (upd H2 y o) s' := by
  have nf : y ∉ frs X.stack := fun m => by
    obtain ⟨_, o, ho, hd'⟩ := F.fly.fr.mem m
    rw [he] at ho; cases ho
    exact hd' vy hd
  have hl : y ≠ X.env.locals := fun z => nf (by rw [hst, z]; unfold frs; rw [List.filterMap_cons, hfr]; exact List.mem_cons_self ..)
  have inB : ∀ b o, s.heap.get? b = some o → H b = none → b ∉ frs X.stack → b ≠ y := fun b o e n hb z => by
    have := F.un.keep b o (PySem.W.hideAll_get _ e hb) n (by simp) (by simp)
    rw [z, nB] at this; cases this
  refine J.track ?_ hn hl (fun u c e z => ?_) (fun p hp z => ?_) new
  · cases e : X.s₀.heap.get? y with
    | none => rfl
    | some o =>
      have hb : y ∉ frs X.outer := fun m => nf (by rw [hst]; exact mem_stack m)
      obtain ⟨o1, e1⟩ := (I.hideUn hex).there y o (PySem.W.hideAll_get _ e hb) (by simp)
      obtain ⟨o2, e2⟩ := F.un.there y o1 e1 (by simp)
      rw [nB] at e2; cases e2
  · obtain ⟨v, o, ho, hdc⟩ := J.cell u c e
    rw [z, he] at ho; cases ho
    rw [hd] at hdc; cases hdc
  · obtain ⟨z1, z2, z3, z4, z5⟩ := I.pin p hp
    refine inB p.1 p.2 z1 z2 (fun m => ?_) z
    rcases List.mem_cons.mp (I.stkSub _ m) with g | g
    · exact z3 g
    · exact z4 g
theorem Inv.caught2 (I : Inv X pins σ H s) (F : Fly X.prog X.w X.stack H s x cls B H' s') (hex : X.ex = []) (hst : X.stack = X.env :: X.outer) (hfr : X.env.frame = some X.env.locals) : ∃ H3, Same H' H3 ∧ Caught H3 x cls ∧ Inv X pins σ H3 s' := by
  have I' := I.landed F
  obtain ⟨oe, vs, _, _, _, he, hcl, hdi, hd, _⟩ := id F.fly.tr
  have hno : PySem.W.notCls oe = true := by unfold PySem.W.notCls; rw [hd]
  obtain ⟨c, ⟨o2, v2, g2, d2, e2⟩, hc⟩ := F.fly.cx
  rw [he] at g2; cases g2
  rw [hd] at d2; cases d2
  have okx : ∀ K2 : Hp, ObjOk X.prog X.w K2 s'.heap x (HO.excC x cls c) := fun K2 => ⟨⟨oe, vs, he, hcl, hdi, hno, hd, e2⟩, ⟨oe, he⟩, fun h1 h2 ⟨o, v, e1, r⟩ k => ⟨o, v, k o e1, r⟩⟩
  rcases hc with rfl | ⟨y, rfl, nBy, nyx, oy, vy, gy, dy, ey⟩
  · refine ⟨upd H' x (HO.excC x cls .none), fun b u q => by rw [upd_ne fun z => by rw [z, F.free] at q; cases q]; exact q, ⟨.none, upd_same, .inl rfl⟩, ?_⟩
    exact I.trackY F I' F.free hex hst hfr F.fly.new he hd (okx _)
  · have hy : H' y = none := by
      cases e : H' y with
      | none => rfl
      | some o =>
        obtain ⟨ob, z⟩ := (F.hok y o e).there
        rw [nBy] at z; cases z
    have J := I.trackY (o := HO.ctx0 y) F I' hy hex hst hfr nBy gy dy ⟨⟨oy, vy, gy, dy, ey⟩, ⟨oy, gy⟩, fun h1 h2 ⟨o, v, e1, r⟩ k => ⟨o, v, k o e1, r⟩⟩
    have hx2 : upd H' y (HO.ctx0 y) x = none := by rw [upd_ne (Ne.symm nyx)]; exact F.free
    refine ⟨upd (upd H' y (HO.ctx0 y)) x (HO.excC x cls (.ref y)), fun b u q => ?_, ⟨.ref y, upd_same, .inr ⟨y, rfl, nyx, by rw [upd_ne nyx]; exact upd_same⟩⟩, ?_⟩
    · rw [upd_ne (fun z => by rw [z, F.free] at q; cases q), upd_ne (fun z => by rw [z, hy] at q; cases q)]; exact q
    · exact I.trackY F J hx2 hex hst hfr F.fly.new he hd (okx _)
end
section
variable {X : Cx} {pins : List (Addr × Obj)} {σ : St} {H H' : Hp} {s s' : Shared} {x D C0 : Addr} {B : Heap} {c n : Str} {np hp : Pos} {i : Nat} {b₀ : Stmt} {suite : List Stmt} {D' : Ends} {ts : TS}
theorem try_land2 (I : Inv X pins σ H s) (F : Fly X.prog X.w X.stack H s x (.ref D) B H' s') (hex : X.ex = []) (hst : X.stack = X.env :: X.outer) (hfr : X.env.frame = some X.env.locals)
    (hg : Gl X c) (hm : X.mg c = some (.ref C0)) (hb : PySem.W.subIn X.K (.ref C0) (.type "BaseException") = some true) (hk0 : PySem.W.kitCls X.K (.ref C0) (.ref C0) ≠ none) (hs : PySem.W.kitCls X.K (.ref D) (.ref C0) = some true) (hd : (c == ("__debug__" : Str)) = false)
    (hN : X.N.Nodup) (hi : X.N[i]? = some n) (hk : X.env.scope.names.lookup n = some .local) (hsu : PSs (X.held (.ref x)) (b₀ :: suite) ts)
    (ht : ∀ H3, Same H' H3 → Caught H3 x (.ref D) → ts { nx := fun _ _ => False, rt := D'.rt } (σ.set i (some (.ref x))) H3) :
    wpAny (model X.prog X.w) X.A (noteFrame (.ref x) X.env) (fun _ s₂ => wpAny (model X.prog X.w) X.A (setFlight (.ref x) none) (fun _ s₃ =>
      wpAny (model X.prog X.w) X.A (handleBy (.ref x) X.env [.ExceptHandler (some (.Name c np)) (some n) (b₀ :: suite) hp]) (SP X pins D') X.xe s₃) X.xe s₂) X.xe s' := by
  have hfn : ∀ b ∈ frs X.stack, ∀ o, s.heap.get? b = some o → ∀ vs, o.data ≠ .fields vs := fun b hb o e => by
    obtain ⟨_, o', e', z⟩ := I.stack.mem hb
    rw [e] at e'; cases e'; exact z
  have fr : X.A.frames = some (X.env :: X.outer) := by rw [I.ok.frames, hst]
  have F0 : Fl B (X.env :: X.outer) x (.ref D) .none s'.heap := by rw [← hst]; exact F.fly
  refine fl_note fr hfr F0 fun h1 F1 u1 => ?_
  refine fl_land F1 fun h2 F2 u2 => ?_
  have Fn := F.next (h2 := h2) (by rw [hst]; exact F2) (up_trans u1 u2) hfn
  obtain ⟨Hc, ec, ⟨cc, hcx, hcr⟩, Ic⟩ := I.caught2 Fn hex hst hfr
  obtain ⟨⟨oo, vv, p1, p2, p3, p4, _⟩, _, _⟩ := (show ObjOk X.prog X.w Hc h2 x (HO.excC x (.ref D) cc) from Ic.hok x _ hcx)
  refine wpAny_handleBy_cons (codeAny_handlers_test ?_) (by intro q; cases q)
  refine wpAny_mono (ld_glob (Q := fun c' s₁ => c' = .ref C0 ∧ s₁ = { s' with heap := h2 }) (Ic.held (.ref x)) hg hm ⟨rfl, rfl⟩ hd) (fun c' s₁ z => ?_) fun _ _ z => False.elim z
  obtain ⟨rfl, rfl⟩ := z
  refine PySem.W.exc_match (b := true) Ic.kIn ⟨oo, p1, p2, p3, p4⟩ hk0 hb hs ?_
  refine codeAny_handlers_suite_as ?_
  refine fl_land F2 fun h3 F3 u3 => ?_
  have Fm := Fn.next (h2 := h3) (by rw [hst]; exact F3) u3 hfn
  obtain ⟨Hm, em, km, Im⟩ := I.caught2 Fm hex hst hfr
  refine store_ok Im hN hi (.inl hk) (v := .ref x) rfl (fun s4 I4 => ?_) (.inr hk)
  refine wpAny_mono (hsu pins s4 _ _ _ (I4.held _) (ht Hm em km)) (fun f s5 z => ?_) fun _ _ z => False.elim z
  cases f with
  | next => obtain ⟨_, _, _, q⟩ := z; exact q.elim
  | brk => obtain ⟨_, _, _, q⟩ := z; exact q.elim
  | cont => obtain ⟨_, _, _, q⟩ := z; exact q.elim
  | ret u =>
    obtain ⟨v, σ', H2, I5, r, q⟩ := z
    have J := I5.unheld I.ok
    refine wpAny_bind (wpAny_bindName (store_ok J hN hi (.inl hk) (v := .non) rfl (fun s6 I6 => ?_) (.inr hk)))
    unfold unbindBehindTheSuite
    refine wpAny_onRaise (unbind_ok I6 hN hi hk (v := .non) ?_ fun s7 I7 => ?_)
    · rw [List.getElem?_set_self (by rw [J.len]; exact (List.getElem?_eq_some_iff.mp hi).1)]
    · exact ⟨v, _, H2, I7, r, q⟩
end
section
variable {X : Cx} {e : Expr} {x : Str} {p : Pos}
def xSuite2 (K : PySem.W.Frag) (C0 : Addr) (j : Nat) (ts : Addr → TS) (D : Ends) (σ : St) : XK := fun cls _ H2 => ∃ D0, cls = .ref D0 ∧ PySem.W.kitCls K (.ref D0) (.ref C0) = some true ∧ ∀ x H3, Same H2 H3 → Caught H3 x (.ref D0) → ts x { nx := fun _ _ => False, rt := D.rt } (σ.set j (some (.ref x))) H3
inductive tTryD (X : Cx) (j : Nat) (C0 : Addr) (sp : Sp) (t : TA) (ts : Addr → TS) (D : Ends) (σ : St) (H : Hp) : Prop where
  | mk (h_0 : t σ H fun vs H1 => sp vs H1 (fun _ H2 => D.nx σ H2) (xSuite2 X.K C0 j ts D σ))
theorem psC_tryD {k j : Nat} {C0 : Addr} {c n : Str} {cpos epos np hp tpos : Pos} {es : List Expr} {b₀ : Stmt} {suite : List Stmt} {t : TA} {ts : Addr → TS} {sp : Sp} (C : CalC X.prog X.w X.K X.mg X.base k x sp) (hr : Room k X.A) (hgx : Gl X x) (hex : X.ex = []) (hst : X.stack = X.env :: X.outer) (hfr : X.env.frame = some X.env.locals)
    (ha : ∀ E, PA (X.wish E) (e :: es) t) (hg : Gl X c) (hm : X.mg c = some (.ref C0)) (hb : PySem.W.subIn X.K (.ref C0) (.type "BaseException") = some true) (hk0 : PySem.W.kitCls X.K (.ref C0) (.ref C0) ≠ none) (hd : (c == ("__debug__" : Str)) = false)
    (hN : X.N.Nodup) (hj : X.N[j]? = some n) (hk : X.env.scope.names.lookup n = some .local) (hsu : ∀ x, PSs (X.held (.ref x)) (b₀ :: suite) (ts x)) (hdb : (x == ("__debug__" : Str)) = false := by decide)
    (he : starEach (e :: es) X.env = (false, eval e X.env) :: starEach es X.env := by rfl) (hpl : (backTo cpos (starEach es X.env)).any (·.1) = false := by rfl) (hs : swapsWith (.Call (.Name x p) (e :: es) [] cpos) none epos.line X.env = pure false := by rfl) :
    PSc X (.Try [.Expr (.Call (.Name x p) (e :: es) [] cpos) epos] [.ExceptHandler (some (.Name c np)) (some n) (b₀ :: suite) hp] [] [] tpos) (tTryD X j C0 sp t ts) := by
  intro pins s σ H D I h
  obtain ⟨h⟩ := h
  refine wpC_Try ?_
  generalize hEX : (fun (ev : Value) (s₁ : Shared) => wpAny (model X.prog X.w) X.A (noteFrame ev X.env) (fun _ s₂ => wpAny (model X.prog X.w) X.A (setFlight ev none) (fun _ s₃ => wpC (model X.prog X.w) X.A (handleBy ev X.env [.ExceptHandler (some (.Name c np)) (some n) (b₀ :: suite) hp]) (SP X pins D) X.xe s₃) X.xe s₂) X.xe s₁) = EX
  have call : wpC (model X.prog X.w) X.A (eval (.Call (.Name x p) (e :: es) [] cpos) X.env) (EP (X.wish EX) pins σ fun _ H2 => D.nx σ H2) EX s := by
    obtain ⟨f, fd, ps, F, hbd, hkp, hmx⟩ := C
    have I' := I.wish EX
    refine wpC_Call_Name (wpC_of (ld_glob I hgx hmx ?_ hdb))
    rw [he]
    refine callWithC (P := fun h => X.K.In h) (by show ((false || (backTo cpos (starEach es X.env)).any (·.1)) || false) = false; rw [hpl]; rfl) (PySem.W.keeps_K hkp) (wpC_of (evalArgs_plain ?_))
    have hA := ha EX cpos pins s σ H _ I' h
    rw [show (X.wish EX).env = X.env from rfl, he] at hA
    refine thn hA fun us s1 ⟨vs, H1, I1, r, q⟩ => ⟨I1.kIn, ?_⟩
    have hl : us.length = ps.length := by rw [← r.length]; exact F.len _ _ _ _ q
    have hb' := hbd s1 us I1.kIn (by rw [List.append_nil]; exact hl)
    rw [List.append_nil] at hb'
    refine wpC_call (codeC_mono (F.run X.A X.stack s1 H1 ⟨us, []⟩ us vs _ _ hr I1.env0 hb' r q) fun r s' hq => ?_)
    cases r with
    | error ev =>
      obtain ⟨xa, cls, B, H3, rfl, Fy, D0, rfl, hkc, hts⟩ := hq
      rw [← hEX]
      exact wpAny_mono (try_land2 I1.unwish Fy hex hst hfr hg hm hb hk0 hkc hd hN hj hk (hsu xa) (hts xa)) (fun _ _ q => wpAny_mono q (fun _ _ z => wpC_of z) fun _ _ z => z) fun _ _ z => z
    | ok fl =>
      cases fl with
      | ret u => exact I1.after hq
      | next => exact False.elim hq
      | brk => exact False.elim hq
      | cont => exact False.elim hq
  refine wpC_execs_cons (ExprC (thnC call fun v s1 ⟨y, H1, I1, r1, q1⟩ => ?_) I.quiet hs)
  exact wpC_of (wpAny_execs_nil (wpC_of (wpAny_execs_nil ⟨σ, H1, I1.unwish, q1⟩)))
end
end L2
set_option linter.all false
set_option maxRecDepth 100000
namespace L2
open PySem PySem.Spec PyProof.Rows
section
variable {X : Cx} {k : Nat} {x : Str} {sp : Sp} {p pos : Pos}
theorem pe_c0 (C : Cal X.prog X.w X.K X.mg X.base k x sp) (hr : Room k X.A) (hg : Gl X x) (hdb : (x == ("__debug__" : Str)) = false := by decide) : PE X (.Call (.Name x p) [] [] pos) (tCl sp tNil) := by
  obtain ⟨f, fd, ps, F, hb, hk, hm⟩ := C
  have q := pe_call0 (dvs := []) (E := E0) (p := p) (pos := pos) F hr hg hm hk hb .nil pass0 hdb
  intro pins s σ H Q I h
  exact q pins s σ H Q I h
end
end L2
set_option linter.all false
set_option maxRecDepth 100000
namespace K7m
open PySem PySem.Builtin PySem.Builtin.Str
abbrev L (x : Str) : List Nat := x.cps.toList
theorem L_inj {x y : Str} (h : L x = L y) : x = y := Str.ext' (Array.toList_inj.mp h)
theorem L_append (x y : Str) : L (x ++ y) = L x ++ L y := by
  show (x.cps ++ y.cps).toList = _
  rw [Array.toList_append]
theorem L_len (x : Str) : (L x).length = x.length := by simp [Str.length]
abbrev one (c : Nat) : Str := ⟨#[c]⟩
theorem L_one (c : Nat) : L (one c) = [c] := rfl
theorem L_join2 (c : Nat) (x y : Str) (r : List Str) : L (Str.join (one c) (x :: y :: r)) = L x ++ c :: L (Str.join (one c) (y :: r)) := by
  show L (x ++ one c ++ Str.join (one c) (y :: r)) = _
  rw [L_append, L_append, L_one]; simp
theorem cut_first {c : Nat} : ∀ {a b r s : List Nat}, c ∉ a → c ∉ b → a ++ c :: r = b ++ c :: s → a = b ∧ r = s
  | [], [], r, s, _, _, e => by simp at e; exact ⟨rfl, e⟩
  | [], y :: b, r, s, _, hb, e => by simp at e; exact absurd (List.mem_cons.mpr (.inl e.1)) hb
  | x :: a, [], r, s, ha, _, e => by simp at e; exact absurd (List.mem_cons.mpr (.inl e.1.symm)) ha
  | x :: a, y :: b, r, s, ha, hb, e => by
    simp only [List.cons_append, List.cons.injEq] at e
    obtain ⟨h1, h2⟩ := cut_first (fun z => ha (List.mem_cons_of_mem _ z)) (fun z => hb (List.mem_cons_of_mem _ z)) e.2
    exact ⟨by rw [e.1, h1], h2⟩
theorem join_inj {c : Nat} : ∀ {ps qs : List Str}, ps ≠ [] → qs ≠ [] → (∀ p ∈ ps, c ∉ L p) → (∀ q ∈ qs, c ∉ L q) → Str.join (one c) ps = Str.join (one c) qs → ps = qs
  | [], _, h, _, _, _, _ => absurd rfl h
  | _, [], _, h, _, _, _ => absurd rfl h
  | [p], [q], _, _, _, _, e => by
    have e' : p = q := e
    rw [e']
  | [p], q :: q' :: qs, _, _, hp, _, e => by
    have e' : L p = _ := (congrArg L (show p = Str.join (one c) (q :: q' :: qs) from e)).trans (L_join2 c q q' qs)
    exact absurd (by rw [e']; simp) (hp p (List.mem_singleton.mpr rfl))
  | p :: p' :: ps, [q], _, _, _, hq, e => by
    have e' : L q = _ := (congrArg L (show q = Str.join (one c) (p :: p' :: ps) from e.symm)).trans (L_join2 c p p' ps)
    exact absurd (by rw [e']; simp) (hq q (List.mem_singleton.mpr rfl))
  | p :: p' :: ps, q :: q' :: qs, _, _, hp, hq, e => by
    have e' := congrArg L e
    rw [L_join2, L_join2] at e'
    obtain ⟨h1, h2⟩ := cut_first (hp p (List.mem_cons_self ..)) (hq q (List.mem_cons_self ..)) e'
    rw [L_inj h1, join_inj (List.cons_ne_nil p' ps) (List.cons_ne_nil q' qs) (fun z hz => hp z (List.mem_cons_of_mem _ hz)) (fun z hz => hq z (List.mem_cons_of_mem _ hz)) (L_inj h2)]
theorem split_ne (x y : Str) : Txt.split x y ≠ [] := fun h => by
  have := PyProof.Rows.split_pos x y
  rw [h] at this; simp at this
theorem split_eq {c : Nat} {ps : List Str} (hne : ps ≠ []) (hf : ∀ p ∈ ps, c ∉ L p) : Txt.split (Str.join (one c) ps) (one c) = ps :=
  join_inj (split_ne _ _) hne (StrLaws.split_free _ c) hf (StrLaws.join_split _ _)
theorem mem_join {c : Nat} : ∀ {ps : List Str} {p : Str}, p ∈ ps → (∀ d ∈ L p, d ∈ L (Str.join (one c) ps)) ∧ p.length ≤ (Str.join (one c) ps).length
  | [q], p, h => by
    obtain rfl := List.mem_singleton.mp h
    exact ⟨fun d hd => hd, Nat.le_refl _⟩
  | q :: q' :: qs, p, h => by
    have e := L_join2 c q q' qs
    have el : (Str.join (one c) (q :: q' :: qs)).length = q.length + 1 + (Str.join (one c) (q' :: qs)).length := by
      rw [← L_len, e, List.length_append, List.length_cons, L_len, L_len]; omega
    rcases List.mem_cons.mp h with rfl | h'
    · exact ⟨fun d hd => by rw [e]; exact List.mem_append_left _ hd, by omega⟩
    · obtain ⟨h1, h2⟩ := mem_join (c := c) h'
      exact ⟨fun d hd => by rw [e]; exact List.mem_append_right _ (List.mem_cons_of_mem _ (h1 d hd)), by omega⟩
theorem split_mem {c : Nat} {x p : Str} (h : p ∈ Txt.split x (one c)) : (∀ d ∈ L p, d ∈ L x) ∧ p.length ≤ x.length := by
  have := mem_join (c := c) h
  rwa [StrLaws.join_split] at this
theorem part_sum {c : Nat} (x : Str) : ((Txt.partition x (one c)).2.1 = one c ∨ ((Txt.partition x (one c)).2.1 = Str.empty ∧ c ∉ L x)) := by
  unfold Txt.partition
  rcases StrLaws.occ_head x (one c) 1 (Nat.le_refl 1) with ⟨h0, hn⟩ | ⟨i, r, h0, hi, hn⟩
  · rw [h0]
    refine .inr ⟨rfl, fun hc => ?_⟩
    obtain ⟨i, hi, e⟩ := List.mem_iff_getElem.mp hc
    refine hn i ⟨by rw [← L_len x]; show i + 1 ≤ _; exact hi, ?_⟩
    show (x.cps.extract i (i + 1) == #[c]) = true
    have hi' : i < x.cps.size := by rw [← Array.length_toList]; exact hi
    have e' : x.cps[i] = c := by rw [← e]; simp [L]
    have : x.cps.extract i (i + 1) = #[c] := by
      apply Array.ext
      · simp; omega
      · intro j h1 h2
        have : j = 0 := by simp at h2; omega
        subst this
        simp [e']
    rw [this]; simp
  · rw [h0]; exact .inl rfl
theorem part_eq {c : Nat} {a b : Str} (ha : c ∉ L a) (hb : c ∉ L b) : Txt.partition (a ++ one c ++ b) (one c) = (a, one c, b) := by
  have hs := StrLaws.partition_sum (a ++ one c ++ b) (one c)
  have hc : c ∈ L (a ++ one c ++ b) := by rw [L_append, L_append]; simp
  rcases part_sum (c := c) (a ++ one c ++ b) with h | ⟨_, h⟩
  · generalize Txt.partition (a ++ one c ++ b) (one c) = p at hs h
    obtain ⟨p1, p2, p3⟩ := p
    dsimp only at hs h
    subst h
    have hl := congrArg L hs
    rw [L_append, L_append, L_append, L_append, L_one] at hl
    have cnt := congrArg (List.count c) hl
    simp only [List.count_append, List.count_cons_self, List.count_nil, List.count_eq_zero_of_not_mem ha, List.count_eq_zero_of_not_mem hb] at cnt
    have h1 : c ∉ L p1 := fun z => by have := List.count_pos_iff.mpr z; omega
    have h3 : c ∉ L p3 := fun z => by have := List.count_pos_iff.mpr z; omega
    simp only [List.append_assoc, List.singleton_append] at hl
    obtain ⟨e1, e2⟩ := cut_first h1 ha hl
    rw [L_inj e1, L_inj e2]
  · exact absurd hc h
end K7m
set_option linter.all false
set_option maxRecDepth 100000
namespace K7m
open PySem PySem.Builtin PySem.Builtin.Str PySem.NumText
abbrev sI (n : Int) : Str := Str.ofString (toString n)
def digs : Str := Str.ofString "0123456789"
theorem sI_nat (m : Nat) : L (sI (m : Int)) = (Nat.toDigits 10 m).map Char.toNat := PySem.W.KIN.signs_num m
theorem sI_neg (m : Nat) : L (sI (-((m + 1 : Nat) : Int))) = 45 :: (Nat.toDigits 10 (m + 1)).map Char.toNat := by
  have e : (-((m + 1 : Nat) : Int)) = Int.negSucc m := rfl
  rw [e]
  show (Str.ofString ("-" ++ Nat.repr (m + 1))).cps.toList = _
  rw [PyProof.Rows.signs_ofString, String.toList_append, Nat.toList_repr]
  rfl
theorem char_back {c : Nat} (h : 48 ≤ c ∧ c ≤ 57) : (Char.ofNat c).toNat = c := by
  have : ∀ d : Nat, d < 58 → (Char.ofNat d).toNat = d := by decide
  exact this c (by omega)
theorem chars_back : ∀ {cs : List Nat}, AllDigits cs → (cs.map Char.ofNat).map Char.toNat = cs
  | [], _ => rfl
  | c :: cs, h => by
    rw [List.map_cons, List.map_cons, char_back (h c (List.mem_cons_self ..)), chars_back fun d hd => h d (List.mem_cons_of_mem _ hd)]
def Fig (cs : List Nat) : Prop := AllDigits cs ∧ cs ≠ [] ∧ (cs.length = 1 ∨ ∃ c r, cs = c :: r ∧ 49 ≤ c)
theorem Fig.back {cs : List Nat} (h : Fig cs) : (Nat.toDigits 10 (digitsVal cs)).map Char.toNat = cs := by
  obtain ⟨hd, hn, hf⟩ := h
  have hl : cs.length = (cs.length - 1) + 1 := by have := List.length_pos_iff.mpr hn; omega
  rw [toDigits_digitsVal (cs.length - 1) cs hl hd (hf.imp (fun e => by omega) id), chars_back hd]
theorem toDigits_fig (m : Nat) : Fig ((Nat.toDigits 10 m).map Char.toNat) := by
  refine ⟨fun c hc => ?_, fun e => ?_, ?_⟩
  · obtain ⟨ch, hch, e⟩ := List.mem_map.mp hc
    rw [← e]
    exact PyProof.Rows.digit_range (Nat.isDigit_of_mem_toDigits (by decide) (by decide) hch)
  · have h := toDigits_len_ge 10 m
    rw [List.map_eq_nil_iff.mp e] at h
    exact absurd h (by decide)
  · induction m using Nat.strongRecOn with
    | _ m ih =>
      by_cases h : m < 10
      · rw [Nat.toDigits_of_lt_base h]; exact .inl rfl
      · right
        have hm : m % 10 < 10 := Nat.mod_lt m (by decide)
        have t : Nat.toDigits 10 (m / 10) ++ Nat.toDigits 10 (m % 10) = Nat.toDigits 10 (10 * (m / 10) + m % 10) := Nat.toDigits_append_toDigits (by decide) (by omega) hm
        rw [Nat.div_add_mod] at t
        rw [← t, List.map_append]
        rcases ih (m / 10) (by omega) with e | ⟨c, r, e, hc⟩
        · by_cases h2 : m / 10 < 10
          · rw [Nat.toDigits_of_lt_base h2]
            refine ⟨_, _, rfl, ?_⟩
            have : ∀ d : Nat, d < 10 → 1 ≤ d → 49 ≤ (Nat.digitChar d).toNat := by decide
            exact this _ h2 (by omega)
          · have h3 : 10 ≤ m / 10 := by omega
            have : 2 ≤ (Nat.toDigits 10 (m / 10)).length := by
              have hm' : m / 10 % 10 < 10 := Nat.mod_lt _ (by decide)
              have t' : Nat.toDigits 10 (m / 10 / 10) ++ Nat.toDigits 10 (m / 10 % 10) = Nat.toDigits 10 (10 * (m / 10 / 10) + m / 10 % 10) := Nat.toDigits_append_toDigits (by decide) (by omega) hm'
              rw [Nat.div_add_mod] at t'
              rw [← t', List.length_append]
              have a1 := toDigits_len_ge 10 (m / 10 / 10)
              have a2 := toDigits_len_ge 10 (m / 10 % 10)
              omega
            rw [List.length_map] at e
            omega
        · rw [e]; exact ⟨c, r ++ _, rfl, hc⟩
theorem val_sI (m : Nat) : digitsVal ((Nat.toDigits 10 m).map Char.toNat) = m := PySem.W.KIN.val_back m
theorem slice_mem {x : Str} {l u : Option Int} {c : Nat} (h : c ∈ L (Txt.slice x l u)) : c ∈ L x := by
  unfold Txt.slice at h
  split at h
  · exact h
  · have h' : c ∈ List.filterMap (x.cps[·]?) (strSliceIndices l u 1 x.length) := by simpa [L] using h
    obtain ⟨i, _, e⟩ := List.mem_filterMap.mp h'
    obtain ⟨hi, e'⟩ := Array.getElem?_eq_some_iff.mp e
    rw [← e']
    exact Array.mem_toList_iff.mpr (Array.getElem_mem hi)
theorem slice_tl (x : Str) : L (Txt.slice x (some 1) none) = (L x).drop 1 := by
  by_cases h : 1 ≤ x.length
  · rw [PyProof.Rows.slice_from_eq (x := x) (i := 1) (b := x.length) (by decide) (by omega) rfl]
    show (List.take _ (List.drop 1 (L x))).toArray.toList = _
    rw [List.take_of_length_le]
    rw [List.length_drop, L_len]; omega
  · rw [PyProof.Rows.slice_beyond (by omega)]
    rw [List.drop_eq_nil_of_le (by rw [L_len]; omega)]; rfl
theorem slice_hd (x : Str) : L (Txt.slice x none (some 1)) = (L x).take 1 := by
  by_cases h : 1 ≤ x.length
  · have := PyProof.Rows.slice_closes_to (x := x) (j := 1) ⟨by decide, by rw [show x.cps.toList.length = x.length from L_len x]; omega⟩
    rw [eq_of_beq this]; rfl
  · have e : L x = [] := List.eq_nil_of_length_eq_zero (by rw [L_len]; omega)
    rw [e]
    refine List.eq_nil_iff_forall_not_mem.mpr fun c hc => ?_
    have := slice_mem hc
    rw [e] at this; cases this
theorem digs_mem (c : Nat) : digs.cps.contains c = true ↔ 48 ≤ c ∧ c ≤ 57 := by
  have e : digs.cps = #[48, 49, 50, 51, 52, 53, 54, 55, 56, 57] := by decide +kernel
  rw [e]
  simp
  omega
theorem strip_digs (x : Str) : Txt.stripChars x digs = Str.empty ↔ AllDigits (L x) := by
  unfold Txt.stripChars
  rw [PySem.W.stripBy_eq]
  have key : ∀ s : Str, PySem.W.stripped digs.cps.contains true true s = Str.empty ↔ ∀ c ∈ L s, digs.cps.contains c = true := by
    intro s
    unfold PySem.W.stripped
    simp only [if_true]
    generalize hp : (fun c => digs.cps.contains c) = p
    have hp' : digs.cps.contains = p := hp
    rw [hp']
    have len0 : ∀ (i j : Nat), strSub s i j = Str.empty ↔ min j s.length ≤ i := fun i j => by
      constructor
      · intro h
        have := congrArg Str.length h
        have e : (strSub s i j).length = min j s.length - i := by show (s.cps.extract i j).size = _; rw [Array.size_extract]; rfl
        rw [e] at this
        have z : Str.empty.length = 0 := rfl
        omega
      · intro h
        refine L_inj (List.eq_nil_of_length_eq_zero ?_)
        rw [L_len]
        show (s.cps.extract i j).size = 0
        rw [Array.size_extract]
        have : s.cps.size = s.length := rfl
        omega
    rw [len0]
    have tw : ∀ l : List Nat, (l.takeWhile p).length = l.length ↔ ∀ c ∈ l, p c = true := fun l => by
      induction l with
      | nil => simp
      | cons c l ih =>
        rw [List.takeWhile_cons]
        by_cases hc : p c = true
        · rw [if_pos hc]; simp [ih, hc]
        · rw [if_neg hc]; simp [hc]
    have twl : ∀ l : List Nat, (l.takeWhile p).length ≤ l.length := fun l => (List.takeWhile_sublist p).length_le
    have hl : s.cps.toList.length = s.length := L_len s
    show _ ↔ ∀ c ∈ s.cps.toList, p c = true
    generalize s.cps.toList = l at hl ⊢
    have h1 := twl l
    have h2 := twl (l.drop (l.takeWhile p).length).reverse
    rw [List.length_reverse, List.length_drop] at h2
    have all1 : ∀ (l : List Nat) c, c ∈ l.takeWhile p → p c = true := fun l => by
      induction l with
      | nil => intro c h; cases h
      | cons d l ih =>
        intro c h
        rw [List.takeWhile_cons] at h
        split at h
        · rename_i hd
          rcases List.mem_cons.mp h with rfl | h'
          · exact hd
          · exact ih c h'
        · cases h
    have two : l = l.takeWhile p ++ l.drop (l.takeWhile p).length := by
      have e : l.drop (l.takeWhile p).length = l.dropWhile p := by
        have z := List.takeWhile_append_dropWhile (p := p) (l := l)
        have : (l.takeWhile p ++ l.dropWhile p).drop (l.takeWhile p).length = l.dropWhile p := List.drop_left
        rw [z] at this
        exact this
      rw [e]
      exact List.takeWhile_append_dropWhile.symm
    constructor
    · intro h c hc
      have h3 : ((l.drop (l.takeWhile p).length).reverse.takeWhile p).length = (l.drop (l.takeWhile p).length).reverse.length := by
        rw [List.length_reverse, List.length_drop]; omega
      have h4 := (tw _).mp h3
      rw [two] at hc
      rcases List.mem_append.mp hc with z | z
      · exact all1 l c z
      · exact h4 c (List.mem_reverse.mpr z)
    · intro h
      have := (tw l).mpr h
      omega
  rw [key]
  exact ⟨fun h c hc => (digs_mem c).mp (h c hc), fun h c hc => (digs_mem c).mpr (h c hc)⟩
end K7m
set_option linter.all false
set_option maxRecDepth 100000
namespace K7m
open PySem PySem.Builtin PySem.Builtin.Str PySem.NumText
abbrev T (s : String) : Str := Str.ofString s
theorem T_minus : T "-" = one 45 := by decide +kernel
theorem T_zero : T "0" = one 48 := by decide +kernel
theorem T_blank : T " " = one 32 := by decide +kernel
theorem T_comma : T "," = one 44 := by decide +kernel
theorem T_none : T "" = Str.empty := by decide +kernel
def fig (t : Str) : Str := if (Txt.slice t none (some 1) == T "-") = true then Txt.slice t (some 1) none else t
theorem fig_minus {t : Str} {r : List Nat} (h : L t = 45 :: r) : L (fig t) = r := by
  unfold fig
  have : Txt.slice t none (some 1) = T "-" := by
    rw [T_minus]
    apply L_inj
    rw [slice_hd, h]; rfl
  rw [this, if_pos (beq_self_eq_true _), slice_tl, h]; rfl
theorem fig_plain {t : Str} (h : ∀ r, L t ≠ 45 :: r) : fig t = t := by
  unfold fig
  rw [if_neg]
  intro e
  have e' := congrArg L (eq_of_beq e)
  rw [slice_hd, T_minus, L_one] at e'
  cases hl : L t with
  | nil => rw [hl] at e'; simp at e'
  | cons c r => rw [hl] at e'; simp at e'; exact h r (by rw [hl, e'])
structure Pass (t : Str) : Prop where
  ne : fig t ≠ T ""
  len : (fig t).length ≤ 4
  dig : Txt.stripChars (fig t) digs = T ""
  zero : Txt.item (fig t) 0 = T "0" → t = T "0"
theorem item0 {x : Str} {c : Nat} {r : List Nat} (h : L x = c :: r) : Txt.item x 0 = one c := by
  have hs : 0 < x.cps.size := by rw [← Array.length_toList, show x.cps.toList = c :: r from h]; simp
  have e : x.cps[0]? = some c := by
    rw [← Array.getElem?_toList, show x.cps.toList = c :: r from h]; rfl
  have hl : 0 < x.length := hs
  unfold Txt.item Txt.charAt
  have : seqIndex? 0 x.length = some 0 := by
    unfold seqIndex?
    simp
    omega
  rw [this]
  show (⟨#[(x.cps[0]?).getD 0]⟩ : Str) = _
  rw [e]; rfl
theorem one_inj {c d : Nat} (h : one c = one d) : c = d := by
  have := congrArg L h
  rw [L_one, L_one] at this
  simpa using this
theorem num_fwd {t : Str} (h : Pass t) : ∃ n, PySem.intText? t = some n ∧ t = sI n ∧ t.length ≤ 5 := by
  obtain ⟨h1, h2, h3, h4⟩ := h
  rw [T_none] at h1 h3
  have hd := (strip_digs _).mp h3
  have hl := L_len (fig t)
  by_cases hm : ∃ r, L t = 45 :: r
  · obtain ⟨r, hr⟩ := hm
    have ef := fig_minus hr
    rw [ef] at hd hl
    have hne : r ≠ [] := fun e => h1 (L_inj (by rw [ef, e]; rfl))
    have h0 : ∃ c r', r = c :: r' ∧ 49 ≤ c := by
      cases r with
      | nil => exact absurd rfl hne
      | cons c r' =>
        refine ⟨c, r', rfl, ?_⟩
        have hc := hd c (List.mem_cons_self ..)
        have : c ≠ 48 := fun e => by
          have := h4 (by rw [item0 ef, e, T_zero])
          rw [this, T_zero, L_one] at hr
          cases hr
        omega
    have F : Fig r := ⟨hd, hne, .inr h0⟩
    obtain ⟨m, hm⟩ : ∃ m, digitsVal r = m + 1 := by
      obtain ⟨c, r', e, hc⟩ := h0
      have := digitsVal_pos (cs := r') hc
      rw [← e] at this
      exact ⟨digitsVal r - 1, by omega⟩
    have hlt : t.length = r.length + 1 := by rw [← L_len, hr]; rfl
    refine ⟨_, intText_neg hr hd hne (by omega), L_inj ?_, by omega⟩
    rw [hr, hm, sI_neg, ← hm, F.back]
  · have hp : fig t = t := fig_plain fun r e => hm ⟨r, e⟩
    rw [hp] at hd hl h1 h2 h4
    have hne : L t ≠ [] := fun e => h1 (L_inj e)
    have F : Fig (L t) := by
      refine ⟨hd, hne, ?_⟩
      cases hc : L t with
      | nil => exact absurd hc hne
      | cons c r =>
        by_cases h48 : c = 48
        · have := h4 (by rw [item0 hc, h48, T_zero])
          left
          rw [← hc, this, T_zero]; rfl
        · right
          have hc' := hd c (by rw [hc]; exact List.mem_cons_self ..)
          exact ⟨c, r, rfl, by omega⟩
    refine ⟨_, intText_digits hd hne (by omega), L_inj ?_, by omega⟩
    rw [sI_nat, F.back]
theorem num_bwd {n : Int} (h0 : -1000 ≤ n) (h1 : n ≤ 1000) : Pass (sI n) ∧ PySem.intText? (sI n) = some n ∧ (sI n).length ≤ 5 ∧ (∀ c ∈ L (sI n), c = 45 ∨ (48 ≤ c ∧ c ≤ 57)) := by
  by_cases hn : 0 ≤ n
  · obtain ⟨m, rfl⟩ := Int.eq_ofNat_of_zero_le hn
    have F := toDigits_fig m
    have e := sI_nat m
    have hlen : (sI (m : Int)).length ≤ 4 := PyProof.Rows.toString_length_le hn (by decide) (by omega)
    rw [← e] at F
    obtain ⟨hd, hne, hf⟩ := F
    have hp : fig (sI (m : Int)) = sI (m : Int) := fig_plain fun r z => by
      have := hd 45 (by rw [z]; exact List.mem_cons_self ..)
      omega
    refine ⟨⟨?_, by rw [hp]; exact hlen, ?_, fun z => ?_⟩, ?_, by omega, fun c hc => .inr (hd c hc)⟩
    · rw [hp, T_none]; exact fun z => hne (by rw [z]; rfl)
    · rw [hp, T_none]; exact (strip_digs _).mpr hd
    · rw [hp] at z
      rcases hf with hf | ⟨c, r, hc, h49⟩
      · cases hc : L (sI (m : Int)) with
        | nil => exact absurd hc hne
        | cons c r =>
          rw [item0 hc, T_zero] at z
          have := one_inj z
          rw [hc] at hf
          have : r = [] := List.eq_nil_of_length_eq_zero (by rw [List.length_cons] at hf; omega)
          apply L_inj
          rw [hc, T_zero, L_one]; simp [*]
      · rw [item0 hc, T_zero] at z
        have := one_inj z
        omega
    · rw [intText_digits hd hne (by omega)]
      show some ((digitsVal (L (sI (m : Int))) : Nat) : Int) = _
      rw [e, val_sI]
  · obtain ⟨m, rfl⟩ : ∃ m : Nat, n = -((m + 1 : Nat) : Int) := ⟨(-n).toNat - 1, by omega⟩
    have F := toDigits_fig (m + 1)
    have e := sI_neg m
    obtain ⟨hd, hne, hf⟩ := F
    have ef := fig_minus e
    have hlen0 : ((Nat.toDigits 10 (m + 1)).map Char.toNat).length ≤ 4 := by
      rw [← sI_nat, L_len]
      exact PyProof.Rows.toString_length_le (by omega) (by decide) (by omega)
    have hlen : (fig (sI (-((m + 1 : Nat) : Int)))).length ≤ 4 := by rw [← L_len, ef]; exact hlen0
    have hl5 : (sI (-((m + 1 : Nat) : Int))).length ≤ 5 := by rw [← L_len, e, List.length_cons]; omega
    have h49 : ∃ c r, (Nat.toDigits 10 (m + 1)).map Char.toNat = c :: r ∧ 49 ≤ c := by
      rcases hf with hf | hf
      · cases hc : (Nat.toDigits 10 (m + 1)).map Char.toNat with
        | nil => exact absurd hc hne
        | cons c r =>
          rw [hc] at hf
          have hr : r = [] := List.eq_nil_of_length_eq_zero (by rw [List.length_cons] at hf; omega)
          have hv := val_sI (m + 1)
          rw [hc, hr] at hv
          have hc2 := hd c (by rw [hc]; exact List.mem_cons_self ..)
          have : digitsVal [c] = 0 * 10 + (c - 48) := rfl
          exact ⟨c, r, rfl, by omega⟩
      · exact hf
    refine ⟨⟨?_, hlen, ?_, fun z => ?_⟩, ?_, hl5, fun c hc => ?_⟩
    · rw [T_none]; exact fun z => hne (by rw [← ef, z]; rfl)
    · rw [T_none]; exact (strip_digs _).mpr (by rw [ef]; exact hd)
    · obtain ⟨c, r, hc, h49⟩ := h49
      rw [item0 (ef.trans hc), T_zero] at z
      have := one_inj z
      omega
    · rw [intText_neg e hd hne (by omega), val_sI]
    · rw [e] at hc
      rcases List.mem_cons.mp hc with z | z
      · exact .inl z
      · exact .inr (hd c z)
theorem sI_inj {n m : Int} (h0 : -1000 ≤ n) (h1 : n ≤ 1000) (g0 : -1000 ≤ m) (g1 : m ≤ 1000) (e : sI n = sI m) : n = m := by
  have a := (num_bwd h0 h1).2.1
  have b := (num_bwd g0 g1).2.1
  rw [e, b] at a
  exact (Option.some.inj a).symm
def wd (p : Int × Int) : Str := sI p.1 ++ T "," ++ sI p.2
def writ (h : List (Int × Int)) : Str := Txt.join (T " ") (h.map wd)
def In (p : Int × Int) : Prop := -1000 ≤ p.1 ∧ p.1 ≤ 1000 ∧ -1000 ≤ p.2 ∧ p.2 ≤ 1000
def Ok (h : List (Int × Int)) : Prop := h ≠ [] ∧ h.length ≤ 8 ∧ ∀ p ∈ h, In p
theorem writ_join (h : List (Int × Int)) : writ h = Str.join (one 32) (h.map wd) := by
  unfold writ Txt.join
  rw [StrLaws.glued_eq_join, T_blank]
theorem sI_free {n : Int} (h0 : -1000 ≤ n) (h1 : n ≤ 1000) : 32 ∉ L (sI n) ∧ 44 ∉ L (sI n) :=
  ⟨fun h => by have := (num_bwd h0 h1).2.2.2 _ h; omega, fun h => by have := (num_bwd h0 h1).2.2.2 _ h; omega⟩
theorem wd_L (p : Int × Int) : L (wd p) = L (sI p.1) ++ 44 :: L (sI p.2) := by
  unfold wd
  rw [L_append, L_append, T_comma, L_one]; simp
theorem wd_free {p : Int × Int} (h : In p) : 32 ∉ L (wd p) := by
  rw [wd_L]
  have a := (sI_free h.1 h.2.1).1
  have b := (sI_free h.2.2.1 h.2.2.2).1
  simp only [List.mem_append, List.mem_cons]
  rintro (z | z | z)
  · exact a z
  · omega
  · exact b z
theorem wd_len {p : Int × Int} (h : In p) : (wd p).length ≤ 11 := by
  have a := (num_bwd h.1 h.2.1).2.2.1
  have b := (num_bwd h.2.2.1 h.2.2.2).2.2.1
  rw [← L_len, wd_L, List.length_append, List.length_cons, L_len, L_len]; omega
theorem split_writ {h : List (Int × Int)} (o : Ok h) : Txt.split (writ h) (T " ") = h.map wd := by
  rw [writ_join, T_blank]
  refine split_eq (by simpa using o.1) fun p hp => ?_
  obtain ⟨q, hq, rfl⟩ := List.mem_map.mp hp
  exact wd_free (o.2.2 q hq)
theorem wd_join (p : Int × Int) : wd p = Str.join (one 44) [sI p.1, sI p.2] := by
  unfold wd
  rw [T_comma]; rfl
theorem split_wd {p : Int × Int} (h : In p) : Txt.split (wd p) (T ",") = [sI p.1, sI p.2] := by
  rw [wd_join, T_comma]
  refine split_eq (by simp) fun q hq => ?_
  simp only [List.mem_cons, List.not_mem_nil, or_false] at hq
  rcases hq with rfl | rfl
  · exact (sI_free h.1 h.2.1).2
  · exact (sI_free h.2.2.1 h.2.2.2).2
theorem part_wd {p : Int × Int} (h : In p) : Txt.partition (wd p) (T ",") = (sI p.1, T ",", sI p.2) := by
  unfold wd
  rw [T_comma]
  exact part_eq (sI_free h.1 h.2.1).2 (sI_free h.2.2.1 h.2.2.2).2
theorem part_back {w : Str} (h : (Txt.partition w (T ",")).2.1 ≠ T "") : w = (Txt.partition w (T ",")).1 ++ T "," ++ (Txt.partition w (T ",")).2.2 := by
  have hs := StrLaws.partition_sum w (T ",")
  rw [T_comma] at hs h ⊢
  rw [T_none] at h
  rcases part_sum (c := 44) w with e | ⟨e, _⟩
  · rw [e] at hs; exact hs.symm
  · exact absurd e h
theorem writ_inj {h g : List (Int × Int)} (o : Ok h) (o' : Ok g) (e : writ h = writ g) : h = g := by
  have a := split_writ o
  rw [e, split_writ o'] at a
  have step : ∀ {h g : List (Int × Int)}, (∀ p ∈ h, In p) → (∀ p ∈ g, In p) → g.map wd = h.map wd → h = g := by
    intro h
    induction h with
    | nil => intro g _ _ e; cases g with
      | nil => rfl
      | cons q g => simp at e
    | cons p h ih =>
      intro g hp hg e
      cases g with
      | nil => simp at e
      | cons q g =>
        simp only [List.map_cons, List.cons.injEq] at e
        have ip := hp p (List.mem_cons_self ..)
        have iq := hg q (List.mem_cons_self ..)
        have z := split_wd ip
        rw [← e.1, split_wd iq] at z
        simp only [List.cons.injEq, and_true] at z
        have e1 := sI_inj iq.1 iq.2.1 ip.1 ip.2.1 z.1
        have e2 := sI_inj iq.2.2.1 iq.2.2.2 ip.2.2.1 ip.2.2.2 z.2
        rw [ih (fun r hr => hp r (List.mem_cons_of_mem _ hr)) (fun r hr => hg r (List.mem_cons_of_mem _ hr)) e.2]
        congr 1
        exact Prod.ext e1.symm e2.symm
  exact step o.2.2 o'.2.2 a
end K7m
set_option linter.all false
set_option maxRecDepth 100000
namespace K7m
open PySem PySem.Builtin PySem.Builtin.Str PySem.NumText
theorem sum_wd : ∀ ps : List (Int × Int), (∀ p ∈ ps, In p) → ((ps.map wd).map (·.length)).sum ≤ 11 * ps.length
  | [], _ => by simp
  | p :: ps, h => by
    have a := sum_wd ps fun q hq => h q (List.mem_cons_of_mem _ hq)
    have b := wd_len (h p (List.mem_cons_self ..))
    simp only [List.map_cons, List.sum_cons, List.length_cons]; omega
theorem join_ok {ps : List (Int × Int)} (h : ∀ p ∈ ps, In p) (h8 : ps.length ≤ 8) : JoinOk (T " ") (ps.map wd) = true := by
  unfold JoinOk
  rw [StrLaws.joinTotal]
  have a := sum_wd ps h
  have b : (T " ").length = 1 := by decide +kernel
  have e : (2 : Nat) ^ 24 = 16777216 := by decide
  rw [b, List.length_map]
  unfold tooLong sizeLine
  simp only [Bool.not_eq_true', decide_eq_false_iff_not]
  omega
theorem writ_len {ps : List (Int × Int)} (h : ∀ p ∈ ps, In p) (h8 : ps.length ≤ 8) : (writ ps).length ≤ 96 := by
  rw [writ_join]
  have a := StrLaws.join_length_le (one 32) (ps.map wd)
  have b := sum_wd ps h
  have c : (one 32).length = 1 := rfl
  rw [c, List.length_map] at a
  omega
theorem log_small {n : Int} (h0 : -1000 ≤ n) (h1 : n ≤ 1000) : n.natAbs.log2 < 1920 := by
  have h : n.natAbs < 2 ^ 1920 := Nat.lt_of_lt_of_le (show n.natAbs < 1024 by omega) (by decide)
  by_cases z : n.natAbs = 0
  · rw [z]; decide
  · exact (Nat.log2_lt z).mpr h
def Rd (a : Str) (r : Option Int) : Prop :=
  (∃ n, r = some n ∧ L2.IntOk a n ∧ (a.length ≤ 640 → PySem.intText? a = some n)) ∨ (r = none ∧ PySem.intText? a = none ∧ a.length ≤ 640 ∧ (reprText a).length ≤ sizeLine)
theorem rd_of {a : Str} (hl : a.length ≤ 640) (hc : ∀ c ∈ L a, c < 16 ^ 8) : ∃ r, Rd a r := by
  cases h : PySem.intText? a with
  | some n => exact ⟨some n, .inl ⟨n, rfl, L2.IntOk.of h hl, fun _ => h⟩⟩
  | none =>
    refine ⟨none, .inr ⟨rfl, h, hl, ?_⟩⟩
    have := StrLaws.reprText_len a hc
    rw [sizeLine_eq]; omega
theorem rd_num {n : Int} {r : Option Int} (h0 : -1000 ≤ n) (h1 : n ≤ 1000) (h : Rd (sI n) r) : r = some n := by
  obtain ⟨_, a, b, _⟩ := num_bwd h0 h1
  rcases h with ⟨m, e, _, z⟩ | ⟨e, z, _⟩
  · rw [z (by omega)] at a
    rw [e, a]
  · rw [a] at z; cases z
def Words (t : Str) : Prop := t.length ≤ 100000 ∧ ∀ w ∈ Txt.split t (T " "), ∀ a ∈ Txt.split w (T ","), ∃ r, Rd a r
theorem words_of {t : Str} (hl : t.length ≤ 640) (hc : ∀ c ∈ L t, c < 16 ^ 8) : Words t := by
  refine ⟨by omega, fun w hw a ha => ?_⟩
  rw [T_blank] at hw
  rw [T_comma] at ha
  have h1 := split_mem hw
  have h2 := split_mem ha
  exact rd_of (by omega) fun c hc' => hc c (h1.1 c (h2.1 c hc'))
theorem split_small {t y : Str} (h : t.length ≤ 100000) : (Txt.split t y).length ≤ sizeLine := by
  have := PyProof.Rows.split_le t y
  rw [sizeLine_eq]; omega
theorem words_back (t : Str) (h : List (Int × Int)) (e : Txt.split t (T " ") = h.map wd) : t = writ h := by
  rw [writ_join, ← e, T_blank]
  exact (StrLaws.join_split t (one 32)).symm
end K7m
set_option linter.all false
set_option maxRecDepth 100000
namespace K7m
open PySem PySem.Builtin PySem.Builtin.Str PySem.NumText
inductive F2 {α β : Type} (R : α → β → Prop) : List α → List β → Prop where
  | nil : F2 R [] []
  | cons {a : α} {b : β} {as : List α} {bs : List β} (h : R a b) (t : F2 R as bs) : F2 R (a :: as) (b :: bs)
theorem F2.length {α β : Type} {R : α → β → Prop} : ∀ {as : List α} {bs : List β}, F2 R as bs → as.length = bs.length
  | _, _, .nil => rfl
  | _, _, .cons _ t => by rw [List.length_cons, List.length_cons, t.length]
theorem F2.snoc {α β : Type} {R : α → β → Prop} {a : α} {b : β} : ∀ {as : List α} {bs : List β}, F2 R as bs → R a b → F2 R (as ++ [a]) (bs ++ [b])
  | _, _, .nil, h => .cons h .nil
  | _, _, .cons h' t, h => .cons h' (t.snoc h)
theorem F2.get {α β : Type} {R : α → β → Prop} : ∀ {as : List α} {bs : List β} {i : Nat} {b : β}, F2 R as bs → bs[i]? = some b → ∃ a, as[i]? = some a ∧ R a b
  | _, _, _, _, .nil, e => by simp at e
  | _, _, 0, _, .cons h _, e => by simp at e; subst e; exact ⟨_, rfl, h⟩
  | _, _, i + 1, _, .cons _ t, e => by simpa using t.get (i := i) (by simpa using e)
theorem F2.mono {α β : Type} {R S : α → β → Prop} (k : ∀ a b, R a b → S a b) : ∀ {as : List α} {bs : List β}, F2 R as bs → F2 S as bs
  | _, _, .nil => .nil
  | _, _, .cons h t => .cons (k _ _ h) (t.mono k)
abbrev Nums : List Str → List Int → Prop := F2 fun a n => Rd a (some n)
abbrev NumsOf : List Str → List (List Int) → Prop := F2 fun w ns => Nums (Txt.split w (T ",")) ns
theorem nums_wd {p : Int × Int} (h : In p) {ns : List Int} (n : Nums (Txt.split (wd p) (T ",")) ns) : ns = [p.1, p.2] := by
  rw [split_wd h] at n
  cases n with
  | cons a t =>
    cases t with
    | cons b t =>
      cases t
      have e1 := rd_num h.1 h.2.1 a
      have e2 := rd_num h.2.2.1 h.2.2.2 b
      rw [Option.some.inj e1, Option.some.inj e2]
theorem nums_of : ∀ {g : List (Int × Int)} {nss : List (List Int)}, (∀ p ∈ g, In p) → NumsOf (g.map wd) nss → nss = g.map fun p => [p.1, p.2]
  | [], _, _, .nil => rfl
  | p :: g, _, h, .cons a t => by
    rw [nums_wd (h p (List.mem_cons_self ..)) a, nums_of (fun q hq => h q (List.mem_cons_of_mem _ hq)) t]; rfl
theorem no_fail {t : Str} {w a : Str} (hw : w ∈ Txt.split t (T " ")) (ha : a ∈ Txt.split w (T ",")) (h : Rd a none) : ¬ ∃ g, Ok g ∧ t = writ g := by
  rintro ⟨g, og, rfl⟩
  rw [split_writ og] at hw
  obtain ⟨p, hp, rfl⟩ := List.mem_map.mp hw
  have ip := og.2.2 p hp
  rw [split_wd ip] at ha
  simp only [List.mem_cons, List.not_mem_nil, or_false] at ha
  rcases ha with rfl | rfl
  · have := rd_num ip.1 ip.2.1 h; cases this
  · have := rd_num ip.2.2.1 ip.2.2.2 h; cases this
theorem all_nums {t : Str} {nss : List (List Int)} (h : NumsOf (Txt.split t (T " ")) nss) {g : List (Int × Int)} (og : Ok g) (e : t = writ g) : nss = g.map fun p => [p.1, p.2] := by
  rw [e, split_writ og] at h
  exact nums_of og.2.2 h
end K7m
set_option linter.all false
set_option maxRecDepth 100000
namespace K7m
open PySem PySem.Builtin PySem.Builtin.Str PySem.NumText
def nines : Str := ⟨(List.replicate 4000 (T "9").cps).foldl (· ++ ·) #[]⟩
theorem fold_rep (c : Nat) : ∀ (n : Nat) (acc : Array Nat), ((List.replicate n #[c]).foldl (· ++ ·) acc).toList = acc.toList ++ List.replicate n c
  | 0, acc => by simp
  | n + 1, acc => by
    rw [List.replicate_succ, List.foldl_cons, fold_rep c n, Array.toList_append, List.replicate_succ, List.append_assoc]; rfl
theorem nines_L : L nines = List.replicate 4000 57 := by
  have e : (T "9").cps = #[57] := by decide +kernel
  show ((List.replicate 4000 (T "9").cps).foldl (· ++ ·) #[]).toList = _
  rw [e, fold_rep]
  exact List.nil_append _
seal nines
theorem nines_len : nines.length = 4000 := by rw [← L_len, nines_L, List.length_replicate]
theorem nines_all {c : Nat} (h : c ∈ L nines) : c = 57 := by
  rw [nines_L] at h
  exact List.eq_of_mem_replicate h
theorem nines_rd : ∃ r, Rd nines r := by
  have hd : AllDigits (L nines) := fun c hc => by have := nines_all hc; omega
  have hne : L nines ≠ [] := fun e => by have := congrArg List.length e; rw [L_len, nines_len] at this; simp at this
  have hn := intText_digits hd hne (by rw [nines_len]; decide)
  refine ⟨_, .inl ⟨_, rfl, L2.IntOk.big hn (fun h => ?_) (by rw [nines_len, sizeLine_eq]; decide), fun h => ?_⟩⟩
  · have e1 : numTextOf nines = L nines := by
      show (if nines.cps.all (· < 128) then nines.cps.toList else _) = _
      rw [if_pos]
      rw [Array.all_eq_true']
      intro c hc
      have := nines_all (Array.mem_toList_iff.mpr hc)
      simp [this]
    have e2 : numSeenOf nines = L nines := by
      show (numTextOf nines).takeWhile (· != 0) = _
      rw [e1, nines_L, List.takeWhile_replicate]
      simp
    rw [e2, L_len, nines_len] at h
    omega
  · rw [nines_len] at h; omega
theorem nines_words : Words (nines ++ T ",1") := by
  have e1 : T ",1" = one 44 ++ T "1" := by decide +kernel
  have L1 : L (T "1") = [49] := by decide +kernel
  have et : nines ++ T ",1" = Str.join (one 44) [nines, T "1"] := by
    rw [e1]
    show nines ++ (one 44 ++ T "1") = nines ++ one 44 ++ T "1"
    apply L_inj
    simp only [L_append, List.append_assoc]
  have hl : (nines ++ T ",1").length = 4002 := by
    rw [Str.length_append, nines_len]
    have : (T ",1").length = 2 := by decide +kernel
    omega
  refine ⟨by omega, fun w hw a ha => ?_⟩
  have f32 : 32 ∉ L (nines ++ T ",1") := fun h => by
    rw [L_append, e1, L_append, L1] at h
    simp only [List.mem_append] at h
    rcases h with h | h | h
    · have := nines_all h; omega
    · have : (32 : Nat) = 44 := by simpa [L] using h
      omega
    · have : (32 : Nat) = 49 := by simpa using h
      omega
  have s1 : Txt.split (nines ++ T ",1") (T " ") = [nines ++ T ",1"] := by
    have := split_eq (c := 32) (ps := [nines ++ T ",1"]) (by simp) (fun p hp => by rw [List.mem_singleton.mp hp]; exact f32)
    rw [T_blank]; exact this
  rw [s1] at hw
  obtain rfl := List.mem_singleton.mp hw
  have s2 : Txt.split (nines ++ T ",1") (T ",") = [nines, T "1"] := by
    rw [et, T_comma]
    refine split_eq (by simp) fun p hp => ?_
    simp only [List.mem_cons, List.not_mem_nil, or_false] at hp
    rcases hp with rfl | rfl
    · intro h; have := nines_all h; omega
    · rw [L1]; decide
  rw [s2] at ha
  simp only [List.mem_cons, List.not_mem_nil, or_false] at ha
  rcases ha with rfl | rfl
  · exact nines_rd
  · exact rd_of (by decide +kernel) (by rw [L1]; decide)
def wordsB (t : Str) : Bool := decide (t.length ≤ 640) && (L t).all fun c => decide (c < 4294967296)
theorem words_b {t : Str} (h : wordsB t = true) : Words t := by
  obtain ⟨h1, h2⟩ := Bool.and_eq_true_iff.mp h
  exact words_of (of_decide_eq_true h1) fun c hc => by
    have := of_decide_eq_true (List.all_eq_true.mp h2 c hc)
    exact Nat.lt_of_lt_of_le this (by decide)
end K7m
namespace L2
open PySem PySem.Spec PyProof.Rows PySem.Calls PySem.C
section
variable {X : Cx}
theorem op_repS : OpR X (binaryOp .Mult) (fun x y H Q => ∃ a n, x = .str a ∧ y = .int n ∧ 2 ≤ n ∧ n ≤ 10000 ∧ 1 ≤ a.length ∧ a.length ≤ 10 ∧ Q (.str ⟨(List.replicate n.toNat a.cps).foldl (· ++ ·) #[]⟩) H) := by
  intro pins s σ H x y v u Q I rx ry h
  obtain ⟨a, n, rfl, rfl, h1, h2, h3, h4, q⟩ := h
  obtain ⟨t, rfl⟩ := rx
  obtain ⟨t', rfl⟩ := ry
  have hm : a.length * n.toNat ≤ 10 * 10000 := Nat.mul_le_mul h4 (by omega)
  have c1 : (n == 1 || a.length == 0) = false := by
    have e1 : (n == 1) = false := by simp; omega
    have e2 : (a.length == 0) = false := by simp; omega
    rw [e1, e2]; rfl
  refine P.mul_str (by rw [decide_eq_false (by omega), decide_eq_false (by omega)]; rfl) (fun _ _ z => ?_) (fun _ _ => ?_) ?_
  · have hq : (10000 : Int) ≤ (2 ^ 63 - 1) / n := Int.le_ediv_of_mul_le (by omega) (by omega)
    omega
  · unfold Builtin.Str.tooLong sizeLine
    exact decide_eq_false (by have e : (2 : Nat) ^ 24 = 16777216 := by decide
                              omega)
  · rw [if_neg (by omega), c1, if_neg Bool.false_ne_true]
    refine ⟨?_, ⟨.str _, H, I.tok _, ⟨_, rfl⟩, q⟩⟩
    show ((List.replicate n.toNat a.cps).foldl (· ++ ·) #[]).size ≤ sizeLine
    have key : ∀ (m : Nat) (acc : Array Nat), ((List.replicate m a.cps).foldl (· ++ ·) acc).size = acc.size + m * a.cps.size := by
      intro m
      induction m with
      | zero => intro acc; simp
      | succ m ih => intro acc; rw [List.replicate_succ, List.foldl_cons, ih, Array.size_append, Nat.succ_mul]; omega
    rw [key, sizeLine_eq]
    have e : a.cps.size = a.length := rfl
    rw [e, Nat.mul_comm]
    have : (#[] : Array Nat).size = 0 := rfl
    omega
end
end L2
namespace K7m
open PySem PySem.Builtin PySem.Builtin.Str
theorem wd_low {p : Int × Int} (h : In p) {c : Nat} (hc : c ∈ L (wd p)) : c ≤ 57 := by
  rw [wd_L] at hc
  simp only [List.mem_append, List.mem_cons] at hc
  rcases hc with z | z | z
  · have := (num_bwd h.1 h.2.1).2.2.2 c z; omega
  · omega
  · have := (num_bwd h.2.2.1 h.2.2.2).2.2.2 c z; omega
theorem join_low {d : Nat} : ∀ {ps : List Str}, (∀ p ∈ ps, ∀ c ∈ L p, c ≤ 57) → d ≤ 57 → ∀ c ∈ L (Str.join (one d) ps), c ≤ 57
  | [], _, _, c, hc => by have : L Str.empty = [] := rfl; rw [show Str.join (one d) [] = Str.empty from rfl, this] at hc; cases hc
  | [p], h, _, c, hc => h p (List.mem_singleton.mpr rfl) c hc
  | p :: q :: r, h, hd, c, hc => by
    rw [L_join2] at hc
    simp only [List.mem_append, List.mem_cons] at hc
    rcases hc with z | z | z
    · exact h p (List.mem_cons_self ..) c z
    · omega
    · exact join_low (fun p' hp' => h p' (List.mem_cons_of_mem _ hp')) hd c z
theorem writ_low {h : List (Int × Int)} (hi : ∀ p ∈ h, In p) {c : Nat} (hc : c ∈ L (writ h)) : c ≤ 57 := by
  rw [writ_join] at hc
  refine join_low (fun p hp c hc => ?_) (by omega) c hc
  obtain ⟨q, hq, rfl⟩ := List.mem_map.mp hp
  exact wd_low (hi q hq) hc
theorem writ_words {h : List (Int × Int)} (hi : ∀ p ∈ h, In p) (h8 : h.length ≤ 8) : Words (writ h) := by
  have := writ_len hi h8
  exact words_of (by omega) fun c hc => by have := writ_low hi hc; exact Nat.lt_of_le_of_lt this (by decide)
theorem cut_words {h : List (Int × Int)} (hi : ∀ p ∈ h, In p) (h8 : h.length ≤ 8) (l u : Option Int) (l' u' : Option Int) {sg : Str} (hs : sg.length ≤ 1) (hc : ∀ c ∈ L sg, c < 128) : Words (Txt.slice (writ h) l u ++ sg ++ Txt.slice (writ h) l' u') := by
  have w := writ_len hi h8
  have a := Txt.slice_le (writ h) l u
  have b := Txt.slice_le (writ h) l' u'
  refine words_of (by rw [Str.length_append, Str.length_append]; omega) fun c z => ?_
  rw [L_append, L_append] at z
  simp only [List.mem_append] at z
  have : c < 128 := by
    rcases z with (z | z) | z
    · have := writ_low hi (slice_mem z); omega
    · exact hc c z
    · have := writ_low hi (slice_mem z); omega
  exact Nat.lt_of_lt_of_le this (by decide)
end K7m
set_option linter.all false
namespace K9
def g (a b : Int) : Int := (Int.gcd a b : Nat)
def mk (a b : Int) : Int × Int := (a / g a b, b / g a b)
theorem g_pos {a b : Int} (h : 0 < b) : 0 < g a b := by
  have : 0 < Int.gcd a b := Int.gcd_pos_of_ne_zero_right a (by omega)
  unfold g; omega
theorem g_le {a b : Int} (h : 0 < b) : g a b ≤ b := Int.le_of_dvd h (Int.gcd_dvd_right a b)
theorem g_step {x y : Int} (hx : 0 ≤ x) (hy : 0 < y) : g y (x % y) = g x y := by
  unfold g
  have e : Int.gcd y (x % y) = Int.gcd x y := by
    have h1 := Int.gcd_sub_mul_left_right y x (x / y)
    rw [show x - y * (x / y) = x % y by rw [Int.emod_def]] at h1
    rw [h1, Int.gcd_comm]
  rw [e]
theorem g_zero {x : Int} (hx : 0 ≤ x) : g x 0 = x := by unfold g; simp; omega
theorem g_abs (a b : Int) : g (if a < 0 then -a else a) (if b < 0 then -b else b) = g a b := by
  unfold g
  split <;> split <;> simp
end K9
set_option linter.all false
namespace Pick
open Hull
def cross (p q : P) : Int := p.1 * q.2 - p.2 * q.1
def gc (p q : P) : Int := (Int.gcd (q.1 - p.1) (q.2 - p.2) : Nat)
def cdiv (a w : Int) : Int := -((-a) / w)
def ceilAt (p q : P) (x : Int) : Int := p.2 + cdiv ((q.2 - p.2) * (x - p.1)) (q.1 - p.1)
end Pick
set_option linter.all false
namespace Pick
open Hull
def ew (p q : P) : Int := cross p q + gc p q
def cl : List P → Int → Int
  | p :: q :: r, x => if p.1 = q.1 then p.2 else if x < q.1 then ceilAt p q x else cl (q :: r) x
  | [p], _ => p.2
  | [], _ => 0
end Pick
set_option linter.all false
namespace Pick
open Hull
end Pick
set_option linter.all false
namespace Pick
open Hull
end Pick
set_option linter.all false
namespace Pick
open Hull
def ab (a : Int) : Int := if a < 0 then -a else a
section
variable {row : List P} (hrow : row.Pairwise lt)
include hrow
end
end Pick
namespace Pick
open Hull
end Pick
namespace Pick
open Hull
end Pick
set_option linter.all false
namespace SepM
open Hull Pick
end SepM
set_option linter.all false
namespace Mix
open K9 Hull
end Mix
set_option linter.all false
namespace Cut
open Hull SepM
abbrev Part := Nat × (Int × Int)
def parts (L : List (Nat × Int)) (W : Int) : List Part := L.map fun x => (x.1, K9.mk x.2 W)
def ab (a : Int) : Int := if a < 0 then -a else a
def Bd (p : P) : Prop := (-1000 ≤ p.1 ∧ p.1 ≤ 1000) ∧ -1000 ≤ p.2 ∧ p.2 ≤ 1000
end Cut
set_option linter.all false
namespace Cut
open Hull SepM
end Cut
set_option linter.all false
namespace Cut
open Hull SepM
end Cut
set_option linter.all false
namespace Cut
open Hull SepM
end Cut
set_option linter.all false
namespace Cut
open Hull
end Cut
set_option Elab.async false
set_option linter.all false
set_option maxRecDepth 100000
set_option maxHeartbeats 4000000

namespace K7a
open PySem L2 Hull PySem.C
open K7m (sI wd writ T)
seal L2.PE L2.PT L2.PW L2.PA L2.PS L2.PSs L2.PG L2.PGs L2.PF L2.PI L2.PO
def top (i : Nat) : Stmt := PySem.Challenge.pw_herdline_k07_written.main.body.getD i (.Pass ⟨0, 0, 0, 0⟩)
abbrev s_common_divisor : Stmt := top 8
abbrev s_made : Stmt := top 9
abbrev s_plus : Stmt := top 10
abbrev s_times : Stmt := top 11
abbrev s_is_number : Stmt := top 15
abbrev s_is_pair : Stmt := top 16
abbrev s_is_herd : Stmt := top 17
abbrev s_check_herd : Stmt := top 18
abbrev s_written : Stmt := top 20
abbrev s_read_number : Stmt := top 21
abbrev s_read : Stmt := top 22
abbrev s__law_cell_at : Stmt := top 24
abbrev s__law_draw : Stmt := top 25
abbrev s__law_spot : Stmt := top 26
abbrev s__law_herd : Stmt := top 27
abbrev s__law_number : Stmt := top 28
abbrev s__law_in : Stmt := top 29
abbrev s__law_refused : Stmt := top 30
abbrev s__law_right : Stmt := top 31
abbrev s__law_few : Stmt := top 32
abbrev s_law : Stmt := top 33
theorem sc_common_divisor : FnScope ["a", "b", "one", "other", "rest"] ["a", "b"] (defScope s_common_divisor) := ⟨rfl, rfl, rfl, by decide +kernel, rfl, by decide +kernel, by decide +kernel⟩
theorem sc_made : FnScope ["a", "b", "divisor"] ["a", "b"] (defScope s_made) := ⟨rfl, rfl, rfl, by decide +kernel, rfl, by decide +kernel, by decide +kernel⟩
theorem sc_plus : FnScope ["one", "other"] ["one", "other"] (defScope s_plus) := ⟨rfl, rfl, rfl, by decide +kernel, rfl, by decide +kernel, by decide +kernel⟩
theorem sc_times : FnScope ["one", "other"] ["one", "other"] (defScope s_times) := ⟨rfl, rfl, rfl, by decide +kernel, rfl, by decide +kernel, by decide +kernel⟩
theorem sc_is_number : FnScope ["value"] ["value"] (defScope s_is_number) := ⟨rfl, rfl, rfl, by decide +kernel, rfl, by decide +kernel, by decide +kernel⟩
theorem sc_is_pair : FnScope ["value"] ["value"] (defScope s_is_pair) := ⟨rfl, rfl, rfl, by decide +kernel, rfl, by decide +kernel, by decide +kernel⟩
theorem sc_is_herd : FnScope ["value"] ["value"] (defScope s_is_herd) := ⟨rfl, rfl, rfl, by decide +kernel, rfl, by decide +kernel, by decide +kernel⟩
theorem sc_check_herd : FnScope ["herd"] ["herd"] (defScope s_check_herd) := ⟨rfl, rfl, rfl, by decide +kernel, rfl, by decide +kernel, by decide +kernel⟩
theorem sc_written : FnScope ["herd"] ["herd"] (defScope s_written) := ⟨rfl, rfl, rfl, by decide +kernel, rfl, by decide +kernel, by decide +kernel⟩
theorem sc_read_number : FnScope ["word"] ["word"] (defScope s_read_number) := ⟨rfl, rfl, rfl, by decide +kernel, rfl, by decide +kernel, by decide +kernel⟩
theorem sc_read : FnScope ["text", "words", "herd"] ["text"] (defScope s_read) := ⟨rfl, rfl, rfl, by decide +kernel, rfl, by decide +kernel, by decide +kernel⟩
theorem sc__law_cell_at : FnScope ["_law_script", "_law_k"] ["_law_script", "_law_k"] (defScope s__law_cell_at) := ⟨rfl, rfl, rfl, by decide +kernel, rfl, by decide +kernel, by decide +kernel⟩
theorem sc__law_draw : FnScope ["_law_cell", "_law_k", "_law_many", "_law_primes"] ["_law_cell", "_law_k", "_law_many"] (defScope s__law_draw) := ⟨rfl, rfl, rfl, by decide +kernel, rfl, by decide +kernel, by decide +kernel⟩
theorem sc__law_spot : FnScope ["_law_cell", "_law_most", "_law_line", "_law_one", "_law_other"] ["_law_cell", "_law_most", "_law_line"] (defScope s__law_spot) := ⟨rfl, rfl, rfl, by decide +kernel, rfl, by decide +kernel, by decide +kernel⟩
theorem sc__law_herd : FnScope ["_law_cell", "_law_most_spots", "_law_many", "_law_most", "_law_line", "_law_found", "_law_k"] ["_law_cell", "_law_most_spots"] (defScope s__law_herd) := ⟨rfl, rfl, rfl, by decide +kernel, rfl, by decide +kernel, by decide +kernel⟩
theorem sc__law_number : FnScope ["_law_text", "_law_figures"] ["_law_text"] (defScope s__law_number) := ⟨rfl, rfl, rfl, by decide +kernel, rfl, by decide +kernel, by decide +kernel⟩
theorem sc__law_in : FnScope ["_law_text", "_law_found", "_law_word", "_law_one", "_law_comma", "_law_other"] ["_law_text"] (defScope s__law_in) := ⟨rfl, rfl, rfl, by decide +kernel, rfl, by decide +kernel, by decide +kernel⟩
theorem sc__law_refused : FnScope ["_law_text", "error", "_law_others"] ["_law_text"] (defScope s__law_refused) := ⟨rfl, rfl, rfl, by decide +kernel, rfl, by decide +kernel, by decide +kernel⟩
theorem sc__law_right : FnScope ["_law_text", "_law_due", "_law_found"] ["_law_text"] (defScope s__law_right) := ⟨rfl, rfl, rfl, by decide +kernel, rfl, by decide +kernel, by decide +kernel⟩
theorem sc__law_few : FnScope ["_law_some"] [] (defScope s__law_few) := ⟨rfl, rfl, rfl, by decide +kernel, rfl, by decide +kernel, by decide +kernel⟩
theorem sc_law : FnScope ["_law_script", "_law_herd_here", "_law_text", "_law_handed", "_law_found", "_law_cell", "_law_k", "_law_at", "_law_sign"] ["_law_script"] (defScope s_law) := ⟨rfl, rfl, rfl, by decide +kernel, rfl, by decide +kernel, by decide +kernel⟩
structure Bl (mg : Str → Option Value) : Prop where
  len : mg "len" = none
  all : mg "all" = none
  any : mg "any" = none
  abs : mg "abs" = none
  isinstance : mg "isinstance" = none
  tuple : mg "tuple" = none
  list : mg "list" = none
  bool : mg "bool" = none
  int : mg "int" = none
  str : mg "str" = none
  range : mg "range" = none
  ValueError : mg "ValueError" = none
  g_BOUND : ∃ t, mg "BOUND" = some (.int 1000 t)
  g_MOST_SPOTS : ∃ t, mg "MOST_SPOTS" = some (.int 8 t)
abbrev Bd := Cut.Bd
def Sp (K : PySem.W.Frag) (H : Hp) (v : V) (p : P) : Prop := Dn K H (spotD p) v ∧ Bd p
theorem same_new {H : Hp} {p : Addr} (h : H p = none) (o : HO) : Same H (upd H p o) := fun b u q => by rw [upd_ne (ne_of_none q h)]; exact q
inductive sp_cell (K : PySem.W.Frag) (vs : List V) (H : Hp) (Q : VK) (x_3 : XK) : Prop where
  | mk (a : Addr) (ns : List Int) (k : Nat) (h_0 : vs = [.ref a, .int k]) (h_1 : SqL K H a (ns.map V.int)) (h_2 : ∀ c : Int, Q (.int c) H)
inductive sp_draw (vs : List V) (H : Hp) (Q : VK) (x_3 : XK) : Prop where
  | mk (c k m : Int) (h_0 : vs = [.int c, .int k, .int m]) (h_1 : 0 < m) (h_2 : ∀ (r : Int) H', 0 ≤ r → r < m → Same H H' → Q (.int r) H')
inductive sp_spot (K : PySem.W.Frag) (vs : List V) (H : Hp) (Q : VK) (x_3 : XK) : Prop where
  | mk (c m l : Int) (h_0 : vs = [.int c, .int m, .int l]) (h_1 : 1 ≤ m) (h_2 : m ≤ 1000) (h_3 : ∀ v H' p, Same H H' → Sp K H' v p → Q v H')
inductive sp_herd (K : PySem.W.Frag) (vs : List V) (H : Hp) (Q : VK) (x_3 : XK) : Prop where
  | mk (c mo : Int) (h_0 : vs = [.int c, .int mo]) (h_1 : 1 ≤ mo) (h_2 : mo ≤ 8) (h_3 : ∀ l ys ps H', Same H H' → H l = none → H' l = some (.lst ys) → Dns K H' (List.map spotD ps) ys → (∀ p ∈ ps, Bd p) → 1 ≤ ps.length → ps.length ≤ 8 → Q (.ref l) H')
inductive sp_num (vs : List V) (H : Hp) (Q : VK) (x_3 : XK) : Prop where
  | mk (i : Int) (h_0 : vs = [.int i]) (h_1 : Q (.bl true) H)
inductive sp_pair (K : PySem.W.Frag) (vs : List V) (H : Hp) (Q : VK) (x_3 : XK) : Prop where
  | mk (x : _) (p : _) (h_0 : vs = [x]) (h_1 : Sp K H x p) (h_2 : ∀ H', Same H H' → Q (.bl true) H')
inductive sp_isherd (K : PySem.W.Frag) (vs : List V) (H : Hp) (Q : VK) (x_3 : XK) : Prop where
  | mk (o : Addr) (ys : List V) (ps : List P) (h_0 : vs = [.ref o]) (h_1 : SqL K H o ys) (h_2 : Dns K H (ps.map spotD) ys) (h_3 : (∀ p ∈ ps, Bd p)) (h_4 : 1 ≤ ps.length) (h_5 : ps.length ≤ 8) (h_6 : ∀ H', Same H H' → Q (.bl true) H')
inductive sp_check (K : PySem.W.Frag) (vs : List V) (H : Hp) (Q : VK) (x_3 : XK) : Prop where
  | mk (o : Addr) (ys : List V) (ps : List P) (h_0 : vs = [.ref o]) (h_1 : SqL K H o ys) (h_2 : Dns K H (ps.map spotD) ys) (h_3 : (∀ p ∈ ps, Bd p)) (h_4 : 1 ≤ ps.length) (h_5 : ps.length ≤ 8) (h_6 : ∀ H', Same H H' → Q .non H')
section
variable {P : Program} {w : World} {K : PySem.W.Frag} {mg : Str → Option Value} {base : Heap} {f : Addr} {fd : FuncData}
theorem ok_cell (B : Bl mg) (F : Fun K "_law_cell_at" "_law_cell_at" s__law_cell_at f fd) : FnOk P w K mg base CX0 1 f fd ["_law_script", "_law_k"] (sp_cell K) := by
  refine F.ok sc__law_cell_at (fun vs H Q E h => ?_) (fun cdv A outer s H vs Q E hr h => ?_)
  · obtain ⟨a, ns, k, rfl, _⟩ := h
    rfl
  obtain ⟨a, ns, k, rfl, hS, q⟩ := h
  refine ⟨_, (pss_cons (ps_if (pt_cmpR op_lt (pv 1) (pe_callB call_len_seq (by rfl) B.len PySem.L3.boot_len (pa_cons (pv 0) pa_nil)) (nomark _)) (pss_one (ps_ret (pe_ix ix_list (pv 0) (pv 1) (fun _ _ => rfl)))) pss_nil)
    (pss_one (ps_ret pe_int))), ?_⟩
  refine ⟨_, rfl, _, rfl, a, _, rfl, .inl hS, _, _, rfl, rfl, _, rfl, ite2 (fun c => ?_) (fun c => ?_)⟩
  · have c' : (k : Int) < (((ns.map V.int).length : Nat) : Int) := of_decide_eq_true c
    have hk : k < ns.length := by rw [List.length_map] at c'; omega
    exact ⟨_, rfl, _, rfl, a, _, _, _, rfl, rfl, hS, atI_nat (v := .int ns[k]) (by rw [List.getElem?_map, List.getElem?_eq_getElem hk]; rfl), q _⟩
  · exact q _
def primes : List Int := [1000003, 1000033, 1000037, 1000039, 1000081, 1000099, 1000117, 1000121, 1000133, 1000151, 1000159, 1000171, 1000183, 1000187, 1000193, 1000199]
theorem prime_at (k : Int) : ∃ p, atI (primes.map V.int) (k % 16) = some (.int p) ∧ 0 < p := by
  have h0 := Int.emod_nonneg k (show (16 : Int) ≠ 0 by decide)
  have h1 := Int.emod_lt_of_pos k (show (0 : Int) < 16 by decide)
  obtain ⟨n, hn⟩ : ∃ n : Nat, k % 16 = (n : Int) := ⟨(k % 16).toNat, by omega⟩
  rw [hn]
  have hn16 : n < 16 := by omega
  have all : ∀ i : _root_.Fin 16, ∃ p, primes[i.1]? = some p ∧ 0 < p := by decide +kernel
  obtain ⟨p, e, hp⟩ := all ⟨n, hn16⟩
  refine ⟨p, atI_nat ?_, hp⟩
  rw [List.getElem?_map, e]; rfl
theorem ok_draw (F : Fun K "_law_draw" "_law_draw" s__law_draw f fd) : FnOk P w K mg base CX0 1 f fd ["_law_cell", "_law_k", "_law_many"] sp_draw := by
  refine F.ok sc__law_draw (fun vs H Q E h => ?_) (fun cdv A outer s H vs Q E hr h => ?_)
  · obtain ⟨c, k, m, rfl, _⟩ := h
    rfl
  obtain ⟨c, k, m, rfl, hm, q⟩ := h
  obtain ⟨p, hp, hp0⟩ := prime_at k
  refine ⟨_, (pss_cons (ps_set (i := 3) sc__law_draw.nd rfl (Or.inl rfl) (pe_tup (pa_ints (by rfl))))
    (pss_one (ps_ret (pe_op op_mod (pe_op op_mod (pe_op op_add (pe_op op_mul (pv 0) pe_int) (pe_op op_mul (pv 1) pe_int)) (pe_ix ix_tup (pv 3) (pe_op op_mod (pv 1) pe_int) (fun _ _ => rfl))) (pv 2))))), ?_⟩
  refine ⟨(by show 16 ≤ sizeLine; decide), fun t ht => ?_⟩
  refine ⟨_, rfl, _, _, rfl, rfl, .inr ⟨by omega, by omega⟩, _, rfl, _, _, rfl, rfl, .inr ⟨by omega, by omega⟩, _, _, rfl, rfl, ?_⟩
  refine ⟨_, rfl, _, rfl, _, _, rfl, rfl, by omega, t, _, _, _, rfl, rfl, SqT.of upd_same, hp, _, _, rfl, rfl, hp0, _, rfl, _, _, rfl, rfl, hm, ?_⟩
  exact q _ _ (Int.emod_nonneg _ (by omega)) (Int.emod_lt_of_pos _ hm) (same_new ht _)
theorem ok_spot (C__law_draw : Cal P w K mg base 1 "_law_draw" sp_draw) (F : Fun K "_law_spot" "_law_spot" s__law_spot f fd) : FnOk P w K mg base CX0 2 f fd ["_law_cell", "_law_most", "_law_line"] (sp_spot K) := by
  refine F.ok sc__law_spot (fun vs H Q E h => ?_) (fun cdv A outer s H vs Q E hr h => ?_)
  · obtain ⟨c, m, l, rfl, _⟩ := h
    rfl
  obtain ⟨c, m, l, rfl, m1, m2, q⟩ := h
  refine ⟨_, (pss_cons (ps_set (i := 3) sc__law_spot.nd rfl (Or.inl rfl) (pe_op op_sub (pe_c C__law_draw (hr.mono (by decide)) (by rfl) (pa_cons (pv 0) (pa_cons pe_int (pa_cons (pe_op op_add (pe_op op_mul pe_int (pv 1)) pe_int) pa_nil)))) (pv 1)))
    (pss_cons (ps_set (i := 4) sc__law_spot.nd rfl (Or.inl rfl) (pe_op op_sub (pe_c C__law_draw (hr.mono (by decide)) (by rfl) (pa_cons (pe_op op_fdiv (pv 0) pe_int) (pa_cons pe_int (pa_cons (pe_op op_add (pe_op op_mul pe_int (pv 1)) pe_int) pa_nil)))) (pv 1)))
    (pss_cons (ps_if (pt_cmpR op_eq (pv 2) pe_int (nomark _)) (pss_one (ps_ret (pe_tup (pa_cons (pv 3) (pa_cons (pe_un un_neg (pv 3)) pa_nil))))) pss_nil)
    (pss_cons (ps_if (pt_cmpR op_eq (pv 2) pe_int (nomark _)) (pss_one (ps_ret (pe_tup (pa_cons (pe_op op_mod (pv 3) pe_int) (pa_cons (pe_op op_add (pe_op op_mul (pe_op op_mod (pv 3) pe_int) pe_int) pe_int) pa_nil))))) pss_nil)
    (pss_one (ps_ret (pe_tup (pa_cons (pv 3) (pa_cons (pv 4) pa_nil))))))))), ?_⟩
  refine ⟨_, rfl, _, rfl, _, _, rfl, rfl, .inr ⟨by omega, by omega⟩, _, _, rfl, rfl, c, 1, 2 * m + 1, rfl, by omega, fun r H1 r0 r1 e1 => ?_⟩
  refine ⟨_, rfl, _, _, rfl, rfl, ?_⟩
  refine ⟨_, rfl, _, _, rfl, rfl, ⟨by decide, by decide⟩, _, rfl, _, _, rfl, rfl, .inr ⟨by omega, by omega⟩, _, _, rfl, rfl, c / 3, 2, 2 * m + 1, rfl, by omega, fun r2 H2 p0 p1 e2 => ?_⟩
  refine ⟨_, rfl, _, _, rfl, rfl, ?_⟩
  refine ⟨_, rfl, rfl, _, rfl, ite2 (fun _ => ?_) (fun _ => ?_)⟩
  · refine ⟨_, rfl, _, rfl, _, rfl, (by show 2 ≤ sizeLine; decide), fun t ht => ?_⟩
    exact q _ _ (r - m, -(r - m)) ((e1.trans e2).trans (same_new ht _)) ⟨dn_spot (SqT.of upd_same), ⟨by show -1000 ≤ r - m; omega, by show r - m ≤ 1000; omega⟩, by show -1000 ≤ -(r - m); omega, by show -(r - m) ≤ 1000; omega⟩
  · refine ⟨_, rfl, rfl, _, rfl, ite2 (fun _ => ?_) (fun _ => ?_)⟩
    · have h0 := Int.emod_nonneg (r - m) (show (3 : Int) ≠ 0 by decide)
      have h1 := Int.emod_lt_of_pos (r - m) (show (0 : Int) < 3 by decide)
      refine ⟨_, rfl, _, _, rfl, rfl, (show (0 : Int) < 3 by decide), _, rfl, _, _, rfl, rfl, (show (0 : Int) < 3 by decide), _, _, rfl, rfl, .inr ⟨by omega, by omega⟩, _, _, rfl, rfl, (by show 2 ≤ sizeLine; decide), fun t ht => ?_⟩
      exact q _ _ ((r - m) % 3, (r - m) % 3 * 2 + 1) ((e1.trans e2).trans (same_new ht _)) ⟨dn_spot (SqT.of upd_same), ⟨by show -1000 ≤ (r - m) % 3; omega, by show (r - m) % 3 ≤ 1000; omega⟩, by show -1000 ≤ (r - m) % 3 * 2 + 1; omega, by show (r - m) % 3 * 2 + 1 ≤ 1000; omega⟩
    · refine ⟨_, rfl, _, rfl, (by show 2 ≤ sizeLine; decide), fun t ht => ?_⟩
      exact q _ _ (r - m, r2 - m) ((e1.trans e2).trans (same_new ht _)) ⟨dn_spot (SqT.of upd_same), ⟨by show -1000 ≤ r - m; omega, by show r - m ≤ 1000; omega⟩, by show -1000 ≤ r2 - m; omega, by show r2 - m ≤ 1000; omega⟩
theorem most_at (r : Int) (h0 : 0 ≤ r) (h1 : r < 4) : ∃ b : Int, atI [V.int 2, V.int 4, V.int 9, V.int 1000] r = some (.int b) ∧ 1 ≤ b ∧ b ≤ 1000 := by
  obtain ⟨n, rfl⟩ : ∃ n : Nat, r = (n : Int) := ⟨r.toNat, by omega⟩
  have hn : n < 4 := by omega
  match n, hn with
  | 0, _ => exact ⟨2, rfl, by decide, by decide⟩
  | 1, _ => exact ⟨4, rfl, by decide, by decide⟩
  | 2, _ => exact ⟨9, rfl, by decide, by decide⟩
  | 3, _ => exact ⟨1000, rfl, by decide, by decide⟩
theorem line_at (r : Int) (h0 : 0 ≤ r) (h1 : r < 6) : ∃ b : Int, atI [V.int 0, V.int 0, V.int 0, V.int 0, V.int 1, V.int 2] r = some (.int b) := by
  obtain ⟨n, rfl⟩ : ∃ n : Nat, r = (n : Int) := ⟨r.toNat, by omega⟩
  have hn : n < 6 := by omega
  match n, hn with
  | 0, _ => exact ⟨0, rfl⟩
  | 1, _ => exact ⟨0, rfl⟩
  | 2, _ => exact ⟨0, rfl⟩
  | 3, _ => exact ⟨0, rfl⟩
  | 4, _ => exact ⟨1, rfl⟩
  | 5, _ => exact ⟨2, rfl⟩
theorem spot_upd {H : Hp} {l : Addr} {zs : List V} {o : HO} (hl : H l = some (.lst zs)) {p : Hull.P} {v : V} (h : Dn K H (spotD p) v) : Dn K (upd H l o) (spotD p) v := by
  obtain ⟨a, rfl, h1⟩ := h.spot
  refine dn_spot ?_
  rcases h1 with (h1 | ⟨ob, h1⟩) | h1
  · exact .inl (.inl (by rw [upd_ne (by rintro rfl; rw [hl] at h1; cases h1)]; exact h1))
  · exact .inl (.inr ⟨ob, by rw [upd_ne (by rintro rfl; rw [hl] at h1; cases h1)]; exact h1⟩)
  · exact .inr h1
theorem spots_upd {H : Hp} {l : Addr} {zs : List V} {o : HO} (hl : H l = some (.lst zs)) : ∀ {ps : List Hull.P} {ys : List V}, Dns K H (ps.map spotD) ys → Dns K (upd H l o) (ps.map spotD) ys
  | [], _, h => by rw [L2.Dns.nil h]; exact dns_nil
  | p :: ps, _, h => by
    obtain ⟨x, r, rfl, h1, h2⟩ := L2.Dns.cons h
    exact dns_cons (spot_upd hl h1) (spots_upd hl h2)
theorem same_upd {H H' : Hp} {l : Addr} {o : HO} (h : H l = none) (e : Same H H') : Same H (upd H' l o) := fun b u q => by
  rw [upd_ne (ne_of_none q h)]; exact e b u q
end
end K7a
set_option Elab.async false
set_option linter.all false
set_option maxRecDepth 100000
set_option maxHeartbeats 4000000
namespace K7a
open PySem L2 Hull PySem.C
open K7m (sI wd writ T)
seal L2.PE L2.PT L2.PW L2.PA L2.PS L2.PSs L2.PG L2.PGs L2.PF L2.PI L2.PO
section
variable {P : Program} {w : World} {K : PySem.W.Frag} {mg : Str → Option Value} {base : Heap} {f : Addr} {fd : FuncData}
theorem ok_herd (B : Bl mg) (C__law_draw : Cal P w K mg base 1 "_law_draw" sp_draw) (C__law_spot : Cal P w K mg base 2 "_law_spot" (sp_spot K)) (F : Fun K "_law_herd" "_law_herd" s__law_herd f fd) : FnOk P w K mg base CX0 3 f fd ["_law_cell", "_law_most_spots"] (sp_herd K) := by
  refine F.ok sc__law_herd (fun vs H Q E h => ?_) (fun cdv A outer s H vs Q E hr h => ?_)
  · obtain ⟨c, mo, rfl, _⟩ := h
    rfl
  obtain ⟨c, mo, rfl, mo1, mo8, q⟩ := h
  refine ⟨_, (pss_cons (ps_set (i := 2) sc__law_herd.nd rfl (Or.inl rfl) (pe_op op_add pe_int (pe_c C__law_draw (hr.mono (by decide)) (by rfl) (pa_cons (pv 0) (pa_cons pe_int (pa_cons (pv 1) pa_nil))))))
    (pss_cons (ps_set (i := 3) sc__law_herd.nd rfl (Or.inl rfl) (pe_ix ix_tup (pe_tup (pa_ints (by rfl))) (pe_c C__law_draw (hr.mono (by decide)) (by rfl) (pa_cons (pv 0) (pa_cons pe_int (pa_cons pe_int pa_nil)))) (fun _ _ => rfl)))
    (pss_cons (ps_set (i := 4) sc__law_herd.nd rfl (Or.inl rfl) (pe_ix ix_tup (pe_tup (pa_ints (by rfl))) (pe_c C__law_draw (hr.mono (by decide)) (by rfl) (pa_cons (pv 0) (pa_cons pe_int (pa_cons pe_int pa_nil)))) (fun _ _ => rfl)))
    (pss_cons (ps_set (i := 5) sc__law_herd.nd rfl (Or.inl rfl) (pe_lst pa_nil))
    (pss_cons (ps_for PassesOwn.never rfl (pi_range1 (by rfl) B.range (pa_cons (pv 2) pa_nil)) (pg_name (i := 6) sc__law_herd.nd rfl (Or.inl rfl)) (pss_one (ps_expr (pe_bm PySem.F.plainAttrs_list PySem.F.slot_list_append PySem.F.type_list_append mt_append (pv 5) (pa_cons (pe_c C__law_spot (hr.mono (by decide)) (by rfl) (pa_cons (pe_op op_mul (pe_op op_add (pv 0) (pe_op op_mul pe_int (pv 6))) (pe_op op_add (pv 6) pe_int)) (pa_cons (pv 3) (pa_cons (pv 4) pa_nil)))) pa_nil)))))
    (pss_cons (ps_if (PW.pt (pw_and (pt_cmpR op_gt (pv 2) pe_int (nomark _)) (pw_and1 (pt_cmpR op_eq (pe_c C__law_draw (hr.mono (by decide)) (by rfl) (pa_cons (pv 0) (pa_cons pe_int (pa_cons pe_int pa_nil)))) pe_int (nomark _))))) (pss_one (ps_asg (pe_ix ix_list (pv 5) pe_int (fun _ _ => rfl)) (pg_sub (pv 5) (pe_op op_sub (pv 2) pe_int) set_list))) pss_nil)
    (pss_one (ps_ret (pv 5))))))))), ?_⟩
  refine ⟨_, rfl, _, rfl, c, 3, mo, rfl, by omega, fun r H1 r0 r1 e1 => ?_⟩
  refine ⟨_, _, rfl, rfl, ?_⟩
  refine ⟨(by show 4 ≤ sizeLine; decide), fun t1 ht1 => ?_⟩
  refine ⟨_, rfl, c, 4, 4, rfl, by decide, fun r2 H2 p0 p1 e2 => ?_⟩
  obtain ⟨m, hm, m1, m2⟩ := most_at r2 p0 p1
  refine ⟨t1, _, _, _, rfl, rfl, SqT.of (e2 _ _ upd_same), hm, ?_⟩
  refine ⟨(by show 6 ≤ sizeLine; decide), fun t2 ht2 => ?_⟩
  refine ⟨_, rfl, c, 5, 6, rfl, by decide, fun r3 H3 s0 s1 e3 => ?_⟩
  obtain ⟨ln, hln⟩ := line_at r3 s0 s1
  refine ⟨t2, _, _, _, rfl, rfl, SqT.of (e3 _ _ upd_same), hln, ?_⟩
  have g3 : Same H H3 := (e1.trans (same_new ht1 _)).trans (e2.trans ((same_new ht2 _).trans e3))
  refine ⟨Nat.zero_le _, fun l hl => ?_⟩
  have hl0 : H l = none := g3.free hl
  refine ⟨_, rfl, _, rfl, by omega, by omega, ?_⟩
  refine for_range (fun i σ' H' => ∃ ck ys ps, σ' = [some (.int c), some (.int mo), some (.int (1 + r)), some (.int m), some (.int ln), some (.ref l), ck] ∧ Same H H' ∧ H' l = some (.lst ys) ∧ Dns K H' (List.map spotD ps) ys ∧ (∀ p ∈ ps, Bd p) ∧ ps.length = i)
    ⟨_, [], [], rfl, g3.trans (same_new hl _), upd_same, dns_nil, (fun _ h => absurd h (List.not_mem_nil)), rfl⟩ ?_ ?_
  · rintro i σ' H4 hi ⟨ck, ys, ps, rfl, e4, h4, d4, b4, l4⟩
    refine ⟨_, rfl, .inl ⟨rfl, _, SqL.of h4⟩, _, rfl, _, rfl, _, _, rfl, rfl, .inl ⟨by omega, by omega⟩, _, _, rfl, rfl, _, rfl, _, _, rfl, rfl, _, _, rfl, rfl, .inr ⟨by omega, by omega⟩, _, rfl, _, rfl, _, m, ln, rfl, m1, m2, fun v H5 p e5 sp5 => ?_⟩
    have h5 := e5 _ _ h4
    have hz : ys.length = i := by have := d4.length; rw [List.length_map] at this; omega
    refine ⟨l, ys, v, rfl, rfl, h5, by rw [sizeLine_eq]; omega, ?_⟩
    refine ⟨_, ys ++ [v], ps ++ [p], rfl, same_upd hl0 (e4.trans e5), upd_same, ?_, fun p' hp' => ?_, by rw [List.length_append, l4]; rfl⟩
    · rw [List.map_append]
      exact (spots_upd h5 (e5.dns d4)).append (dns_cons (spot_upd h5 sp5.1) dns_nil)
    · rcases List.mem_append.mp hp' with g | g
      · exact b4 p' g
      · rw [List.mem_singleton.mp g]; exact sp5.2
  · rintro σ' H4 ⟨ck, ys, ps, rfl, e4, h4, d4, b4, l4⟩
    have lps : ps.length = (1 + r).toNat := l4
    have hz : ys.length = ps.length := by have := d4.length; rwa [List.length_map] at this
    have out : ∀ H', Same H H' → ∀ zs rs, H' l = some (.lst zs) → Dns K H' (List.map spotD rs) zs → (∀ p ∈ rs, Bd p) → rs.length = ps.length → Q (.ref l) H' := fun H' e zs rs h d b g => q l zs rs H' e hl0 h d b (by omega) (by omega)
    refine ⟨_, rfl, _, _, rfl, rfl, _, rfl, ite2 (fun c0 => ?_) (fun c0 => ?_)⟩
    · have c1 : (2 : Int) < 1 + r := of_decide_eq_true c0
      refine ⟨_, rfl, c, 6, 4, rfl, by decide, fun r6 H5 u0 u1 e5 => ?_⟩
      refine ⟨rfl, _, rfl, ite2 (fun _ => ?_) (fun _ => ?_)⟩
      · have h5 := e5 _ _ h4
        have hp0 : 0 < ps.length := by omega
        obtain ⟨v0, a1, a2⟩ := d4.get (i := 0) (d := spotD ps[0]) (by simp [hp0])
        have hj : ixN ys.length (1 + r - 1) = some (1 + r - 1).toNat := by
          unfold ixN; rw [if_pos (by omega), if_pos (by omega)]
        refine ⟨_, rfl, l, ys, 0, v0, rfl, rfl, SqL.of h5, atI_nat (j := 0) a1, ?_⟩
        refine ⟨_, rfl, _, rfl, _, _, rfl, rfl, l, ys, _, _, rfl, rfl, h5, hj, ?_⟩
        refine ⟨_, rfl, out _ (same_upd hl0 (e4.trans e5)) _ (ps.set (1 + r - 1).toNat ps[0]) upd_same ?_ (fun p hp => ?_) (by simp)⟩
        · have := (spots_upd (o := HO.lst (ys.set (1 + r - 1).toNat v0)) h5 (e5.dns d4)).set (spot_upd h5 (e5.dn a2)) (1 + r - 1).toNat
          rw [← List.map_set] at this
          exact this
        · rcases List.mem_or_eq_of_mem_set hp with g | g
          · exact b4 p g
          · rw [g]; exact b4 _ (List.getElem_mem hp0)
      · exact ⟨_, rfl, out _ (e4.trans e5) _ _ (e5 _ _ h4) (e5.dns d4) b4 rfl⟩
    · refine ite2 (fun h => by cases h) (fun _ => ?_)
      exact ⟨_, rfl, out _ e4 _ _ h4 d4 b4 rfl⟩
theorem ok_num (B : Bl mg) (F : Fun K "is_number" "is_number" s_is_number f fd) : FnOk P w K mg base CX0 1 f fd ["value"] sp_num := by
  refine F.ok sc_is_number (fun vs H Q E h => ?_) (fun cdv A outer s H vs Q E hr h => ?_)
  · obtain ⟨i, rfl, _⟩ := h
    rfl
  obtain ⟨i, rfl, q⟩ := h
  refine ⟨_, (pss_one (ps_ret (pe_and (pe_callB call_isinstance (by rfl) B.isinstance PySem.L3.boot_isinstance (pa_cons (pv 0) (pa_cons (pe_bltn (v := .ty "int") (by rfl) B.int PySem.L3.boot_int rfl) pa_nil))) (pe_one (pe_not (pe_callB call_isinstance (by rfl) B.isinstance PySem.L3.boot_isinstance (pa_cons (pv 0) (pa_cons (pe_bltn (v := .ty "bool") (by rfl) B.bool PySem.L3.boot_bool rfl) pa_nil)))))))), ?_⟩
  refine ⟨_, rfl, _, "int", _, true, rfl, .int i, rfl, ?_⟩
  refine ⟨true, rfl, ?_⟩
  refine ite2 (fun _ => ?_) (fun h => absurd rfl h)
  exact ⟨_, rfl, _, "bool", _, false, rfl, .int i, rfl, _, rfl, q⟩
theorem ok_check (C_is_herd : Cal P w K mg base 3 "is_herd" (sp_isherd K)) (F : Fun K "check_herd" "check_herd" s_check_herd f fd) : FnOk P w K mg base CX0 4 f fd ["herd"] (sp_check K) := by
  refine F.ok sc_check_herd (fun vs H Q E h => ?_) (fun cdv A outer s H vs Q E hr h => ?_)
  · obtain ⟨o, ys, ps, rfl, _⟩ := h
    rfl
  obtain ⟨o, ys, ps, rfl, h1, h2, h3, h4, h5, q⟩ := h
  refine ⟨_, (pss_one (ps_if (pt_not (pt_val (pe_c C_is_herd (hr.mono (by decide)) (by rfl) (pa_cons (pv 0) pa_nil)))) (pss_one ps_never) pss_nil)), ?_⟩
  refine ⟨_, rfl, o, ys, ps, rfl, h1, h2, h3, h4, h5, fun H' e => ?_⟩
  exact ⟨_, rfl, ite2 (fun c => by cases c) fun _ => q _ e⟩
theorem ok_pair (B : Bl mg) (C_is_number : Cal P w K mg base 1 "is_number" sp_num) (F : Fun K "is_pair" "is_pair" s_is_pair f fd) : FnOk P w K mg base CX0 2 f fd ["value"] (sp_pair K) := by
  refine F.ok sc_is_pair (fun vs H Q E h => ?_) (fun cdv A outer s H vs Q E hr h => ?_)
  · obtain ⟨x, p, rfl, _⟩ := h
    rfl
  obtain ⟨x, p, rfl, ⟨hx, ⟨b1, b2⟩, b3, b4⟩, q⟩ := h
  obtain ⟨t, rfl, ht⟩ := hx.spot
  refine ⟨_, (pss_cons (ps_if (PW.pt (pw_or (pt_not (pt_val (pe_callB call_isSeq (by rfl) B.isinstance PySem.L3.boot_isinstance (pa_cons (pv 0) (pa_cons (pe_bltn (v := .ty "tuple") (by rfl) B.tuple PySem.L3.boot_tuple rfl) pa_nil))))) (pw_or1 (pt_cmpR op_ne (pe_callB call_len_seq (by rfl) B.len PySem.L3.boot_len (pa_cons (pv 0) pa_nil)) pe_int (nomark _))))) (pss_one (ps_ret pe_bl)) pss_nil)
    (pss_one (ps_ret (pe_callB (call_all rfl) (by rfl) B.all PySem.L3.boot_all (pa_cons (pe_comp (Nc := ["part"]) (fi := [none]) (comp_sc rfl rfl rfl) rfl (comp_from_go rfl) (pi_tup (pv 0)) (fun _ _ _ _ => ⟨(pg_name (i := 0) (show (["part"] : List Str).Nodup by decide +kernel) rfl (Or.inl rfl)), pf_nil, (pe_and (pe_c C_is_number (hr.mono (by decide)) (by rfl) (pa_cons (pv 0) pa_nil)) (pe_one (pe_chain op_le op_le (pe_un un_neg (pe_glob (v := .int 1000) (by rfl) B.g_BOUND.choose_spec ⟨_, rfl⟩)) (pv 0) (pe_glob (v := .int 1000) (by rfl) B.g_BOUND.choose_spec ⟨_, rfl⟩))))⟩)) pa_nil))))), ?_⟩
  refine ⟨_, rfl, t, _, "tuple", true, rfl, .inl ⟨ht, rfl⟩, _, rfl, ?_⟩
  refine iteF ⟨_, rfl, t, _, rfl, .inr ht, rfl, _, rfl, ?_⟩
  refine iteF ?_
  refine ⟨_, rfl, t, rfl, ⟨_, ht⟩, fun _ _ _ _ l hl => ?_⟩
  refine comp_by 2 (by show 2 ≤ sizeLine; decide) (fun i ys σ' Hc => Same H Hc ∧ Hc l = some (.lst ys) ∧ ys = List.replicate i (V.bl true) ∧ σ'.length = 1) ?_ (fun i ys σ' Hc ⟨_, e, y, _⟩ => ⟨e, by rw [y]; simp⟩) ?_ ?_
  · exact ⟨same_new hl _, upd_same, rfl, rfl⟩
  · rintro i ys σ' Hc hi ⟨e, el, rfl, hσ⟩
    have ht' := e.seqT ht
    refine ⟨⟨_, if i = 0 then .int p.1 else .int p.2, ht', by match i, hi with | 0, _ => rfl | 1, _ => rfl⟩, fun x H' y Kt Kf k1 _ => ?_⟩
    obtain ⟨rfl, hx⟩ := y
    have hx' := hx _ ht'
    obtain ⟨z, rfl, z1, z2⟩ : ∃ z : Int, x = .int z ∧ -1000 ≤ z ∧ z ≤ 1000 := by
      match i, hi, hx' with
      | 0, _, h => exact ⟨p.1, (Option.some.inj h).symm, b1, b2⟩
      | 1, _, h => exact ⟨p.2, (Option.some.inj h).symm, b3, b4⟩
    match σ', hσ with
    | [o], _ =>
      simp only [gName, tYes, ↓reduceIte]
      refine ⟨_, rfl, z, rfl, true, rfl, iteT ?_⟩
      refine ⟨_, rfl, _, rfl, _, _, rfl, rfl, _, rfl, ite2 (fun _ => ?_) (fun h => absurd (decide_eq_true (show (-1000 : Int) ≤ z by omega)) h)⟩
      refine ⟨_, _, rfl, rfl, ?_⟩
      have hz : decide (z ≤ 1000) = true := decide_eq_true z2
      show Kt _ (.bl (decide (z ≤ 1000))) _
      rw [hz]
      refine k1 _ _ _ el ⟨fun b o h => ?_, upd_same, by rw [List.replicate_succ'], rfl⟩
      rw [upd_ne (ne_of_none h hl)]; exact e _ _ h
  · rintro ys σ' Hc ⟨e, el, rfl, _⟩
    exact ⟨⟨_, e.seqT ht, Nat.le_refl _⟩, l, [true, true], rfl, SqL.of el, q _ e⟩
theorem ok_isherd (B : Bl mg) (C_is_pair : Cal P w K mg base 2 "is_pair" (sp_pair K)) (F : Fun K "is_herd" "is_herd" s_is_herd f fd) : FnOk P w K mg base CX0 3 f fd ["value"] (sp_isherd K) := by
  refine F.ok sc_is_herd (fun vs H Q E h => ?_) (fun cdv A outer s H vs Q E hr h => ?_)
  · obtain ⟨o, ys, ps, rfl, _⟩ := h
    rfl
  obtain ⟨o, ys, ps, rfl, ho, hd, hb, l1, l2, q⟩ := h
  have hz : ys.length = ps.length := by have := hd.length; rwa [List.length_map] at this
  refine ⟨_, (pss_cons (ps_if (PW.pt (pw_or (pt_not (pt_val (pe_callB call_isSeq (by rfl) B.isinstance PySem.L3.boot_isinstance (pa_cons (pv 0) (pa_cons (pe_bltn (v := .ty "list") (by rfl) B.list PySem.L3.boot_list rfl) pa_nil))))) (pw_or1 (pt_not (pt_chain op_le op_le pe_int (pe_callB call_len_seq (by rfl) B.len PySem.L3.boot_len (pa_cons (pv 0) pa_nil)) (pe_glob (v := .int 8) (by rfl) B.g_MOST_SPOTS.choose_spec ⟨_, rfl⟩)))))) (pss_one (ps_ret pe_bl)) pss_nil)
    (pss_one (ps_ret (pe_callB (call_all rfl) (by rfl) B.all PySem.L3.boot_all (pa_cons (pe_comp (Nc := ["spot"]) (fi := [none]) (comp_sc rfl rfl rfl) rfl (comp_from_go rfl) (pi_list (pv 0)) (fun _ _ _ _ => ⟨(pg_name (i := 0) (show (["spot"] : List Str).Nodup by decide +kernel) rfl (Or.inl rfl)), pf_nil, (pe_c C_is_pair (hr.mono (by decide)) (by rfl) (pa_cons (pv 0) pa_nil))⟩)) pa_nil))))), ?_⟩
  refine ⟨_, rfl, o, _, "list", true, rfl, .inr ⟨ho, rfl⟩, _, rfl, ?_⟩
  refine iteF ?_
  refine ⟨_, rfl, o, ys, rfl, .inl ho, _, _, rfl, rfl, _, rfl, ite2 (fun _ => ?_) (fun h => absurd (decide_eq_true (show (1 : Int) ≤ (ys.length : Nat) by omega)) h)⟩
  refine ⟨_, _, rfl, rfl, _, rfl, ?_⟩
  have h8 : decide (((ys.length : Nat) : Int) ≤ 8) = true := decide_eq_true (by omega)
  refine ite2 (fun h => ?_) (fun _ => ?_)
  · exfalso
    have h' : (!decide (((ys.length : Nat) : Int) ≤ 8)) = true := h
    rw [h8] at h'; cases h'
  refine ⟨_, rfl, o, rfl, ⟨_, ho⟩, fun _ _ _ _ l hl => ?_⟩
  refine comp_by ys.length (by rw [sizeLine_eq]; omega) (fun i zs σ' Hc => Same H Hc ∧ Hc l = some (.lst zs) ∧ zs = List.replicate i (V.bl true) ∧ σ'.length = 1) ?_ (fun i zs σ' Hc ⟨_, e, y, _⟩ => ⟨e, by rw [y]; simp⟩) ?_ ?_
  · exact ⟨same_new hl _, upd_same, rfl, rfl⟩
  · rintro i zs σ' Hc hi ⟨e, el, rfl, hσ⟩
    refine ⟨⟨_, ys[i], e.seq ho, by simp [hi]⟩, fun x H' y Kt Kf k1 _ => ?_⟩
    obtain ⟨rfl, hx⟩ := y
    have hx' := hx _ (e.seq ho)
    obtain ⟨d, hd1, hd2⟩ := hd.get' hx'
    rw [List.getElem?_map] at hd1
    obtain ⟨p, hp, rfl⟩ := Option.map_eq_some_iff.mp hd1
    match σ', hσ with
    | [c], _ =>
      simp only [gName, tYes, ↓reduceIte]
      refine ⟨_, rfl, x, p, rfl, ⟨e.dn hd2, hb p (List.mem_of_getElem? hp)⟩, fun H2 e2 => ?_⟩
      refine k1 _ _ _ (e2 _ _ el) ⟨fun b o h => ?_, upd_same, by rw [List.replicate_succ'], rfl⟩
      rw [upd_ne (ne_of_none h hl)]; exact e2 _ _ (e _ _ h)
  · rintro zs σ' Hc ⟨e, el, rfl, _⟩
    refine ⟨⟨_, e.seq ho, Nat.le_refl _⟩, l, List.replicate ys.length true, rfl, SqL.of (by rw [List.map_replicate]; exact el), ?_⟩
    have : (List.replicate ys.length true).all id = true := by simp
    rw [this]; exact q _ e
end
end K7a
set_option Elab.async false
set_option linter.all false
set_option maxRecDepth 100000
set_option maxHeartbeats 4000000
namespace K7a
open PySem L2 Hull PySem.C
open K7m (sI wd writ T)
seal L2.PE L2.PT L2.PW L2.PA L2.PS L2.PSs L2.PG L2.PGs L2.PF L2.PI L2.PO
section
variable {P : Program} {w : World} {K : PySem.W.Frag} {mg : Str → Option Value} {base : Heap} {f : Addr} {fd : FuncData}
inductive sp_cd (vs : List V) (H : Hp) (Q : VK) (x_3 : XK) : Prop where
  | mk (a b : Int) (h_0 : vs = [.int a, .int b]) (h_1 : Q (.int (K9.g a b)) H)
theorem ok_cd (B : Bl mg) (F : Fun K "common_divisor" "common_divisor" s_common_divisor f fd) : FnOk P w K mg base CX0 1 f fd ["a", "b"] sp_cd := by
  refine F.ok sc_common_divisor (fun vs H Q E h => ?_) (fun cdv A outer s H vs Q E hr h => ?_)
  · obtain ⟨a, b, rfl, _⟩ := h
    rfl
  obtain ⟨a, b, rfl, q⟩ := h
  refine ⟨_, (pss_cons (ps_set (i := 2) sc_common_divisor.nd rfl (Or.inl rfl) (pe_callB call_abs (by rfl) B.abs PySem.L3.boot_abs (pa_cons (pv 0) pa_nil)))
    (pss_cons (ps_set (i := 3) sc_common_divisor.nd rfl (Or.inl rfl) (pe_callB call_abs (by rfl) B.abs PySem.L3.boot_abs (pa_cons (pv 1) pa_nil)))
    (pss_cons (ps_while PassesOwn.never (pt_cmpR op_gt (pv 3) pe_int (nomark _)) (pss_cons (ps_set (i := 4) sc_common_divisor.nd rfl (Or.inl rfl) (pe_op op_mod (pv 2) (pv 3)))
    (pss_cons (ps_set (i := 2) sc_common_divisor.nd rfl (Or.inl rfl) (pv 3))
    (pss_one (ps_set (i := 3) sc_common_divisor.nd rfl (Or.inl rfl) (pv 4))))))
    (pss_one (ps_ret (pv 2)))))), ?_⟩
  refine ⟨_, rfl, a, rfl, _, rfl, b, rfl, ?_⟩
  refine ⟨fun m σ' H' => H' = H ∧ ∃ (x y : Int) (r : Option V), σ' = [some (.int a), some (.int b), some (.int x), some (.int y), r] ∧ 0 ≤ x ∧ 0 ≤ y ∧ K9.g x y = K9.g a b ∧ m = y.toNat, ⟨_, rfl, _, _, _, rfl, by split <;> omega, by split <;> omega, K9.g_abs a b, rfl⟩, ?_⟩
  rintro m σ' H' ⟨rfl, x, y, r, rfl, hx, hy, hg, rfl⟩
  refine ⟨_, rfl, _, _, rfl, rfl, _, rfl, ite2 (fun c => ?_) (fun c => ?_)⟩
  · have c' : 0 < y := of_decide_eq_true c
    refine ⟨fun σ' H'' => H'' = H' ∧ σ' = [some (.int a), some (.int b), some (.int y), some (.int (x % y)), some (.int (x % y))], ?_, ?_⟩
    · rintro σ'' H'' ⟨rfl, rfl⟩
      have h1 := Int.emod_nonneg x (show y ≠ 0 by omega)
      have h2 := Int.emod_lt_of_pos x c'
      exact ⟨(x % y).toNat, by omega, rfl, y, x % y, _, rfl, by omega, h1, by rw [K9.g_step hx c', hg], rfl⟩
    · exact ⟨_, rfl, _, rfl, _, _, rfl, rfl, c', _, rfl, _, rfl, rfl, rfl⟩
  · have c' : ¬ 0 < y := of_decide_eq_false (Bool.eq_false_iff.mpr c)
    have hy0 : y = 0 := by omega
    subst hy0
    rw [K9.g_zero hx] at hg
    refine ⟨_, rfl, ?_⟩
    show Q (.int x) _
    rw [hg]; exact q
inductive sp_made (K : PySem.W.Frag) (vs : List V) (H : Hp) (Q : VK) (x_3 : XK) : Prop where
  | mk (a b : Int) (h_0 : vs = [.int a, .int b]) (h_1 : 0 < b) (h_2 : b < 2 ^ 190) (h_3 : ∀ v H', Same H H' → Dn K H' (spotD (K9.mk a b)) v → Q v H')
theorem ok_made (C_common_divisor : Cal P w K mg base 1 "common_divisor" sp_cd) (F : Fun K "made" "made" s_made f fd) : FnOk P w K mg base CX0 2 f fd ["a", "b"] (sp_made K) := by
  refine F.ok sc_made (fun vs H Q E h => ?_) (fun cdv A outer s H vs Q E hr h => ?_)
  · obtain ⟨a, b, rfl, _⟩ := h
    rfl
  obtain ⟨a, b, rfl, hb, hb2, q⟩ := h
  have h1 := K9.g_pos (a := a) hb
  have h2 := K9.g_le (a := a) hb
  refine ⟨_, (pss_cons (ps_set (i := 2) sc_made.nd rfl (Or.inl rfl) (pe_c C_common_divisor (hr.mono (by decide)) (by rfl) (pa_cons (pv 0) (pa_cons (pv 1) pa_nil))))
    (pss_one (ps_ret (pe_tup (pa_cons (pe_op op_fdivB (pv 0) (pv 2)) (pa_cons (pe_op op_fdivB (pv 1) (pv 2)) pa_nil)))))), ?_⟩
  refine ⟨_, rfl, _, rfl, a, b, rfl, ?_⟩
  have h3 : K9.g a b < 2 ^ 200 := by omega
  refine ⟨_, rfl, _, rfl, _, _, rfl, rfl, ⟨h1, h3⟩, _, rfl, _, rfl, _, _, rfl, rfl, ⟨h1, h3⟩, (by show 2 ≤ sizeLine; decide), fun p hp => ?_⟩
  exact q _ _ (same_new hp _) (dn_spot (SqT.of upd_same))
inductive sp_plus (K : PySem.W.Frag) (vs : List V) (H : Hp) (Q : VK) (x_3 : XK) : Prop where
  | mk (x y : V) (p q : Int × Int) (h_0 : vs = [x, y]) (h_1 : Dn K H (spotD p) x) (h_2 : Dn K H (spotD q) y) (h_3 : (1 ≤ p.2 ∧ p.2 ≤ 2 ^ 60)) (h_4 : (1 ≤ q.2 ∧ q.2 ≤ 2 ^ 60)) (h_5 : ∀ v H', Same H H' → Dn K H' (spotD (K9.mk (p.1 * q.2 + q.1 * p.2) (p.2 * q.2))) v → Q v H')
theorem big_mul {a b : Int} (h1 : 1 ≤ a) (h2 : a ≤ 2 ^ 60) (h3 : 1 ≤ b) (h4 : b ≤ 2 ^ 60) : 0 < a * b ∧ a * b < 2 ^ 190 := by
  refine ⟨Int.mul_pos (by omega) (by omega), ?_⟩
  have := Int.mul_le_mul h2 h4 (by omega) (by omega)
  omega
theorem ok_plus (C_made : Cal P w K mg base 2 "made" (sp_made K)) (F : Fun K "plus" "plus" s_plus f fd) : FnOk P w K mg base CX0 3 f fd ["one", "other"] (sp_plus K) := by
  refine F.ok sc_plus (fun vs H Q E h => ?_) (fun cdv A outer s H vs Q E hr h => ?_)
  · obtain ⟨x, y, p, q, rfl, _⟩ := h
    rfl
  obtain ⟨x, y, p, q, rfl, dx, dy, ⟨p1, p2⟩, ⟨q1, q2⟩, k⟩ := h
  obtain ⟨x, rfl, tx⟩ := dx.spot
  obtain ⟨y, rfl, ty⟩ := dy.spot
  have hs := big_mul p1 p2 q1 q2
  refine ⟨_, (pss_one (ps_ret (pe_c C_made (hr.mono (by decide)) (by rfl) (pa_cons (pe_op op_add (pe_op op_mul (pe_ix ix_tup (pv 0) pe_int (fun _ _ => rfl)) (pe_ix ix_tup (pv 1) pe_int (fun _ _ => rfl))) (pe_op op_mul (pe_ix ix_tup (pv 1) pe_int (fun _ _ => rfl)) (pe_ix ix_tup (pv 0) pe_int (fun _ _ => rfl)))) (pa_cons (pe_op op_mul (pe_ix ix_tup (pv 0) pe_int (fun _ _ => rfl)) (pe_ix ix_tup (pv 1) pe_int (fun _ _ => rfl))) pa_nil))))), ?_⟩
  refine ⟨_, rfl, x, _, _, _, rfl, rfl, tx, rfl, _, rfl, y, _, _, _, rfl, rfl, ty, rfl, _, _, rfl, rfl, .inr ⟨by omega, by omega⟩, ?_⟩
  refine ⟨_, rfl, y, _, _, _, rfl, rfl, ty, rfl, _, rfl, x, _, _, _, rfl, rfl, tx, rfl, _, _, rfl, rfl, .inr ⟨by omega, by omega⟩, _, _, rfl, rfl, ?_⟩
  refine ⟨_, rfl, x, _, _, _, rfl, rfl, tx, rfl, _, rfl, y, _, _, _, rfl, rfl, ty, rfl, _, _, rfl, rfl, .inr ⟨by omega, by omega⟩, ?_⟩
  exact ⟨_, _, rfl, hs.1, hs.2, fun v H' e1 e2 => k v H' e1 e2⟩
inductive sp_times (K : PySem.W.Frag) (vs : List V) (H : Hp) (Q : VK) (x_3 : XK) : Prop where
  | mk (x y : V) (p q : Int × Int) (h_0 : vs = [x, y]) (h_1 : Dn K H (spotD p) x) (h_2 : Dn K H (spotD q) y) (h_3 : (-1000 ≤ q.1 ∧ q.1 ≤ 1000)) (h_4 : (1 ≤ p.2 ∧ p.2 ≤ 2 ^ 60)) (h_5 : (1 ≤ q.2 ∧ q.2 ≤ 2 ^ 60)) (h_6 : ∀ v H', Same H H' → Dn K H' (spotD (K9.mk (p.1 * q.1) (p.2 * q.2))) v → Q v H')
theorem ok_times (C_made : Cal P w K mg base 2 "made" (sp_made K)) (F : Fun K "times" "times" s_times f fd) : FnOk P w K mg base CX0 3 f fd ["one", "other"] (sp_times K) := by
  refine F.ok sc_times (fun vs H Q E h => ?_) (fun cdv A outer s H vs Q E hr h => ?_)
  · obtain ⟨x, y, p, q, rfl, _⟩ := h
    rfl
  obtain ⟨x, y, p, q, rfl, dx, dy, ⟨n1, n2⟩, ⟨p1, p2⟩, ⟨q1, q2⟩, k⟩ := h
  obtain ⟨x, rfl, tx⟩ := dx.spot
  obtain ⟨y, rfl, ty⟩ := dy.spot
  have hs := big_mul p1 p2 q1 q2
  refine ⟨_, (pss_one (ps_ret (pe_c C_made (hr.mono (by decide)) (by rfl) (pa_cons (pe_op op_mul (pe_ix ix_tup (pv 0) pe_int (fun _ _ => rfl)) (pe_ix ix_tup (pv 1) pe_int (fun _ _ => rfl))) (pa_cons (pe_op op_mul (pe_ix ix_tup (pv 0) pe_int (fun _ _ => rfl)) (pe_ix ix_tup (pv 1) pe_int (fun _ _ => rfl))) pa_nil))))), ?_⟩
  refine ⟨_, rfl, x, _, _, _, rfl, rfl, tx, rfl, _, rfl, y, _, _, _, rfl, rfl, ty, rfl, _, _, rfl, rfl, .inr ⟨by omega, by omega⟩, ?_⟩
  refine ⟨_, rfl, x, _, _, _, rfl, rfl, tx, rfl, _, rfl, y, _, _, _, rfl, rfl, ty, rfl, _, _, rfl, rfl, .inr ⟨by omega, by omega⟩, ?_⟩
  exact ⟨_, _, rfl, hs.1, hs.2, fun v H' e1 e2 => k v H' e1 e2⟩
end
end K7a
set_option Elab.async false
set_option linter.all false
set_option maxRecDepth 100000
set_option maxHeartbeats 4000000
namespace K7a
open PySem L2 Hull PySem.C
open K7m (sI wd writ T)
seal L2.PE L2.PT L2.PW L2.PA L2.PS L2.PSs L2.PG L2.PGs L2.PF L2.PI L2.PO
section
variable {P : Program} {w : World} {K : PySem.W.Frag} {mg : Str → Option Value} {base : Heap} {f : Addr} {fd : FuncData}
def numB : V → Bool
  | .int n => decide (-1000 ≤ n) && decide (n ≤ 1000)
  | _ => false
def isIntB : V → Bool
  | .int _ => true
  | _ => false
def flat : V → Bool
  | .non => true
  | .bl _ => true
  | .int _ => true
  | .str _ => true
  | _ => false
def Flat (x : V) : Prop := flat x = true
def pairB (xs : List V) : Bool := decide (xs.length = 2) && xs.all numB
inductive PairT (H : Hp) : V → Bool → Prop where
  | non : PairT H .non false
  | int (i : Int) : PairT H (.int i) false
  | str (x : Str) : PairT H (.str x) false
  | lst {a : Addr} {xs : List V} (h : H a = some (.lst xs)) : PairT H (.ref a) false
  | tup {a : Addr} {xs : List V} (h : H a = some (.tup xs)) (f : ∀ x ∈ xs, Flat x) : PairT H (.ref a) (pairB xs)
def herdB (n : Nat) (bs : List Bool) : Bool := decide (1 ≤ n) && decide (n ≤ 8) && bs.all id
inductive HerdT (H : Hp) : V → Bool → Prop where
  | non : HerdT H .non false
  | str (x : Str) : HerdT H (.str x) false
  | tup {a : Addr} {xs : List V} (h : H a = some (.tup xs)) : HerdT H (.ref a) false
  | dct {a : Addr} {kvs : List (Key × V)} (h : H a = some (.dK kvs)) : HerdT H (.ref a) false
  | lst {a : Addr} {xs : List V} {bs : List Bool} (h : H a = some (.lst xs)) (p : Paired (PairT H) xs bs) : HerdT H (.ref a) (herdB xs.length bs)
theorem PairT.same {H H' : Hp} (e : Same H H') {v : V} {b : Bool} (h : PairT H v b) : PairT H' v b := by
  cases h with
  | non => exact .non
  | int i => exact .int i
  | str x => exact .str x
  | lst h => exact .lst (e _ _ h)
  | tup h f => exact .tup (e _ _ h) f
theorem pairs_get {α β : Type} {R : α → β → Prop} : ∀ {xs : List α} {bs : List β} {i : Nat} {x : α}, Paired R xs bs → xs[i]? = some x → ∃ b, bs[i]? = some b ∧ R x b
  | _, _, _, _, .nil, e => by simp at e
  | _, _, 0, _, .cons r _, e => by simp at e; subst e; exact ⟨_, rfl, r⟩
  | _, _, i + 1, x, .cons _ t, e => by
    obtain ⟨u, h1, h2⟩ := pairs_get (i := i) (x := x) t (by simpa using e)
    exact ⟨u, by simpa using h1, h2⟩
inductive sp_numT (vs : List V) (H : Hp) (Q : VK) (x_3 : XK) : Prop where
  | mk (x : V) (h_0 : vs = [x]) (h_1 : Flat x) (h_2 : Q (.bl (isIntB x)) H)
theorem ok_numT (B : Bl mg) (F : Fun K "is_number" "is_number" s_is_number f fd) : FnOk P w K mg base CX0 1 f fd ["value"] sp_numT := by
  refine F.ok sc_is_number (fun vs H Q E h => ?_) (fun cdv A outer s H vs Q E hr h => ?_)
  · obtain ⟨i, rfl, _⟩ := h
    rfl
  obtain ⟨x, rfl, hf, q⟩ := h
  refine ⟨_, (pss_one (ps_ret (pe_and (pe_callB call_isinstance (by rfl) B.isinstance PySem.L3.boot_isinstance (pa_cons (pv 0) (pa_cons (pe_bltn (v := .ty "int") (by rfl) B.int PySem.L3.boot_int rfl) pa_nil))) (pe_one (pe_not (pe_callB call_isinstance (by rfl) B.isinstance PySem.L3.boot_isinstance (pa_cons (pv 0) (pa_cons (pe_bltn (v := .ty "bool") (by rfl) B.bool PySem.L3.boot_bool rfl) pa_nil)))))))), ?_⟩
  cases x with
  | non => exact ⟨_, rfl, _, "int", _, false, rfl, .non, rfl, false, rfl, iteF q⟩
  | str x => exact ⟨_, rfl, _, "int", _, false, rfl, .str x, rfl, false, rfl, iteF q⟩
  | bl b => exact ⟨_, rfl, _, "int", _, true, rfl, .bl b, rfl, true, rfl, iteT ⟨_, rfl, _, "bool", _, true, rfl, .bl b, rfl, _, rfl, q⟩⟩
  | int i => exact ⟨_, rfl, _, "int", _, true, rfl, .int i, rfl, true, rfl, iteT ⟨_, rfl, _, "bool", _, false, rfl, .int i, rfl, _, rfl, q⟩⟩
  | byt _ => exact Bool.noConfusion (show false = true from hf)
  | flt _ => exact Bool.noConfusion (show false = true from hf)
  | ref _ => exact Bool.noConfusion (show false = true from hf)
  | ty _ => exact Bool.noConfusion (show false = true from hf)
inductive sp_pairT (vs : List V) (H : Hp) (Q : VK) (x_3 : XK) : Prop where
  | mk (x : V) (b : Bool) (h_0 : vs = [x]) (h_1 : PairT H x b) (h_2 : ∀ H', Same H H' → Q (.bl b) H')
theorem ok_pairT (B : Bl mg) (CT_is_number : Cal P w K mg base 1 "is_number" sp_numT) (F : Fun K "is_pair" "is_pair" s_is_pair f fd) : FnOk P w K mg base CX0 2 f fd ["value"] sp_pairT := by
  refine F.ok sc_is_pair (fun vs H Q E h => ?_) (fun cdv A outer s H vs Q E hr h => ?_)
  · obtain ⟨x, p, rfl, _⟩ := h
    rfl
  obtain ⟨x, b, rfl, hx, q⟩ := h
  refine ⟨_, (pss_cons (ps_if (PW.pt (pw_or (pt_not (pt_val (pe_callB call_isinstance (by rfl) B.isinstance PySem.L3.boot_isinstance (pa_cons (pv 0) (pa_cons (pe_bltn (v := .ty "tuple") (by rfl) B.tuple PySem.L3.boot_tuple rfl) pa_nil))))) (pw_or1 (pt_cmpR op_ne (pe_callB call_len_seq (by rfl) B.len PySem.L3.boot_len (pa_cons (pv 0) pa_nil)) pe_int (nomark _))))) (pss_one (ps_ret pe_bl)) pss_nil)
    (pss_one (ps_ret (pe_callB (call_all rfl) (by rfl) B.all PySem.L3.boot_all (pa_cons (pe_comp (Nc := ["part"]) (fi := [none]) (comp_sc rfl rfl rfl) rfl (comp_from_go rfl) (pi_tup (pv 0)) (fun _ _ _ _ => ⟨(pg_name (i := 0) (show (["part"] : List Str).Nodup by decide +kernel) rfl (Or.inl rfl)), pf_nil, (pe_and (pe_c CT_is_number (hr.mono (by decide)) (by rfl) (pa_cons (pv 0) pa_nil)) (pe_one (pe_chain op_le op_le (pe_un un_neg (pe_glob (v := .int 1000) (by rfl) B.g_BOUND.choose_spec ⟨_, rfl⟩)) (pv 0) (pe_glob (v := .int 1000) (by rfl) B.g_BOUND.choose_spec ⟨_, rfl⟩))))⟩)) pa_nil))))), ?_⟩
  cases hx with
  | non => exact ⟨_, rfl, _, "tuple", _, false, rfl, .non, rfl, _, rfl, iteT (iteT (q _ (Same.refl _)))⟩
  | int i => exact ⟨_, rfl, _, "tuple", _, false, rfl, .int i, rfl, _, rfl, iteT (iteT (q _ (Same.refl _)))⟩
  | str x => exact ⟨_, rfl, _, "tuple", _, false, rfl, .str x, rfl, _, rfl, iteT (iteT (q _ (Same.refl _)))⟩
  | lst h => exact ⟨_, rfl, _, "tuple", _, false, rfl, .lst h, rfl, _, rfl, iteT (iteT (q _ (Same.refl _)))⟩
  | @tup t xs ht hf =>
    refine ⟨_, rfl, _, "tuple", _, true, rfl, .tup ht, rfl, _, rfl, ?_⟩
    refine iteF ⟨_, rfl, t, _, rfl, .inr (SqT.of ht), rfl, _, rfl, ?_⟩
    refine ite2 (fun c => ?_) (fun c => ?_)
    · have c' : xs.length ≠ 2 := fun z => by
        rw [z] at c; simp at c
      have e : pairB xs = false := by unfold pairB; rw [decide_eq_false c']; rfl
      rw [e] at q
      exact q _ (Same.refl _)
    · have c' : xs.length = 2 := by
        have c1 : ¬ (!decide (V.int ((xs.length : Nat) : Int) = V.int 2)) = true := c
        have c2 : V.int ((xs.length : Nat) : Int) = V.int 2 := Classical.byContradiction fun z => c1 (by rw [decide_eq_false z]; rfl)
        injection c2 with c3
        omega
      refine ⟨_, rfl, t, rfl, ⟨_, SqT.of ht⟩, fun _ _ _ _ l hl => ?_⟩
      refine comp_by 2 (by show 2 ≤ sizeLine; decide) (fun i ys σ' Hc => Same H Hc ∧ Hc l = some (.lst ys) ∧ ys = ((xs.take i).map numB).map V.bl ∧ i ≤ 2 ∧ σ'.length = 1) ?_ (fun i ys σ' Hc ⟨_, e, y, hi, _⟩ => ⟨e, by rw [y]; simp; omega⟩) ?_ ?_
      · exact ⟨same_new hl _, upd_same, rfl, Nat.zero_le _, rfl⟩
      · rintro i ys σ' Hc hi ⟨e, el, rfl, _, hσ⟩
        have ht' : SqT K Hc t xs := SqT.of (e _ _ ht)
        have hxi : xs[i]? = some xs[i] := List.getElem?_eq_getElem (by omega)
        refine ⟨⟨_, xs[i], ht', hxi⟩, fun x H' y Kt Kf k1 _ => ?_⟩
        obtain ⟨rfl, hx⟩ := y
        have hx' := hx _ ht'
        rw [hxi] at hx'
        obtain rfl : xs[i] = x := Option.some.inj hx'
        have hfx := hf _ (List.getElem_mem (show i < xs.length by omega))
        have fin : ∀ σ2 : St, σ2.length = 1 → ∀ b, numB xs[i] = b → Kt σ2 (.bl b) H' := fun σ2 h2 b hb => by
          refine k1 _ _ _ el ⟨same_upd hl e, upd_same, ?_, by omega, h2⟩
          rw [List.take_add_one, hxi, List.map_append, List.map_append, ← hb]; rfl
        match σ', hσ with
        | [o], _ =>
          simp only [gName, tYes, ↓reduceIte]
          refine ⟨_, rfl, _, rfl, hfx, _, rfl, ?_⟩
          generalize xs[i] = x at hfx fin
          cases x with
          | non => exact iteF (fin _ rfl _ rfl)
          | str x => exact iteF (fin _ rfl _ rfl)
          | bl b => exact iteF (fin _ rfl _ rfl)
          | byt _ => exact Bool.noConfusion (show false = true from hfx)
          | flt _ => exact Bool.noConfusion (show false = true from hfx)
          | ref _ => exact Bool.noConfusion (show false = true from hfx)
          | ty _ => exact Bool.noConfusion (show false = true from hfx)
          | int z =>
            refine iteT ⟨_, rfl, _, rfl, _, _, rfl, rfl, _, rfl, ite2 (fun c => ?_) (fun c => ?_)⟩
            · refine ⟨_, _, rfl, rfl, fin _ rfl _ ?_⟩
              have c2 : decide (-1000 ≤ z) = true := c
              show (decide (-1000 ≤ z) && decide (z ≤ 1000)) = _
              rw [c2]; rfl
            · refine fin _ rfl _ ?_
              have c2 : decide (-1000 ≤ z) = false := Bool.eq_false_iff.mpr c
              show (decide (-1000 ≤ z) && decide (z ≤ 1000)) = _
              rw [c2]; rfl
      · rintro ys σ' Hc ⟨e, el, rfl, _, _⟩
        refine ⟨⟨_, SqT.of (e _ _ ht), by omega⟩, l, (xs.take 2).map numB, rfl, SqL.of el, ?_⟩
        have e2 : ((xs.take 2).map numB).all id = pairB xs := by
          unfold pairB
          rw [decide_eq_true c', List.take_of_length_le (by omega), List.all_map]; rfl
        rw [e2]; exact q _ e
inductive sp_herdT (vs : List V) (H : Hp) (Q : VK) (x_3 : XK) : Prop where
  | mk (x : V) (b : Bool) (h_0 : vs = [x]) (h_1 : HerdT H x b) (h_2 : ∀ H', Same H H' → Q (.bl b) H')
theorem ok_herdT (B : Bl mg) (CT_is_pair : Cal P w K mg base 2 "is_pair" sp_pairT) (F : Fun K "is_herd" "is_herd" s_is_herd f fd) : FnOk P w K mg base CX0 3 f fd ["value"] sp_herdT := by
  refine F.ok sc_is_herd (fun vs H Q E h => ?_) (fun cdv A outer s H vs Q E hr h => ?_)
  · obtain ⟨x, p, rfl, _⟩ := h
    rfl
  obtain ⟨x, b, rfl, hx, q⟩ := h
  refine ⟨_, (pss_cons (ps_if (PW.pt (pw_or (pt_not (pt_val (pe_callB call_isinstance (by rfl) B.isinstance PySem.L3.boot_isinstance (pa_cons (pv 0) (pa_cons (pe_bltn (v := .ty "list") (by rfl) B.list PySem.L3.boot_list rfl) pa_nil))))) (pw_or1 (pt_not (pt_chain op_le op_le pe_int (pe_callB call_len_seq (by rfl) B.len PySem.L3.boot_len (pa_cons (pv 0) pa_nil)) (pe_glob (v := .int 8) (by rfl) B.g_MOST_SPOTS.choose_spec ⟨_, rfl⟩)))))) (pss_one (ps_ret pe_bl)) pss_nil)
    (pss_one (ps_ret (pe_callB (call_all rfl) (by rfl) B.all PySem.L3.boot_all (pa_cons (pe_comp (Nc := ["spot"]) (fi := [none]) (comp_sc rfl rfl rfl) rfl (comp_from_go rfl) (pi_list (pv 0)) (fun _ _ _ _ => ⟨(pg_name (i := 0) (show (["spot"] : List Str).Nodup by decide +kernel) rfl (Or.inl rfl)), pf_nil, (pe_c CT_is_pair (hr.mono (by decide)) (by rfl) (pa_cons (pv 0) pa_nil))⟩)) pa_nil))))), ?_⟩
  cases hx with
  | non => exact ⟨_, rfl, _, "list", _, false, rfl, .non, rfl, _, rfl, iteT (iteT (q _ (Same.refl _)))⟩
  | str x => exact ⟨_, rfl, _, "list", _, false, rfl, .str x, rfl, _, rfl, iteT (iteT (q _ (Same.refl _)))⟩
  | tup h => exact ⟨_, rfl, _, "list", _, false, rfl, .tup h, rfl, _, rfl, iteT (iteT (q _ (Same.refl _)))⟩
  | dct h => exact ⟨_, rfl, _, "list", _, false, rfl, .dK h, rfl, _, rfl, iteT (iteT (q _ (Same.refl _)))⟩
  | @lst o ys bs ho hp =>
    refine ⟨_, rfl, _, "list", _, true, rfl, .lst ho, rfl, _, rfl, ?_⟩
    refine iteF ?_
    have no : herdB ys.length bs = false → Q (.bl false) H := fun z => by
      rw [z] at q; exact q _ (Same.refl _)
    refine ⟨_, rfl, o, ys, rfl, .inl (SqL.of ho), _, _, rfl, rfl, _, rfl, ite2 (fun c => ?_) (fun c => ?_)⟩
    · have c1 : 1 ≤ ys.length := by
        have c2 : (1 : Int) ≤ ((ys.length : Nat) : Int) := of_decide_eq_true c
        omega
      refine ⟨_, _, rfl, rfl, _, rfl, ite2 (fun d => ?_) (fun d => ?_)⟩
      · refine no ?_
        have d1 : (!decide (((ys.length : Nat) : Int) ≤ 8)) = true := d
        have d2 : ¬ ys.length ≤ 8 := fun z => by
          rw [decide_eq_true (show ((ys.length : Nat) : Int) ≤ 8 by omega)] at d1; cases d1
        unfold herdB; rw [decide_eq_false d2, Bool.and_false]; rfl
      · have d2 : ys.length ≤ 8 := Classical.byContradiction fun z => d (by
          show (!decide (((ys.length : Nat) : Int) ≤ 8)) = true
          rw [decide_eq_false (show ¬ ((ys.length : Nat) : Int) ≤ 8 by omega)]; rfl)
        have lb : bs.length = ys.length := hp.length.symm
        refine ⟨_, rfl, o, rfl, ⟨_, SqL.of ho⟩, fun _ _ _ _ l hl => ?_⟩
        refine comp_by ys.length (by rw [sizeLine_eq]; omega) (fun i zs σ' Hc => Same H Hc ∧ Hc l = some (.lst zs) ∧ zs = (bs.take i).map V.bl ∧ i ≤ ys.length ∧ σ'.length = 1) ?_ (fun i zs σ' Hc ⟨_, e, y, hi, _⟩ => ⟨e, by rw [y]; simp; omega⟩) ?_ ?_
        · exact ⟨same_new hl _, upd_same, rfl, Nat.zero_le _, rfl⟩
        · rintro i zs σ' Hc hi ⟨e, el, rfl, _, hσ⟩
          have hxi : ys[i]? = some ys[i] := List.getElem?_eq_getElem hi
          refine ⟨⟨_, ys[i], SqL.of (e _ _ ho), hxi⟩, fun x H' y Kt Kf k1 _ => ?_⟩
          obtain ⟨rfl, hx⟩ := y
          have hx' := hx _ (SqL.of (e _ _ ho))
          obtain ⟨b, hb1, hb2⟩ := pairs_get hp hx'
          match σ', hσ with
          | [c], _ =>
            simp only [gName, tYes, ↓reduceIte]
            refine ⟨_, rfl, x, b, rfl, hb2.same e, fun H2 e2 => ?_⟩
            refine k1 _ _ _ (e2 _ _ el) ⟨same_upd hl (e.trans e2), upd_same, ?_, by omega, rfl⟩
            rw [List.take_add_one, hb1, List.map_append]; rfl
        · rintro zs σ' Hc ⟨e, el, rfl, _, _⟩
          refine ⟨⟨_, SqL.of (e _ _ ho), Nat.le_refl _⟩, l, bs.take ys.length, rfl, SqL.of el, ?_⟩
          have e2 : (bs.take ys.length).all id = herdB ys.length bs := by
            unfold herdB
            rw [decide_eq_true c1, decide_eq_true d2, List.take_of_length_le (by omega)]; rfl
          rw [e2]; exact q _ e
    · have c1 : ¬ 1 ≤ ys.length := fun z => c (decide_eq_true (show (1 : Int) ≤ ((ys.length : Nat) : Int) by omega))
      exact ⟨_, rfl, iteT (no (by unfold herdB; rw [decide_eq_false c1]; rfl))⟩
structure KF (K : PySem.W.Frag) (cH c1 c2 c3 c4 c5 D : Addr) (b1 b2 b3 b4 : Bool) : Prop where
  ec : ExcCls K D
  he : PySem.W.kitCls K (.ref D) (.ref cH) = some true
  k1 : PySem.W.kitOne K (.ref D) (.ref c1) = some b1
  k2 : PySem.W.kitOne K (.ref D) (.ref c2) = some b2
  k3 : PySem.W.kitOne K (.ref D) (.ref c3) = some b3
  k4 : PySem.W.kitOne K (.ref D) (.ref c4) = some b4
  k5 : PySem.W.kitOne K (.ref D) (.ref c5) = some false
  k6 : PySem.W.kitOne K (.ref D) (.type "ValueError") = some true
structure EO (mg : Str → Option Value) (base : Heap) (x : Str) (D : Addr) : Prop where
  own : PyProof.Rows.OwnCls x D [.type "ValueError", .type "Exception", .type "BaseException", .type "object"] "ValueError.__new__" mg base
structure THE (K : PySem.W.Frag) (mg : Str → Option Value) (C : Addr) : Prop where
  mg : mg "HerdError" = some (.ref C)
  ba : PySem.W.subIn K (.ref C) (.type "BaseException") = some true
  ks : PySem.W.kitCls K (.ref C) (.ref C) ≠ none
def excF (K : PySem.W.Frag) (cH c1 c2 c3 c4 c5 D : Addr) (b1 b2 b3 b4 : Bool) : Bool :=
  (PySem.W.findIn K (.ref D) "__getattribute__" == some (some (.builtin "BaseException.__getattribute__"))) && (PySem.W.findIn K (.ref D) "__getattr__" == some none) && (PySem.W.subIn K (.ref D) (.type "BaseException") == some true) && (PySem.W.clsIn K D).isSome && (PySem.W.findIn K (.ref D) "__class__" == some (some (.builtin "object.__class__")))
    && (PySem.W.specialIn K (.builtin "object.__class__") "__get__" == some (some (.builtin "getset_descriptor.__get__"))) && (PySem.W.takesIn K (.builtin "object.__class__") == some true) && (PySem.W.mroIn K D (.type "object") == some true)
    && (PySem.W.kitCls K (.ref D) (.ref cH) == some true) && (PySem.W.kitOne K (.ref D) (.ref c1) == some b1) && (PySem.W.kitOne K (.ref D) (.ref c2) == some b2) && (PySem.W.kitOne K (.ref D) (.ref c3) == some b3) && (PySem.W.kitOne K (.ref D) (.ref c4) == some b4)
    && (PySem.W.kitOne K (.ref D) (.ref c5) == some false) && (PySem.W.kitOne K (.ref D) (.type "ValueError") == some true)
theorem KF.of {K : PySem.W.Frag} {cH c1 c2 c3 c4 c5 D : Addr} {b1 b2 b3 b4 : Bool} (h : excF K cH c1 c2 c3 c4 c5 D b1 b2 b3 b4 = true) : KF K cH c1 c2 c3 c4 c5 D b1 b2 b3 b4 := by
  unfold excF at h
  simp only [Bool.and_eq_true, beq_iff_eq] at h
  obtain ⟨⟨⟨⟨⟨⟨⟨⟨⟨⟨⟨⟨⟨⟨h1, h1a⟩, h1b⟩, h2⟩, h3⟩, h4⟩, h5⟩, h6⟩, h7⟩, h8⟩, h9⟩, h10⟩, h11⟩, h12⟩, h13⟩ := h
  exact ⟨⟨h1, h1a, h1b, h2, h3, h4, h5, h6⟩, h7, h8, h9, h10, h11, h12, h13⟩
theorem own_ex {K : PySem.W.Frag} {h : Heap} {mg : Str → Option Value} {x : Str} {C : Addr} {bm : List Value} {n : String} (X : K.In h) (G : h.Ns mainGlobals mg) (e : PySem.W.nsIn K mainGlobals x = some (some (.ref C))) (q : PySem.W.excIn K C bm n = true) : PyProof.Rows.OwnCls x C bm n mg h := by
  constructor
  · exact PySem.W.mg_of X G e
  unfold PySem.W.excIn at q
  split at q <;> try contradiction
  rename_i od data slots at_C
  split at q <;> try contradiction
  rename_i C1 tail s0 s1 s2 s3 m s5 hmro hslots
  simp only [Bool.and_eq_true, beq_iff_eq, Bool.not_eq_true'] at q
  obtain ⟨⟨⟨⟨⟨rfl, rfl⟩, q1⟩, q2⟩, q3⟩, q4⟩ := q
  have e6 : slots = #[s0, s1, s2, s3, some (.builtin m), s5] := by
    rcases slots with ⟨l⟩; simp only at hslots; rw [hslots]
  obtain ⟨y1, y2, y3, y4, y5, y6, y7, y8, y9, y10, y11⟩ := data
  dsimp only at hmro q1 q3 q4
  subst hmro q1 e6
  exact ⟨tail, y4, y1, y5, y2, y6, y7, y8, y9, y10, od, s0, s1, s2, s3, s5, _, X _ _ at_C, .of_isNs (PySem.W.isNs_of_in X q3), PySem.W.nsMap_none_of_in X q3 q4, PySem.W.tail_of_in X q2⟩
structure TxtN (mg : Str → Option Value) (n : Str) (C : Addr) : Prop where
  mg : mg n = some (.ref C)
end
end K7a
set_option Elab.async false
set_option linter.all false
set_option maxRecDepth 100000
set_option maxHeartbeats 4000000
namespace K7a
open PySem L2 Hull PySem.C
open K7m (sI wd writ T)
seal L2.PE L2.PT L2.PW L2.PA L2.PS L2.PSs L2.PG L2.PGs L2.PF L2.PI L2.PO
section
variable {P : Program} {w : World} {K : PySem.W.Frag} {mg : Str → Option Value} {base : Heap} {f : Addr} {fd : FuncData}
theorem fork (R : St → Hp → Prop) {t u : TS} {D : Ends} {σ : St} {H : Hp} (h2 : ∀ σ' H', R σ' H' → u D σ' H') (h1 : ∀ T : TS, (∀ σ' H', R σ' H' → T D σ' H') → tSeq t T D σ H) : tSeq t u D σ H := h1 u h2
theorem bd_in {p : Hull.P} (h : Bd p) : K7m.In p := ⟨h.1.1, h.1.2, h.2.1, h.2.2⟩
theorem join_ok {ps : List Hull.P} (h : ∀ p ∈ ps, Bd p) (h8 : ps.length ≤ 8) : JoinOk (T " ") (ps.map wd) = true := K7m.join_ok (fun p hp => bd_in (h p hp)) h8
theorem same_no {H H1 : Hp} (e : Same H H1) {l : Addr} (h : H1 l = none) : H l = none := by
  cases z : H l with
  | none => rfl
  | some u => rw [e _ _ z] at h; cases h
inductive sp_written (K : PySem.W.Frag) (vs : List V) (H : Hp) (Q : VK) (x_3 : XK) : Prop where
  | mk (o : Addr) (ys : List V) (ps : List Hull.P) (h_0 : vs = [.ref o]) (h_1 : SqL K H o ys) (h_2 : Dns K H (ps.map spotD) ys) (h_3 : (∀ p ∈ ps, Bd p)) (h_4 : 1 ≤ ps.length) (h_5 : ps.length ≤ 8) (h_6 : ∀ H', Same H H' → Q (.str (writ ps)) H')
theorem ok_written (B : Bl mg) (C_check_herd : Cal P w K mg base 4 "check_herd" (sp_check K)) (F : Fun K "written" "written" s_written f fd) : FnOk P w K mg base CX0 5 f fd ["herd"] (sp_written K) := by
  refine F.ok sc_written (fun vs H Q E h => ?_) (fun cdv A outer s H vs Q E hr h => ?_)
  · obtain ⟨o, ys, ps, rfl, _⟩ := h
    rfl
  obtain ⟨o, ys, ps, rfl, ho, hd, hb, l1, l2, q⟩ := h
  have hz : ys.length = ps.length := by have := hd.length; rwa [List.length_map] at this
  refine ⟨_, (pss_cons (ps_expr (pe_c C_check_herd (hr.mono (by decide)) (by rfl) (pa_cons (pv 0) pa_nil)))
    (pss_one (ps_ret (pe_bm PySem.F.plainAttrs_str PySem.F.slot_str_join PySem.F.type_str_join mt_join pe_str (pa_cons (pe_comp (Nc := ["spot"]) (fi := [none]) (comp_sc rfl rfl rfl) rfl (comp_from_go rfl) (pi_list (pv 0)) (fun _ _ _ _ => ⟨(pg_name (i := 0) (show (["spot"] : List Str).Nodup by decide +kernel) rfl (Or.inl rfl)), pf_nil, (pe_op op_add_str (pe_op op_add_str (pe_callTy call_str_int (by rfl) B.str PySem.L3.boot_str (pa_cons (pe_ix ix_tup (pv 0) pe_int (fun _ _ => rfl)) pa_nil)) pe_str) (pe_callTy call_str_int (by rfl) B.str PySem.L3.boot_str (pa_cons (pe_ix ix_tup (pv 0) pe_int (fun _ _ => rfl)) pa_nil)))⟩)) pa_nil))))), ?_⟩
  refine ⟨_, rfl, o, ys, ps, rfl, ho, hd, hb, l1, l2, fun H1 e1 => ?_⟩
  refine ⟨rfl, ?_⟩
  refine ⟨_, rfl, o, rfl, ⟨_, e1.seq ho⟩, fun _ _ _ _ l hl => ?_⟩
  refine comp_by ys.length (by rw [sizeLine_eq]; omega) (fun i zs σ' Hc => Same H Hc ∧ Hc l = some (.lst zs) ∧ zs = ((ps.take i).map wd).map V.str ∧ i ≤ ps.length ∧ σ'.length = 1) ?_ (fun i zs σ' Hc ⟨_, e, y, hi, _⟩ => ⟨e, by rw [y]; simp; omega⟩) ?_ ?_
  · exact ⟨e1.trans (same_new hl _), upd_same, rfl, Nat.zero_le _, rfl⟩
  · rintro i zs σ' Hc hi ⟨e, el, rfl, _, hσ⟩
    refine ⟨⟨_, ys[i], e.seq ho, by simp [hi]⟩, fun x H' y Kt Kf k1 _ => ?_⟩
    obtain ⟨rfl, hx⟩ := y
    have hx' := hx _ (e.seq ho)
    obtain ⟨d, hd1, hd2⟩ := hd.get' hx'
    rw [List.getElem?_map] at hd1
    obtain ⟨p, hp, rfl⟩ := Option.map_eq_some_iff.mp hd1
    obtain ⟨t, rfl, ht⟩ := (e.dn hd2).spot
    have hip := bd_in (hb p (List.mem_of_getElem? hp))
    have n1 : (Str.ofString (toString p.1)).length ≤ 5 := (K7m.num_bwd hip.1 hip.2.1).2.2.1
    have n2 : (Str.ofString (toString p.2)).length ≤ 5 := (K7m.num_bwd hip.2.2.1 hip.2.2.2).2.2.1
    have c1 : (Str.ofString ",").length = 1 := by decide +kernel
    match σ', hσ with
    | [c], _ =>
      simp only [gName, tYes, ↓reduceIte]
      refine ⟨_, rfl, t, _, _, _, rfl, rfl, ht, rfl, _, rfl, K7m.log_small hip.1 hip.2.1, _, _, rfl, rfl, by rw [sizeLine_eq]; omega, ?_⟩
      refine ⟨_, rfl, t, _, _, _, rfl, rfl, ht, rfl, _, rfl, K7m.log_small hip.2.2.1 hip.2.2.2, _, _, rfl, rfl, by rw [Str.length_append, sizeLine_eq]; omega, ?_⟩
      refine k1 _ _ _ el ⟨same_upd (same_no e1 hl) e, upd_same, ?_, by omega, rfl⟩
      rw [List.take_add_one, hp, List.map_append, List.map_append]; rfl
  · rintro zs σ' Hc ⟨e, el, rfl, _, _⟩
    refine ⟨⟨_, e.seq ho, Nat.le_refl _⟩, _, l, ps.map wd, rfl, rfl, SqL.of (by rw [el, hz, List.take_of_length_le (Nat.le_refl _)]), join_ok hb l2, q _ e⟩
end
end K7a
set_option Elab.async false
set_option linter.all false
set_option maxRecDepth 100000
set_option maxHeartbeats 4000000
namespace K7a
open PySem L2 Hull PySem.C
open K7m (sI wd writ T)
seal L2.PE L2.PT L2.PW L2.PA L2.PS L2.PSs L2.PG L2.PGs L2.PF L2.PI L2.PO
section
variable {P : Program} {w : World} {K : PySem.W.Frag} {mg : Str → Option Value} {base : Heap} {f : Addr} {fd : FuncData}
inductive sp_number (vs : List V) (H : Hp) (Q : VK) (x_3 : XK) : Prop where
  | mk (t : Str) (h_0 : vs = [.str t]) (h_1 : t.length ≤ 100000) (h_2 : ∀ n : Int, t = sI n → -1000 ≤ n → n ≤ 1000 → Q (.int n) H) (h_3 : (¬ ∃ n : Int, t = sI n ∧ -1000 ≤ n ∧ n ≤ 1000) → Q .non H)
theorem ok_number (B : Bl mg) (F : Fun K "_law_number" "_law_number" s__law_number f fd) : FnOk P w K mg base CX0 1 f fd ["_law_text"] sp_number := by
  refine F.ok sc__law_number (fun vs H Q E h => ?_) (fun cdv A outer s H vs Q E hr h => ?_)
  · obtain ⟨t, rfl, _⟩ := h
    rfl
  obtain ⟨t, rfl, hl, hy, hn⟩ := h
  refine ⟨_, (pss_cons (ps_set (i := 1) sc__law_number.nd rfl (Or.inl rfl) (pe_ifExp (pt_cmpR op_eq (pe_slice sl_str (pv 0) po_none (po_some pe_int)) pe_str (nomark _)) (pe_slice sl_str (pv 0) (po_some pe_int) po_none) (pv 0)))
    (pss_cons (ps_if (PW.pt (pw_or (pt_cmpR op_eq (pv 1) pe_str (nomark _)) (pw_or (pt_cmpR op_gt (pe_callB call_len_str (by rfl) B.len PySem.L3.boot_len (pa_cons (pv 1) pa_nil)) pe_int (nomark _)) (pw_or (pt_cmpR op_ne (pe_bm PySem.F.plainAttrs_str PySem.F.slot_str_strip PySem.F.type_str_strip mt_strip (pv 1) (pa_cons pe_str pa_nil)) pe_str (nomark _)) (pw_or1 (PW.pt (pw_and (pt_cmpR op_eq (pe_ix ix_str (pv 1) pe_int (fun _ _ => rfl)) pe_str (nomark _)) (pw_and1 (pt_cmpR op_ne (pv 0) pe_str (nomark _)))))))))) (pss_one (ps_ret pe_non)) pss_nil)
    (pss_one (ps_ret (pe_ifExp (pt_chain op_le op_le (pe_un un_neg pe_int) (pe_callTy call_intS (by rfl) B.int PySem.L3.boot_int (pa_cons (pv 0) pa_nil)) pe_int) (pe_callTy call_intS (by rfl) B.int PySem.L3.boot_int (pa_cons (pv 0) pa_nil)) pe_non))))), ?_⟩
  have no : ¬ K7m.Pass t → Q .non H := fun h => hn fun ⟨n, e, h0, h1⟩ => h (e ▸ (K7m.num_bwd h0 h1).1)
  refine fork (fun σ' H' => σ' = [some (V.str t), some (V.str (K7m.fig t))] ∧ H' = H) ?_ fun J j => ?_
  rotate_left
  · refine ⟨_, rfl, _, rfl, t, rfl, hl, rfl, _, rfl, ite2 (fun c => ?_) (fun c => ?_)⟩
    · have c' := of_decide_eq_true c
      injection c' with c'
      refine ⟨_, rfl, _, rfl, t, rfl, hl, j _ _ ⟨?_, rfl⟩⟩
      unfold K7m.fig
      rw [if_pos (beq_iff_eq.mpr c')]; rfl
    · refine ⟨_, rfl, j _ _ ⟨?_, rfl⟩⟩
      unfold K7m.fig
      rw [if_neg (fun z => c (decide_eq_true (by rw [eq_of_beq z])))]; rfl
  rintro σ' H' ⟨rfl, rfl⟩
  have fl : (K7m.fig t).length ≤ 100000 := by
    unfold K7m.fig
    split
    · exact Nat.le_trans (Txt.slice_le t _ _) hl
    · exact hl
  have size : (K7m.fig t).length ≤ sizeLine := by rw [sizeLine_eq]; omega
  refine hold fun J j => ?_
  refine ⟨_, rfl, rfl, _, rfl, ite2 (fun c => ?_) (fun c => ?_)⟩
  · exact iteT (no fun p => p.ne (by have := of_decide_eq_true c; injection this))
  refine ⟨_, rfl, _, rfl, size, _, _, rfl, rfl, _, rfl, ite2 (fun c2 => ?_) (fun c2 => ?_)⟩
  · exact iteT (no fun p => by have := p.len; have := of_decide_eq_true c2; omega)
  refine ⟨_, rfl, rfl, _, _, rfl, rfl, fl, rfl, _, rfl, ite2 (fun c3 => ?_) (fun c3 => ?_)⟩
  · exact iteT (no fun p => by
      have e : V.str (Txt.stripChars (K7m.fig t) (Str.ofString "0123456789")) = V.str (Str.ofString "") := congrArg V.str p.dig
      rw [decide_eq_true e] at c3; cases c3)
  have ne : K7m.fig t ≠ T "" := fun z => c (decide_eq_true (congrArg V.str z))
  have len4 : (K7m.fig t).length ≤ 4 := by
    have : ¬ (4 : Int) < ((K7m.fig t).length : Int) := fun z => c2 (decide_eq_true z)
    omega
  have dg : Txt.stripChars (K7m.fig t) K7m.digs = T "" := by
    have e : V.str (Txt.stripChars (K7m.fig t) (Str.ofString "0123456789")) = V.str (Str.ofString "") := Classical.byContradiction fun z => c3 (by rw [decide_eq_false z]; rfl)
    injection e
  obtain ⟨c0, r0, hc0⟩ : ∃ c r, K7m.L (K7m.fig t) = c :: r := by
    cases h : K7m.L (K7m.fig t) with
    | nil => exact absurd (K7m.L_inj (by rw [h, K7m.T_none]; rfl)) ne
    | cons c r => exact ⟨c, r, rfl⟩
  have fin : K7m.Pass t → J { nx := fun x H' => Q V.non H', rt := Q } [some (V.str t), some (V.str (K7m.fig t))] H' := fun p => j _ _ _ (by
    obtain ⟨n, h1, h2, h3⟩ := K7m.num_fwd p
    have out : ¬ (-1000 ≤ n ∧ n ≤ 1000) → Q .non H' := fun z => hn fun ⟨m, e, m0, m1⟩ => by
      have a := (K7m.num_bwd m0 m1).2.1
      rw [← e, h1] at a
      have a' := Option.some.inj a
      omega
    refine ⟨_, rfl, _, rfl, t, n, rfl, h1, by omega, _, _, rfl, rfl, _, rfl, ite2 (fun d1 => ?_) (fun d1 => ?_)⟩
    · have d1' : -1000 ≤ n := of_decide_eq_true d1
      refine ⟨_, _, rfl, rfl, _, rfl, ite2 (fun d2 => ?_) (fun d2 => ?_)⟩
      · exact ⟨_, rfl, t, n, rfl, h1, by omega, hy n h2 d1' (of_decide_eq_true d2)⟩
      · exact out fun z => d2 (decide_eq_true z.2)
    · exact ⟨_, rfl, iteF (out fun z => d1 (decide_eq_true z.1))⟩)
  refine ⟨_, rfl, _, _, c0, rfl, rfl, size, by show atI (K7m.L (K7m.fig t)) ((0 : Nat) : Int) = _; rw [hc0]; exact atI_nat rfl, rfl, _, rfl, ite2 (fun c4 => ?_) (fun c4 => ?_)⟩
  · refine ⟨_, rfl, rfl, _, rfl, ite2 (fun c5 => ?_) (fun c5 => ?_)⟩
    · exact no fun p => by
        have e1 := of_decide_eq_true c4
        injection e1 with e1
        have e2 := p.zero (by rw [K7m.item0 hc0]; exact e1)
        rw [decide_eq_true (congrArg V.str e2)] at c5; cases c5
    · have e2 : V.str t = V.str (Str.ofString "0") := Classical.byContradiction fun z => c5 (by rw [decide_eq_false z]; rfl)
      injection e2 with e2
      exact fin ⟨ne, len4, dg, fun _ => e2⟩
  · exact iteF (fin ⟨ne, len4, dg, fun z => absurd (decide_eq_true (congrArg V.str ((K7m.item0 hc0).symm.trans z))) c4⟩)
end
end K7a
set_option Elab.async false
set_option linter.all false
set_option maxRecDepth 100000
set_option maxHeartbeats 4000000
namespace K7a
open PySem L2 Hull PySem.C
open K7m (sI wd writ T)
seal L2.PE L2.PT L2.PW L2.PA L2.PS L2.PSs L2.PG L2.PGs L2.PF L2.PI L2.PO
section
variable {P : Program} {w : World} {K : PySem.W.Frag} {mg : Str → Option Value} {base : Heap} {f : Addr} {fd : FuncData}
inductive sp_in (K : PySem.W.Frag) (vs : List V) (H : Hp) (Q : VK) (x_3 : XK) : Prop where
  | mk (t : Str) (h_0 : vs = [.str t]) (h_1 : t.length ≤ 100000) (h_2 : ∀ h : List Hull.P, K7m.Ok h → t = writ h → ∀ o ys H', Same H H' → H o = none → H' o = some (.lst ys) → Dns K H' (h.map spotD) ys → Q (.ref o) H')
    (h_3 : (¬ ∃ h : List Hull.P, K7m.Ok h ∧ t = writ h) → ∀ H', Same H H' → Q .non H')
theorem ok_in (B : Bl mg) (C__law_number : Cal P w K mg base 1 "_law_number" sp_number) (F : Fun K "_law_in" "_law_in" s__law_in f fd) : FnOk P w K mg base CX0 2 f fd ["_law_text"] (sp_in K) := by
  refine F.ok sc__law_in (fun vs H Q E h => ?_) (fun cdv A outer s H vs Q E hr h => ?_)
  · obtain ⟨t, rfl, _⟩ := h
    rfl
  obtain ⟨t, rfl, hl, hy, hn⟩ := h
  refine ⟨_, (pss_cons (ps_set (i := 1) sc__law_in.nd rfl (Or.inl rfl) (pe_lst pa_nil))
    (pss_cons (ps_for PassesOwn.never rfl (pi_list (pe_bm PySem.F.plainAttrs_str PySem.F.slot_str_split PySem.F.type_str_split mt_split (pv 0) (pa_cons pe_str pa_nil))) (pg_name (i := 2) sc__law_in.nd rfl (Or.inl rfl)) (pss_cons (ps_asg (pe_bm PySem.F.plainAttrs_str PySem.F.slot_str_partition PySem.F.type_str_partition mt_partition (pv 2) (pa_cons pe_str pa_nil)) (pg_tup rfl (pgs_cons (pg_name (i := 3) sc__law_in.nd rfl (Or.inl rfl)) (pgs_cons (pg_name (i := 4) sc__law_in.nd rfl (Or.inl rfl)) (pgs_cons (pg_name (i := 5) sc__law_in.nd rfl (Or.inl rfl)) pgs_nil)))))
    (pss_cons (ps_if (PW.pt (pw_or (pt_cmpR op_eq (pv 4) pe_str (nomark _)) (pw_or (pt_cmpR op_isN (pe_c C__law_number (hr.mono (by decide)) (by rfl) (pa_cons (pv 3) pa_nil)) pe_non (nomark _)) (pw_or1 (pt_cmpR op_isN (pe_c C__law_number (hr.mono (by decide)) (by rfl) (pa_cons (pv 5) pa_nil)) pe_non (nomark _)))))) (pss_one (ps_ret pe_non)) pss_nil)
    (pss_one (ps_expr (pe_bm PySem.F.plainAttrs_list PySem.F.slot_list_append PySem.F.type_list_append mt_append (pv 1) (pa_cons (pe_tup (pa_cons (pe_c C__law_number (hr.mono (by decide)) (by rfl) (pa_cons (pv 3) pa_nil)) (pa_cons (pe_c C__law_number (hr.mono (by decide)) (by rfl) (pa_cons (pv 5) pa_nil)) pa_nil))) pa_nil)))))))
    (pss_one (ps_ret (pe_ifExp (pt_cmpR op_lt (pe_callB call_len_seq (by rfl) B.len PySem.L3.boot_len (pa_cons (pv 1) pa_nil)) pe_int (nomark _)) (pv 1) pe_non))))), ?_⟩
  have ws5 := K7m.split_small (y := T " ") hl
  generalize hws : Txt.split t (T " ") = ws at ws5
  have wlen : ws.length ≤ 100002 := by have := PyProof.Rows.split_le t (T " "); rw [hws] at this; omega
  have mem_len : ∀ w ∈ ws, w.length ≤ 100000 := fun w hw => by
    rw [← hws, K7m.T_blank] at hw
    have := (K7m.split_mem hw).2; omega
  refine ⟨Nat.zero_le _, fun l hll => ?_⟩
  have e0 := same_new hll (HO.lst [])
  refine ⟨_, rfl, rfl, t, _, rfl, rfl, rfl, hl, by show (Txt.split t (T " ")).length ≤ _; rw [hws]; exact ws5, fun p hp => ?_⟩
  have ep := e0.trans (same_new hp (HO.lst (ws.map V.str)))
  have npl : l ≠ p := fun z => by rw [← z, upd_same] at hp; cases hp
  have hpH := same_no e0 hp
  have hw0 : Txt.split t (Str.ofString " ") = ws := hws
  rw [hw0]
  refine ⟨p, rfl, ⟨_, SqL.of upd_same⟩, ?_⟩
  refine for_list (xs := ws.map V.str) (fun i σ' H' => ∃ (h : List Hull.P) (zs : List V) (o2 o3 o4 o5 : Option V), σ' = [some (V.str t), some (V.ref l), o2, o3, o4, o5] ∧ Same H H' ∧ H' p = some (.lst (ws.map V.str)) ∧ H' l = some (.lst zs) ∧ Dns K H' (h.map spotD) zs ∧ (∀ q ∈ h, K7m.In q) ∧ ws.take i = h.map wd ∧ i ≤ ws.length)
    ⟨[], [], none, none, none, none, rfl, ep, upd_same, by rw [upd_ne npl, upd_same], dns_nil, by simp, rfl, Nat.zero_le _⟩ (fun i σ' H' _ h => ?_) ?_ ?_
  · obtain ⟨_, _, _, _, _, _, _, _, hpp, _⟩ := h
    exact SqL.of hpp
  · rintro i x σ' H1 hx ⟨h, zs, o2, o3, o4, o5, rfl, e1, hpp, hl1, dz, hin, hwd, hi⟩
    rw [List.getElem?_map] at hx
    obtain ⟨wo, hwo, rfl⟩ := Option.map_eq_some_iff.mp hx
    have hlt : i < ws.length := (List.getElem?_eq_some_iff.mp hwo).1
    have hlen := mem_len wo (List.mem_of_getElem? hwo)
    have zl : zs.length = h.length := by have := dz.length; rwa [List.length_map] at this
    have hl2 : h.length = i := by have := congrArg List.length hwd; rw [List.length_map, List.length_take] at this; omega
    have bad : (¬ ∃ q : Hull.P, K7m.In q ∧ wo = wd q) → ∀ H', Same H H' → Q .non H' := fun hb => hn fun ⟨g, og, eg⟩ => by
      have := K7m.split_writ og
      rw [← eg, hws] at this
      rw [this, List.getElem?_map] at hwo
      obtain ⟨q, hq, rfl⟩ := Option.map_eq_some_iff.mp hwo
      exact hb ⟨q, og.2.2 q (List.mem_of_getElem? hq), rfl⟩
    refine ⟨_, rfl, rfl, wo, _, rfl, rfl, rfl, hlen, fun u hu => ?_⟩
    have hpt0 : Txt.partition wo (Str.ofString ",") = Txt.partition wo (T ",") := rfl
    rw [hpt0]
    have bk := K7m.part_back (w := wo)
    have pq : ∀ q : Hull.P, K7m.In q → wo = wd q → Txt.partition wo (T ",") = (sI q.1, T ",", sI q.2) := fun q iq e => by rw [e]; exact K7m.part_wd iq
    have pl := PyProof.Rows.fact_partition wo (T ",")
    generalize hpt : Txt.partition wo (T ",") = pt at bk pq pl
    obtain ⟨p1, p2, p3⟩ := pt
    dsimp only at bk pl ⊢
    have eu := same_new hu (HO.tup [V.str p1, V.str p2, V.str p3])
    refine ⟨u, _, rfl, SqT.of upd_same, rfl, ?_⟩
    show gCons (gName 3) (gCons (gName 4) (gCons (gName 5) gNil)) [V.str p1, V.str p2, V.str p3] _ _ _
    refine ⟨_, _, rfl, _, _, rfl, _, _, rfl, rfl, hold fun J2 j2 => ?_⟩
    have no : (¬ ∃ q : Hull.P, K7m.In q ∧ wo = wd q) → Q .non (upd H1 u (HO.tup [V.str p1, V.str p2, V.str p3])) := fun z => bad z _ (e1.trans eu)
    refine ⟨_, rfl, rfl, _, rfl, ite2 (fun c => ?_) (fun c => ?_)⟩
    · refine iteT (no fun ⟨q, iq, eq⟩ => ?_)
      have := pq q iq eq
      injection this with _ z
      injection z with z _
      have c' := of_decide_eq_true c
      injection c' with c'
      rw [z] at c'
      exact absurd c' (by decide +kernel)
    have wo_eq : wo = p1 ++ T "," ++ p3 := bk fun z => c (decide_eq_true (congrArg V.str z))
    refine ⟨_, rfl, p1, rfl, by omega, fun n1 en1 a0 a1 => ?_, fun hno => ?_⟩
    rotate_left
    · refine ⟨rfl, _, rfl, iteT (iteT (no fun ⟨q, iq, eq⟩ => ?_))⟩
      have := pq q iq eq
      injection this with z _
      exact hno ⟨q.1, z, iq.1, iq.2.1⟩
    refine ⟨rfl, _, rfl, iteF ?_⟩
    refine ⟨_, rfl, p3, rfl, by omega, fun n2 en2 b0 b1 => ?_, fun hno => ?_⟩
    rotate_left
    · refine ⟨rfl, _, rfl, iteT (no fun ⟨q, iq, eq⟩ => ?_)⟩
      have := pq q iq eq
      injection this with _ z
      injection z with _ z
      exact hno ⟨q.2, z, iq.2.2.1, iq.2.2.2⟩
    refine ⟨rfl, _, rfl, iteF (j2 _ _ _ ?_)⟩
    have hl3 := eu _ _ hl1
    refine ⟨_, rfl, .inl ⟨rfl, _, SqL.of hl3⟩, ?_⟩
    refine ⟨_, rfl, p1, rfl, by omega, fun m1 em1 c0 c1 => ?_, fun hno => absurd ⟨n1, en1, a0, a1⟩ hno⟩
    refine ⟨_, rfl, p3, rfl, by omega, fun m2 em2 d0 d1 => ?_, fun hno => absurd ⟨n2, en2, b0, b1⟩ hno⟩
    refine ⟨by show 2 ≤ sizeLine; decide, fun v hv => ?_⟩
    have ev := same_new hv (HO.tup [V.int m1, V.int m2])
    have hl4 := ev _ _ hl3
    refine ⟨l, zs, .ref v, rfl, rfl, hl4, by rw [sizeLine_eq]; omega, ?_⟩
    have e2 := e1.trans (eu.trans ev)
    refine ⟨h ++ [(m1, m2)], zs ++ [.ref v], _, _, _, _, rfl, same_upd hll e2, ?_, upd_same, ?_, fun q hq => ?_, ?_, hlt⟩
    · rw [upd_ne (Ne.symm npl)]
      exact ev _ _ (eu _ _ hpp)
    · rw [List.map_append]
      exact (spots_upd hl4 ((eu.trans ev).dns dz)).append (dns_cons (spot_upd (p := (m1, m2)) hl4 (dn_spot (SqT.of upd_same))) dns_nil)
    · rcases List.mem_append.mp hq with g | g
      · exact hin q g
      · rw [List.mem_singleton.mp g]; exact ⟨c0, c1, d0, d1⟩
    · rw [List.take_add_one, hwd, hwo, List.map_append]
      show _ ++ [wo] = _ ++ [wd (m1, m2)]
      rw [wo_eq, em1, em2]; rfl
  · rintro σ' H1 ⟨h, zs, o2, o3, o4, o5, rfl, e1, hpp, hl1, dz, hin, hwd, hi⟩
    have hlm : (ws.map V.str).length = ws.length := List.length_map _
    rw [hlm, List.take_of_length_le (Nat.le_refl _)] at hwd
    have te := K7m.words_back t h (hws.trans hwd)
    have zl : zs.length = h.length := by have := dz.length; rwa [List.length_map] at this
    have hne : h ≠ [] := fun z => K7m.split_ne t (T " ") (by rw [hws, hwd, z]; rfl)
    refine ⟨_, rfl, l, zs, rfl, .inl (SqL.of hl1), _, _, rfl, rfl, _, rfl, ite2 (fun c => ?_) (fun c => ?_)⟩
    · have c' := of_decide_eq_true c
      exact ⟨_, rfl, hy h ⟨hne, by omega, hin⟩ te l zs _ e1 hll hl1 dz⟩
    · refine hn (fun ⟨g, og, eg⟩ => ?_) _ e1
      have := K7m.split_writ og
      rw [← eg, hws, hwd] at this
      have l1 := congrArg List.length this
      rw [List.length_map, List.length_map] at l1
      have c' : ¬ ((zs.length : Nat) : Int) < 9 := fun z => c (decide_eq_true z)
      have := og.2.1
      omega
end
end K7a
set_option Elab.async false
set_option linter.all false
set_option maxRecDepth 100000
set_option maxHeartbeats 4000000
namespace K7a
open PySem L2 Hull PySem.C
open K7m (sI wd writ T)
seal L2.PE L2.PT L2.PW L2.PA L2.PS L2.PSs L2.PG L2.PGs L2.PF L2.PI L2.PO
section
variable {P : Program} {w : World} {K : PySem.W.Frag} {mg : Str → Option Value} {base : Heap} {f : Addr} {fd : FuncData}
inductive sp_rn (C : Addr) (vs : List V) (H : Hp) (Q : VK) (E : XK) : Prop where
  | mk (a : Str) (r : Option Int) (h_0 : vs = [.str a]) (h_1 : K7m.Rd a r) (h_2 : ∀ n, r = some n → Q (.int n) H) (h_3 : r = none → E (.ref C) none H)
theorem ok_rn {C : Addr} (ND : base.NoDigits) (B : Bl mg) (O_BadText : EO mg base "BadText" C) (F : Fun K "read_number" "read_number" s_read_number f fd) : FnC P w K mg base 1 f fd ["word"] (sp_rn C) := by
  refine F.okc sc_read_number (fun vs H Q E h => ?_) (fun cdv _ A outer s H vs Q E hr h => ?_)
  · obtain ⟨a, r, rfl, _⟩ := h
    rfl
  obtain ⟨a, r, rfl, hr', hy, hn⟩ := h
  refine ⟨_, (pssC_one (psC_intTry ND O_BadText.own PySem.F.excBase_ValueError (by rfl) B.int (by rfl) B.ValueError (by rfl) (fun _ => (pv 0)) (by decide))), ?_⟩
  refine ⟨_, rfl, a, rfl, ?_⟩
  rcases hr' with ⟨n, e, ok, _⟩ | ⟨e, h1, h2, h3⟩
  · exact .inl ⟨n, ok, hy n e⟩
  · exact .inr ⟨h1, h2, h3, hn e⟩
theorem pairs_T {H : Hp} : ∀ {nss : List (List Int)} {zs : List V}, K7m.F2 (fun ns v => ∃ a, v = V.ref a ∧ H a = some (.tup (ns.map V.int))) nss zs → Paired (PairT H) zs (nss.map fun ns => pairB (ns.map V.int))
  | _, _, .nil => .nil
  | _, _, .cons (a := ns) ⟨a, rfl, h⟩ t => .cons (.tup h fun x hx => by
      obtain ⟨n, _, rfl⟩ := List.mem_map.mp hx
      rfl) (pairs_T t)
theorem pair_ints {ns : List Int} (h : pairB (ns.map V.int) = true) : ∃ p : Hull.P, ns = [p.1, p.2] ∧ Bd p := by
  unfold pairB at h
  obtain ⟨h1, h2⟩ := Bool.and_eq_true_iff.mp h
  have h1 := of_decide_eq_true h1
  rw [List.length_map] at h1
  match ns, h1 with
  | [x, y], _ =>
    simp only [List.map_cons, List.map_nil, List.all_cons, List.all_nil, Bool.and_true, numB, Bool.and_eq_true, decide_eq_true_eq] at h2
    exact ⟨(x, y), rfl, ⟨h2.1.1, h2.1.2⟩, h2.2.1, h2.2.2⟩
theorem pairs_ints : ∀ {nss : List (List Int)}, (nss.map fun ns => pairB (ns.map V.int)).all id = true → ∃ h : List Hull.P, nss = h.map (fun p => [p.1, p.2]) ∧ ∀ p ∈ h, Bd p
  | [], _ => ⟨[], rfl, by simp⟩
  | ns :: nss, e => by
    simp only [List.map_cons, List.all_cons, id, Bool.and_eq_true] at e
    obtain ⟨p, rfl, hp⟩ := pair_ints e.1
    obtain ⟨h, rfl, hh⟩ := pairs_ints e.2
    exact ⟨p :: h, rfl, fun q hq => by rcases List.mem_cons.mp hq with rfl | z; exact hp; exact hh q z⟩
theorem dns_T {H : Hp} : ∀ {h : List Hull.P} {zs : List V}, K7m.F2 (fun ns v => ∃ a, v = V.ref a ∧ H a = some (.tup (ns.map V.int))) (h.map fun p => [p.1, p.2]) zs → Dns K H (h.map spotD) zs
  | [], _, .nil => dns_nil
  | p :: h, _, .cons ⟨a, rfl, ha⟩ t => dns_cons (dn_spot (SqT.of ha)) (dns_T t)
inductive sp_read (K : PySem.W.Frag) (C : Addr) (vs : List V) (H : Hp) (Q : VK) (E : XK) : Prop where
  | bad (x : V) (tt : Value) (h_0 : vs = [x]) (h_1 : TyOf K H x tt) (h_2 : PySem.W.kitOne K tt (.type "str") = some false) (h_3 : E (.ref C) none H)
  | txt (t : Str) (h_0 : vs = [.str t]) (h_1 : K7m.Words t) (h_2 : ∀ h : List Hull.P, K7m.Ok h → t = writ h → ∀ o ys H', Same H H' → H o = none → H' o = some (.lst ys) → Dns K H' (h.map spotD) ys → Q (.ref o) H')
    (h_3 : (¬ ∃ h : List Hull.P, K7m.Ok h ∧ t = writ h) → ∀ H', Same H H' → E (.ref C) none H')
theorem ok_read {C : Addr} (B : Bl mg) (O_BadText : EO mg base "BadText" C) (CC_read_number : CalC P w K mg base 1 "read_number" (sp_rn C)) (CT_is_herd : Cal P w K mg base 3 "is_herd" sp_herdT) (C_written : Cal P w K mg base 5 "written" (sp_written K))
    (F : Fun K "read" "read" s_read f fd) : FnC P w K mg base 6 f fd ["text"] (sp_read K C) := by
  refine F.okc sc_read (fun vs H Q E h => ?_) (fun cdv _ A outer s H vs Q E hr h => ?_)
  · rcases h with ⟨x, tt, rfl, _⟩ | ⟨t, rfl, _⟩ <;> rfl
  refine ⟨_, (pssC_cons (PS.c (ps_if (pt_not (pt_val (pe_callB call_isinstance (by rfl) B.isinstance PySem.L3.boot_isinstance (pa_cons (pv 0) (pa_cons (pe_bltn (v := .ty "str") (by rfl) B.str PySem.L3.boot_str rfl) pa_nil))))) (pss_one (ps_raise O_BadText.own PySem.F.excBase_ValueError (by rfl) pe_str)) pss_nil))
    (pssC_cons (PS.c (ps_setComp (i := 1) (Nc := ["word"]) (fi := [none]) (comp_sc rfl rfl rfl) rfl (comp_from_go rfl) sc_read.nd rfl rfl (pi_list (pe_bm PySem.F.plainAttrs_str PySem.F.slot_str_split PySem.F.type_str_split mt_split (pv 0) (pa_cons pe_str pa_nil))) (fun _ _ _ _ => ⟨(pg_name (i := 0) (show (["word"] : List Str).Nodup by decide +kernel) rfl (Or.inl rfl)), pf_nil, (pe_bm PySem.F.plainAttrs_str PySem.F.slot_str_split PySem.F.type_str_split mt_split (pv 0) (pa_cons pe_str pa_nil))⟩) rfl))
    (pssC_cons (psC_setComp (i := 2) (Nc := ["numbers"]) (fi := [none]) (comp_sc rfl rfl rfl) rfl (comp_from_go rfl) rfl ⟨_, _, rfl, rfl⟩ passF sc_read.nd rfl rfl (pi_list (pv 1)) (fun _ _ _ _ => ⟨(pg_name (i := 0) (show (["numbers"] : List Str).Nodup by decide +kernel) rfl (Or.inl rfl)), (peC_callTy call_tuple_of (by rfl) B.tuple PySem.L3.boot_tuple (peC_comp (Nc := ["number"]) (fi := [none]) (comp_sc rfl rfl rfl) rfl (comp_from_go rfl) rfl ⟨_, _, rfl, rfl⟩ XEof.pass (pi_list (pv 0)) (fun _ _ _ _ => ⟨(pg_name (i := 0) (show (["number"] : List Str).Nodup by decide +kernel) rfl (Or.inl rfl)), (peC_c CC_read_number (hr.mono (by decide)) XEof.pass.one (by rfl) (pa_cons (pv 0) pa_nil))⟩)))⟩) rfl)
    (pssC_cons (PS.c (ps_if (PW.pt (pw_or (pt_not (pt_val (pe_c CT_is_herd (hr.mono (by decide)) (by rfl) (pa_cons (pv 2) pa_nil)))) (pw_or1 (pt_cmpR op_ne (pe_c C_written (hr.mono (by decide)) (by rfl) (pa_cons (pv 2) pa_nil)) (pv 0) (nomark _))))) (pss_one (ps_raise O_BadText.own PySem.F.excBase_ValueError (by rfl) pe_str)) pss_nil))
    (pssC_one (PS.c (ps_ret (pv 2)))))))), ?_⟩
  rcases h with ⟨x, tt, rfl, ty, kt, q⟩ | ⟨t, rfl, hw, hy, hn⟩
  · exact ⟨_, rfl, _, "str", tt, false, rfl, ty, kt, _, rfl, iteT q⟩
  refine hold fun J0 j0 => ?_
  refine ⟨_, rfl, _, "str", _, true, rfl, .str t, rfl, _, rfl, iteF (j0 _ _ _ ?_)⟩
  clear j0 J0
  obtain ⟨tl, hwd⟩ := hw
  have ws5 := K7m.split_small (y := T " ") tl
  have tall := fun (w : Str) (hw : w ∈ Txt.split t (T " ")) => hwd w hw
  have fail := fun (w a : Str) (hw : w ∈ Txt.split t (T " ")) => K7m.no_fail (t := t) (w := w) (a := a) hw
  have alln := fun (nss : List (List Int)) (h : K7m.NumsOf (Txt.split t (T " ")) nss) => @K7m.all_nums t nss h
  have mem_len : ∀ w ∈ Txt.split t (T " "), w.length ≤ 100000 := fun w hw => by
    rw [K7m.T_blank] at hw
    have := (K7m.split_mem hw).2; omega
  generalize hws : Txt.split t (T " ") = ws at ws5 tall fail alln mem_len
  have hws0 : Txt.split t (Str.ofString " ") = ws := hws
  refine fork (fun σ' H' => ∃ q zs, σ' = [some (V.str t), some (V.ref q), none] ∧ Same H H' ∧ H' q = some (.lst zs) ∧ K7m.F2 (fun w v => ∃ a, v = V.ref a ∧ H' a = some (.lst ((Txt.split w (T ",")).map V.str))) ws zs) ?_ fun J j => ?_
  rotate_left
  · refine ⟨_, rfl, rfl, t, _, rfl, rfl, rfl, tl, by rw [hws0]; exact ws5, fun p hp => ?_⟩
    rw [hws0]
    refine ⟨p, rfl, ⟨_, SqL.of upd_same⟩, fun _ _ _ _ l hl => ?_⟩
    have npl : l ≠ p := fun z => by rw [z, upd_same] at hl; cases hl
    refine comp_by ws.length ws5 (fun i zs σ' Hc => Same H Hc ∧ Hc p = some (.lst (ws.map V.str)) ∧ Hc l = some (.lst zs) ∧ K7m.F2 (fun w v => ∃ a, v = V.ref a ∧ a ≠ l ∧ Hc a = some (.lst ((Txt.split w (T ",")).map V.str))) (ws.take i) zs ∧ i ≤ ws.length ∧ σ'.length = 1) ?_ (fun i zs σ' Hc ⟨_, _, e, y, hi, _⟩ => ⟨e, by rw [← y.length, List.length_take]; omega⟩) ?_ ?_
    · exact ⟨(same_new hp _).trans (same_new hl _), by rw [upd_ne (Ne.symm npl)]; exact upd_same, upd_same, .nil, Nat.zero_le _, rfl⟩
    · rintro i zs σ' Hc hi ⟨e, ep, el, fz, _, hσ⟩
      refine ⟨⟨_, V.str ws[i], SqL.of ep, by simp [hi]⟩, fun x H' y Kt Kf k1 _ => ?_⟩
      obtain ⟨rfl, hx⟩ := y
      have hx' := hx _ (SqL.of ep)
      rw [List.getElem?_map, List.getElem?_eq_getElem hi] at hx'
      obtain rfl : V.str ws[i] = x := Option.some.inj hx'
      have hml := mem_len ws[i] (List.getElem_mem hi)
      match σ', hσ with
      | [c], _ =>
        simp only [gName, tYes, ↓reduceIte]
        refine ⟨_, rfl, rfl, ws[i], _, rfl, rfl, rfl, hml, K7m.split_small hml, fun u hu => ?_⟩
        have eu := same_new hu (HO.lst ((Txt.split ws[i] (Str.ofString ",")).map V.str))
        have nul : u ≠ l := fun z => by rw [z, el] at hu; cases hu
        have hlH : H l = none := same_no (same_new hp _) hl
        refine k1 _ _ _ (eu _ _ el) ⟨same_upd hlH (e.trans eu), by rw [upd_ne (Ne.symm npl)]; exact eu _ _ ep, upd_same, ?_, hi, rfl⟩
        rw [List.take_add_one, List.getElem?_eq_getElem hi]
        refine K7m.F2.snoc (fz.mono fun w v ⟨a, h1, h2, h3⟩ => ⟨a, h1, h2, by rw [upd_ne h2]; exact eu _ _ h3⟩) ⟨u, rfl, nul, by rw [upd_ne nul]; exact upd_same⟩
    · rintro zs σ' Hc ⟨e, ep, el, fz, _, _⟩
      rw [List.take_of_length_le (Nat.le_refl _)] at fz
      exact ⟨⟨_, SqL.of ep, by rw [List.length_map]; exact Nat.le_refl _⟩, j _ _ ⟨l, zs, rfl, e, el, fz.mono fun w v ⟨a, h1, _, h3⟩ => ⟨a, h1, h3⟩⟩⟩
  rintro σ1 H1 ⟨q, zw, rfl, e1, hq, fw⟩
  have zwl := fw.length
  refine fork (fun σ' H' => ∃ o zs nss, σ' = [some (V.str t), some (V.ref q), some (V.ref o)] ∧ Same H H' ∧ H o = none ∧ H' o = some (.lst zs) ∧ K7m.NumsOf ws nss ∧ K7m.F2 (fun ns v => ∃ a, v = V.ref a ∧ H' a = some (.tup (ns.map V.int))) nss zs) ?_ fun J j => ?_
  rotate_left
  · refine ⟨_, rfl, q, rfl, ⟨_, SqL.of hq⟩, fun _ _ _ _ l hl => ?_⟩
    refine comp_by ws.length ws5 (fun i zs σ' Hc => Same H1 Hc ∧ Hc l = some (.lst zs) ∧ (∃ nss, K7m.NumsOf (ws.take i) nss ∧ K7m.F2 (fun ns v => ∃ a, v = V.ref a ∧ a ≠ l ∧ Hc a = some (.tup (ns.map V.int))) nss zs) ∧ i ≤ ws.length ∧ σ'.length = 1) ?_ (fun i zs σ' Hc ⟨_, e, ⟨nss, y1, y2⟩, hi, _⟩ => ⟨e, by rw [← y2.length, ← y1.length, List.length_take]; omega⟩) ?_ ?_
    · exact ⟨same_new hl _, upd_same, ⟨[], .nil, .nil⟩, Nat.zero_le _, rfl⟩
    · rintro i zs σ' Hc hi ⟨e, el, ⟨nss, fn, fz⟩, _, hσ⟩
      refine ⟨⟨_, zw[i]'(by omega), SqL.of (e _ _ hq), by simp [zwl ▸ hi]⟩, fun x H' y Kt Kf k1 _ => ?_⟩
      obtain ⟨rfl, hx⟩ := y
      have hx' := hx _ (SqL.of (e _ _ hq))
      obtain ⟨wo, hwo, a, rfl, ha⟩ := fw.get hx'
      have hwm : wo ∈ ws := List.mem_of_getElem? hwo
      have hml := mem_len wo hwm
      have hps := K7m.split_small (y := T ",") hml
      have rdw := tall wo hwm
      have flw := fun a => fail wo a hwm
      generalize hpr : Txt.split wo (T ",") = parts at hps rdw flw ha
      match σ', hσ with
      | [c], _ =>
        simp only [gName, tYes, ↓reduceIte]
        refine ⟨_, rfl, a, rfl, ⟨_, SqL.of (e _ _ ha)⟩, fun _ _ _ _ m hm => ?_⟩
        refine comp_by parts.length hps (fun k ys σ'' Hd => Same H' Hd ∧ Hd m = some (.lst ys) ∧ (∃ ns, K7m.Nums (parts.take k) ns ∧ ys = ns.map V.int) ∧ k ≤ parts.length ∧ σ''.length = 1) ?_ (fun k ys σ'' Hd ⟨_, e, ⟨ns, y1, y2⟩, hi, _⟩ => ⟨e, by rw [y2, List.length_map, ← y1.length, List.length_take]; omega⟩) ?_ ?_
        · exact ⟨same_new hm _, upd_same, ⟨[], .nil, rfl⟩, Nat.zero_le _, rfl⟩
        · rintro k ys σ'' Hd hk ⟨ed, em, ⟨ns, fns, rfl⟩, _, hσ2⟩
          have had := ed _ _ (e _ _ ha)
          refine ⟨⟨_, V.str parts[k], SqL.of had, by simp [hk]⟩, fun x H'' y Kt' Kf' k1' _ => ?_⟩
          obtain ⟨rfl, hx2⟩ := y
          have hx3 := hx2 _ (SqL.of had)
          rw [List.getElem?_map, List.getElem?_eq_getElem hk] at hx3
          obtain rfl : V.str parts[k] = x := Option.some.inj hx3
          obtain ⟨r, hrd⟩ := rdw parts[k] (List.getElem_mem hk)
          match σ'', hσ2 with
          | [c2], _ =>
            simp only [gName, tYes, ↓reduceIte]
            refine ⟨_, rfl, parts[k], r, rfl, hrd, fun n en => ?_, fun en => ?_⟩
            · refine k1' _ _ _ em ⟨same_upd hm ed, upd_same, ⟨ns ++ [n], ?_, by rw [List.map_append]; rfl⟩, hk, rfl⟩
              rw [List.take_add_one, List.getElem?_eq_getElem hk]
              exact K7m.F2.snoc fns (by rw [← en]; exact hrd)
            · exact hn (flw parts[k] (List.getElem_mem hk) (by rw [← en]; exact hrd)) _ (e1.trans (e.trans ed))
        · rintro ys σ'' Hd ⟨ed, em, ⟨ns, fns, rfl⟩, _, _⟩
          rw [List.take_of_length_le (Nat.le_refl _)] at fns
          refine ⟨⟨_, SqL.of (ed _ _ (e _ _ ha)), by rw [List.length_map]; exact Nat.le_refl _⟩, m, _, rfl, .inl ⟨SqL.of em, fun u hu => ?_⟩⟩
          have eu := same_new hu (HO.tup (ns.map V.int))
          have nul : u ≠ l := fun z => by rw [z, ed _ _ el] at hu; cases hu
          refine k1 _ _ _ (eu _ _ (ed _ _ el)) ⟨same_upd hl (e.trans (ed.trans eu)), upd_same, ⟨nss ++ [ns], ?_, ?_⟩, hi, rfl⟩
          · rw [List.take_add_one, hwo]
            exact K7m.F2.snoc fn (by show K7m.Nums (Txt.split wo (T ",")) ns; rw [hpr]; exact fns)
          · exact K7m.F2.snoc (fz.mono fun ns v ⟨a, h1, h2, h3⟩ => ⟨a, h1, h2, by rw [upd_ne h2]; exact eu _ _ (ed _ _ h3)⟩) ⟨u, rfl, nul, by rw [upd_ne nul]; exact upd_same⟩
    · rintro zs σ' Hc ⟨e, el, ⟨nss, fn, fz⟩, _, _⟩
      rw [List.take_of_length_le (Nat.le_refl _)] at fn
      exact ⟨⟨_, SqL.of (e _ _ hq), by omega⟩, j _ _ ⟨l, zs, nss, rfl, e1.trans e, same_no e1 hl, el, fn, fz.mono fun w v ⟨a, h1, _, h3⟩ => ⟨a, h1, h3⟩⟩⟩
  rintro σ2 H2 ⟨o, zs, nss, rfl, e2, ho0, ho, fn, fz⟩
  have zl := fz.length
  have pr : Paired (PairT H2) zs (nss.map fun ns => pairB (ns.map V.int)) := pairs_T fz
  have good : ∀ g, K7m.Ok g → t = writ g → herdB zs.length (nss.map fun ns => pairB (ns.map V.int)) = true := fun g og eg => by
    have en := alln nss fn og eg
    have h1 : zs.length = g.length := by rw [← zl, en, List.length_map]
    have h0 : 1 ≤ g.length := List.length_pos_iff.mpr og.1
    unfold herdB
    rw [h1, decide_eq_true h0, decide_eq_true og.2.1, en]
    simp only [Bool.true_and, List.map_map, List.all_map, List.all_eq_true]
    intro p hp
    have ip := og.2.2 p hp
    show pairB [V.int p.1, V.int p.2] = true
    unfold pairB
    simp only [List.length_cons, List.length_nil, List.all_cons, List.all_nil, numB, Bool.and_true, Bool.and_eq_true, decide_eq_true_eq]
    exact ⟨trivial, ⟨ip.1, ip.2.1⟩, ip.2.2.1, ip.2.2.2⟩
  refine hold fun J0 j0 => ?_
  refine ⟨_, rfl, .ref o, _, rfl, .lst ho pr, fun H3 e3 => ⟨_, rfl, ite2 (fun c => ?_) (fun c => ?_)⟩⟩
  · refine iteT (hn (fun ⟨g, og, eg⟩ => ?_) _ (e2.trans e3))
    rw [good g og eg] at c; cases c
  have hb : herdB zs.length (nss.map fun ns => pairB (ns.map V.int)) = true := by
    cases z : herdB zs.length (nss.map fun ns => pairB (ns.map V.int)) with
    | true => rfl
    | false => rw [z] at c; exact absurd rfl c
  unfold herdB at hb
  obtain ⟨hb1, hb2⟩ := Bool.and_eq_true_iff.mp hb
  obtain ⟨b1, b2⟩ := Bool.and_eq_true_iff.mp hb1
  have b1 := of_decide_eq_true b1
  have b2 := of_decide_eq_true b2
  obtain ⟨h, rfl, hbd⟩ := pairs_ints hb2
  have hlen : h.length = zs.length := by rw [← zl, List.length_map]
  have dz : Dns K H2 (h.map spotD) zs := dns_T fz
  refine ⟨_, rfl, o, zs, h, rfl, SqL.of (e3 _ _ ho), e3.dns dz, hbd, by omega, by omega, fun H4 e4 => ⟨_, rfl, rfl, _, rfl, ite2 (fun c2 => ?_) (fun c2 => ?_)⟩⟩
  · refine hn (fun ⟨g, og, eg⟩ => ?_) _ (e2.trans (e3.trans e4))
    have en := alln _ fn og eg
    have hg : h = g := by
      have key : ∀ {h g : List Hull.P}, h.map (fun p => [p.1, p.2]) = g.map (fun p => [p.1, p.2]) → h = g := by
        intro h
        induction h with
        | nil => intro g e; cases g with
          | nil => rfl
          | cons q g => simp at e
        | cons p h ih => intro g e; cases g with
          | nil => simp at e
          | cons q g =>
            simp only [List.map_cons, List.cons.injEq, and_true] at e
            rw [ih e.2]
            congr 1
            exact Prod.ext e.1.1 e.1.2
      exact key en
    rw [decide_eq_true (congrArg V.str (by rw [hg, eg]))] at c2; cases c2
  · refine j0 _ _ _ ⟨_, rfl, hy h ⟨fun z => by rw [z] at hlen; simp at hlen; omega, by omega, fun p hp => bd_in (hbd p hp)⟩ ?_ o zs _ (e2.trans (e3.trans e4)) ho0 (e4 _ _ (e3 _ _ ho)) ((e3.trans e4).dns dz)⟩
    have e : V.str (writ h) = V.str t := Classical.byContradiction fun z => c2 (by rw [decide_eq_false z]; rfl)
    injection e with e
    exact e.symm
end
end K7a
set_option Elab.async false
set_option linter.all false
set_option maxRecDepth 100000
set_option maxHeartbeats 4000000
namespace K7a
open PySem L2 Hull PySem.C
open K7m (sI wd writ T)
seal L2.PE L2.PT L2.PW L2.PA L2.PS L2.PSs L2.PG L2.PGs L2.PF L2.PI L2.PO
section
variable {P : Program} {w : World} {K : PySem.W.Frag} {mg : Str → Option Value} {base : Heap} {f : Addr} {fd : FuncData}
structure KT (K : PySem.W.Frag) (cH c1 c2 c3 c4 D : Addr) : Prop where
  ec : ExcCls K D
  he : PySem.W.kitCls K (.ref D) (.ref cH) = some true
  k1 : PySem.W.kitOne K (.ref D) (.ref c1) = some false
  k2 : PySem.W.kitOne K (.ref D) (.ref c2) = some false
  k3 : PySem.W.kitOne K (.ref D) (.ref c3) = some false
  k4 : PySem.W.kitOne K (.ref D) (.ref c4) = some false
  k5 : PySem.W.kitOne K (.ref D) (.ref D) = some true
  k6 : PySem.W.kitOne K (.ref D) (.type "ValueError") = some true
def NoText (K : PySem.W.Frag) (H : Hp) (x : V) : Prop := (∃ tt, TyOf K H x tt ∧ PySem.W.kitOne K tt (.type "str") = some false) ∨ ∃ t, x = .str t ∧ K7m.Words t ∧ ¬ ∃ h : List Hull.P, K7m.Ok h ∧ t = writ h
theorem read_no {K : PySem.W.Frag} {C : Addr} {H : Hp} {x : V} {Q : VK} {E : XK} (hx : NoText K H x) (hs : ∀ H', Same H H' → E (.ref C) none H') : sp_read K C [x] H Q E := by
  rcases hx with ⟨tt, ty, kt⟩ | ⟨t, rfl, hw, hno⟩
  · exact .bad x tt rfl ty kt (hs _ (Same.refl _))
  · exact .txt t rfl hw (fun h oh e => absurd ⟨h, oh, e⟩ hno) fun _ H' e => hs H' e
inductive sp_ref (K : PySem.W.Frag) (vs : List V) (H : Hp) (Q : VK) (x_3 : XK) : Prop where
  | mk (x : V) (h_0 : vs = [x]) (h_1 : NoText K H x) (h_2 : ∀ H', Same H H' → Q (.bl true) H')
theorem ok_ref {c_HerdError c_BadHerd c_BadSpot c_BadWay c_TooFew c_BadText : Addr} (B : Bl mg) (T_HerdError : THE K mg c_HerdError) (T_BadHerd : TxtN mg "BadHerd" c_BadHerd) (T_BadSpot : TxtN mg "BadSpot" c_BadSpot) (T_BadWay : TxtN mg "BadWay" c_BadWay) (T_TooFew : TxtN mg "TooFew" c_TooFew) (T_BadText : TxtN mg "BadText" c_BadText)
    (k : KT K c_HerdError c_BadHerd c_BadSpot c_BadWay c_TooFew c_BadText) (CC_read : CalC P w K mg base 6 "read" (sp_read K c_BadText)) (F : Fun K "_law_refused" "_law_refused" s__law_refused f fd) : FnC P w K mg base 7 f fd ["_law_text"] (sp_ref K) := by
  refine F.okcN sc__law_refused (fun vs H Q E h => ?_) (fun cdv _ A outer s H vs Q E hr h => ?_)
  · obtain ⟨x, rfl, _⟩ := h
    rfl
  obtain ⟨x, rfl, hx, q⟩ := h
  refine ⟨_, (pssC_cons (psC_tryD (j := 1) CC_read (hr.mono (by decide)) (by rfl) rfl rfl rfl (fun _ => (pa_cons (pv 0) pa_nil)) (by rfl) T_HerdError.mg T_HerdError.ba T_HerdError.ks (by decide) sc__law_refused.nd rfl rfl (fun _ => (pss_cons (ps_set (i := 2) sc__law_refused.nd rfl (Or.inl rfl) (pe_lst (pa_cons (pe_callB call_isCt (by rfl) B.isinstance PySem.L3.boot_isinstance (pa_cons (pv 1) (pa_cons (pe_glob (v := .ref c_BadHerd) (by rfl) T_BadHerd.mg rfl) pa_nil))) (pa_cons (pe_callB call_isCt (by rfl) B.isinstance PySem.L3.boot_isinstance (pa_cons (pv 1) (pa_cons (pe_glob (v := .ref c_BadSpot) (by rfl) T_BadSpot.mg rfl) pa_nil))) (pa_cons (pe_callB call_isCt (by rfl) B.isinstance PySem.L3.boot_isinstance (pa_cons (pv 1) (pa_cons (pe_glob (v := .ref c_BadWay) (by rfl) T_BadWay.mg rfl) pa_nil))) pa_nil)))))
    (pss_cons (ps_set (i := 2) sc__law_refused.nd rfl (Or.inl rfl) (pe_op op_cat (pv 2) (pe_lst (pa_cons (pe_callB call_isCt (by rfl) B.isinstance PySem.L3.boot_isinstance (pa_cons (pv 1) (pa_cons (pe_glob (v := .ref c_TooFew) (by rfl) T_TooFew.mg rfl) pa_nil))) (pa_cons (pe_not (pe_callB call_isCtT (by rfl) B.isinstance PySem.L3.boot_isinstance (pa_cons (pv 1) (pa_cons (pe_bltn (v := .ty "ValueError") (by rfl) B.ValueError PySem.L3.boot_ValueError rfl) pa_nil)))) pa_nil)))))
    (pss_one (ps_ret (pe_and (pe_callB call_isCt (by rfl) B.isinstance PySem.L3.boot_isinstance (pa_cons (pv 1) (pa_cons (pe_glob (v := .ref c_BadText) (by rfl) T_BadText.mg rfl) pa_nil))) (pe_one (pe_not (pe_callB call_anyH (by rfl) B.any PySem.L3.boot_any (pa_cons (pv 2) pa_nil)))))))))))
    (pssC_one (PS.c (ps_ret pe_bl)))), ?_⟩
  refine ⟨⟨_, rfl, read_no hx fun H2 e2 => ⟨c_BadText, rfl, k.he, fun xa H3 e3 ct => ?_⟩⟩⟩
  refine ⟨_, rfl, xa, _, _, false, rfl, ct, k.ec, k.k1, _, rfl, xa, _, _, false, rfl, ct, k.ec, k.k2, _, rfl, xa, _, _, false, rfl, ct, k.ec, k.k3, (by show 3 ≤ sizeLine; decide), fun l1 h1 => ?_⟩
  have e1 := same_new h1 (HO.lst [.bl false, .bl false, .bl false])
  have ct1 := ct.same e1
  refine ⟨_, rfl, _, rfl, xa, _, _, false, rfl, ct1, k.ec, k.k4, _, rfl, xa, _, _, true, rfl, ct1, k.ec, k.k6, _, rfl, (by show 2 ≤ sizeLine; decide), fun l2 h2 => ?_⟩
  have e4 := same_new h2 (HO.lst [.bl false, .bl false])
  refine ⟨l1, l2, _, _, rfl, rfl, e4 _ _ upd_same, upd_same, (by show 5 ≤ sizeLine; decide), fun p hp => ?_⟩
  have e5 := same_new hp (HO.lst ([.bl false, .bl false, .bl false] ++ [.bl false, .bl false]))
  have ct5 := ct1.same (e4.trans e5)
  refine ⟨_, rfl, xa, _, _, true, rfl, ct5, k.ec, k.k5, _, rfl, iteT ?_⟩
  refine ⟨_, rfl, p, [false, false, false, false, false], xa, _, rfl, SqL.of upd_same, rfl, ct5, _, rfl, ?_⟩
  exact q _ (e2.trans (e3.trans (e1.trans (e4.trans e5))))
end
end K7a
set_option Elab.async false
set_option linter.all false
set_option maxRecDepth 100000
set_option maxHeartbeats 4000000
namespace K7a
open PySem L2 Hull PySem.C
open K7m (sI wd writ T)
seal L2.PE L2.PT L2.PW L2.PA L2.PS L2.PSs L2.PG L2.PGs L2.PF L2.PI L2.PO
section
variable {P : Program} {w : World} {K : PySem.W.Frag} {mg : Str → Option Value} {base : Heap} {f : Addr} {fd : FuncData}
inductive sp_right (K : PySem.W.Frag) (vs : List V) (H : Hp) (Q : VK) (x_3 : XK) : Prop where
  | mk (t : Str) (h_0 : vs = [.str t]) (h_1 : K7m.Words t) (h_2 : ∀ H', Same H H' → Q (.bl true) H')
theorem ok_right {c_BadText : Addr} (B : Bl mg) (C__law_in : Cal P w K mg base 2 "_law_in" (sp_in K)) (CC__law_refused : CalC P w K mg base 7 "_law_refused" (sp_ref K)) (CC_read : CalC P w K mg base 6 "read" (sp_read K c_BadText)) (C_written : Cal P w K mg base 5 "written" (sp_written K))
    (F : Fun K "_law_right" "_law_right" s__law_right f fd) : FnC P w K mg base 8 f fd ["_law_text"] (sp_right K) := by
  refine F.okcN sc__law_right (fun vs H Q E h => ?_) (fun cdv _ A outer s H vs Q E hr h => ?_)
  · obtain ⟨x, rfl, _⟩ := h
    rfl
  obtain ⟨t, rfl, hw, q⟩ := h
  have hu := hr.units
  refine ⟨_, (pssC_cons (PS.c (ps_set (i := 1) sc__law_right.nd rfl (Or.inl rfl) (pe_c C__law_in (hr.mono (by decide)) (by rfl) (pa_cons (pv 0) pa_nil))))
    (pssC_cons (psC_if (PT.c (pt_cmpR op_isN (pv 1) pe_non (nomark _))) (pssC_one (psC_ret (peC_c CC__law_refused (hr.mono (by decide)) passes0 (by rfl) (pa_cons (pv 0) pa_nil)))) (PSs.c pss_nil))
    (pssC_cons (psC_set (i := 2) sc__law_right.nd rfl (Or.inl rfl) (peC_c CC_read (hr.mono (by decide)) passes0 (by rfl) (pa_cons (pv 0) pa_nil)))
    (pssC_one (PS.c (ps_ret (pe_and (pe_callB call_isinstance (by rfl) B.isinstance PySem.L3.boot_isinstance (pa_cons (pv 2) (pa_cons (pe_bltn (v := .ty "list") (by rfl) B.list PySem.L3.boot_list rfl) pa_nil))) (pe_and (pe_cmpR (op_eqSps hu) (pv 2) (pv 1) (nomark _)) (pe_one (pe_cmpR op_eq (pe_c C_written (hr.mono (by decide)) (by rfl) (pa_cons (pv 2) pa_nil)) (pv 0) (nomark _))))))))))), ?_⟩
  refine hold fun J j => ?_
  refine ⟨_, rfl, t, rfl, hw.1, fun h oh eh o ys H1 e1 hn1 ho1 d1 => j _ _ _ (hold fun J0 j0 => ?_), fun hno H1 e1 => j _ _ _ ?_⟩
  rotate_left
  · refine ⟨_, rfl, rfl, _, rfl, iteT ?_⟩
    exact ⟨_, rfl, .str t, rfl, .inr ⟨t, rfl, hw, hno⟩, fun H2 e2 => q _ (e1.trans e2)⟩
  refine ⟨_, rfl, rfl, _, rfl, iteF (j0 _ _ _ ?_)⟩
  refine ⟨_, rfl, .txt t rfl hw (fun g og eg p zs H2 e2 hn2 hp2 d2 => ?_) fun hno => absurd ⟨h, oh, eh⟩ hno⟩
  have hg : g = h := K7m.writ_inj og oh (eg.symm.trans eh)
  subst hg
  refine ⟨_, rfl, _, "list", _, true, rfl, .lst hp2, rfl, _, rfl, iteT ?_⟩
  refine ⟨_, rfl, _, rfl, p, o, zs, ys, g, g, rfl, rfl, SqL.of hp2, SqL.of (e2 _ _ ho1), d2, e2.dns d1, ?_⟩
  refine ⟨_, rfl, ite2 (fun _ => ?_) (fun c => absurd (decide_eq_true rfl) c)⟩
  have l0 : 1 ≤ g.length := List.length_pos_iff.mpr og.1
  refine ⟨_, rfl, p, zs, g, rfl, SqL.of hp2, d2, fun p hp => let i := og.2.2 p hp; ⟨⟨i.1, i.2.1⟩, i.2.2.1, i.2.2.2⟩, l0, og.2.1, fun H3 e3 => ⟨_, rfl, rfl, ?_⟩⟩
  have e : V.str (writ g) = V.str t := by rw [eg]
  show Q (.bl (decide (V.str (writ g) = V.str t))) H3
  rw [decide_eq_true e]
  exact q _ (e1.trans (e2.trans e3))
def fewA : List Str := [T "", T " ", T "0,0", T "0,0 ", T " 0,0", T "0,0  1,1", T "1,2,3", T "1;2", T "1, 2", T "-0,1", T "0,-0", T "01,1", T "1,+1"]
def fewB : List Str := [T "1001,0", T "-1000,1000", T "-1001,0", T "0,1001", T ",1", T "1,", T ",", T "-,1", T "--1,1", T "1-,1"]
def fewC : List Str := [T "1.0,2", T "1,1\t2,2", T "x,1"]
def fewD : List Str := [Txt.join (T " ") (List.replicate 8 (T "0,0")), Txt.join (T " ") (List.replicate 9 (T "0,0")), T "1,1\n2,2", T "1_0,1", K7m.nines ++ T ",1"]
def fewE : List Str := [T "1,1 2", T "1 1", T "0,0,", T "10000,1"]
theorem few_words : ∀ t ∈ (((fewA ++ fewB) ++ fewC) ++ fewD) ++ fewE, K7m.Words t := by
  have kA : (fewA ++ fewB ++ fewC ++ fewE ++ fewD.take 4).all K7m.wordsB = true := by decide +kernel
  have kk := fun t ht => K7m.words_b (List.all_eq_true.mp kA t ht)
  intro t ht
  simp only [List.mem_append] at ht kk
  rcases ht with (((h | h) | h) | h) | h
  · exact kk t (.inl (.inl (.inl (.inl h))))
  · exact kk t (.inl (.inl (.inl (.inr h))))
  · exact kk t (.inl (.inl (.inr h)))
  · have e : fewD = fewD.take 4 ++ [K7m.nines ++ T ",1"] := rfl
    rw [e] at h
    rcases List.mem_append.mp h with h | h
    · exact kk t (.inr h)
    · rw [List.mem_singleton.mp h]; exact K7m.nines_words
  · exact kk t (.inl (.inr h))
inductive sp_few (vs : List V) (H : Hp) (Q : VK) (x_3 : XK) : Prop where
  | mk (h_0 : vs = []) (h_1 : ∀ (l : Addr) (ts : List Str) (H' : Hp), Same H H' → H' l = some (.lst (ts.map V.str)) → ts.length ≤ 100 → (∀ t ∈ ts, K7m.Words t) → Q (.ref l) H')
theorem ok_few (B : Bl mg) (F : Fun K "_law_few" "_law_few" s__law_few f fd) : FnOk P w K mg base CX0 1 f fd [] sp_few := by
  refine F.ok sc__law_few (fun vs H Q E h => ?_) (fun cdv A outer s H vs Q E hr h => ?_)
  · obtain ⟨rfl, _⟩ := h
    rfl
  obtain ⟨rfl, q⟩ := h
  refine ⟨_, (pss_cons (ps_set (i := 0) sc__law_few.nd rfl (Or.inl rfl) (pe_lst (pa_cons pe_str (pa_cons pe_str (pa_cons pe_str (pa_cons pe_str (pa_cons pe_str (pa_cons pe_str (pa_cons pe_str (pa_cons pe_str (pa_cons pe_str (pa_cons pe_str (pa_cons pe_str (pa_cons pe_str (pa_cons pe_str pa_nil)))))))))))))))
    (pss_cons (ps_set (i := 0) sc__law_few.nd rfl (Or.inl rfl) (pe_op op_cat (pv 0) (pe_lst (pa_cons pe_str (pa_cons pe_str (pa_cons pe_str (pa_cons pe_str (pa_cons pe_str (pa_cons pe_str (pa_cons pe_str (pa_cons pe_str (pa_cons pe_str (pa_cons pe_str pa_nil)))))))))))))
    (pss_cons (ps_set (i := 0) sc__law_few.nd rfl (Or.inl rfl) (pe_op op_cat (pv 0) (pe_lst (pa_cons pe_str (pa_cons pe_str (pa_cons pe_str pa_nil))))))
    (pss_cons (ps_set (i := 0) sc__law_few.nd rfl (Or.inl rfl) (pe_op op_cat (pv 0) (pe_lst (pa_cons (pe_bm PySem.F.plainAttrs_str PySem.F.slot_str_join PySem.F.type_str_join mt_join pe_str (pa_cons (pe_op op_rep (pe_lst (pa_cons pe_str pa_nil)) pe_int) pa_nil)) (pa_cons (pe_bm PySem.F.plainAttrs_str PySem.F.slot_str_join PySem.F.type_str_join mt_join pe_str (pa_cons (pe_op op_rep (pe_lst (pa_cons pe_str pa_nil)) pe_int) pa_nil)) (pa_cons pe_str (pa_cons pe_str (pa_cons (pe_op op_add_str (pe_op op_repS pe_str pe_int) pe_str) pa_nil))))))))
    (pss_one (ps_ret (pe_op op_cat (pv 0) (pe_lst (pa_cons pe_str (pa_cons pe_str (pa_cons pe_str (pa_cons pe_str pa_nil)))))))))))), ?_⟩
  refine ⟨by show 13 ≤ sizeLine; decide, fun l1 h1 => ?_⟩
  refine ⟨_, rfl, by show 10 ≤ sizeLine; decide, fun l2 h2 => ?_⟩
  have s1 := same_new h1 (HO.lst (fewA.map V.str))
  have s2 := same_new h2 (HO.lst (fewB.map V.str))
  refine ⟨l1, l2, fewA.map V.str, fewB.map V.str, rfl, rfl, s2 _ _ upd_same, upd_same, by show 23 ≤ sizeLine; decide, fun l3 h3 => ?_⟩
  have s3 := same_new h3 (HO.lst (fewA.map V.str ++ fewB.map V.str))
  refine ⟨_, rfl, by show 3 ≤ sizeLine; decide, fun l4 h4 => ?_⟩
  have s4 := same_new h4 (HO.lst (fewC.map V.str))
  refine ⟨l3, l4, fewA.map V.str ++ fewB.map V.str, fewC.map V.str, rfl, rfl, s4 _ _ upd_same, upd_same, by show 26 ≤ sizeLine; decide, fun l5 h5 => ?_⟩
  have s5 := same_new h5 (HO.lst ((fewA.map V.str ++ fewB.map V.str) ++ fewC.map V.str))
  have e5 := s1.trans (s2.trans (s3.trans (s4.trans s5)))
  refine ⟨_, rfl, rfl, by show 1 ≤ sizeLine; decide, fun l6 h6 => ?_⟩
  have s6 := same_new h6 (HO.lst [V.str (T "0,0")])
  refine ⟨l6, 8, [V.str (T "0,0")], rfl, rfl, upd_same, by decide, by decide, by show 8 ≤ sizeLine; decide, fun l7 h7 => ?_⟩
  have s7 := same_new h7 (HO.lst ((List.replicate 8 (T "0,0")).map V.str))
  refine ⟨_, l7, List.replicate 8 (T "0,0"), rfl, rfl, SqL.of upd_same, by decide +kernel, ?_⟩
  refine ⟨rfl, by show 1 ≤ sizeLine; decide, fun l8 h8 => ?_⟩
  have s8 := same_new h8 (HO.lst [V.str (T "0,0")])
  refine ⟨l8, 9, [V.str (T "0,0")], rfl, rfl, upd_same, by decide, by decide, by show 9 ≤ sizeLine; decide, fun l9 h9 => ?_⟩
  have s9 := same_new h9 (HO.lst ((List.replicate 9 (T "0,0")).map V.str))
  refine ⟨_, l9, List.replicate 9 (T "0,0"), rfl, rfl, SqL.of upd_same, by decide +kernel, ?_⟩
  have len9 : (K7m.nines).length = 4000 := K7m.nines_len
  refine ⟨T "9", 4000, rfl, rfl, by decide, by decide, by decide +kernel, by decide +kernel, K7m.nines, T ",1", rfl, rfl, by rw [len9, show (T ",1").length = 2 by decide +kernel, sizeLine_eq]; decide, ?_⟩
  refine ⟨by show 5 ≤ sizeLine; decide, fun l10 h10 => ?_⟩
  have s10 := same_new h10 (HO.lst (fewD.map V.str))
  have f10 := s6.trans (s7.trans (s8.trans (s9.trans s10)))
  refine ⟨l5, l10, (fewA.map V.str ++ fewB.map V.str) ++ fewC.map V.str, fewD.map V.str, rfl, rfl, f10 _ _ upd_same, upd_same, by show 31 ≤ sizeLine; decide, fun l11 h11 => ?_⟩
  have s11 := same_new h11 (HO.lst (((fewA.map V.str ++ fewB.map V.str) ++ fewC.map V.str) ++ fewD.map V.str))
  refine ⟨_, rfl, by show 4 ≤ sizeLine; decide, fun l12 h12 => ?_⟩
  have s12 := same_new h12 (HO.lst (fewE.map V.str))
  refine ⟨l11, l12, ((fewA.map V.str ++ fewB.map V.str) ++ fewC.map V.str) ++ fewD.map V.str, fewE.map V.str, rfl, rfl, s12 _ _ upd_same, upd_same, by show 35 ≤ sizeLine; decide, fun l13 h13 => ?_⟩
  have s13 := same_new h13 (HO.lst ((((fewA.map V.str ++ fewB.map V.str) ++ fewC.map V.str) ++ fewD.map V.str) ++ fewE.map V.str))
  refine q l13 ((((fewA ++ fewB) ++ fewC) ++ fewD) ++ fewE) _ (e5.trans (f10.trans (s11.trans (s12.trans s13)))) (upd_same.trans (by simp only [List.map_append])) (by show 35 ≤ 100; decide) few_words
end
end K7a
set_option Elab.async false
set_option linter.all false
set_option maxRecDepth 100000
set_option maxHeartbeats 4000000
namespace K7a
open PySem L2 Hull PySem.C
open K7m (sI wd writ T)
seal L2.PE L2.PT L2.PW L2.PA L2.PS L2.PSs L2.PG L2.PGs L2.PF L2.PI L2.PO
section
variable {P : Program} {w : World} {K : PySem.W.Frag} {mg : Str → Option Value} {base : Heap} {f : Addr} {fd : FuncData}
theorem sgn_at {r : Int} (h0 : 0 ≤ r) (h1 : r < 16) : ∃ c, atI (Str.ofString "0123456789,- +.x").cps.toList r = some c ∧ c < 128 := by
  obtain ⟨n, rfl⟩ : ∃ n : Nat, r = n := ⟨r.toNat, by omega⟩
  have key : ∀ n < 16, (((Str.ofString "0123456789,- +.x").cps.toList[n]?).any fun c => decide (c < 128)) = true := by decide +kernel
  have k := key n (by omega)
  cases e : (Str.ofString "0123456789,- +.x").cps.toList[n]? with
  | none => rw [e] at k; cases k
  | some c => rw [e] at k; exact ⟨c, atI_nat e, of_decide_eq_true k⟩
theorem sgn_two {c : Nat} (hc : c < 128) {r : Int} (h0 : 0 ≤ r) (h1 : r < 2) : ∃ sg : Str, atI [V.str (Str.ofString ""), V.str ⟨#[c]⟩] r = some (V.str sg) ∧ sg.length ≤ 1 ∧ ∀ x ∈ K7m.L sg, x < 128 := by
  have : r = 0 ∨ r = 1 := by omega
  rcases this with rfl | rfl
  · exact ⟨Str.ofString "", rfl, by decide +kernel, by decide +kernel⟩
  · exact ⟨⟨#[c]⟩, rfl, Nat.le_refl _, fun x hx => by have : x ∈ [c] := hx; rw [List.mem_singleton.mp this]; exact hc⟩
theorem all_rep (n : Nat) : (List.replicate n true).all id = true := by simp
inductive sp_law (K : PySem.W.Frag) (vs : List V) (H : Hp) (Q : VK) (x_3 : XK) : Prop where
  | mk (a : Addr) (ns : List Int) (h_0 : vs = [.ref a]) (h_1 : SqL K H a (ns.map V.int)) (h_2 : ∀ H', Q (.bl true) H')
theorem ok_law {c_BadText : Addr} (B : Bl mg) (C__law_cell_at : Cal P w K mg base 1 "_law_cell_at" (sp_cell K)) (C__law_draw : Cal P w K mg base 1 "_law_draw" sp_draw) (C__law_herd : Cal P w K mg base 3 "_law_herd" (sp_herd K)) (C_written : Cal P w K mg base 5 "written" (sp_written K)) (CC_read : CalC P w K mg base 6 "read" (sp_read K c_BadText))
    (CC__law_right : CalC P w K mg base 8 "_law_right" (sp_right K)) (CC__law_refused : CalC P w K mg base 7 "_law_refused" (sp_ref K)) (C__law_few : Cal P w K mg base 1 "_law_few" sp_few) (C_made : Cal P w K mg base 2 "made" (sp_made K)) (C_plus : Cal P w K mg base 3 "plus" (sp_plus K)) (C_times : Cal P w K mg base 3 "times" (sp_times K))
    (F : Fun K "law" "law" s_law f fd) : FnC P w K mg base 9 f fd ["_law_script"] (sp_law K) := by
  refine F.okcN sc_law (fun vs H Q E h => ?_) (fun cdv _ A outer s H vs Q E hr h => ?_)
  · obtain ⟨a, ns, rfl, _⟩ := h
    rfl
  obtain ⟨a, ns, rfl, hS, q⟩ := h
  have hu := hr.units
  refine ⟨_, (pssC_cons (PS.c (ps_set (i := 1) sc_law.nd rfl (Or.inl rfl) (pe_c C__law_herd (hr.mono (by decide)) (by rfl) (pa_cons (pe_op op_add (pe_c C__law_cell_at (hr.mono (by decide)) (by rfl) (pa_cons (pv 0) (pa_cons pe_int pa_nil))) (pe_op op_mul pe_int (pe_c C__law_cell_at (hr.mono (by decide)) (by rfl) (pa_cons (pv 0) (pa_cons pe_int pa_nil))))) (pa_cons pe_int pa_nil)))))
    (pssC_cons (PS.c (ps_set (i := 2) sc_law.nd rfl (Or.inl rfl) (pe_bm PySem.F.plainAttrs_str PySem.F.slot_str_join PySem.F.type_str_join mt_join pe_str (pa_cons (pe_comp (Nc := ["_law_spot_here"]) (fi := [none]) (comp_sc rfl rfl rfl) rfl (comp_from_go rfl) (pi_list (pv 1)) (fun _ _ _ _ => ⟨(pg_name (i := 0) (show (["_law_spot_here"] : List Str).Nodup by decide +kernel) rfl (Or.inl rfl)), pf_nil, (pe_op op_add_str (pe_op op_add_str (pe_callTy call_str_int (by rfl) B.str PySem.L3.boot_str (pa_cons (pe_ix ix_tup (pv 0) pe_int (fun _ _ => rfl)) pa_nil)) pe_str) (pe_callTy call_str_int (by rfl) B.str PySem.L3.boot_str (pa_cons (pe_ix ix_tup (pv 0) pe_int (fun _ _ => rfl)) pa_nil)))⟩)) pa_nil))))
    (pssC_cons (PS.c (ps_set (i := 3) sc_law.nd rfl (Or.inl rfl) (pe_callTy call_list_of (by rfl) B.list PySem.L3.boot_list (pa_cons (pv 1) pa_nil))))
    (pssC_cons (PS.c (ps_if (PW.pt (pw_or (pt_cmpR op_ne (pe_c C_written (hr.mono (by decide)) (by rfl) (pa_cons (pv 3) pa_nil)) (pv 2) (nomark _)) (pw_or1 (pt_cmpR (op_neSps hu) (pv 3) (pv 1) (nomark _))))) (pss_one (ps_ret pe_bl)) pss_nil))
    (pssC_cons (psC_set (i := 4) sc_law.nd rfl (Or.inl rfl) (peC_c CC_read (hr.mono (by decide)) passes0 (by rfl) (pa_cons (pv 2) pa_nil)))
    (pssC_cons (PS.c (ps_if (pt_cmpR (op_neSps hu) (pv 4) (pv 1) (nomark _)) (pss_one (ps_ret pe_bl)) pss_nil))
    (pssC_cons (PS.c (ps_expr (pe_bm PySem.F.plainAttrs_list PySem.F.slot_list_append PySem.F.type_list_append mt_append (pv 4) (pa_cons pe_int pa_nil))))
    (pssC_cons (PS.c (ps_set (i := 5) sc_law.nd rfl (Or.inl rfl) (pe_op op_add (pe_c C__law_cell_at (hr.mono (by decide)) (by rfl) (pa_cons (pv 0) (pa_cons pe_int pa_nil))) (pe_op op_mul pe_int (pe_c C__law_cell_at (hr.mono (by decide)) (by rfl) (pa_cons (pv 0) (pa_cons pe_int pa_nil)))))))
    (pssC_cons (psC_for rfl rfl (pi_range1 (by rfl) B.range (pa_cons pe_int pa_nil)) (pg_name (i := 6) sc_law.nd rfl (Or.inl rfl)) (pssC_cons (PS.c (ps_set (i := 7) sc_law.nd rfl (Or.inl rfl) (pe_c C__law_draw (hr.mono (by decide)) (by rfl) (pa_cons (pe_op op_add (pv 5) (pv 6)) (pa_cons pe_int (pa_cons (pe_op op_add (pe_callB call_len_str (by rfl) B.len PySem.L3.boot_len (pa_cons (pv 2) pa_nil)) pe_int) pa_nil))))))
    (pssC_cons (PS.c (ps_set (i := 8) sc_law.nd rfl (Or.inl rfl) (pe_ix ix_tup (pe_tup (pa_cons pe_str (pa_cons (pe_ix ix_str pe_str (pe_c C__law_draw (hr.mono (by decide)) (by rfl) (pa_cons (pe_op op_add (pv 5) (pv 6)) (pa_cons pe_int (pa_cons pe_int pa_nil)))) (fun _ _ => rfl)) pa_nil))) (pe_c C__law_draw (hr.mono (by decide)) (by rfl) (pa_cons (pe_op op_add (pv 5) (pv 6)) (pa_cons pe_int (pa_cons pe_int pa_nil)))) (fun _ _ => rfl))))
    (pssC_one (psC_if (ptC_not (ptC_val (peC_c CC__law_right (hr.mono (by decide)) passes0 (by rfl) (pa_cons (pe_op op_add_str (pe_op op_add_str (pe_slice sl_str (pv 2) po_none (po_some (pv 7))) (pv 8)) (pe_slice sl_str (pv 2) (po_some (pe_op op_add (pv 7) (pe_c C__law_draw (hr.mono (by decide)) (by rfl) (pa_cons (pe_op op_add (pv 5) (pv 6)) (pa_cons pe_int (pa_cons pe_int pa_nil)))))) po_none)) pa_nil)))) (pssC_one (PS.c (ps_ret pe_bl))) (PSs.c pss_nil))))))
    (pssC_cons (psC_if (PWc.pt (pwC_or (ptC_not (ptC_val (peC_callB (call_all rfl) (by rfl) B.all PySem.L3.boot_all (peC_comp (Nc := ["_law_other"]) (fi := [none]) (comp_sc rfl rfl rfl) rfl (comp_from_go rfl) rfl ⟨_, _, rfl, rfl⟩ passesF0 (pi_list (pe_c0 C__law_few (hr.mono (by decide)) (by rfl))) (fun _ _ _ _ => ⟨(pg_name (i := 0) (show (["_law_other"] : List Str).Nodup by decide +kernel) rfl (Or.inl rfl)), (peC_c CC__law_right (hr.mono (by decide)) passes0 (by rfl) (pa_cons (pv 0) pa_nil))⟩))))) (pwC_or1 (ptC_cmpR (op_neSps hu) (peC_c CC_read (hr.mono (by decide)) passes0 (by rfl) (pa_cons (pv 2) pa_nil)) (pv 1) (nomark _))))) (pssC_one (PS.c (ps_ret pe_bl))) (PSs.c pss_nil))
    (pssC_cons (PS.c (ps_if (PW.pt (pw_or (pt_cmpR (op_neSp hu) (pe_c C_made (hr.mono (by decide)) (by rfl) (pa_cons pe_int (pa_cons pe_int pa_nil))) (pe_tup (pa_cons pe_int (pa_cons pe_int pa_nil))) (nomark _)) (pw_or (pt_cmpR (op_neSp hu) (pe_c C_made (hr.mono (by decide)) (by rfl) (pa_cons pe_int (pa_cons pe_int pa_nil))) (pe_tup (pa_cons pe_int (pa_cons pe_int pa_nil))) (nomark _)) (pw_or (pt_cmpR (op_neSp hu) (pe_c C_made (hr.mono (by decide)) (by rfl) (pa_cons (pe_un un_neg pe_int) (pa_cons pe_int pa_nil))) (pe_tup (pa_cons (pe_un un_neg pe_int) (pa_cons pe_int pa_nil))) (nomark _)) (pw_or1 (pt_cmpR (op_neSp hu) (pe_c C_plus (hr.mono (by decide)) (by rfl) (pa_cons (pe_tup (pa_cons pe_int (pa_cons pe_int pa_nil))) (pa_cons (pe_tup (pa_cons (pe_un un_neg pe_int) (pa_cons pe_int pa_nil))) pa_nil))) (pe_tup (pa_cons pe_int (pa_cons pe_int pa_nil))) (nomark _))))))) (pss_one (ps_ret pe_bl)) pss_nil))
    (pssC_one (psC_ret (peC_and (PE.c (pe_cmpR (op_eqSp hu) (pe_c C_times (hr.mono (by decide)) (by rfl) (pa_cons (pe_tup (pa_cons pe_int (pa_cons pe_int pa_nil))) (pa_cons (pe_tup (pa_cons (pe_un un_neg pe_int) (pa_cons pe_int pa_nil))) pa_nil))) (pe_tup (pa_cons (pe_un un_neg pe_int) (pa_cons pe_int pa_nil))) (nomark _))) (peC_one (peC_callB (call_all rfl) (by rfl) B.all PySem.L3.boot_all (peC_comp (Nc := ["_law_thing"]) (fi := [none]) (comp_sc rfl rfl rfl) rfl (comp_from_go rfl) rfl ⟨_, _, rfl, rfl⟩ passesF0 (pi_list (pe_lst (pa_cons pe_non (pa_cons pe_int (pa_cons (pe_lst (pa_cons pe_str pa_nil)) (pa_cons pe_bl pa_nil)))))) (fun _ _ _ _ => ⟨(pg_name (i := 0) (show (["_law_thing"] : List Str).Nodup by decide +kernel) rfl (Or.inl rfl)), (peC_c CC__law_refused (hr.mono (by decide)) passes0 (by rfl) (pa_cons (pv 0) pa_nil))⟩)))))))))))))))))), ?_⟩
  refine fork (fun σ' H' => ∃ o ys ps, σ' = [some (V.ref a), some (V.ref o), none, none, none, none, none, none, none] ∧ Same H H' ∧ H' o = some (.lst ys) ∧ Dns K H' (List.map spotD ps) ys ∧ (∀ p ∈ ps, Bd p) ∧ 1 ≤ ps.length ∧ ps.length ≤ 8) ?_ fun J j => ?_
  rotate_left
  · exact ⟨_, rfl, a, ns, 0, rfl, hS, fun c0 => ⟨_, rfl, a, ns, 1, rfl, hS, fun c1 => ⟨_, _, rfl, rfl, .inl ⟨by decide, by decide⟩, _, _, rfl, rfl, ⟨_, _, rfl, by decide, by decide, fun l ys ps H' e hl hl' d b n1 n8 => j _ _ ⟨l, ys, ps, rfl, e, hl', d, b, n1, n8⟩⟩⟩⟩⟩
  rintro σ1 H1 ⟨o, ys, ps, rfl, e1, ho, dys, hbd, l1, l8⟩
  have hz : ys.length = ps.length := by have := dys.length; rwa [List.length_map] at this
  have hin : ∀ p ∈ ps, K7m.In p := fun p hp => bd_in (hbd p hp)
  have okp : K7m.Ok ps := ⟨fun z => by rw [z] at l1; simp at l1, l8, hin⟩
  refine fork (fun σ' H' => σ' = [some (V.ref a), some (V.ref o), some (V.str (writ ps)), none, none, none, none, none, none] ∧ Same H1 H') ?_ fun J j => ?_
  rotate_left
  · refine ⟨rfl, _, rfl, o, rfl, ⟨_, SqL.of ho⟩, fun _ _ _ _ l hl => ?_⟩
    refine comp_by ys.length (by rw [sizeLine_eq]; omega) (fun i zs σ' Hc => Same H1 Hc ∧ Hc l = some (.lst zs) ∧ zs = ((ps.take i).map wd).map V.str ∧ i ≤ ps.length ∧ σ'.length = 1) ?_ (fun i zs σ' Hc ⟨_, e, y, hi, _⟩ => ⟨e, by rw [y]; simp; omega⟩) ?_ ?_
    · exact ⟨same_new hl _, upd_same, rfl, Nat.zero_le _, rfl⟩
    · rintro i zs σ' Hc hi ⟨e, el, rfl, _, hσ⟩
      refine ⟨⟨_, ys[i], SqL.of (e _ _ ho), by simp [hi]⟩, fun x H' y Kt Kf k1 _ => ?_⟩
      obtain ⟨rfl, hx⟩ := y
      have hx' := hx _ (SqL.of (e _ _ ho))
      obtain ⟨d, hd1, hd2⟩ := dys.get' hx'
      rw [List.getElem?_map] at hd1
      obtain ⟨p, hp, rfl⟩ := Option.map_eq_some_iff.mp hd1
      obtain ⟨t, rfl, ht⟩ := (e.dn hd2).spot
      have hip := hin p (List.mem_of_getElem? hp)
      have n1 : (Str.ofString (toString p.1)).length ≤ 5 := (K7m.num_bwd hip.1 hip.2.1).2.2.1
      have n2 : (Str.ofString (toString p.2)).length ≤ 5 := (K7m.num_bwd hip.2.2.1 hip.2.2.2).2.2.1
      have c1 : (Str.ofString ",").length = 1 := by decide +kernel
      match σ', hσ with
      | [c], _ =>
        simp only [gName, tYes, ↓reduceIte]
        refine ⟨_, rfl, t, _, _, _, rfl, rfl, ht, rfl, _, rfl, K7m.log_small hip.1 hip.2.1, _, _, rfl, rfl, by rw [sizeLine_eq]; omega, ?_⟩
        refine ⟨_, rfl, t, _, _, _, rfl, rfl, ht, rfl, _, rfl, K7m.log_small hip.2.2.1 hip.2.2.2, _, _, rfl, rfl, by rw [Str.length_append, sizeLine_eq]; omega, ?_⟩
        refine k1 _ _ _ el ⟨same_upd hl e, upd_same, ?_, by omega, rfl⟩
        rw [List.take_add_one, hp, List.map_append, List.map_append]; rfl
    · rintro zs σ' Hc ⟨e, el, rfl, _, _⟩
      refine ⟨⟨_, SqL.of (e _ _ ho), Nat.le_refl _⟩, _, l, ps.map wd, rfl, rfl, SqL.of (by rw [el, hz, List.take_of_length_le (Nat.le_refl _)]), join_ok hbd l8, j _ _ ⟨rfl, e⟩⟩
  rintro σ2 H2 ⟨rfl, e2⟩
  refine fork (fun σ' H' => ∃ hd, σ' = [some (V.ref a), some (V.ref o), some (V.str (writ ps)), some (V.ref hd), none, none, none, none, none] ∧ Same H1 H' ∧ H' hd = some (.lst ys)) ?_ fun J j => ?_
  rotate_left
  · exact ⟨_, rfl, o, ys, rfl, .inl (SqL.of (e2 _ _ ho)), fun l hl => j _ _ ⟨l, rfl, e2.trans (same_new hl _), upd_same⟩⟩
  rintro σ3 H3 ⟨hd, rfl, e3, hhd⟩
  refine fork (fun σ' H' => σ' = [some (V.ref a), some (V.ref o), some (V.str (writ ps)), some (V.ref hd), none, none, none, none, none] ∧ Same H1 H') ?_ fun J j => ?_
  rotate_left
  · refine ⟨_, rfl, hd, ys, ps, rfl, SqL.of hhd, e3.dns dys, hbd, l1, l8, fun H4 e4 => ⟨_, rfl, rfl, _, rfl, ite2 (fun c => ?_) (fun _ => ?_)⟩⟩
    · rw [decide_eq_true rfl] at c; cases c
    · refine ⟨_, rfl, _, rfl, hd, o, ys, ys, ps, ps, rfl, rfl, SqL.of (e4 _ _ hhd), SqL.of (e4 _ _ (e3 _ _ ho)), (e3.trans e4).dns dys, (e3.trans e4).dns dys, _, rfl, ite2 (fun c => ?_) (fun _ => ?_)⟩
      · rw [decide_eq_true rfl] at c; cases c
      · exact j _ _ ⟨rfl, e3.trans e4⟩
  rintro σ4 H4 ⟨rfl, e4⟩
  have ww := K7m.writ_words hin l8
  have reads : ∀ (Q' : VK) (Hx : Hp), Same H1 Hx → (∀ p zs H5, Same Hx H5 → Hx p = none → H5 p = some (.lst zs) → Dns K H5 (ps.map spotD) zs → Q' (.ref p) H5) → sp_read K c_BadText [.str (writ ps)] Hx Q' E0x := fun Q' Hx ex k =>
    .txt (writ ps) rfl ww (fun g og eg p zs H5 e5 hn5 hp5 d5 => by
      have hg : ps = g := K7m.writ_inj okp og eg
      subst hg
      exact k p zs H5 e5 hn5 hp5 d5) fun hno => absurd ⟨ps, okp, rfl⟩ hno
  refine fork (fun σ' H' => ∃ p zs, σ' = [some (V.ref a), some (V.ref o), some (V.str (writ ps)), some (V.ref hd), some (V.ref p), none, none, none, none] ∧ Same H1 H' ∧ H1 p = none ∧ H' p = some (.lst zs) ∧ Dns K H' (ps.map spotD) zs) ?_ fun J j => ?_
  rotate_left
  · exact ⟨_, rfl, reads _ _ e4 fun p zs H5 e5 hn5 hp5 d5 => j _ _ ⟨p, zs, rfl, e4.trans e5, same_no e4 hn5, hp5, d5⟩⟩
  rintro σ5 H5 ⟨p, zs, rfl, e5, hp0, hp5, d5⟩
  have zl : zs.length = ps.length := by have := d5.length; rwa [List.length_map] at this
  refine fork (fun σ' H' => σ' = [some (V.ref a), some (V.ref o), some (V.str (writ ps)), some (V.ref hd), some (V.ref p), none, none, none, none] ∧ H' = H5) ?_ fun J j => ?_
  rotate_left
  · refine ⟨_, rfl, _, rfl, p, o, zs, ys, ps, ps, rfl, rfl, SqL.of hp5, SqL.of (e5 _ _ ho), d5, e5.dns dys, _, rfl, ite2 (fun c => ?_) (fun _ => ?_)⟩
    · rw [decide_eq_true rfl] at c; cases c
    · exact j _ _ ⟨rfl, rfl⟩
  rintro σ6 H6 ⟨rfl, rfl⟩
  refine fork (fun σ' H' => σ' = [some (V.ref a), some (V.ref o), some (V.str (writ ps)), some (V.ref hd), some (V.ref p), none, none, none, none] ∧ Same H1 H') ?_ fun J j => ?_
  rotate_left
  · exact ⟨_, rfl, .inl ⟨rfl, _, SqL.of hp5⟩, p, zs, .int 0, rfl, rfl, hp5, by rw [sizeLine_eq]; omega, j _ _ ⟨rfl, same_upd hp0 e5⟩⟩
  rintro σ7 H7 ⟨rfl, e7⟩
  have e07 := e1.trans e7
  refine fork (fun σ' H' => ∃ ce : Int, σ' = [some (V.ref a), some (V.ref o), some (V.str (writ ps)), some (V.ref hd), some (V.ref p), some (V.int ce), none, none, none] ∧ Same H1 H') ?_ fun J j => ?_
  rotate_left
  · exact ⟨_, rfl, a, ns, 2, rfl, e07.seq hS, fun c2 => ⟨_, rfl, a, ns, 0, rfl, e07.seq hS, fun c3 => ⟨_, _, rfl, rfl, .inl ⟨by decide, by decide⟩, _, _, rfl, rfl, j _ _ ⟨_, rfl, e7⟩⟩⟩⟩
  rintro σ8 H8 ⟨ce, rfl, e8⟩
  have wl : (writ ps).length ≤ 96 := K7m.writ_len hin l8
  have ws : (writ ps).length ≤ 100000 := by omega
  refine fork (fun σ' H' => ∃ o6 o7 o8, σ' = [some (V.ref a), some (V.ref o), some (V.str (writ ps)), some (V.ref hd), some (V.ref p), some (V.int ce), o6, o7, o8] ∧ Same H1 H') ?_ fun J j => ?_
  rotate_left
  · refine ⟨2, rfl, by decide, by decide, for_range (n := 2) (fun i σ' H' => ∃ o6 o7 o8, σ' = [some (V.ref a), some (V.ref o), some (V.str (writ ps)), some (V.ref hd), some (V.ref p), some (V.int ce), o6, o7, o8] ∧ Same H1 H') ⟨_, _, _, rfl, e8⟩ ?_ fun σ' H' ⟨o6, o7, o8, e, e'⟩ => j _ _ ⟨o6, o7, o8, e, e'⟩⟩
    rintro i σ' H9 hi ⟨o6, o7, o8, rfl, e9⟩
    refine fork (fun σ' H' => ∃ r1 : Int, σ' = [some (V.ref a), some (V.ref o), some (V.str (writ ps)), some (V.ref hd), some (V.ref p), some (V.int ce), some (V.int (0 + i)), some (V.int r1), o8] ∧ Same H1 H') ?_ fun J2 j2 => ?_
    rotate_left
    · exact ⟨_, rfl, _, rfl, _, _, rfl, rfl, _, rfl, _, rfl, by rw [sizeLine_eq]; omega, _, _, rfl, rfl, ⟨_, _, _, rfl, by omega, fun r1 HA a0 a1 eA => j2 _ _ ⟨r1, rfl, e9.trans eA⟩⟩⟩
    rintro σ' HA ⟨r1, rfl, eA⟩
    refine fork (fun σ' H' => ∃ sg : Str, σ' = [some (V.ref a), some (V.ref o), some (V.str (writ ps)), some (V.ref hd), some (V.ref p), some (V.int ce), some (V.int (0 + i)), some (V.int r1), some (V.str sg)] ∧ Same H1 H' ∧ sg.length ≤ 1 ∧ ∀ x ∈ K7m.L sg, x < 128) ?_ fun J2 j2 => ?_
    rotate_left
    · refine ⟨_, rfl, _, rfl, _, _, rfl, rfl, ⟨_, _, _, rfl, by decide, fun r2 HB b0 b1 eB => ?_⟩⟩
      obtain ⟨c, hc, hc1⟩ := sgn_at b0 b1
      refine ⟨_, _, c, rfl, rfl, by decide +kernel, hc, by show 2 ≤ sizeLine; decide, fun t ht => ?_⟩
      refine ⟨_, rfl, _, rfl, _, _, rfl, rfl, ⟨_, _, _, rfl, by decide, fun r3 HC c0 c1 eC => ?_⟩⟩
      obtain ⟨sg, hs, sl, sc⟩ := sgn_two hc1 c0 c1
      exact ⟨t, _, r3, _, rfl, rfl, SqT.of (eC _ _ upd_same), hs, j2 _ _ ⟨sg, rfl, eA.trans (eB.trans ((same_new ht _).trans eC)), sl, sc⟩⟩
    rintro σ' HB ⟨sg, rfl, eB, sl, sc⟩
    refine ⟨_, rfl, _, rfl, _, rfl, _, rfl, ws, ?_⟩
    have s1 := Txt.slice_le (writ ps) none (some r1)
    refine ⟨_, rfl, _, _, rfl, rfl, by rw [sizeLine_eq]; omega, ?_⟩
    refine ⟨_, rfl, _, rfl, _, rfl, _, rfl, _, _, rfl, rfl, ⟨_, _, _, rfl, by decide, fun r4 HC c0 c1 eC => ?_⟩⟩
    have s2 := Txt.slice_le (writ ps) (some (r1 + r4)) none
    refine ⟨_, _, rfl, rfl, _, rfl, _, rfl, ws, _, _, rfl, rfl, by rw [Str.length_append, sizeLine_eq]; omega, ?_⟩
    exact ⟨_, rfl, K7m.cut_words hin l8 _ _ _ _ sl sc, fun HD eD => ⟨_, rfl, iteF ⟨_, _, _, rfl, eB.trans (eC.trans eD)⟩⟩⟩
  rintro σ9 H9 ⟨o6, o7, o8, rfl, e9⟩
  refine fork (fun σ' H' => σ' = [some (V.ref a), some (V.ref o), some (V.str (writ ps)), some (V.ref hd), some (V.ref p), some (V.int ce), o6, o7, o8] ∧ Same H1 H') ?_ fun J j => ?_
  rotate_left
  · refine .mk rfl fun l0 ts HA eA hl0 lts wts => ?_
    refine ⟨l0, rfl, ⟨_, SqL.of hl0⟩, fun _ _ _ _ l hl => ?_⟩
    refine comp_by ts.length (by rw [sizeLine_eq]; omega) (fun i zs σ' Hc => Same HA Hc ∧ Hc l = some (.lst zs) ∧ zs = List.replicate i (V.bl true) ∧ σ'.length = 1) ?_ (fun i zs σ' Hc ⟨_, e, y, _⟩ => ⟨e, by rw [y, List.length_replicate]; exact Nat.le_refl _⟩) ?_ ?_
    · exact ⟨same_new hl _, upd_same, rfl, rfl⟩
    · rintro i zs σ' Hc hi ⟨e, el, rfl, hσ⟩
      refine ⟨⟨_, V.str ts[i], SqL.of (e _ _ hl0), by simp [hi]⟩, fun x H' y Kt Kf k1 _ => ?_⟩
      obtain ⟨rfl, hx⟩ := y
      have hx' := hx _ (SqL.of (e _ _ hl0))
      rw [List.getElem?_map, List.getElem?_eq_getElem hi] at hx'
      obtain rfl : V.str ts[i] = x := Option.some.inj hx'
      match σ', hσ with
      | [c], _ =>
        simp only [gName, tYes, ↓reduceIte]
        exact ⟨_, rfl, .mk ts[i] rfl (wts _ (List.getElem_mem hi)) fun H' e' => k1 _ _ _ (e' _ _ el) ⟨same_upd hl (e.trans e'), upd_same, List.replicate_succ'.symm, rfl⟩⟩
    · rintro zs σ' Hc ⟨e, el, rfl, _⟩
      have e9c := e9.trans (eA.trans e)
      refine ⟨⟨_, SqL.of (e _ _ hl0), by rw [List.length_map]; exact Nat.le_refl _⟩, l, List.replicate ts.length true, rfl, SqL.of (by rw [el, List.map_replicate]), ?_⟩
      rw [all_rep]
      refine ⟨_, rfl, iteF ?_⟩
      refine ⟨_, rfl, reads _ _ e9c fun p' zs' H5 e5 hn5 hp5 d5 => ?_⟩
      refine ⟨_, rfl, p', o, zs', ys, ps, ps, rfl, rfl, SqL.of hp5, SqL.of (e5 _ _ (e9c _ _ ho)), d5, (e9c.trans e5).dns dys, _, rfl, ite2 (fun c => ?_) (fun _ => ?_)⟩
      · rw [decide_eq_true rfl] at c; cases c
      · exact j _ _ ⟨rfl, e9c.trans e5⟩
  rintro σA HA ⟨rfl, eA⟩
  have m1 : K9.mk 6 4 = (3, 2) := by decide
  have m2 : K9.mk 0 5 = (0, 1) := by decide
  have m3 : K9.mk (-4) 6 = (-2, 3) := by decide
  have m4 : K9.mk (1 * 3 + -1 * 2) (2 * 3) = (1, 6) := by decide
  have m5 : K9.mk (2 * -3) (3 * 4) = (-1, 2) := by decide
  refine fork (fun σ' H' => σ' = [some (V.ref a), some (V.ref o), some (V.str (writ ps)), some (V.ref hd), some (V.ref p), some (V.int ce), o6, o7, o8] ∧ Same H1 H') ?_ fun J j => ?_
  rotate_left
  · refine .mk 6 4 rfl (by decide) (by decide) fun v1 B1 f1 d1 => ?_
    refine ⟨by show 2 ≤ sizeLine; decide, fun t1 h1 => ?_⟩
    have g1 := same_new h1 (HO.tup [.int 3, .int 2])
    refine ⟨_, (3, 2), g1.dn d1, dn_spot (SqT.of upd_same), _, rfl, ite2 (fun c => ?_) (fun _ => ?_)⟩
    · rw [decide_eq_true m1] at c; cases c
    refine .mk 0 5 rfl (by decide) (by decide) fun v2 B2 f2 d2 => ?_
    refine ⟨by show 2 ≤ sizeLine; decide, fun t2 h2 => ?_⟩
    have g2 := same_new h2 (HO.tup [.int 0, .int 1])
    refine ⟨_, (0, 1), g2.dn d2, dn_spot (SqT.of upd_same), _, rfl, ite2 (fun c => ?_) (fun _ => ?_)⟩
    · rw [decide_eq_true m2] at c; cases c
    refine ⟨_, rfl, .mk (-4) 6 rfl (by decide) (by decide) fun v3 B3 f3 d3 => ?_⟩
    refine ⟨_, rfl, by show 2 ≤ sizeLine; decide, fun t3 h3 => ?_⟩
    have g3 := same_new h3 (HO.tup [.int (-2), .int 3])
    refine ⟨_, (-2, 3), g3.dn d3, dn_spot (SqT.of upd_same), _, rfl, ite2 (fun c => ?_) (fun _ => ?_)⟩
    · rw [decide_eq_true m3] at c; cases c
    refine ⟨by show 2 ≤ sizeLine; decide, fun t4 h4 => ?_⟩
    have g4 := same_new h4 (HO.tup [.int 1, .int 2])
    refine ⟨_, rfl, by show 2 ≤ sizeLine; decide, fun t5 h5 => ?_⟩
    have g5 := same_new h5 (HO.tup [.int (-1), .int 3])
    refine .mk _ _ (1, 2) (-1, 3) rfl (dn_spot (SqT.of (g5 _ _ upd_same))) (dn_spot (SqT.of upd_same)) ⟨by decide, by decide⟩ ⟨by decide, by decide⟩ fun v6 B6 f6 d6 => ?_
    refine ⟨by show 2 ≤ sizeLine; decide, fun t6 h6 => ?_⟩
    have g6 := same_new h6 (HO.tup [.int 1, .int 6])
    refine ⟨_, (1, 6), g6.dn d6, dn_spot (SqT.of upd_same), _, rfl, ite2 (fun c => ?_) (fun _ => ?_)⟩
    · rw [decide_eq_true m4] at c; cases c
    · exact j _ _ ⟨rfl, eA.trans (f1.trans (g1.trans (f2.trans (g2.trans (f3.trans (g3.trans (g4.trans (g5.trans (f6.trans g6)))))))))⟩
  rintro σB HB ⟨rfl, eB⟩
  refine ⟨by show 2 ≤ sizeLine; decide, fun t4 h4 => ?_⟩
  have g4 := same_new h4 (HO.tup [.int 2, .int 3])
  refine ⟨_, rfl, by show 2 ≤ sizeLine; decide, fun t5 h5 => ?_⟩
  have g5 := same_new h5 (HO.tup [.int (-3), .int 4])
  refine .mk _ _ (2, 3) (-3, 4) rfl (dn_spot (SqT.of (g5 _ _ upd_same))) (dn_spot (SqT.of upd_same)) ⟨by decide, by decide⟩ ⟨by decide, by decide⟩ ⟨by decide, by decide⟩ fun v6 B6 f6 d6 => ?_
  refine ⟨_, rfl, by show 2 ≤ sizeLine; decide, fun t6 h6 => ?_⟩
  have g6 := same_new h6 (HO.tup [.int (-1), .int 2])
  refine ⟨_, (-1, 2), g6.dn d6, dn_spot (SqT.of upd_same), _, rfl, ite2 (fun _ => ?_) (fun c => absurd (decide_eq_true m5) c)⟩
  refine ⟨by show 1 ≤ sizeLine; decide, fun l1 h1 => ?_⟩
  refine ⟨by show 4 ≤ sizeLine; decide, fun l2 h2 => ?_⟩
  have g2 := same_new h2 (HO.lst [.non, .int 5, .ref l1, .bl true])
  refine ⟨l2, rfl, ⟨_, SqL.of upd_same⟩, fun _ _ _ _ l hl => ?_⟩
  generalize hH : upd (upd _ l1 (HO.lst [V.str (Str.ofString "0,0")])) l2 (HO.lst [.non, .int 5, .ref l1, .bl true]) = HZ at hl g2 ⊢
  have hl1 : HZ l1 = some (.lst [V.str (Str.ofString "0,0")]) := g2 _ _ upd_same
  have hl2 : HZ l2 = some (.lst [.non, .int 5, .ref l1, .bl true]) := by rw [← hH]; exact upd_same
  clear hH g2
  refine comp_by 4 (by decide) (fun i zs σ' Hc => Same HZ Hc ∧ Hc l = some (.lst zs) ∧ zs = List.replicate i (V.bl true) ∧ σ'.length = 1) ?_ (fun i zs σ' Hc ⟨_, e, y, _⟩ => ⟨e, by rw [y, List.length_replicate]; exact Nat.le_refl _⟩) ?_ ?_
  · exact ⟨same_new hl _, upd_same, rfl, rfl⟩
  · rintro i zs σ' Hc hi ⟨e, el, rfl, hσ⟩
    refine ⟨⟨_, [V.non, .int 5, .ref l1, .bl true][i], SqL.of (e _ _ hl2), by simp [hi]⟩, fun x H' y Kt Kf k1 _ => ?_⟩
    obtain ⟨rfl, hx⟩ := y
    have hx' := hx _ (SqL.of (e _ _ hl2))
    have nt : NoText K H' x := by
      have : i = 0 ∨ i = 1 ∨ i = 2 ∨ i = 3 := by omega
      rcases this with rfl | rfl | rfl | rfl
      · cases hx'; exact .inl ⟨_, .non, rfl⟩
      · cases hx'; exact .inl ⟨_, .int 5, rfl⟩
      · cases hx'; exact .inl ⟨_, .lst (e _ _ hl1), rfl⟩
      · cases hx'; exact .inl ⟨_, .bl true, rfl⟩
    match σ', hσ with
    | [c], _ =>
      simp only [gName, tYes, ↓reduceIte]
      exact ⟨_, rfl, .mk x rfl nt fun H' e' => k1 _ _ _ (e' _ _ el) ⟨same_upd hl (e.trans e'), upd_same, List.replicate_succ'.symm, rfl⟩⟩
  · rintro zs σ' Hc ⟨e, el, rfl, _⟩
    refine ⟨⟨_, SqL.of (e _ _ hl2), Nat.le_refl _⟩, l, List.replicate 4 true, rfl, SqL.of (by rw [el, List.map_replicate]), ?_⟩
    rw [all_rep]
    exact q _
end
end K7a
set_option Elab.async false
set_option linter.all false
set_option maxRecDepth 100000
set_option maxHeartbeats 4000000
namespace K7a
open PySem L2 Hull PySem.C
open K7m (sI wd writ T)
seal L2.PE L2.PT L2.PW L2.PA L2.PS L2.PSs L2.PG L2.PGs L2.PF L2.PI L2.PO
theorem all_mk {l : PySem.W.OpenLaw} {w : World} {K : PySem.W.Frag} {h : Heap} {mg : Str → Option Value} {fa f1 f2 f3 f4 f5 f6 f7 f8 f9 f10 f11 f12 f13 f14 f15 f16 f17 f18 f19 f20 f21 : Addr} (X : K.In h) (G : h.Ns mainGlobals mg) (hfa : mg "law" = some (.ref fa))
    {od1 an1 od2 an2 od3 an3 od4 an4 od5 an5 od6 an6 od7 an7 od8 an8 od9 an9 od10 an10 od11 an11 od12 an12 od13 an13 od14 an14 od15 an15 od16 an16 od17 an17 od18 an18 od19 an19 od20 an20 od21 an21 : Option Addr} {sl1 sl2 sl3 sl4 sl5 sl6 sl7 sl8 sl9 sl10 sl11 sl12 sl13 sl14 sl15 sl16 sl17 sl18 sl19 sl20 sl21 : Array (Option Value)} {oc1 kV1 dc1 pm1 cd1 ct1 oc2 kV2 dc2 pm2 cd2 ct2 oc3 kV3 dc3 pm3 cd3 ct3 oc4 kV4 dc4 pm4 cd4 ct4 oc5 kV5 dc5 pm5 cd5 ct5 oc6 kV6 dc6 pm6 cd6 ct6 oc7 kV7 dc7 pm7 cd7 ct7 oc8 kV8 dc8 pm8 cd8 ct8 oc9 kV9 dc9 pm9 cd9 ct9 oc10 kV10 dc10 pm10 cd10 ct10 oc11 kV11 dc11 pm11 cd11 ct11 oc12 kV12 dc12 pm12 cd12 ct12 oc13 kV13 dc13 pm13 cd13 ct13 oc14 kV14 dc14 pm14 cd14 ct14 oc15 kV15 dc15 pm15 cd15 ct15 oc16 kV16 dc16 pm16 cd16 ct16 oc17 kV17 dc17 pm17 cd17 ct17 oc18 kV18 dc18 pm18 cd18 ct18 oc19 kV19 dc19 pm19 cd19 ct19 oc20 kV20 dc20 pm20 cd20 ct20 oc21 kV21 dc21 pm21 cd21 ct21 : Value}
    {tk_BOUND : Tok} (y_BOUND : PySem.W.nsIn K mainGlobals "BOUND" = some (some (.int 1000 tk_BOUND)))
    {tk_MOST_SPOTS : Tok} (y_MOST_SPOTS : PySem.W.nsIn K mainGlobals "MOST_SPOTS" = some (some (.int 8 tk_MOST_SPOTS)))
    {c_HerdError : Addr} (aC_HerdError : PySem.W.nsIn K mainGlobals "HerdError" = some (some (.ref c_HerdError)))
    {c_BadHerd : Addr} (aC_BadHerd : PySem.W.nsIn K mainGlobals "BadHerd" = some (some (.ref c_BadHerd)))
    {c_BadSpot : Addr} (aC_BadSpot : PySem.W.nsIn K mainGlobals "BadSpot" = some (some (.ref c_BadSpot)))
    {c_BadWay : Addr} (aC_BadWay : PySem.W.nsIn K mainGlobals "BadWay" = some (some (.ref c_BadWay)))
    {c_TooFew : Addr} (aC_TooFew : PySem.W.nsIn K mainGlobals "TooFew" = some (some (.ref c_TooFew)))
    {c_BadText : Addr} (aC_BadText : PySem.W.nsIn K mainGlobals "BadText" = some (some (.ref c_BadText)))
    (xi_BadText : PySem.W.excIn K c_BadText [.type "ValueError", .type "Exception", .type "BaseException", .type "object"] "ValueError.__new__" = true) (xf_BadText : excF K c_HerdError c_BadHerd c_BadSpot c_BadWay c_TooFew c_TooFew c_BadText false false false false = true)
    (hbHE : PySem.W.subIn K (.ref c_HerdError) (.type "BaseException") = some true)
    (hkHE : (PySem.W.kitCls K (.ref c_HerdError) (.ref c_HerdError)).isSome = true)
    (a1 : PySem.W.nsIn K mainGlobals "common_divisor" = some (some (.ref f1))) (l1 : K.lookup f1 = some ⟨oc1, od1, .func (PySem.W.fnOf "common_divisor" "common_divisor" (defArgs s_common_divisor) (defBody s_common_divisor) (defScope s_common_divisor) .none kV1 dc1 pm1 an1 cd1 ct1), sl1⟩) (c1 : PySem.W.codeIn K cd1 "common_divisor" = true) (k1 : PySem.W.keepIn K (.ref f1) = true)
    (a2 : PySem.W.nsIn K mainGlobals "made" = some (some (.ref f2))) (l2 : K.lookup f2 = some ⟨oc2, od2, .func (PySem.W.fnOf "made" "made" (defArgs s_made) (defBody s_made) (defScope s_made) .none kV2 dc2 pm2 an2 cd2 ct2), sl2⟩) (c2 : PySem.W.codeIn K cd2 "made" = true) (k2 : PySem.W.keepIn K (.ref f2) = true)
    (a3 : PySem.W.nsIn K mainGlobals "plus" = some (some (.ref f3))) (l3 : K.lookup f3 = some ⟨oc3, od3, .func (PySem.W.fnOf "plus" "plus" (defArgs s_plus) (defBody s_plus) (defScope s_plus) .none kV3 dc3 pm3 an3 cd3 ct3), sl3⟩) (c3 : PySem.W.codeIn K cd3 "plus" = true) (k3 : PySem.W.keepIn K (.ref f3) = true)
    (a4 : PySem.W.nsIn K mainGlobals "times" = some (some (.ref f4))) (l4 : K.lookup f4 = some ⟨oc4, od4, .func (PySem.W.fnOf "times" "times" (defArgs s_times) (defBody s_times) (defScope s_times) .none kV4 dc4 pm4 an4 cd4 ct4), sl4⟩) (c4 : PySem.W.codeIn K cd4 "times" = true) (k4 : PySem.W.keepIn K (.ref f4) = true)
    (a5 : PySem.W.nsIn K mainGlobals "is_number" = some (some (.ref f5))) (l5 : K.lookup f5 = some ⟨oc5, od5, .func (PySem.W.fnOf "is_number" "is_number" (defArgs s_is_number) (defBody s_is_number) (defScope s_is_number) .none kV5 dc5 pm5 an5 cd5 ct5), sl5⟩) (c5 : PySem.W.codeIn K cd5 "is_number" = true) (k5 : PySem.W.keepIn K (.ref f5) = true)
    (a6 : PySem.W.nsIn K mainGlobals "is_pair" = some (some (.ref f6))) (l6 : K.lookup f6 = some ⟨oc6, od6, .func (PySem.W.fnOf "is_pair" "is_pair" (defArgs s_is_pair) (defBody s_is_pair) (defScope s_is_pair) .none kV6 dc6 pm6 an6 cd6 ct6), sl6⟩) (c6 : PySem.W.codeIn K cd6 "is_pair" = true) (k6 : PySem.W.keepIn K (.ref f6) = true)
    (a7 : PySem.W.nsIn K mainGlobals "is_herd" = some (some (.ref f7))) (l7 : K.lookup f7 = some ⟨oc7, od7, .func (PySem.W.fnOf "is_herd" "is_herd" (defArgs s_is_herd) (defBody s_is_herd) (defScope s_is_herd) .none kV7 dc7 pm7 an7 cd7 ct7), sl7⟩) (c7 : PySem.W.codeIn K cd7 "is_herd" = true) (k7 : PySem.W.keepIn K (.ref f7) = true)
    (a8 : PySem.W.nsIn K mainGlobals "check_herd" = some (some (.ref f8))) (l8 : K.lookup f8 = some ⟨oc8, od8, .func (PySem.W.fnOf "check_herd" "check_herd" (defArgs s_check_herd) (defBody s_check_herd) (defScope s_check_herd) .none kV8 dc8 pm8 an8 cd8 ct8), sl8⟩) (c8 : PySem.W.codeIn K cd8 "check_herd" = true) (k8 : PySem.W.keepIn K (.ref f8) = true)
    (a9 : PySem.W.nsIn K mainGlobals "written" = some (some (.ref f9))) (l9 : K.lookup f9 = some ⟨oc9, od9, .func (PySem.W.fnOf "written" "written" (defArgs s_written) (defBody s_written) (defScope s_written) .none kV9 dc9 pm9 an9 cd9 ct9), sl9⟩) (c9 : PySem.W.codeIn K cd9 "written" = true) (k9 : PySem.W.keepIn K (.ref f9) = true)
    (a10 : PySem.W.nsIn K mainGlobals "read_number" = some (some (.ref f10))) (l10 : K.lookup f10 = some ⟨oc10, od10, .func (PySem.W.fnOf "read_number" "read_number" (defArgs s_read_number) (defBody s_read_number) (defScope s_read_number) .none kV10 dc10 pm10 an10 cd10 ct10), sl10⟩) (c10 : PySem.W.codeIn K cd10 "read_number" = true) (k10 : PySem.W.keepIn K (.ref f10) = true)
    (a11 : PySem.W.nsIn K mainGlobals "read" = some (some (.ref f11))) (l11 : K.lookup f11 = some ⟨oc11, od11, .func (PySem.W.fnOf "read" "read" (defArgs s_read) (defBody s_read) (defScope s_read) .none kV11 dc11 pm11 an11 cd11 ct11), sl11⟩) (c11 : PySem.W.codeIn K cd11 "read" = true) (k11 : PySem.W.keepIn K (.ref f11) = true)
    (a12 : PySem.W.nsIn K mainGlobals "_law_cell_at" = some (some (.ref f12))) (l12 : K.lookup f12 = some ⟨oc12, od12, .func (PySem.W.fnOf "_law_cell_at" "_law_cell_at" (defArgs s__law_cell_at) (defBody s__law_cell_at) (defScope s__law_cell_at) .none kV12 dc12 pm12 an12 cd12 ct12), sl12⟩) (c12 : PySem.W.codeIn K cd12 "_law_cell_at" = true) (k12 : PySem.W.keepIn K (.ref f12) = true)
    (a13 : PySem.W.nsIn K mainGlobals "_law_draw" = some (some (.ref f13))) (l13 : K.lookup f13 = some ⟨oc13, od13, .func (PySem.W.fnOf "_law_draw" "_law_draw" (defArgs s__law_draw) (defBody s__law_draw) (defScope s__law_draw) .none kV13 dc13 pm13 an13 cd13 ct13), sl13⟩) (c13 : PySem.W.codeIn K cd13 "_law_draw" = true) (k13 : PySem.W.keepIn K (.ref f13) = true)
    (a14 : PySem.W.nsIn K mainGlobals "_law_spot" = some (some (.ref f14))) (l14 : K.lookup f14 = some ⟨oc14, od14, .func (PySem.W.fnOf "_law_spot" "_law_spot" (defArgs s__law_spot) (defBody s__law_spot) (defScope s__law_spot) .none kV14 dc14 pm14 an14 cd14 ct14), sl14⟩) (c14 : PySem.W.codeIn K cd14 "_law_spot" = true) (k14 : PySem.W.keepIn K (.ref f14) = true)
    (a15 : PySem.W.nsIn K mainGlobals "_law_herd" = some (some (.ref f15))) (l15 : K.lookup f15 = some ⟨oc15, od15, .func (PySem.W.fnOf "_law_herd" "_law_herd" (defArgs s__law_herd) (defBody s__law_herd) (defScope s__law_herd) .none kV15 dc15 pm15 an15 cd15 ct15), sl15⟩) (c15 : PySem.W.codeIn K cd15 "_law_herd" = true) (k15 : PySem.W.keepIn K (.ref f15) = true)
    (a16 : PySem.W.nsIn K mainGlobals "_law_number" = some (some (.ref f16))) (l16 : K.lookup f16 = some ⟨oc16, od16, .func (PySem.W.fnOf "_law_number" "_law_number" (defArgs s__law_number) (defBody s__law_number) (defScope s__law_number) .none kV16 dc16 pm16 an16 cd16 ct16), sl16⟩) (c16 : PySem.W.codeIn K cd16 "_law_number" = true) (k16 : PySem.W.keepIn K (.ref f16) = true)
    (a17 : PySem.W.nsIn K mainGlobals "_law_in" = some (some (.ref f17))) (l17 : K.lookup f17 = some ⟨oc17, od17, .func (PySem.W.fnOf "_law_in" "_law_in" (defArgs s__law_in) (defBody s__law_in) (defScope s__law_in) .none kV17 dc17 pm17 an17 cd17 ct17), sl17⟩) (c17 : PySem.W.codeIn K cd17 "_law_in" = true) (k17 : PySem.W.keepIn K (.ref f17) = true)
    (a18 : PySem.W.nsIn K mainGlobals "_law_refused" = some (some (.ref f18))) (l18 : K.lookup f18 = some ⟨oc18, od18, .func (PySem.W.fnOf "_law_refused" "_law_refused" (defArgs s__law_refused) (defBody s__law_refused) (defScope s__law_refused) .none kV18 dc18 pm18 an18 cd18 ct18), sl18⟩) (c18 : PySem.W.codeIn K cd18 "_law_refused" = true) (k18 : PySem.W.keepIn K (.ref f18) = true)
    (a19 : PySem.W.nsIn K mainGlobals "_law_right" = some (some (.ref f19))) (l19 : K.lookup f19 = some ⟨oc19, od19, .func (PySem.W.fnOf "_law_right" "_law_right" (defArgs s__law_right) (defBody s__law_right) (defScope s__law_right) .none kV19 dc19 pm19 an19 cd19 ct19), sl19⟩) (c19 : PySem.W.codeIn K cd19 "_law_right" = true) (k19 : PySem.W.keepIn K (.ref f19) = true)
    (a20 : PySem.W.nsIn K mainGlobals "_law_few" = some (some (.ref f20))) (l20 : K.lookup f20 = some ⟨oc20, od20, .func (PySem.W.fnOf "_law_few" "_law_few" (defArgs s__law_few) (defBody s__law_few) (defScope s__law_few) .none kV20 dc20 pm20 an20 cd20 ct20), sl20⟩) (c20 : PySem.W.codeIn K cd20 "_law_few" = true) (k20 : PySem.W.keepIn K (.ref f20) = true)
    (a21 : PySem.W.nsIn K mainGlobals "law" = some (some (.ref f21))) (l21 : K.lookup f21 = some ⟨oc21, od21, .func (PySem.W.fnOf "law" "law" (defArgs s_law) (defBody s_law) (defScope s_law) .none kV21 dc21 pm21 an21 cd21 ct21), sl21⟩) (c21 : PySem.W.codeIn K cd21 "law" = true) (k21 : PySem.W.keepIn K (.ref f21) = true)
    (z_len : PySem.W.nsIn K mainGlobals "len" = some none) (z_all : PySem.W.nsIn K mainGlobals "all" = some none) (z_any : PySem.W.nsIn K mainGlobals "any" = some none) (z_abs : PySem.W.nsIn K mainGlobals "abs" = some none) (z_isinstance : PySem.W.nsIn K mainGlobals "isinstance" = some none) (z_tuple : PySem.W.nsIn K mainGlobals "tuple" = some none) (z_list : PySem.W.nsIn K mainGlobals "list" = some none) (z_bool : PySem.W.nsIn K mainGlobals "bool" = some none) (z_int : PySem.W.nsIn K mainGlobals "int" = some none) (z_str : PySem.W.nsIn K mainGlobals "str" = some none) (z_range : PySem.W.nsIn K mainGlobals "range" = some none) (z_ValueError : PySem.W.nsIn K mainGlobals "ValueError" = some none) :
    ∃ fd : FuncData, (∀ (s : Shared) (v : Value), BindsTo s fd ⟨[v], []⟩ [("_law_script", v)]) ∧ ∀ base : Heap, K.In base → base.Ns mainGlobals mg → base.NoDigits → FnC l.prog w K mg base 9 fa fd ["_law_script"] (sp_law K) := by
  have e := hfa.symm.trans (PySem.W.mg_of X G a21)
  cases e
  have F1 := fun_mk (st := s_common_divisor) l1 c1 k1
  have b1 := F1.binds2 (ps := ["a", "b"]) rfl fun _ _ _ _ _ _ _ _ => rfl
  have F2 := fun_mk (st := s_made) l2 c2 k2
  have b2 := F2.binds2 (ps := ["a", "b"]) rfl fun _ _ _ _ _ _ _ _ => rfl
  have F3 := fun_mk (st := s_plus) l3 c3 k3
  have b3 := F3.binds2 (ps := ["one", "other"]) rfl fun _ _ _ _ _ _ _ _ => rfl
  have F4 := fun_mk (st := s_times) l4 c4 k4
  have b4 := F4.binds2 (ps := ["one", "other"]) rfl fun _ _ _ _ _ _ _ _ => rfl
  have F5 := fun_mk (st := s_is_number) l5 c5 k5
  have b5 := F5.binds1 (ps := ["value"]) rfl fun _ _ _ _ _ _ _ => rfl
  have F6 := fun_mk (st := s_is_pair) l6 c6 k6
  have b6 := F6.binds1 (ps := ["value"]) rfl fun _ _ _ _ _ _ _ => rfl
  have F7 := fun_mk (st := s_is_herd) l7 c7 k7
  have b7 := F7.binds1 (ps := ["value"]) rfl fun _ _ _ _ _ _ _ => rfl
  have F8 := fun_mk (st := s_check_herd) l8 c8 k8
  have b8 := F8.binds1 (ps := ["herd"]) rfl fun _ _ _ _ _ _ _ => rfl
  have F9 := fun_mk (st := s_written) l9 c9 k9
  have b9 := F9.binds1 (ps := ["herd"]) rfl fun _ _ _ _ _ _ _ => rfl
  have F10 := fun_mk (st := s_read_number) l10 c10 k10
  have b10 := F10.binds1 (ps := ["word"]) rfl fun _ _ _ _ _ _ _ => rfl
  have F11 := fun_mk (st := s_read) l11 c11 k11
  have b11 := F11.binds1 (ps := ["text"]) rfl fun _ _ _ _ _ _ _ => rfl
  have F12 := fun_mk (st := s__law_cell_at) l12 c12 k12
  have b12 := F12.binds2 (ps := ["_law_script", "_law_k"]) rfl fun _ _ _ _ _ _ _ _ => rfl
  have F13 := fun_mk (st := s__law_draw) l13 c13 k13
  have b13 := F13.binds3 (ps := ["_law_cell", "_law_k", "_law_many"]) rfl fun _ _ _ _ _ _ _ _ _ => rfl
  have F14 := fun_mk (st := s__law_spot) l14 c14 k14
  have b14 := F14.binds3 (ps := ["_law_cell", "_law_most", "_law_line"]) rfl fun _ _ _ _ _ _ _ _ _ => rfl
  have F15 := fun_mk (st := s__law_herd) l15 c15 k15
  have b15 := F15.binds2 (ps := ["_law_cell", "_law_most_spots"]) rfl fun _ _ _ _ _ _ _ _ => rfl
  have F16 := fun_mk (st := s__law_number) l16 c16 k16
  have b16 := F16.binds1 (ps := ["_law_text"]) rfl fun _ _ _ _ _ _ _ => rfl
  have F17 := fun_mk (st := s__law_in) l17 c17 k17
  have b17 := F17.binds1 (ps := ["_law_text"]) rfl fun _ _ _ _ _ _ _ => rfl
  have F18 := fun_mk (st := s__law_refused) l18 c18 k18
  have b18 := F18.binds1 (ps := ["_law_text"]) rfl fun _ _ _ _ _ _ _ => rfl
  have F19 := fun_mk (st := s__law_right) l19 c19 k19
  have b19 := F19.binds1 (ps := ["_law_text"]) rfl fun _ _ _ _ _ _ _ => rfl
  have F20 := fun_mk (st := s__law_few) l20 c20 k20
  have b20 := F20.binds0 (ps := []) rfl fun _ _ _ _ _ _ => rfl
  have F21 := fun_mk (st := s_law) l21 c21 k21
  have b21 := F21.binds1 (ps := ["_law_script"]) rfl fun _ _ _ _ _ _ _ => rfl
  have T_HerdError : TxtN mg "HerdError" c_HerdError := ⟨PySem.W.mg_of X G aC_HerdError⟩
  have T_BadHerd : TxtN mg "BadHerd" c_BadHerd := ⟨PySem.W.mg_of X G aC_BadHerd⟩
  have T_BadSpot : TxtN mg "BadSpot" c_BadSpot := ⟨PySem.W.mg_of X G aC_BadSpot⟩
  have T_BadWay : TxtN mg "BadWay" c_BadWay := ⟨PySem.W.mg_of X G aC_BadWay⟩
  have T_TooFew : TxtN mg "TooFew" c_TooFew := ⟨PySem.W.mg_of X G aC_TooFew⟩
  have T_BadText : TxtN mg "BadText" c_BadText := ⟨PySem.W.mg_of X G aC_BadText⟩
  have KF_BadText := KF.of xf_BadText
  have T_HerdError : THE K mg c_HerdError := ⟨PySem.W.mg_of X G aC_HerdError, hbHE, fun z => by rw [z] at hkHE; cases hkHE⟩
  have KT_BadText : KT K c_HerdError c_BadHerd c_BadSpot c_BadWay c_TooFew c_BadText := ⟨KF_BadText.ec, KF_BadText.he, KF_BadText.k1, KF_BadText.k2, KF_BadText.k3, KF_BadText.k4, (by unfold PySem.W.kitOne; rw [if_pos (beq_self_eq_true _)]), KF_BadText.k6⟩
  have B : Bl mg := ⟨PySem.W.mg_none_of X G z_len, PySem.W.mg_none_of X G z_all, PySem.W.mg_none_of X G z_any, PySem.W.mg_none_of X G z_abs, PySem.W.mg_none_of X G z_isinstance, PySem.W.mg_none_of X G z_tuple, PySem.W.mg_none_of X G z_list, PySem.W.mg_none_of X G z_bool, PySem.W.mg_none_of X G z_int, PySem.W.mg_none_of X G z_str, PySem.W.mg_none_of X G z_range, PySem.W.mg_none_of X G z_ValueError, ⟨_, PySem.W.mg_of X G y_BOUND⟩, ⟨_, PySem.W.mg_of X G y_MOST_SPOTS⟩⟩
  refine ⟨PySem.W.fnOf "law" "law" (defArgs s_law) (defBody s_law) (defScope s_law) .none kV21 dc21 pm21 an21 cd21 ct21, fun s v => .of_eq rfl, fun base KB GB ND => ?_⟩
  have O_BadText : EO mg base "BadText" c_BadText := ⟨own_ex KB GB aC_BadText xi_BadText⟩
  have C_common_divisor := cal_mk (ok_cd (P := l.prog) (w := w) (base := base) B F1) b1 k1 (PySem.W.mg_of X G a1)
  have C_made := cal_mk (ok_made (P := l.prog) (w := w) (base := base) C_common_divisor F2) b2 k2 (PySem.W.mg_of X G a2)
  have C_plus := cal_mk (ok_plus (P := l.prog) (w := w) (base := base) C_made F3) b3 k3 (PySem.W.mg_of X G a3)
  have C_times := cal_mk (ok_times (P := l.prog) (w := w) (base := base) C_made F4) b4 k4 (PySem.W.mg_of X G a4)
  have C_is_number := cal_mk (ok_num (P := l.prog) (w := w) (base := base) B F5) b5 k5 (PySem.W.mg_of X G a5)
  have C_is_pair := cal_mk (ok_pair (P := l.prog) (w := w) (base := base) B C_is_number F6) b6 k6 (PySem.W.mg_of X G a6)
  have C_is_herd := cal_mk (ok_isherd (P := l.prog) (w := w) (base := base) B C_is_pair F7) b7 k7 (PySem.W.mg_of X G a7)
  have C_check_herd := cal_mk (ok_check (P := l.prog) (w := w) (base := base) C_is_herd F8) b8 k8 (PySem.W.mg_of X G a8)
  have C_written := cal_mk (ok_written (P := l.prog) (w := w) (base := base) B C_check_herd F9) b9 k9 (PySem.W.mg_of X G a9)
  have CT_is_number := cal_mk (ok_numT (P := l.prog) (w := w) (base := base) B F5) b5 k5 (PySem.W.mg_of X G a5)
  have CT_is_pair := cal_mk (ok_pairT (P := l.prog) (w := w) (base := base) B CT_is_number F6) b6 k6 (PySem.W.mg_of X G a6)
  have CT_is_herd := cal_mk (ok_herdT (P := l.prog) (w := w) (base := base) B CT_is_pair F7) b7 k7 (PySem.W.mg_of X G a7)
  have CC_read_number := calC_mk (ok_rn (P := l.prog) (w := w) (base := base) ND B O_BadText F10) b10 k10 (PySem.W.mg_of X G a10)
  have CC_read := calC_mk (ok_read (P := l.prog) (w := w) (base := base) B O_BadText CC_read_number CT_is_herd C_written F11) b11 k11 (PySem.W.mg_of X G a11)
  have C__law_cell_at := cal_mk (ok_cell (P := l.prog) (w := w) (base := base) B F12) b12 k12 (PySem.W.mg_of X G a12)
  have C__law_draw := cal_mk (ok_draw (P := l.prog) (w := w) (base := base)  F13) b13 k13 (PySem.W.mg_of X G a13)
  have C__law_spot := cal_mk (ok_spot (P := l.prog) (w := w) (base := base) C__law_draw F14) b14 k14 (PySem.W.mg_of X G a14)
  have C__law_herd := cal_mk (ok_herd (P := l.prog) (w := w) (base := base) B C__law_draw C__law_spot F15) b15 k15 (PySem.W.mg_of X G a15)
  have C__law_number := cal_mk (ok_number (P := l.prog) (w := w) (base := base) B F16) b16 k16 (PySem.W.mg_of X G a16)
  have C__law_in := cal_mk (ok_in (P := l.prog) (w := w) (base := base) B C__law_number F17) b17 k17 (PySem.W.mg_of X G a17)
  have CC__law_refused := calC_mk (ok_ref (P := l.prog) (w := w) (base := base) B T_HerdError T_BadHerd T_BadSpot T_BadWay T_TooFew T_BadText KT_BadText CC_read F18) b18 k18 (PySem.W.mg_of X G a18)
  have CC__law_right := calC_mk (ok_right (P := l.prog) (w := w) (base := base) B C__law_in CC__law_refused CC_read C_written F19) b19 k19 (PySem.W.mg_of X G a19)
  have C__law_few := cal_mk (ok_few (P := l.prog) (w := w) (base := base) B F20) b20 k20 (PySem.W.mg_of X G a20)
  exact ok_law B C__law_cell_at C__law_draw C__law_herd C_written CC_read CC__law_right CC__law_refused C__law_few C_made C_plus C_times F21
theorem walk {l : PySem.W.OpenLaw} {q : Program} {loose : List Str} {XP : (Str → Option Value) → Heap → Prop} {YP : World → Heap → Prop} {d : DefRec} {K : Params → PySem.W.Frag} (hn : l.most = some 63) (hdf : d.params.defaults = [])
    (hY : ∀ (w : World) (h : Heap), YP w h → (K w.params).In h)
    (F : ∀ (w : World) (mg : Str → Option Value) (fa : Addr) (h : Heap), (K w.params).In h → h.Ns mainGlobals mg → mg d.name = some (.ref fa) →
      ∃ fd : FuncData, (∀ (s : Shared) (u : Value), BindsTo s fd ⟨[u], []⟩ [("_law_script", u)]) ∧ ∀ base : Heap, (K w.params).In base → base.Ns mainGlobals mg → base.NoDigits → FnC l.prog w (K w.params) mg base 9 fa fd ["_law_script"] (sp_law (K w.params))) :
    PySem.C.WalkB q loose XP YP l.row.toRowW d [] :=
  L2.walk_ofC (n := 63) (k := 9) (x := "_law_script") (sp := sp_law) hn (by decide) hdf ⟨rfl, by decide, by decide⟩ hY F fun _ _ a ns _ _ hS => ⟨a, ns, rfl, hS, fun _ => rfl⟩
end K7a
open PySem PySem.W PyProof.Rows
namespace Kx
set_option maxRecDepth 100000 in
set_option maxHeartbeats 0 in
theorem main : PySem.Challenge.rw_herdline_k07_written.Holds := by
  w_on; o_law; k_head; (case hw => w_witness2)
  k_fill
  refine K7a.walk (l := PySem.Challenge.rw_herdline_k07_written) rfl rfl (fun w h Y => PySem.W.kIn_of Y) ?F
  case F =>
    intro w mg fa h KX G hmg
    refine' K7a.all_mk KX G hmg ?y_BOUND ?y_MOST_SPOTS ?aC_HerdError ?aC_BadHerd ?aC_BadSpot ?aC_BadWay ?aC_TooFew ?aC_BadText ?xi_BadText ?xf_BadText ?hbHE ?hkHE ?a1 ?l1 ?c1 ?k1 ?a2 ?l2 ?c2 ?k2 ?a3 ?l3 ?c3 ?k3 ?a4 ?l4 ?c4 ?k4 ?a5 ?l5 ?c5 ?k5 ?a6 ?l6 ?c6 ?k6 ?a7 ?l7 ?c7 ?k7 ?a8 ?l8 ?c8 ?k8 ?a9 ?l9 ?c9 ?k9 ?a10 ?l10 ?c10 ?k10 ?a11 ?l11 ?c11 ?k11 ?a12 ?l12 ?c12 ?k12 ?a13 ?l13 ?c13 ?k13 ?a14 ?l14 ?c14 ?k14 ?a15 ?l15 ?c15 ?k15 ?a16 ?l16 ?c16 ?k16 ?a17 ?l17 ?c17 ?k17 ?a18 ?l18 ?c18 ?k18 ?a19 ?l19 ?c19 ?k19 ?a20 ?l20 ?c20 ?k20 ?a21 ?l21 ?c21 ?k21 ?z_len ?z_all ?z_any ?z_abs ?z_isinstance ?z_tuple ?z_list ?z_bool ?z_int ?z_str ?z_range ?z_ValueError
    (case y_BOUND => k_is)
    (case y_MOST_SPOTS => k_is)
    (case aC_HerdError => k_is)
    (case aC_BadHerd => k_is)
    (case aC_BadSpot => k_is)
    (case aC_BadWay => k_is)
    (case aC_TooFew => k_is)
    (case aC_BadText => k_is)
    (case xi_BadText => kernel_rfl)
    (case xf_BadText => kernel_rfl)
    (case hbHE => kernel_rfl)
    (case hkHE => kernel_rfl)
    (case a1 => k_is)
    (case l1 => k_is)
    (case c1 => k_is)
    (case k1 => k_is)
    (case a2 => k_is)
    (case l2 => k_is)
    (case c2 => k_is)
    (case k2 => k_is)
    (case a3 => k_is)
    (case l3 => k_is)
    (case c3 => k_is)
    (case k3 => k_is)
    (case a4 => k_is)
    (case l4 => k_is)
    (case c4 => k_is)
    (case k4 => k_is)
    (case a5 => k_is)
    (case l5 => k_is)
    (case c5 => k_is)
    (case k5 => k_is)
    (case a6 => k_is)
    (case l6 => k_is)
    (case c6 => k_is)
    (case k6 => k_is)
    (case a7 => k_is)
    (case l7 => k_is)
    (case c7 => k_is)
    (case k7 => k_is)
    (case a8 => k_is)
    (case l8 => k_is)
    (case c8 => k_is)
    (case k8 => k_is)
    (case a9 => k_is)
    (case l9 => k_is)
    (case c9 => k_is)
    (case k9 => k_is)
    (case a10 => k_is)
    (case l10 => k_is)
    (case c10 => k_is)
    (case k10 => k_is)
    (case a11 => k_is)
    (case l11 => k_is)
    (case c11 => k_is)
    (case k11 => k_is)
    (case a12 => k_is)
    (case l12 => k_is)
    (case c12 => k_is)
    (case k12 => k_is)
    (case a13 => k_is)
    (case l13 => k_is)
    (case c13 => k_is)
    (case k13 => k_is)
    (case a14 => k_is)
    (case l14 => k_is)
    (case c14 => k_is)
    (case k14 => k_is)
    (case a15 => k_is)
    (case l15 => k_is)
    (case c15 => k_is)
    (case k15 => k_is)
    (case a16 => k_is)
    (case l16 => k_is)
    (case c16 => k_is)
    (case k16 => k_is)
    (case a17 => k_is)
    (case l17 => k_is)
    (case c17 => k_is)
    (case k17 => k_is)
    (case a18 => k_is)
    (case l18 => k_is)
    (case c18 => k_is)
    (case k18 => k_is)
    (case a19 => k_is)
    (case l19 => k_is)
    (case c19 => k_is)
    (case k19 => k_is)
    (case a20 => k_is)
    (case l20 => k_is)
    (case c20 => k_is)
    (case k20 => k_is)
    (case a21 => k_is)
    (case l21 => k_is)
    (case c21 => k_is)
    (case k21 => k_is)
    (case z_len => k_is)
    (case z_all => k_is)
    (case z_any => k_is)
    (case z_abs => k_is)
    (case z_isinstance => k_is)
    (case z_tuple => k_is)
    (case z_list => k_is)
    (case z_bool => k_is)
    (case z_int => k_is)
    (case z_str => k_is)
    (case z_range => k_is)
    (case z_ValueError => k_is)
end Kx
theorem PySem.Challenge.cw_herdline_k07_written_holds : PySem.Challenge.rw_herdline_k07_written.Holds :=
  Kx.main
