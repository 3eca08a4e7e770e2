import PyProof.Rows.All
import Wide.All
import OpenK.AllK
import Wide.FinOn
import Lean
import PyProof.EqAt
import PyProof.EqKinds
import PyProof.TupleCall
import PySem.SetOps
import PyProof.ZipIter
import PyProof.CollectWalk
import PyProof.Rows.ZipGen
import KE.KLam
import KE.KMinKey
import PySem.Challenge.RW_herdline_k08_refused
set_option Elab.async false
set_option linter.all false
set_option maxRecDepth 100000
namespace L2
open PySem PySem.Spec PyProof.Rows

abbrev Key := Sum Int Str
def keyIs : Key → Value → Bool
  | .inl k, v => Value.isInt k v
  | .inr x, v => Value.isStrOf x v
def keyH (w : World) : Key → Int
  | .inl k => hashInt k
  | .inr x => hashStr w x
theorem keyIs_shape : ∀ {k : Key} {v : Value}, keyIs k v = true → (∃ i t, k = Sum.inl i ∧ v = Value.int i t) ∨ (∃ x t, k = Sum.inr x ∧ v = Value.str x t)
  | .inl i, v, h => by
    obtain ⟨t, e⟩ := Value.isInt_shape (k := i) (v := v) h
    exact .inl ⟨i, t, rfl, e⟩
  | .inr x, v, h => by
    obtain ⟨t, e⟩ := Value.isStrOf_shape (x := x) (v := v) h
    exact .inr ⟨x, t, rfl, e⟩
theorem key_ll (a b : Int) : decide ((Sum.inl a : Key) = Sum.inl b) = (a == b) := by
  by_cases e : a = b
  · subst e; simp
  · have h : ¬ (Sum.inl a : Key) = Sum.inl b := fun q => e (Sum.inl.inj q)
    rw [decide_eq_false h]
    exact (beq_eq_false_iff_ne.mpr e).symm
theorem key_rr (a b : Str) : decide ((Sum.inr a : Key) = Sum.inr b) = decide (a = b) := by
  by_cases e : a = b
  · subst e; simp
  · have h : ¬ (Sum.inr a : Key) = Sum.inr b := fun q => e (Sum.inr.inj q)
    rw [decide_eq_false h, decide_eq_false e]
theorem key_lr (a : Int) (b : Str) : decide ((Sum.inl a : Key) = Sum.inr b) = false := decide_eq_false (fun q => nomatch q)
theorem key_rl (a : Str) (b : Int) : decide ((Sum.inr a : Key) = Sum.inl b) = false := decide_eq_false (fun q => nomatch q)

def mixKind (prog : Program) (w : World) : PySem.KeyKind prog w Key where
  is := keyIs
  hash := keyH w
  inj := fun v a b ha hb => by
    rcases keyIs_shape ha with ⟨i, t, rfl, rfl⟩ | ⟨x, t, rfl, rfl⟩
    · rcases keyIs_shape hb with ⟨j, u, rfl, e⟩ | ⟨y, u, rfl, e⟩
      · injection e with e1 _; rw [e1]
      · exact nomatch e
    · rcases keyIs_shape hb with ⟨j, u, rfl, e⟩ | ⟨y, u, rfl, e⟩
      · exact nomatch e
      · injection e with e1 _; rw [e1]
  byValue := fun k v h => by
    rcases keyIs_shape h with ⟨i, t, rfl, rfl⟩ | ⟨x, t, rfl, rfl⟩ <;> rfl
  pyHash := fun hv h => by
    rcases keyIs_shape hv with ⟨i, t, rfl, rfl⟩ | ⟨x, t, rfl, rfl⟩
    · exact wpAny_pyHash_int h
    · exact wpAny_pyHash_str h
  eqBool := fun hu hv h => by
    rcases keyIs_shape hu with ⟨i, t, rfl, rfl⟩ | ⟨x, t, rfl, rfl⟩
    · rcases keyIs_shape hv with ⟨j, u, rfl, rfl⟩ | ⟨y, u, rfl, rfl⟩
      · rw [key_ll] at h; exact wpAny_eqBool_int h
      · rw [key_lr] at h; exact SeqAt.EqAt.int_str i t y u _ _ _ _ h
    · rcases keyIs_shape hv with ⟨j, u, rfl, rfl⟩ | ⟨y, u, rfl, rfl⟩
      · rw [key_rl] at h; exact SeqAt.EqAt.str_int x t j u _ _ _ _ h
      · rw [key_rr] at h; exact wpAny_eqBool_str h
  «strs» := fun k x t v h => by
    rcases keyIs_shape h with ⟨i, u, rfl, e⟩ | ⟨y, u, rfl, e⟩
    · exact nomatch e
    · injection e with e1 _
      subst e1
      cases v <;> rfl

end L2

namespace L2
open PySem PySem.Spec PyProof.Rows

inductive V where
  | non | bl (b : Bool) | int (i : Int) | str (x : Str) | byt (b : Array UInt8) | flt (b : UInt64) | ref (a : Addr) | ty (n : String)
  deriving DecidableEq

def RelV : V → Value → Prop
  | .non, u => u = Value.none
  | .bl b, u => u = Value.bool b
  | .int i, u => ∃ t, u = Value.int i t
  | .str x, u => ∃ t, u = Value.str x t
  | .byt b, u => ∃ t, u = Value.bytes b t
  | .flt b, u => ∃ t, u = Value.float b t
  | .ref a, u => u = Value.ref a
  | .ty n, u => u = Value.type n

abbrev Vals : List V → List Value → Prop := Paired RelV
theorem Vals.length {xs : List V} {us : List Value} (r : Vals xs us) : xs.length = us.length := Paired.length r
theorem Vals.get : ∀ {xs : List V} {us : List Value} {i : Nat} {x : V}, Vals xs us → xs[i]? = some x → ∃ u, us[i]? = some u ∧ RelV x u
  | _, _, _, _, .nil, e => by simp at e
  | _, _, 0, _, .cons r _, e => by simp at e; subst e; exact ⟨_, rfl, r⟩
  | _, _, i + 1, x, .cons _ t, e => by
    obtain ⟨u, h1, h2⟩ := Vals.get (i := i) (x := x) t (by simpa using e)
    exact ⟨u, by simpa using h1, h2⟩
theorem Vals.append : ∀ {xs ys : List V} {us ws : List Value}, Vals xs us → Vals ys ws → Vals (xs ++ ys) (us ++ ws)
  | _, _, _, _, .nil, s => s
  | _, _, _, _, .cons r t, s => .cons r (Vals.append t s)
theorem Vals.take : ∀ {xs : List V} {us : List Value} (n : Nat), Vals xs us → Vals (xs.take n) (us.take n)
  | _, _, 0, _ => .nil
  | _, _, _ + 1, .nil => .nil
  | _, _, n + 1, .cons r t => .cons r (Vals.take n t)
theorem Vals.drop : ∀ {xs : List V} {us : List Value} (n : Nat), Vals xs us → Vals (xs.drop n) (us.drop n)
  | _, _, 0, r => r
  | _, _, _ + 1, .nil => .nil
  | _, _, n + 1, .cons _ t => Vals.drop n t
def RelO : Option V → Option Value → Prop
  | some v, some u => RelV v u
  | none, none => True
  | _, _ => False
def KV {κ : Type} : List (κ × V) → List (κ × Value) → Prop := Paired fun (p : κ × V) (q : κ × Value) => p.1 = q.1 ∧ RelV p.2 q.2

def kV : Key → V
  | .inl i => .int i
  | .inr x => .str x

inductive HO where
  /-- a list -/
  | lst (xs : List V)
  /-- a tuple (never changes) -/
  | tup (xs : List V)
  /-- a dict whose keys are ints and texts; one whose keys are tuples of ints and texts (the empty one is both) -/
  | dK (kvs : List (Key × V)) | dT (kvs : List (List Key × V))
  /-- a set of ints: its members, its size -/
  | set (S : Int → Bool) (n : Nat)
  /-- an instance of the class at C, its dict at dx, its attributes -/
  | ins (C dx : Addr) (fs : List (Str × V))
  /-- the dict of the instance at x -/
  | own (x : Addr)
  /-- the dict of an exception -/
  | xd (fs : List (Str × V))
  /-- a bound method, f of x -/
  | met (f x : Addr)
  /-- a range object lo, lo + 1, .. below hi -/
  | rng (lo hi : Int)
  /-- a thing that is known to the object (the script; a dict while a loop walks it): read, never written while it is so -/
  | frz (o : Obj) (u : HO)
  /-- a code object's table -/
  | tbl (ps : Array Value)
  /-- any other thing, by what is true of its one object (a def of one's own: SetO a S n := HO.ext fun h => ..) -/
  | ext (φ : Heap → Prop)

abbrev HO.cod (ln col : Int) (q : Str) : HO := .tbl #[rawInt ln, rawInt col, .str q 0]
abbrev Hp := Addr → Option HO
def upd (H : Hp) (a : Addr) (o : HO) : Hp := fun b => if b = a then some o else H b
theorem upd_same {H : Hp} {a : Addr} {o : HO} : upd H a o a = some o := by unfold upd; rw [if_pos rfl]
theorem upd_ne {H : Hp} {a b : Addr} {o : HO} (h : b ≠ a) : upd H a o b = H b := by unfold upd; rw [if_neg h]
theorem upd_upd {H : Hp} {a : Addr} {o u : HO} : upd (upd H a o) a u = upd H a u := by
  funext b; unfold upd; split <;> rfl
theorem ne_of_none {H : Hp} {a b : Addr} {o : HO} (h : H a = some o) (h' : H b = none) : a ≠ b := by
  intro e; subst e; rw [h] at h'; cases h'

section
variable (P : Program) (w : World)
def ObjOk (H : Hp) (h : Heap) (a : Addr) : HO → Prop
  | .lst xs => xs.length ≤ sizeLine ∧ ∃ (its : List Value) (n : Nat), Vals xs its ∧ h.get? a = some { cls := .type "list", data := .seq its.toArray n }
  | .tup xs => xs.length ≤ sizeLine ∧ ∃ its : List Value, Vals xs its ∧ IsTup h a its.toArray
  | .dK kvs => kvs.length ≤ sizeLine ∧ (a == sysModules) = false ∧ ∃ vs, KV kvs vs ∧ h.DictOf (mixKind P w) a vs
  | .dT kvs => kvs.length ≤ sizeLine ∧ (a == sysModules) = false ∧ ∃ xs : List (List Key × Addr × Value),
      Paired (fun (p : List Key × V) (q : List Key × Addr × Value) => p.1 = q.1 ∧ H q.2.1 = some (.tup (p.1.map kV)) ∧ RelV p.2 q.2.2) kvs xs ∧
      ∃ o es ep, h.get? a = some o ∧ o.ExactDict ∧ o.data = .dict es ep ∧ es.toList = xs.map (entryOfKey (tupleKind (mixKind P w))) ∧ (xs.map (·.1)).Nodup
  | .set S n => h.SetOf (intKind P w) a S n
  | .ins C dx fs => H dx = some (.own a) ∧ fs.length ≤ 1000 ∧ dx ≠ a ∧ h.get? a = some (PySem.W.instObj C dx) ∧
      ∃ mA, h.Ns1 dx mA ∧ (∀ f, RelO (fs.lookup f) (mA f)) ∧ PySem.Within mA (fs.map (·.1))
  | .own _ => ∃ o, h.get? a = some o
  | .xd fs => ∃ mA, h.Ns1 a mA ∧ ∀ f, RelO (fs.lookup f) (mA f)
  | .rng lo hi => ∃ t u v, h.get? a = some { cls := .type "range", data := .fields #[.int lo t, .int hi u, .int 1 v] }
  | .frz o u => h.get? a = some o ∧ ObjOk H h a u
  | .tbl d => ∃ ps : Array Value, h.get? a = some { cls := .none, data := .fields ps } ∧ (ps = #[] ∨ ∃ (ln col : Int) (q : Str) (u : Tok) (c : Addr) (oc : Obj) (vs : Array Value) (t : Tok), d = #[rawInt ln, rawInt col, .str q u] ∧ ps = #[rawInt ln, rawInt col, .ref c] ∧ H c = some (.frz oc (.own c)) ∧ oc.data = .fields vs ∧ vs[1]? = some (.str q t))
  | .met f x => h.get? a = some (PySem.W.methodObj (.ref f) (.ref x))
  | .ext φ => φ h ∧ (∃ o, h.get? a = some o) ∧ ∀ h1 h2 : Heap, φ h1 → (∀ o, h1.get? a = some o → h2.get? a = some o) → φ h2
def HOk (H : Hp) (h : Heap) : Prop := ∀ a o, H a = some o → ObjOk P w H h a o
end

section
variable {P : Program} {w : World} {H H' : Hp} {h h' : Heap} {a : Addr} {o : HO}
theorem ObjOk.lt (x : ObjOk P w H h a o) : a < h.objs.size := by
  cases o with
  | lst xs => obtain ⟨_, _, _, _, e⟩ := x; exact Heap.lt_size e
  | tup xs => obtain ⟨_, _, _, p⟩ := x; exact p.lt
  | dK kvs => obtain ⟨_, _, _, _, o, _, _, e, _⟩ := x; exact Heap.lt_size e
  | dT kvs => obtain ⟨_, _, _, _, o, _, _, e, _⟩ := x; exact Heap.lt_size e
  | set S n => obtain ⟨o, _, _, _, e, _⟩ := x; exact Heap.lt_size e
  | ins C dx fs => obtain ⟨_, _, _, e, _⟩ := x; exact Heap.lt_size e
  | own y => obtain ⟨_, e⟩ := x; exact Heap.lt_size e
  | xd fs => obtain ⟨_, ⟨_, _, _, e, _⟩, _⟩ := x; exact Heap.lt_size e
  | rng lo hi => obtain ⟨_, _, _, e⟩ := x; exact Heap.lt_size e
  | frz ob u => obtain ⟨e, _⟩ := x; exact Heap.lt_size e
  | tbl ps => obtain ⟨_, e, _⟩ := x; exact Heap.lt_size e
  | met f y => exact Heap.lt_size (show h.get? a = some _ from x)
  | ext φ => obtain ⟨_, ⟨_, e⟩, _⟩ := x; exact Heap.lt_size e
theorem Paired.mapP {α β : Type} {F G : α → β → Prop} : ∀ {l₁ : List α} {l₂ : List β}, Paired F l₁ l₂ → (∀ a b, F a b → G a b) → Paired G l₁ l₂
  | _, _, .nil, _ => .nil
  | _, _, .cons r t, f => .cons (f _ _ r) (Paired.mapP t f)
theorem ObjOk.stay (x : ObjOk P w H h a o) (k : ∀ b u, (b = a ∨ H b = some (.own a)) → h.get? b = some u → h'.get? b = some u)
    (hz : ∀ b ob u, H b = some (.frz ob u) → H' b = some (.frz ob u))
    (ho : ∀ b, H b = some (.own a) → H' b = some (.own a)) (ht : ∀ b xs, H b = some (.tup xs) → H' b = some (.tup xs)) : ObjOk P w H' h' a o := by
  induction o with
  | lst xs => obtain ⟨z, its, n, r, e⟩ := x; exact ⟨z, its, n, r, k _ _ (.inl rfl) e⟩
  | tup xs => obtain ⟨z, its, r, ob, e, c⟩ := x; exact ⟨z, its, r, ob, k _ _ (.inl rfl) e, c⟩
  | dK kvs => obtain ⟨z, y, vs, r, ob, es, ep, e, c⟩ := x; exact ⟨z, y, vs, r, ob, es, ep, k _ _ (.inl rfl) e, c⟩
  | dT kvs =>
    obtain ⟨z, y, xs, r, ob, es, ep, e, c⟩ := x
    exact ⟨z, y, xs, Paired.mapP r fun p q z => ⟨z.1, ht _ _ z.2.1, z.2.2⟩, ob, es, ep, k _ _ (.inl rfl) e, c⟩
  | set S n => obtain ⟨ob, es, ep, t, e, c⟩ := x; exact ⟨ob, es, ep, t, k _ _ (.inl rfl) e, c⟩
  | ins C dx fs =>
    obtain ⟨d, z, ne, e, mA, ⟨od, es, ep, e2, c⟩, r⟩ := x
    exact ⟨ho _ d, z, ne, k _ _ (.inl rfl) e, mA, ⟨od, es, ep, k _ _ (.inr d) e2, c⟩, r⟩
  | own y => obtain ⟨ob, e⟩ := x; exact ⟨ob, k _ _ (.inl rfl) e⟩
  | xd fs => obtain ⟨mA, ⟨od, es, ep, e, c⟩, r⟩ := x; exact ⟨mA, ⟨od, es, ep, k _ _ (.inl rfl) e, c⟩, r⟩
  | rng lo hi => obtain ⟨t, u, v, e⟩ := x; exact ⟨t, u, v, k _ _ (.inl rfl) e⟩
  | frz ob u ih => obtain ⟨e, q⟩ := x; exact ⟨k _ _ (.inl rfl) e, ih q⟩
  | tbl d =>
    obtain ⟨ps, e, r⟩ := x
    refine ⟨ps, k _ _ (.inl rfl) e, ?_⟩
    rcases r with r | ⟨ln, col, q, u, c, oc, vs, t, r0, r1, r2, r3⟩
    · exact .inl r
    · exact .inr ⟨ln, col, q, u, c, oc, vs, t, r0, r1, hz _ _ _ r2, r3⟩
  | met f y =>
    have e : h.get? a = some (PySem.W.methodObj (.ref f) (.ref y)) := x
    show h'.get? a = some (PySem.W.methodObj (.ref f) (.ref y))
    exact k a _ (.inl rfl) e
  | ext φ => obtain ⟨p, ⟨o, e⟩, st⟩ := x; exact ⟨st _ _ p fun o q => k _ _ (.inl rfl) q, ⟨o, k _ _ (.inl rfl) e⟩, st⟩
theorem HOk.lt (x : HOk P w H h) (e : H a = some o) : a < h.objs.size := (x a o e).lt
theorem HOk.fresh (x : HOk P w H h) (e : h.objs.size ≤ a) : H a = none := by
  cases q : H a with
  | none => rfl
  | some u => exact absurd (Nat.lt_of_lt_of_le (x.lt q) e) (Nat.lt_irrefl _)
theorem HOk.kept (x : HOk P w H h) (k : ∀ b u, h.get? b = some u → h'.get? b = some u) : HOk P w H h' := fun a o e =>
  (x a o e).stay (fun b u _ q => k b u q) (fun _ _ _ q => q) (fun _ q => q) fun _ _ q => q
theorem HOk.laid (x : HOk P w H h) (k : ∀ b u, h.get? b = some u → h'.get? b = some u) (hp : h.objs.size ≤ a) (new : ObjOk P w (upd H a o) h' a o) : HOk P w (upd H a o) h' := fun b u e => by
  have hn := x.fresh hp
  by_cases hb : b = a
  · subst hb; rw [upd_same] at e; cases e; exact new
  · rw [upd_ne hb] at e
    exact (x b u e).stay (fun c v _ q => k c v q) (fun c _ _ q => by rw [upd_ne (ne_of_none q hn)]; exact q) (fun c q => by rw [upd_ne (ne_of_none q hn)]; exact q) fun c xs q => by rw [upd_ne (ne_of_none q hn)]; exact q
end

def Rd (H : Hp) (a : Addr) (u : HO) : Prop := H a = some u ∨ ∃ o, H a = some (.frz o u)
theorem Rd.ok {P : Program} {w : World} {H : Hp} {h : Heap} {a : Addr} {u : HO} (r : Rd H a u) (x : HOk P w H h) : ObjOk P w H h a u := by
  rcases r with r | ⟨o, r⟩
  · exact x a u r
  · obtain ⟨_, q⟩ := x a _ r
    exact q
def Mut : Option HO → Prop
  | some (.lst _) => True
  | some (.dK _) => True
  | some (.dT _) => True
  | some (.set _ _) => True
  | some (.ins _ _ _) => True
  | some (.ext _) => True
  | _ => False
section
variable {P : Program} {w : World} {H : Hp} {h h' : Heap} {x e : Addr} {o' : HO}
theorem HOk.write (ok : HOk P w H h) (mu : Mut (H x)) (he : e = x ∨ H e = some (.own x)) (k : ∀ b u, b ≠ e → h.get? b = some u → h'.get? b = some u) (heo : ∃ u, h'.get? e = some u)
    (new : ObjOk P w (upd H x o') h' x o') : HOk P w (upd H x o') h' := fun b u q => by
  have nown : ∀ c y, H c = some (.own y) → c ≠ x := fun c y r z => by subst z; rw [r] at mu; exact mu
  have nfrz : ∀ c ob u, H c = some (.frz ob u) → c ≠ x := fun c ob u r z => by subst z; rw [r] at mu; exact mu
  have ntup : ∀ c xs, H c = some (.tup xs) → c ≠ x := fun c xs r z => by subst z; rw [r] at mu; exact mu
  by_cases hb : b = x
  · subst hb; rw [upd_same] at q; cases q; exact new
  · rw [upd_ne hb] at q
    by_cases hbe : b = e
    · have q' : H b = some (.own x) := by
        rcases he with z | z
        · exact absurd (hbe.trans z) hb
        · rw [hbe]; exact z
      rw [q] at q'; cases q'
      obtain ⟨v, hv⟩ := heo
      exact ⟨v, by rw [hbe]; exact hv⟩
    · refine (ok b u q).stay (fun c v hc r => k c v ?_ r) (fun c _ _ r => by rw [upd_ne (nfrz c _ _ r)]; exact r) (fun c r => by rw [upd_ne (nown c b r)]; exact r) fun c xs r => by rw [upd_ne (ntup c xs r)]; exact r
      rcases hc with rfl | hc
      · exact hbe
      · rintro rfl
        rcases he with z | z
        · exact nown c b hc z
        · rw [hc] at z; cases z; exact hb rfl
end

structure Un (fs ex : List Addr) (H H' : Hp) (h h' : Heap) : Prop where
  keep : ∀ b o, h.get? b = some o → H b = none → b ∉ fs → b ∉ ex → h'.get? b = some o
  slot : ∀ b o, h.get? b = some o → H b = none → b ∈ fs → b ∉ ex → ∃ sl, h'.get? b = some { o with slots := sl }
  free : ∀ b o, h.get? b = some o → H b = none → b ∉ ex → H' b = none
  there : ∀ b o, h.get? b = some o → b ∉ ex → ∃ o', h'.get? b = some o'
  tups : ∀ b xs, H b = some (.tup xs) → H' b = some (.tup xs)
  frzs : ∀ b o u, H b = some (.frz o u) → H' b = some (.frz o u)
  tbls : ∀ b ps, H b = some (.tbl ps) → ∃ more, H' b = some (.tbl (ps ++ more))
section
variable {fs fs' ex ex' : List Addr} {H H1 H2 : Hp} {h h1 h2 h' : Heap} {a x e : Addr} {o : HO}
theorem Un.any (u : Un fs ex H H1 h h1) {b : Addr} {ob : Obj} (q : h.get? b = some ob) (n : H b = none) (hx : b ∉ ex) : ∃ sl, h1.get? b = some { ob with slots := sl } := by
  by_cases hb : b ∈ fs
  · exact u.slot b ob q n hb hx
  · exact ⟨ob.slots, u.keep b ob q n hb hx⟩
theorem Un.trans (a : Un fs ex H H1 h h1) (b : Un fs ex H1 H2 h1 h2) : Un fs ex H H2 h h2 where
  keep := fun c ob q n hc hx => b.keep c ob (a.keep c ob q n hc hx) (a.free c ob q n hx) hc hx
  slot := fun c ob q n hc hx => by
    obtain ⟨sl, e1⟩ := a.slot c ob q n hc hx
    obtain ⟨sl', e2⟩ := b.slot c _ e1 (a.free c ob q n hx) hc hx
    exact ⟨sl', e2⟩
  free := fun c ob q n hx => by
    obtain ⟨o', e1⟩ := a.there c ob q hx
    exact b.free c o' e1 (a.free c ob q n hx) hx
  there := fun c ob q hx => by
    obtain ⟨o', e1⟩ := a.there c ob q hx
    exact b.there c o' e1 hx
  tups := fun c xs q => b.tups c xs (a.tups c xs q)
  frzs := fun c ob xs q => b.frzs c ob xs (a.frzs c ob xs q)
  tbls := fun c ps q => by
    obtain ⟨m1, e1⟩ := a.tbls c ps q
    obtain ⟨m2, e2⟩ := b.tbls c _ e1
    exact ⟨m1 ++ m2, by rw [e2, Array.append_assoc]⟩
theorem Un.kept (k : ∀ b u, h.get? b = some u → h'.get? b = some u) : Un fs ex H H h h' :=
  ⟨fun b ob q _ _ _ => k b ob q, fun b ob q _ _ _ => ⟨ob.slots, k b ob q⟩, fun _ _ _ n _ => n, fun b ob q _ => ⟨ob, k b ob q⟩, fun _ _ q => q, fun _ _ _ q => q, fun _ ps q => ⟨#[], by rw [q]; simp⟩⟩
theorem Un.refl : Un fs ex H H h h := Un.kept fun _ _ q => q
theorem Un.laid (k : ∀ b u, h.get? b = some u → h'.get? b = some u) (hp : h.objs.size ≤ a) (hn : H a = none) : Un fs ex H (upd H a o) h h' where
  keep := fun b u q _ _ _ => k b u q
  slot := fun b u q _ _ _ => ⟨u.slots, k b u q⟩
  free := fun b u q n _ => by rw [upd_ne (Nat.ne_of_lt (Nat.lt_of_lt_of_le (Heap.lt_size q) hp))]; exact n
  there := fun b u q _ => ⟨u, k b u q⟩
  tups := fun b xs q => by rw [upd_ne (ne_of_none q hn)]; exact q
  frzs := fun b u xs q => by rw [upd_ne (ne_of_none q hn)]; exact q
  tbls := fun b ps q => ⟨#[], by rw [upd_ne (ne_of_none q hn), q]; simp⟩
theorem Un.write (mu : Mut (H x)) (he : e = x ∨ H e = some (.own x)) (k : ∀ b u, b ≠ e → h.get? b = some u → h'.get? b = some u) (heo : ∃ u, h'.get? e = some u) : Un fs ex H (upd H x o) h h' := by
  have hx : ∀ b, H b = none → b ≠ x := fun b n z => by subst z; rw [n] at mu; exact mu
  have hb : ∀ b, H b = none → b ≠ e := fun b n z => by
    subst z
    rcases he with r | r
    · exact hx b n r
    · rw [n] at r; cases r
  have hm : ∀ b u, H b = some u → ¬ Mut (some u) → b ≠ x := fun b u q nm z => by subst z; rw [q] at mu; exact nm mu
  refine ⟨fun b u q n _ _ => k b u (hb b n) q, fun b u q n _ _ => ⟨u.slots, k b u (hb b n) q⟩, fun b u q n _ => by rw [upd_ne (hx b n)]; exact n, fun b u q _ => ?_,
    fun b xs q => by rw [upd_ne (hm b _ q fun z => z)]; exact q, fun b u xs q => by rw [upd_ne (hm b _ q fun z => z)]; exact q, fun b ps q => ⟨#[], by rw [upd_ne (hm b _ q fun z => z), q]; simp⟩⟩
  by_cases hbe : b = e
  · subst hbe; exact heo
  · exact ⟨u, k b u hbe q⟩
end

def trk (h : Heap) (H : Hp) : List Addr := (List.range h.objs.size).filter fun a => (H a).isSome
def hidT (h : Heap) (H : Hp) : Heap := PySem.W.hideAll h (trk h H)
theorem hidT_size (h : Heap) (H : Hp) : (hidT h H).objs.size = h.objs.size := PySem.W.hideAll_size _ _
theorem hidT_get {h : Heap} {H : Hp} {b : Addr} {o : Obj} (e : h.get? b = some o) (n : H b = none) : (hidT h H).get? b = some o :=
  PySem.W.hideAll_get _ e fun hm => by
    have q : (H b).isSome = true := (List.mem_filter.mp hm).2
    rw [n] at q; simp at q
theorem of_hidT {h : Heap} {H : Hp} {b : Addr} {o : Obj} (e : (hidT h H).get? b = some o) : h.get? b = some o ∧ H b = none := by
  have e' : h.get? b = some o := PySem.W.of_hideAll (trk h H) e
  refine ⟨e', ?_⟩
  cases q : H b with
  | none => rfl
  | some x =>
    have hm : b ∈ trk h H := List.mem_filter.mpr ⟨List.mem_range.mpr (Heap.lt_size e'), by simp [q]⟩
    have z : (hidT h H).get? b = none := PySem.W.hideAll_none (trk h H) hm
    rw [z] at e; cases e

def allNews (g h : Heap) (L : Addr) : List (Addr × Obj) := (List.range h.objs.size).filterMap fun a => if a = L ∨ (g.get? a).isSome = true then none else (h.get? a).map fun o => (a, o)
def rest (g h : Heap) (L d : Addr) : List (Addr × Obj) := (allNews g h L).filter fun p => decide (p.1 ≠ d)
end L2

namespace L2
open PySem PySem.Spec PyProof.Rows

structure Mod (K : PySem.W.Frag) (mg : Str → Option Value) (base : Heap) : Prop where
  kin : K.In base
  glob : base.Ns mainGlobals mg
  blt : ∃ mb, base.Ns builtinsNs mb ∧ ∀ x : Str, x ≠ "__name__" → mb x = bootBuiltins x
  nolimit : base.NoLimit

structure Cx where
  prog : Program
  w : World
  K : PySem.W.Frag
  mg : Str → Option Value
  base : Heap
  A : Around
  N : List Str
  s₀ : Shared
  H₀ : Hp
  env : Env
  outer : List Env
  stack : List Env
  ex : List Addr
  fn : Str → Bool
  calm : Bool
  pn : List (Addr × Obj)
  xe : Value → Shared → Prop
def frs (l : List Env) : List Addr := l.filterMap (·.frame)
abbrev Cx.fs (X : Cx) : List Addr := frs X.outer

def Vis (sc : Scope) (x : Str) : Prop := sc.names.lookup x = some .local ∨ sc.names.lookup x = some .cell ∨ sc.names.lookup x = some .free
def Loc (sc : Scope) (x : Str) : Prop := sc.names.lookup x = some .local ∨ sc.names.lookup x = some .cell
def Look (env : Env) (h : Heap) (m : Str → Option Value) (x : Str) (u : Value) : Prop :=
  (env.kindOf x = some .local ∧ m x = some u) ∨ ((env.kindOf x = some .cell ∨ env.kindOf x = some .free) ∧ ∃ c, env.cells.lookup x = some c ∧ h.IsCell c (some u))

structure Cx.Ok (X : Cx) : Prop where
  mod : Mod X.K X.mg X.base
  kind : X.env.scope.kind = .function
  glob : X.env.globals = mainGlobals
  blt : X.env.builtins = builtinsNs
  above : X.s₀.heap.objs.size ≤ X.env.locals
  inj : ∀ x y c, X.env.cells.lookup x = some c → X.env.cells.lookup y = some c → x = y
  has : ∀ x, (X.env.kindOf x = some .cell ∨ X.env.kindOf x = some .free) → ∃ c, X.env.cells.lookup x = some c
  cab : ∀ x c, X.fn x = true → X.env.cells.lookup x = some c → X.s₀.heap.objs.size ≤ c
  hd : X.calm = true → X.A.handled = none
  frames : X.A.frames = some X.stack
  stk : X.stack = X.outer ∨ (X.stack = X.env :: X.outer ∧ X.env.frame = some X.env.locals)
  exf : ∀ b ∈ X.ex, b ≠ X.env.locals ∧ ∀ x c, X.env.cells.lookup x = some c → c ≠ b
  bs : ∀ b o, X.base.get? b = some o → X.s₀.heap.get? b = some o ∧ X.H₀ b = none
  bsz : X.base.objs.size ≤ X.s₀.heap.objs.size
  noex : ∀ b o, X.base.get? b = some o → b ∉ X.ex
  exfs : ∀ b ∈ X.ex, b ∉ X.fs
  funs : X.s₀.heap.FunFrames X.base X.outer
  frf : ∀ b ∈ X.fs, X.H₀ b = none

structure Inv (X : Cx) (pins : List (Addr × Obj)) (σ : List (Option V)) (H : Hp) (s : Shared) : Prop where
  ok : X.Ok
  os : s.os = X.s₀.os
  bare : AllBare s.gens
  base : Un X.fs X.ex X.H₀ H X.s₀.heap s.heap
  loc : ∃ m, s.heap.Ns X.env.locals m ∧ ∀ (i : Nat) (x : Str) (v : V), X.N[i]? = some x → σ[i]? = some (some v) → Vis X.env.scope x → ∃ u, RelV v u ∧ Look X.env s.heap m x u
  cell : ∀ x c, X.env.cells.lookup x = some c → ∃ v, s.heap.IsCell c v
  free : H X.env.locals = none
  freeC : ∀ x c, X.env.cells.lookup x = some c → H c = none
  pin : ∀ p ∈ X.pn ++ pins, s.heap.get? p.1 = some p.2 ∧ H p.1 = none ∧ p.1 ≠ X.env.locals ∧ p.1 ∉ X.fs ∧ ∀ v, p.2.data ≠ .cell v
  hok : HOk X.prog X.w H s.heap
  len : σ.length = X.N.length

section
variable {X : Cx} {pins : List (Addr × Obj)} {σ : List (Option V)} {H H' : Hp} {s : Shared} {h' : Heap}

theorem Cx.Ok.nofr (ok : X.Ok) {b : Addr} {o : Obj} (e : X.base.get? b = some o) : b ∉ X.fs := fun hb => by
  have := (ok.funs.mem hb).1
  rw [e] at this; cases this
theorem Inv.bs (I : Inv X pins σ H s) : ∀ b o, X.base.get? b = some o → s.heap.get? b = some o ∧ H b = none := fun b o e =>
  ⟨I.base.keep b o (I.ok.bs b o e).1 (I.ok.bs b o e).2 (I.ok.nofr e) (I.ok.noex b o e), I.base.free b o (I.ok.bs b o e).1 (I.ok.bs b o e).2 (I.ok.noex b o e)⟩
theorem Inv.bk (I : Inv X pins σ H s) : ∀ b o, X.base.get? b = some o → s.heap.get? b = some o := fun b o e => (I.bs b o e).1
theorem Inv.mod (I : Inv X pins σ H s) : Mod X.K X.mg X.base := I.ok.mod
theorem Inv.kIn (I : Inv X pins σ H s) : X.K.In s.heap := I.ok.mod.kin.keeps I.bk
theorem Inv.lt (I : Inv X pins σ H s) : X.env.locals < s.heap.objs.size := let ⟨_, hn, _⟩ := I.loc; hn.lt
theorem Inv.sz (I : Inv X pins σ H s) : X.s₀.heap.objs.size ≤ s.heap.objs.size := Nat.le_trans I.ok.above (Nat.le_of_lt I.lt)
theorem Inv.nofs (I : Inv X pins σ H s) {a : Addr} (h : s.heap.objs.size ≤ a) : a ∉ X.fs := fun hb => by
  obtain ⟨_, o, ho, _⟩ := I.ok.funs.mem hb
  exact absurd (Nat.lt_of_lt_of_le (Heap.lt_size ho) (Nat.le_trans I.sz h)) (Nat.lt_irrefl _)
theorem Inv.cne (I : Inv X pins σ H s) : ∀ x c, X.env.cells.lookup x = some c → c ≠ X.env.locals := fun x c e z => by
  obtain ⟨v, o, ho, hd⟩ := I.cell x c e
  obtain ⟨m, ⟨o', es, ep, ho', hd', _⟩, _⟩ := I.loc
  rw [z, ho'] at ho; cases ho; rw [hd'] at hd; cases hd
theorem Inv.funs (I : Inv X pins σ H s) : s.heap.FunFrames X.base X.outer := by
  have all : ∀ (l : List Env), (∀ b ∈ frs l, b ∈ X.fs) → X.s₀.heap.FunFrames X.base l → s.heap.FunFrames X.base l := by
    intro l
    induction l with
    | nil => intro _ _; trivial
    | cons env r ih =>
      intro hs hl
      obtain ⟨hk, ⟨L, o, hf, hn, ho, hd⟩, hr⟩ := hl
      have hL : L ∈ X.fs := hs L (by unfold frs; rw [List.filterMap_cons, hf]; exact List.mem_cons_self)
      obtain ⟨sl, e⟩ := I.base.slot L o ho (I.ok.frf L hL) hL fun z => I.ok.exfs L z hL
      exact ⟨hk, ⟨L, _, hf, hn, e, hd⟩, ih (fun b hb => hs b (by unfold frs; rw [List.filterMap_cons, hf]; exact List.mem_cons_of_mem _ hb)) hr⟩
  exact all X.outer (fun _ hb => hb) I.ok.funs

theorem Inv.stack (I : Inv X pins σ H s) : s.heap.FunFrames X.base X.stack := by
  rcases I.ok.stk with e | ⟨e, hf⟩
  · rw [e]; exact I.funs
  · rw [e]
    obtain ⟨m, hn, _⟩ := I.loc
    refine .cons (by rw [I.ok.kind]; decide) hf hn ?_ I.funs
    exact Heap.get?_none_of_le (Nat.le_trans I.ok.bsz I.ok.above)
theorem Inv.stkSub (I : Inv X pins σ H s) : ∀ b ∈ frs X.stack, b ∈ X.env.locals :: X.fs := fun b hb => by
  rcases I.ok.stk with e | ⟨e, hf⟩
  · rw [e] at hb; exact List.mem_cons_of_mem _ hb
  · rw [e] at hb
    unfold frs at hb
    rw [List.filterMap_cons, hf] at hb
    exact hb
theorem Inv.stkFree (I : Inv X pins σ H s) : ∀ b ∈ frs X.stack, H b = none := fun b hb => by
  rcases List.mem_cons.mp (I.stkSub b hb) with e | hb
  · rw [e]; exact I.free
  · obtain ⟨_, o, ho, _⟩ := I.ok.funs.mem hb
    exact I.base.free b o ho (I.ok.frf b hb) fun z => I.ok.exfs b z hb

theorem Inv.step {g' : Array GenState} {t' : Nat} {d' : Drawn} {ch : List Addr} (I : Inv X pins σ H s)
    (hch : ∀ b ∈ ch, (b ∈ X.ex ∨ X.s₀.heap.objs.size ≤ b) ∧ b ≠ X.env.locals ∧ (∀ x c, X.env.cells.lookup x = some c → c ≠ b) ∧ ∀ p ∈ X.pn ++ pins, p.1 ≠ b)
    (keep : ∀ b o, b ≠ X.env.locals → b ∉ X.fs → b ∉ ch → s.heap.get? b = some o → H b = none → h'.get? b = some o)
    (slot : ∀ b o, b ≠ X.env.locals → b ∈ X.fs → b ∉ ch → s.heap.get? b = some o → H b = none → ∃ sl, h'.get? b = some { o with slots := sl }) (free : ∀ b o, b ∉ ch → s.heap.get? b = some o → H b = none → H' b = none)
    (there : ∀ b o, b ∉ ch → s.heap.get? b = some o → ∃ o', h'.get? b = some o')
    (tups : ∀ b xs, H b = some (.tup xs) → H' b = some (.tup xs)) (frzs : ∀ b o u, H b = some (.frz o u) → H' b = some (.frz o u)) (tbls : ∀ b ps, H b = some (.tbl ps) → ∃ more, H' b = some (.tbl (ps ++ more)))
    (ns : ∀ m, s.heap.Ns X.env.locals m → h'.Ns X.env.locals m) (hok : HOk X.prog X.w H' h') (hg : AllBare g') :
    Inv X pins σ H' { s with heap := h', gens := g', drawn := d', toks := t' } := by
  have neL : ∀ b o, X.s₀.heap.get? b = some o → b ≠ X.env.locals := fun b o e => Nat.ne_of_lt (Nat.lt_of_lt_of_le (Heap.lt_size e) I.ok.above)
  have neC : ∀ b o, X.s₀.heap.get? b = some o → b ∉ X.ex → b ∉ ch := fun b o e hx hb => by
    rcases (hch b hb).1 with z | z
    · exact hx z
    · exact absurd (Nat.lt_of_lt_of_le (Heap.lt_size e) z) (Nat.lt_irrefl _)
  have cellK : ∀ x c, X.env.cells.lookup x = some c → ∀ v, s.heap.IsCell c v → h'.IsCell c v := fun x c e v ⟨o, ho, hd⟩ => by
    have nch : c ∉ ch := fun z => (hch c z).2.2.1 x c e rfl
    by_cases hc : c ∈ X.fs
    · obtain ⟨sl, q⟩ := slot c o (I.cne x c e) hc nch ho (I.freeC x c e)
      exact ⟨_, q, hd⟩
    · exact ⟨o, keep c o (I.cne x c e) hc nch ho (I.freeC x c e), hd⟩
  refine ⟨I.ok, I.os, hg, ⟨fun b o e n hb hx => ?_, fun b o e n hb hx => ?_, fun b o e n hx => ?_, fun b o e hx => ?_, fun b xs e => tups b xs (I.base.tups b xs e), fun b o xs e => frzs b o xs (I.base.frzs b o xs e), fun b ps e => ?_⟩, ?_, fun x c e => ?_, ?_, fun x c e => ?_, fun p hp => ?_, hok, I.len⟩
  · exact keep b o (neL b o e) hb (neC b o e hx) (I.base.keep b o e n hb hx) (I.base.free b o e n hx)
  · obtain ⟨sl, e1⟩ := I.base.slot b o e n hb hx
    obtain ⟨sl', e2⟩ := slot b _ (neL b o e) hb (neC b o e hx) e1 (I.base.free b o e n hx)
    exact ⟨sl', e2⟩
  · obtain ⟨o', e1⟩ := I.base.there b o e hx
    exact free b o' (neC b o e hx) e1 (I.base.free b o e n hx)
  · obtain ⟨o', e1⟩ := I.base.there b o e hx
    exact there b o' (neC b o e hx) e1
  · obtain ⟨m1, e1⟩ := I.base.tbls b ps e
    obtain ⟨m2, e2⟩ := tbls b _ e1
    exact ⟨m1 ++ m2, by rw [e2, Array.append_assoc]⟩
  · obtain ⟨m, hn, hl⟩ := I.loc
    refine ⟨m, ns m hn, fun i x v e1 e2 e3 => ?_⟩
    obtain ⟨u, r, l⟩ := hl i x v e1 e2 e3
    refine ⟨u, r, ?_⟩
    rcases l with l | ⟨k, c, e, z⟩
    · exact .inl l
    · exact .inr ⟨k, c, e, cellK x c e _ z⟩
  · obtain ⟨v, z⟩ := I.cell x c e
    exact ⟨v, cellK x c e v z⟩
  · obtain ⟨m, ⟨o, _, _, ho, _⟩, _⟩ := I.loc
    exact free _ o (fun z => (hch _ z).2.1 rfl) ho I.free
  · obtain ⟨v, o, ho, hd⟩ := I.cell x c e
    exact free c o (fun z => (hch c z).2.2.1 x c e rfl) ho (I.freeC x c e)
  · obtain ⟨e, n, ne, nf, d⟩ := I.pin p hp
    have nch : p.1 ∉ ch := fun z => (hch p.1 z).2.2.2 p hp rfl
    exact ⟨keep p.1 p.2 ne nf nch e n, free p.1 p.2 nch e n, ne, nf, d⟩
theorem Inv.un {t' : Nat} (I : Inv X pins σ H s) (u : Un X.fs [] H H' s.heap h') (hok : HOk X.prog X.w H' h') : Inv X pins σ H' { s with heap := h', toks := t' } := by
  obtain ⟨m, ⟨o, es, ep, ho, r⟩, _⟩ := id I.loc
  obtain ⟨sl, hL⟩ := u.any ho I.free (by simp)
  exact I.step (g' := s.gens) (d' := s.drawn) (ch := []) (fun _ z => nomatch z) (fun b o _ hb _ e n => u.keep b o e n hb (by simp)) (fun b o _ hb _ e n => u.slot b o e n hb (by simp)) (fun b o _ e n => u.free b o e n (by simp)) (fun b o _ e => u.there b o e (by simp)) u.tups u.frzs u.tbls (fun m' hm => by
    obtain ⟨o', es', ep', ho', r'⟩ := hm
    rw [ho] at ho'; cases ho'
    exact ⟨_, es', ep', hL, r'⟩) hok I.bare
theorem Inv.call {g' : Array GenState} {t' : Nat} {d' : Drawn} {ch : List Addr} (I : Inv X pins σ H s) (u : Un (frs X.stack) ch H H' s.heap h') (hok : HOk X.prog X.w H' h') (hg : AllBare g')
    (hch : ∀ b ∈ ch, (b ∈ X.ex ∨ X.s₀.heap.objs.size ≤ b) ∧ b ≠ X.env.locals ∧ (∀ x c, X.env.cells.lookup x = some c → c ≠ b) ∧ ∀ p ∈ X.pn ++ pins, p.1 ≠ b) :
    Inv X pins σ H' { s with heap := h', gens := g', drawn := d', toks := t' } := by
  obtain ⟨m, ⟨o, es, ep, ho, r⟩, _⟩ := id I.loc
  obtain ⟨sl, hL⟩ := u.any ho I.free fun z => (hch _ z).2.1 rfl
  exact I.step (ch := ch) hch (fun b o hL hb hc e n => u.keep b o e n (fun z => (List.mem_cons.mp (I.stkSub b z)).elim hL hb) hc) (fun b o _ _ hc e n => u.any e n hc) (fun b o hc e n => u.free b o e n hc) (fun b o hc e => u.there b o e hc) u.tups u.frzs u.tbls (fun m' hm => by
    obtain ⟨o', es', ep', ho', r'⟩ := hm
    rw [ho] at ho'; cases ho'
    exact ⟨_, es', ep', hL, r'⟩) hok hg
theorem Inv.turned {t' : Nat} {it : Addr} (I : Inv X pins σ H s) (k : ∀ b o, b ≠ it → s.heap.get? b = some o → h'.get? b = some o) (hn : H it = none) (hL : it ≠ X.env.locals)
    (h1 : it ∈ X.ex ∨ X.s₀.heap.objs.size ≤ it) (h2 : ∀ x c, X.env.cells.lookup x = some c → c ≠ it) (h3 : ∀ p ∈ X.pn ++ pins, p.1 ≠ it) : Inv X pins σ H { s with heap := h', toks := t' } := by
  have nit : ∀ b u, H b = some u → b ≠ it := fun b u e z => by rw [z, hn] at e; cases e
  refine I.step (g' := s.gens) (d' := s.drawn) (ch := [it]) (fun b hb => ?_) (fun b o _ _ hc e _ => k b o (fun z => hc (by simp [z])) e) (fun b o _ _ hc e _ => ⟨o.slots, k b o (fun z => hc (by simp [z])) e⟩) (fun _ _ _ _ n => n)
    (fun b o hc e => ⟨o, k b o (fun z => hc (by simp [z])) e⟩) (fun _ _ e => e) (fun _ _ _ e => e) (fun b ps e => ⟨#[], by rw [e]; simp⟩) (fun m hm => ?_) (fun b u e => ?_) I.bare
  · have e : b = it := by simpa using hb
    subst e
    exact ⟨h1, hL, h2, h3⟩
  · obtain ⟨o, es, ep, ho, r⟩ := hm
    exact ⟨o, es, ep, k _ o (Ne.symm hL) ho, r⟩
  · refine (I.hok b u e).stay (fun c v hc q => k c v ?_ q) (fun _ _ _ q => q) (fun _ q => q) fun _ _ q => q
    rcases hc with z | z
    · rw [z]; exact nit b u e
    · exact nit c _ z
theorem Inv.tok (I : Inv X pins σ H s) (t : Nat) : Inv X pins σ H { s with toks := t } := I.un (h' := s.heap) (t' := t) Un.refl I.hok
theorem Inv.kept {t' : Nat} (I : Inv X pins σ H s) (k : ∀ b u, s.heap.get? b = some u → h'.get? b = some u) : Inv X pins σ H { s with heap := h', toks := t' } := I.un (Un.kept k) (I.hok.kept k)
theorem Inv.laid {a : Addr} {o : HO} {t' : Nat} (I : Inv X pins σ H s) (k : ∀ b u, s.heap.get? b = some u → h'.get? b = some u) (hp : s.heap.objs.size ≤ a) (new : ObjOk X.prog X.w (upd H a o) h' a o) :
    Inv X pins σ (upd H a o) { s with heap := h', toks := t' } := I.un (Un.laid k hp (I.hok.fresh hp)) (I.hok.laid k hp new)
theorem Inv.write {x e : Addr} {o : HO} {t' : Nat} (I : Inv X pins σ H s) (mu : Mut (H x)) (he : e = x ∨ H e = some (.own x)) (k : ∀ b u, b ≠ e → s.heap.get? b = some u → h'.get? b = some u) (heo : ∃ u, h'.get? e = some u)
    (new : ObjOk X.prog X.w (upd H x o) h' x o) : Inv X pins σ (upd H x o) { s with heap := h', toks := t' } := I.un (Un.write mu he k heo) (I.hok.write mu he k heo new)
theorem Inv.pins_of {pins' : List (Addr × Obj)} (I : Inv X pins σ H s) (h : ∀ p ∈ pins', s.heap.get? p.1 = some p.2 ∧ H p.1 = none ∧ p.1 ≠ X.env.locals ∧ p.1 ∉ X.fs ∧ ∀ v, p.2.data ≠ .cell v) : Inv X pins' σ H s :=
  ⟨I.ok, I.os, I.bare, I.base, I.loc, I.cell, I.free, I.freeC, fun p hp => (List.mem_append.mp hp).elim (fun z => I.pin p (List.mem_append_left _ z)) (h p), I.hok, I.len⟩

theorem nodup_ix {N : List Str} (hN : N.Nodup) {i j : Nat} {x : Str} (a : N[i]? = some x) (b : N[j]? = some x) : i = j := by
  obtain ⟨h1, e1⟩ := List.getElem?_eq_some_iff.mp a
  obtain ⟨h2, e2⟩ := List.getElem?_eq_some_iff.mp b
  exact (List.getElem_inj hN).mp (e1.trans e2.symm)

theorem store_ok2 {M : Model} {A : Around} {E : Value → Shared → Prop} {i : Nat} {x : Str} {v : V} {u : Value} {Q : Unit → Shared → Prop} (I : Inv X pins σ H s) (hN : X.N.Nodup) (hi : X.N[i]? = some x) (hx : Loc X.env.scope x) (r : RelV v u)
    (h : ∀ s', Inv X pins (σ.set i (some v)) H s' → (∃ a, Heap.SameBut a s.heap s'.heap ∧ (a = X.env.locals ∨ X.env.cells.lookup x = some a)) → Q () s') (hf : X.fn x = true ∨ X.env.scope.names.lookup x = some .local := by first | exact .inl rfl | exact .inr rfl | assumption) : wpAny M A (storeName X.env x u) Q E s := by
  obtain ⟨m, hn, hl⟩ := id I.loc
  have hcls : (X.env.scope.kind == .class || (X.env.scope.kind == .module && X.env.locals != X.env.globals)) = false := by rw [I.ok.kind]; rfl
  have hiσ : i < σ.length := by rw [I.len]; exact (List.getElem?_eq_some_iff.mp hi).1
  have cne := I.cne
  have tracked : ∀ {a : Addr} {h' : Heap}, (∃ o, s.heap.get? a = some o ∧ H a = none) → Heap.SameBut a s.heap h' → HOk X.prog X.w H h' := fun {a h'} ha hs b ob e => by
    obtain ⟨_, _, hfree⟩ := ha
    refine (I.hok b ob e).stay (fun c w' hc q => (hs.2 c ?_).trans q) (fun _ _ _ q => q) (fun _ q => q) fun _ _ q => q
    rintro rfl
    rcases hc with rfl | hc
    · rw [hfree] at e; cases e
    · rw [hfree] at hc; cases hc
  rcases hx with hk | hk
  · refine wpAny_storeName_local hk hn (fun h' hn' hs => ?_) hcls
    obtain ⟨oL, _, _, hoL, _⟩ := id hn
    refine h _ ⟨I.ok, I.os, I.bare, ⟨fun b o e n hb hx => ?_, fun b o e n hb hx => ?_, I.base.free, fun b o e hx => ?_, I.base.tups, I.base.frzs, I.base.tbls⟩, ⟨_, hn', fun j y v' e1 e2 e3 => ?_⟩, fun y c e => ?_, I.free, I.freeC, fun p hp => ?_, tracked ⟨oL, hoL, I.free⟩ hs, by simpa using I.len⟩ ⟨_, hs, .inl rfl⟩
    · exact (hs.2 b (Nat.ne_of_lt (Nat.lt_of_lt_of_le (Heap.lt_size e) I.ok.above))).trans (I.base.keep b o e n hb hx)
    · obtain ⟨sl, e1⟩ := I.base.slot b o e n hb hx
      exact ⟨sl, (hs.2 b (Nat.ne_of_lt (Nat.lt_of_lt_of_le (Heap.lt_size e) I.ok.above))).trans e1⟩
    · obtain ⟨o', e1⟩ := I.base.there b o e hx
      exact ⟨o', (hs.2 b (Nat.ne_of_lt (Nat.lt_of_lt_of_le (Heap.lt_size e) I.ok.above))).trans e1⟩
    · by_cases hj : j = i
      · subst hj
        rw [hi] at e1; cases e1
        rw [List.getElem?_set_self hiσ] at e2
        cases e2
        exact ⟨u, r, .inl ⟨hk, by simp⟩⟩
      · rw [List.getElem?_set_ne (Ne.symm hj)] at e2
        obtain ⟨u', r', q⟩ := hl j y v' e1 e2 e3
        refine ⟨u', r', ?_⟩
        rcases q with ⟨k, e⟩ | ⟨k, c, e, z⟩
        · refine .inl ⟨k, ?_⟩
          have : y ≠ x := fun e => hj (nodup_ix hN e1 (e ▸ hi))
          simp [this, e]
        · exact .inr ⟨k, c, e, z.sameBut hs (cne y c e)⟩
    · obtain ⟨w', z⟩ := I.cell y c e
      exact ⟨w', z.sameBut hs (cne y c e)⟩
    · obtain ⟨e, n, ne, nf, d⟩ := I.pin p hp
      exact ⟨(hs.2 p.1 ne).trans e, n, ne, nf, d⟩
  · have hfn : X.fn x = true := by
      rcases hf with z | z
      · exact z
      · rw [z] at hk; cases hk
    obtain ⟨c, hc⟩ := I.ok.has x (.inl hk)
    obtain ⟨w', z⟩ := I.cell x c hc
    refine wpAny_storeName_cell I.ok.kind hk hc z (fun h' hc' hs => ?_)
    obtain ⟨oc, hoc, hocd⟩ := id z
    refine h { s with heap := h' } ⟨I.ok, I.os, I.bare, ⟨fun b o e n hb hx => ?_, fun b o e n hb hx => ?_, I.base.free, fun b o e hx => ?_, I.base.tups, I.base.frzs, I.base.tbls⟩, ⟨m, hn.sameBut hs (Ne.symm (cne x c hc)), fun j y v' e1 e2 e3 => ?_⟩, fun y c' e => ?_, I.free, I.freeC, fun p hp => ?_, tracked ⟨oc, hoc, I.freeC x c hc⟩ hs, by simpa using I.len⟩ ⟨c, hs, .inr hc⟩
    · exact (hs.2 b (Nat.ne_of_lt (Nat.lt_of_lt_of_le (Heap.lt_size e) (I.ok.cab x c hfn hc)))).trans (I.base.keep b o e n hb hx)
    · obtain ⟨sl, e1⟩ := I.base.slot b o e n hb hx
      exact ⟨sl, (hs.2 b (Nat.ne_of_lt (Nat.lt_of_lt_of_le (Heap.lt_size e) (I.ok.cab x c hfn hc)))).trans e1⟩
    · obtain ⟨o', e1⟩ := I.base.there b o e hx
      exact ⟨o', (hs.2 b (Nat.ne_of_lt (Nat.lt_of_lt_of_le (Heap.lt_size e) (I.ok.cab x c hfn hc)))).trans e1⟩
    · by_cases hj : j = i
      · subst hj
        rw [hi] at e1; cases e1
        rw [List.getElem?_set_self hiσ] at e2
        cases e2
        exact ⟨u, r, .inr ⟨.inl hk, c, hc, hc'⟩⟩
      · rw [List.getElem?_set_ne (Ne.symm hj)] at e2
        obtain ⟨u', r', q⟩ := hl j y v' e1 e2 e3
        refine ⟨u', r', ?_⟩
        rcases q with q | ⟨k, c', e, z'⟩
        · exact .inl q
        · refine .inr ⟨k, c', e, z'.sameBut hs ?_⟩
          rintro rfl
          exact hj (nodup_ix hN e1 (I.ok.inj _ _ _ e hc ▸ hi))
    · by_cases hcc : c' = c
      · subst hcc; exact ⟨_, hc'⟩
      · obtain ⟨w2, z2⟩ := I.cell y c' e
        exact ⟨w2, z2.sameBut hs hcc⟩
    · obtain ⟨e, n, ne, nf, d⟩ := I.pin p hp
      refine ⟨(hs.2 p.1 ?_).trans e, n, ne, nf, d⟩
      intro q
      rw [q, hoc] at e
      have q' : oc = p.2 := Option.some.inj e
      exact d w' (by rw [← q']; exact hocd)
theorem store_ok {M : Model} {A : Around} {E : Value → Shared → Prop} {i : Nat} {x : Str} {v : V} {u : Value} {Q : Unit → Shared → Prop} (I : Inv X pins σ H s) (hN : X.N.Nodup) (hi : X.N[i]? = some x) (hx : Loc X.env.scope x) (r : RelV v u)
    (h : ∀ s', Inv X pins (σ.set i (some v)) H s' → Q () s') (hf : X.fn x = true ∨ X.env.scope.names.lookup x = some .local := by first | exact .inl rfl | exact .inr rfl | assumption) : wpAny M A (storeName X.env x u) Q E s :=
  store_ok2 I hN hi hx r (fun s' I' _ => h s' I') hf
theorem Inv.call' {s' : Shared} {ch : List Addr} (I : Inv X pins σ H s) (ho : s'.os = s.os) (u : Un (frs X.stack) ch H H' s.heap s'.heap) (hok : HOk X.prog X.w H' s'.heap) (hg : AllBare s'.gens)
    (hch : ∀ b ∈ ch, (b ∈ X.ex ∨ X.s₀.heap.objs.size ≤ b) ∧ b ≠ X.env.locals ∧ (∀ x c, X.env.cells.lookup x = some c → c ≠ b) ∧ ∀ p ∈ X.pn ++ pins, p.1 ≠ b) : Inv X pins σ H' s' := by
  obtain ⟨h', g', d', t', o'⟩ := s'
  have e : o' = s.os := ho
  subst e
  exact I.call (g' := g') (t' := t') (d' := d') u hok hg hch
end

abbrev XK := Value → Option Addr → Hp → Prop
abbrev St := List (Option V)
abbrev VK := V → Hp → Prop
abbrev TE := St → Hp → VK → Prop
abbrev TT := St → Hp → (Bool → Hp → Prop) → Prop
abbrev TA := St → Hp → (List V → Hp → Prop) → Prop
structure Ends where
  nx : St → Hp → Prop
  rt : VK
  bk : St → Hp → Prop := fun _ _ => False
  ct : St → Hp → Prop := fun _ _ => False
abbrev TS := Ends → St → Hp → Prop

inductive EP (X : Cx) (pins : List (Addr × Obj)) (σ : St) (Q : VK) (u : Value) (s' : Shared) : Prop where
  | mk (v : V) (H' : Hp) (I : Inv X pins σ H' s') (r : RelV v u) (q : Q v H')
inductive TP (X : Cx) (pins : List (Addr × Obj)) (σ : St) (Q : Bool → Hp → Prop) (b : Bool) (s' : Shared) : Prop where
  | mk (H' : Hp) (I : Inv X pins σ H' s') (q : Q b H')
inductive AP (X : Cx) (pins : List (Addr × Obj)) (σ : St) (Q : List V → Hp → Prop) (us : List Value) (s' : Shared) : Prop where
  | mk (vs : List V) (H' : Hp) (I : Inv X pins σ H' s') (r : Vals vs us) (q : Q vs H')
def SP (X : Cx) (pins : List (Addr × Obj)) (D : Ends) (f : Flow) (s' : Shared) : Prop :=
  match f with
  | .next => ∃ σ' H', Inv X pins σ' H' s' ∧ D.nx σ' H'
  | .brk => ∃ σ' H', Inv X pins σ' H' s' ∧ D.bk σ' H'
  | .cont => ∃ σ' H', Inv X pins σ' H' s' ∧ D.ct σ' H'
  | .ret u => ∃ v σ' H', Inv X pins σ' H' s' ∧ RelV v u ∧ D.rt v H'

def PE (X : Cx) (e : Expr) (t : TE) : Prop :=
  ∀ (pins : List (Addr × Obj)) (s : Shared) (σ : St) (H : Hp) (Q : VK), Inv X pins σ H s → t σ H Q → wpAny (model X.prog X.w) X.A (eval e X.env) (EP X pins σ Q) X.xe s
def PT (X : Cx) (e : Expr) (t : TT) : Prop :=
  ∀ (pins : List (Addr × Obj)) (s : Shared) (σ : St) (H : Hp) (Q : Bool → Hp → Prop), Inv X pins σ H s → t σ H Q → wpAny (model X.prog X.w) X.A (isTrue e X.env (eval e X.env)) (TP X pins σ Q) X.xe s
def PW (X : Cx) (e : Expr) (t : TT) : Prop :=
  ∀ (whole : Sem Value) (pins : List (Addr × Obj)) (s : Shared) (σ : St) (H : Hp) (Q : Bool → Hp → Prop), Inv X pins σ H s → t σ H Q → wpAny (model X.prog X.w) X.A (isTrue e X.env whole) (TP X pins σ Q) X.xe s
theorem PW.pt {X : Cx} {e : Expr} {t : TT} (h : PW X e t) : PT X e t := h _
def PA (X : Cx) (es : List Expr) (t : TA) : Prop :=
  ∀ (pos : Pos) (pins : List (Addr × Obj)) (s : Shared) (σ : St) (H : Hp) (Q : List V → Hp → Prop), Inv X pins σ H s → t σ H Q → wpAny (model X.prog X.w) X.A (spliced (backTo pos (starEach es X.env))) (AP X pins σ Q) X.xe s
def PS (X : Cx) (st : Stmt) (t : TS) : Prop :=
  ∀ (pins : List (Addr × Obj)) (s : Shared) (σ : St) (H : Hp) (D : Ends), Inv X pins σ H s → t D σ H → wpAny (model X.prog X.w) X.A (exec st X.env) (SP X pins D) X.xe s
def PSs (X : Cx) (st : List Stmt) (t : TS) : Prop :=
  ∀ (pins : List (Addr × Obj)) (s : Shared) (σ : St) (H : Hp) (D : Ends), Inv X pins σ H s → t D σ H → wpAny (model X.prog X.w) X.A (execs st X.env) (SP X pins D) X.xe s
theorem thn {α : Type} {t : Sem α} {Q Q' : α → Shared → Prop} {M : Model} {A : Around} {E : Value → Shared → Prop} {s : Shared} (h : wpAny M A t Q E s) (hQ : ∀ a s, Q a s → Q' a s) : wpAny M A t Q' E s := wpAny_mono h hQ fun _ _ x => x
end L2

namespace L2
open PySem PySem.Spec PyProof.Rows
section
variable {X : Cx}

inductive IsBl (x : V) (H : Hp) (Q : Bool → Hp → Prop) : Prop where
  | mk (c : Bool) (h : x = .bl c) (q : Q c H)
inductive IsIn (x : V) (H : Hp) (Q : Option Int → Hp → Prop) : Prop where
  | mk (i : Int) (h : x = .int i) (q : Q (some i) H)
inductive NewT (xs : List V) (H : Hp) (Q : VK) : Prop where
  | mk (h : xs.length ≤ sizeLine) (q : ∀ p, H p = none → Q (.ref p) (upd H p (.tup xs)))
inductive NewL (xs : List V) (H : Hp) (Q : VK) : Prop where
  | mk (h : xs.length ≤ sizeLine) (q : ∀ p, H p = none → Q (.ref p) (upd H p (.lst xs)))
inductive tVar (i : Nat) (σ : St) (H : Hp) (Q : VK) : Prop where
  | mk (v : _) (h_0 : σ[i]? = some (some v)) (h_1 : Q v H)
def tC (v : V) : TE := fun _ H Q => Q v H
theorem pe_var {i : Nat} {x : Str} {pos : Pos} (hN : X.N[i]? = some x) (hv : Vis X.env.scope x) (hd : (x == ("__debug__" : Str)) = false := by decide) (hcd : (x == ("__classdict__" : Str)) = false := by decide) : PE X (.Name x pos) (tVar i) := by
  intro pins s σ H Q I h
  obtain ⟨v, e, h⟩ := h
  obtain ⟨m, hn, hl⟩ := I.loc
  obtain ⟨u, r, l⟩ := hl i x v hN e hv
  have fin : EP X pins σ Q u s := ⟨v, H, I, r, h⟩
  rcases l with ⟨hk, hm⟩ | ⟨hk, c, hc, hcell⟩
  · exact wpAny_Name (wpAny_loadName_local I.ok.kind hk hn hm fin) hd
  · rcases hk with hk | hk
    · exact wpAny_Name (wpAny_loadName_cell I.ok.kind hk hc hcell fin) hd
    · exact wpAny_Name (wpAny_loadName_free I.ok.kind hk hc hcell fin hcd) hd
theorem pe_int {i j pos} : PE X (.Constant (.int i) j pos) (tC (.int i)) := fun _ _ _ H _ I h => wpAny_Constant_int ⟨.int i, H, I.tok _, ⟨_, rfl⟩, h⟩
theorem pe_bl {b j pos} : PE X (.Constant (.bool b) j pos) (tC (.bl b)) := fun _ _ _ H _ I h => Constant_bool ⟨.bl b, H, I, rfl, h⟩
theorem pe_non {j pos} : PE X (.Constant .none j pos) (tC .non) := fun _ _ _ H _ I h => Constant_none ⟨.non, H, I, rfl, h⟩
theorem pe_str {x j pos} : PE X (.Constant (.str x) j pos) (tC (.str x)) := fun _ _ _ H _ I h => Calls.Constant_str ⟨.str x, H, I.tok _, ⟨_, rfl⟩, h⟩

def Gl (X : Cx) (x : Str) : Prop := X.env.kindOf x = some .globalImplicit
theorem ld_glob {E : Value → Shared → Prop} {pins : List (Addr × Obj)} {s : Shared} {σ : St} {H : Hp} {x : Str} {u : Value} {pos : Pos} {Q : Value → Shared → Prop} (I : Inv X pins σ H s) (hg : Gl X x) (hm : X.mg x = some u) (h : Q u s)
    (hd : (x == ("__debug__" : Str)) = false := by decide) : wpAny (model X.prog X.w) X.A (eval (.Name x pos) X.env) Q E s :=
  Calls.Name_function_global I.ok.kind hg (Calls.loadGlobal_global (by rw [I.ok.glob]; exact I.mod.glob.keeps I.bk) hm h) hd
theorem ld_blt {E : Value → Shared → Prop} {pins : List (Addr × Obj)} {s : Shared} {σ : St} {H : Hp} {x : Str} {u : Value} {pos : Pos} {Q : Value → Shared → Prop} (I : Inv X pins σ H s) (hg : Gl X x) (hm : X.mg x = none) (hv : bootBuiltins x = some u) (h : Q u s)
    (hn : x ≠ "__name__" := by decide) (hd : (x == ("__debug__" : Str)) = false := by decide) : wpAny (model X.prog X.w) X.A (eval (.Name x pos) X.env) Q E s := by
  obtain ⟨mb, h1, h2⟩ := I.mod.blt
  exact Calls.Name_function_global I.ok.kind hg (Calls.loadGlobal_builtin (by rw [I.ok.glob]; exact I.mod.glob.keeps I.bk) hm (by rw [I.ok.blt]; exact h1.keeps I.bk) ((h2 x hn).trans hv) h) hd
theorem pe_glob {x : Str} {v : V} {u : Value} {pos : Pos} (hg : Gl X x) (hm : X.mg x = some u) (r : RelV v u) (hd : (x == ("__debug__" : Str)) = false := by decide) : PE X (.Name x pos) (tC v) :=
  fun _ _ _ H _ I h => ld_glob I hg hm ⟨v, H, I, r, h⟩ hd
theorem pe_bltn {x : Str} {v : V} {u : Value} {pos : Pos} (hg : Gl X x) (hm : X.mg x = none) (hv : bootBuiltins x = some u) (r : RelV v u) (hn : x ≠ "__name__" := by decide) (hd : (x == ("__debug__" : Str)) = false := by decide) : PE X (.Name x pos) (tC v) :=
  fun _ _ _ H _ I h => ld_blt I hg hm hv ⟨v, H, I, r, h⟩ hn hd

variable {a b : Expr} {ta tb : TE} {pos : Pos}
def tB (t : TE) : TT := fun σ H Q => t σ H fun x H1 => IsBl x H1 Q
theorem pt_val {e : Expr} {t : TE} (h : PE X e t) (he : ∀ whole, isTrue e X.env whole = (do let v ← whole; standAt e.pos; holding [v] (truthy v)) := by intro _; rfl) : PT X e (tB t) := by
  intro pins s σ H Q I hw
  refine isTrue_plain (thn (h pins s σ H _ I hw) fun v s1 ⟨x, H1, I1, r1, q1⟩ => ?_) (he _)
  obtain ⟨d, rfl, q⟩ := q1
  cases r1
  exact wpAny_truthy_bool ⟨H1, I1, q⟩

variable {tA tB' : TT} {rest : List Expr}
def tAnd (t u : TT) : TT := fun σ H Q => t σ H fun c H1 => if c = true then u σ H1 Q else Q false H1
def tOr (t u : TT) : TT := fun σ H Q => t σ H fun c H1 => if c = true then Q true H1 else u σ H1 Q
def tNot (t : TT) : TT := fun σ H Q => t σ H fun c H1 => Q (!c) H1
theorem pw_and1 (ha : PT X a tA) : PW X (.BoolOp .And [a] pos) tA := by
  intro wh pins s σ H Q I h
  refine isTrue_and (thn (ha pins s σ H Q I h) fun c s1 e => ?_)
  cases c with
  | true => exact isTrue_and_nil e
  | false => exact e
theorem pw_or1 (ha : PT X a tA) : PW X (.BoolOp .Or [a] pos) tA := by
  intro wh pins s σ H Q I h
  refine isTrue_or (thn (ha pins s σ H Q I h) fun c s1 e => ?_)
  cases c with
  | false => exact isTrue_or_nil e
  | true => exact e
theorem pw_and (ha : PT X a tA) (hb : PW X (.BoolOp .And (b :: rest) pos) tB') : PW X (.BoolOp .And (a :: b :: rest) pos) (tAnd tA tB') := by
  intro wh pins s σ H Q I h
  refine isTrue_and (thn (ha pins s σ H _ I h) fun c s1 ⟨H1, I1, q1⟩ => ?_)
  cases c with
  | true => exact hb wh pins s1 σ H1 Q I1 q1
  | false => exact ⟨H1, I1, q1⟩
theorem pw_or (ha : PT X a tA) (hb : PW X (.BoolOp .Or (b :: rest) pos) tB') : PW X (.BoolOp .Or (a :: b :: rest) pos) (tOr tA tB') := by
  intro wh pins s σ H Q I h
  refine isTrue_or (thn (ha pins s σ H _ I h) fun c s1 ⟨H1, I1, q1⟩ => ?_)
  cases c with
  | true => exact ⟨H1, I1, q1⟩
  | false => exact hb wh pins s1 σ H1 Q I1 q1
theorem pt_not (ha : PT X a tA) : PT X (.UnaryOp .Not a pos) (tNot tA) := by
  intro pins s σ H Q I h
  exact isTrue_not (thn (ha pins s σ H (fun c H1 => Q (!c) H1) I h) fun c s1 ⟨H1, I1, q1⟩ => ⟨H1, I1, q1⟩)
def tAndV (ta tb : TE) : TE := fun σ H Q => ta σ H fun x H1 => IsBl x H1 fun c H2 => if c = true then tb σ H2 Q else Q (.bl false) H2
def tNotV (ta : TE) : TE := fun σ H Q => ta σ H fun x H1 => IsBl x H1 fun c H2 => Q (.bl (!c)) H2
theorem pe_one {op} {t : TE} (h : PE X a t) : PE X (.BoolOp op [a] pos) t := fun pins s σ H Q I hw => BoolOp_one (h pins s σ H Q I hw)
theorem pe_and (ha : PE X a ta) (hb : PE X (.BoolOp .And (b :: rest) pos) tb) : PE X (.BoolOp .And (a :: b :: rest) pos) (tAndV ta tb) := by
  intro pins s σ H Q I h
  refine BoolOp_and (thn (ha pins s σ H _ I h) fun v s1 ⟨x, H1, I1, r1, q1⟩ => ?_)
  obtain ⟨c, rfl, q1⟩ := q1
  cases r1
  refine wpAny_truthy_bool ?_
  cases c with
  | true => exact hb pins s1 σ H1 Q I1 q1
  | false => exact ⟨.bl false, H1, I1, rfl, q1⟩
theorem pe_not (ha : PE X a ta) : PE X (.UnaryOp .Not a pos) (tNotV ta) := by
  intro pins s σ H Q I h
  refine UnaryOp_ (thn (ha pins s σ H _ I h) fun v s1 ⟨x, H1, I1, r1, q1⟩ => ?_)
  obtain ⟨c, rfl, q1⟩ := q1
  cases r1
  exact not_of (wpAny_truthy_bool ⟨.bl (!c), H1, I1, rfl, q1⟩)
def tIf (t : TT) (ta tb : TE) : TE := fun σ H Q => t σ H fun c H1 => if c = true then ta σ H1 Q else tb σ H1 Q
theorem pe_ifExp {c : Expr} (hc : PT X c tA) (ha : PE X a ta) (hb : PE X b tb) : PE X (.IfExp c a b pos) (tIf tA ta tb) := by
  intro pins s σ H Q I h
  refine wpAny_IfExp (thn (hc pins s σ H _ I h) fun d s1 ⟨H1, I1, q1⟩ => ?_)
  cases d with
  | true => exact ha pins s1 σ H1 Q I1 q1
  | false => exact hb pins s1 σ H1 Q I1 q1
end
end L2

namespace L2
open PySem PySem.Spec PyProof.Rows

def SqL (K : PySem.W.Frag) (H : Hp) (a : Addr) (xs : List V) : Prop :=
  Rd H a (.lst xs) ∨
    ∃ (o : Obj) (its : Array Value) (n : Nat), K.lookup a = some o ∧ o.cls = .type "list" ∧ o.dict = none ∧ o.data = .seq its n ∧ its.size ≤ sizeLine ∧ Vals xs its.toList
def SqT (K : PySem.W.Frag) (H : Hp) (a : Addr) (xs : List V) : Prop :=
  Rd H a (.tup xs) ∨
    ∃ (o : Obj) (its : Array Value) (n : Nat), K.lookup a = some o ∧ o.cls = .type "tuple" ∧ o.data = .seq its n ∧ its.size ≤ sizeLine ∧ Vals xs its.toList
def absV : Value → Option V
  | .none => some .non
  | .bool b => some (.bl b)
  | .int i _ => some (.int i)
  | .str x _ => some (.str x)
  | .bytes b _ => some (.byt b)
  | .float b _ => some (.flt b)
  | .ref a => some (.ref a)
  | .type n => some (.ty n)
  | _ => none
theorem RelV.abs {x : V} {u : Value} (r : RelV x u) : absV u = some x := by
  cases x with
  | non => cases r; rfl
  | bl _ => cases r; rfl
  | int _ => obtain ⟨t, rfl⟩ := r; rfl
  | str _ => obtain ⟨t, rfl⟩ := r; rfl
  | byt _ => obtain ⟨t, rfl⟩ := r; rfl
  | flt _ => obtain ⟨t, rfl⟩ := r; rfl
  | ref _ => cases r; rfl
  | ty _ => cases r; rfl
theorem RelV.inj {x y : V} {u : Value} (r : RelV x u) (q : RelV y u) : x = y := Option.some.inj (r.abs.symm.trans q.abs)
theorem Vals.inj : ∀ {xs ys : List V} {us : List Value}, Vals xs us → Vals ys us → xs = ys
  | _, _, _, .nil, .nil => rfl
  | _, _, _, .cons r t, .cons r' t' => by rw [r.inj r', Vals.inj t t']
section
variable {X : Cx} {pins : List (Addr × Obj)} {σ : St} {H : Hp} {s : Shared} {a : Addr} {xs ys : List V}
theorem SqL.of {K : PySem.W.Frag} (h : H a = some (.lst xs)) : SqL K H a xs := .inl (.inl h)
theorem SqT.of {K : PySem.W.Frag} (h : H a = some (.tup xs)) : SqT K H a xs := .inl (.inl h)
theorem Inv.list (I : Inv X pins σ H s) (h : SqL X.K H a xs) : ∃ its : List Value, Vals xs its ∧ PlainL s.heap a its.toArray ∧ xs.length ≤ sizeLine := by
  rcases h with h | ⟨o, its, n, hk, hc, hd, hs, hz, r⟩
  · obtain ⟨z, its, n, r, e⟩ := h.ok I.hok
    exact ⟨its, r, ⟨_, n, e, rfl, rfl, rfl⟩, z⟩
  · refine ⟨its.toList, r, ⟨o, n, I.kIn a o hk, hc, hd, by simpa using hs⟩, ?_⟩
    have e := r.length
    simp only [Array.length_toList] at e
    omega
theorem Inv.tuple (I : Inv X pins σ H s) (h : SqT X.K H a xs) : ∃ its : List Value, Vals xs its ∧ IsTup s.heap a its.toArray ∧ xs.length ≤ sizeLine := by
  rcases h with h | ⟨o, its, n, hk, hc, hs, hz, r⟩
  · obtain ⟨z, its, r, p⟩ := h.ok I.hok
    exact ⟨its, r, p, z⟩
  · refine ⟨its.toList, r, ⟨o, I.kIn a o hk, hc, n, by simpa using hs⟩, ?_⟩
    have e := r.length
    simp only [Array.length_toList] at e
    omega
theorem Inv.list_inj (I : Inv X pins σ H s) (h : SqL X.K H a xs) (h' : SqL X.K H a ys) : xs = ys := by
  obtain ⟨its, r, ⟨o, n, e, _, _, d⟩, _⟩ := I.list h
  obtain ⟨its', r', ⟨o', n', e', _, _, d'⟩, _⟩ := I.list h'
  rw [e] at e'; cases e'
  rw [d] at d'
  injection d' with d1 _
  have : its = its' := by simpa using congrArg Array.toList d1
  subst this
  exact r.inj r'
theorem Inv.tuple_inj (I : Inv X pins σ H s) (h : SqT X.K H a xs) (h' : SqT X.K H a ys) : xs = ys := by
  obtain ⟨its, r, ⟨o, e, _, n, d⟩, _⟩ := I.tuple h
  obtain ⟨its', r', ⟨o', e', _, n', d'⟩, _⟩ := I.tuple h'
  rw [e] at e'; cases e'
  rw [d] at d'
  injection d' with d1 _
  have : its = its' := by simpa using congrArg Array.toList d1
  subst this
  exact r.inj r'
end

abbrev Cx.wish (X : Cx) (E : Value → Shared → Prop) : Cx := { X with xe := E }
abbrev Cx.nox (X : Cx) : Cx := X.wish fun _ _ => False
theorem Cx.Ok.wish {X : Cx} (ok : X.Ok) (E : Value → Shared → Prop) : (X.wish E).Ok :=
  ⟨ok.mod, ok.kind, ok.glob, ok.blt, ok.above, ok.inj, ok.has, ok.cab, ok.hd, ok.frames, ok.stk, ok.exf, ok.bs, ok.bsz, ok.noex, ok.exfs, ok.funs, ok.frf⟩
theorem Cx.Ok.unwish {X : Cx} {E : Value → Shared → Prop} (ok : (X.wish E).Ok) : X.Ok :=
  ⟨ok.mod, ok.kind, ok.glob, ok.blt, ok.above, ok.inj, ok.has, ok.cab, ok.hd, ok.frames, ok.stk, ok.exf, ok.bs, ok.bsz, ok.noex, ok.exfs, ok.funs, ok.frf⟩
section
variable {X : Cx} {pins : List (Addr × Obj)} {σ : St} {H : Hp} {s : Shared} {E : Value → Shared → Prop}
theorem Inv.wish (I : Inv X pins σ H s) (E : Value → Shared → Prop) : Inv (X.wish E) pins σ H s := ⟨I.ok.wish E, I.os, I.bare, I.base, I.loc, I.cell, I.free, I.freeC, I.pin, I.hok, I.len⟩
theorem Inv.unwish (I : Inv (X.wish E) pins σ H s) : Inv X pins σ H s := ⟨I.ok.unwish, I.os, I.bare, I.base, I.loc, I.cell, I.free, I.freeC, I.pin, I.hok, I.len⟩
theorem SP.unwish {D : Ends} {f : Flow} {s' : Shared} (h : SP (X.wish E) pins D f s') : SP X pins D f s' := by
  cases f with
  | next => obtain ⟨σ', H', I, q⟩ := h; exact ⟨σ', H', I.unwish, q⟩
  | brk => obtain ⟨σ', H', I, q⟩ := h; exact ⟨σ', H', I.unwish, q⟩
  | cont => obtain ⟨σ', H', I, q⟩ := h; exact ⟨σ', H', I.unwish, q⟩
  | ret u => obtain ⟨v, σ', H', I, r, q⟩ := h; exact ⟨v, σ', H', I.unwish, r, q⟩
theorem PSs.nox {st : List Stmt} {t : TS} (h : PSs X.nox st t) : PSs X st t := fun pins s σ H D I hw =>
  wpAny_mono (h pins s σ H D (I.wish _) hw) (fun _ _ q => q.unwish) fun _ _ z => False.elim z
end

section
variable {X : Cx} {st : Stmt} {rest : List Stmt} {t u : TS} {e : Expr} {te : TE} {pos : Pos}
def tNext : TS := fun D σ H => D.nx σ H
def tSeq (t u : TS) : TS := fun D σ H => t { D with nx := u D } σ H
theorem pss_nil : PSs X [] tNext := fun _ _ σ H _ I h => wpAny_execs_nil ⟨σ, H, I, h⟩
theorem pss_cons (h1 : PS X st t) (h2 : PSs X rest u) : PSs X (st :: rest) (tSeq t u) := by
  intro pins s σ H D I h
  refine wpAny_execs_cons (thn (h1 pins s σ H { D with nx := u D } I h) fun f s1 q => ?_)
  cases f with
  | next =>
    obtain ⟨σ', H', I', q⟩ := q
    exact h2 pins s1 σ' H' D I' q
  | ret v => exact q
  | brk => exact q
  | cont => exact q
theorem pss_one (h1 : PS X st t) : PSs X [st] t := by
  intro pins s σ H D I h
  refine wpAny_execs_cons (thn (h1 pins s σ H D I h) fun f s1 q => ?_)
  cases f with
  | next => exact wpAny_execs_nil q
  | ret v => exact q
  | brk => exact q
  | cont => exact q
theorem Inv.quiet {pins : List (Addr × Obj)} {σ : St} {H : Hp} {s : Shared} (I : Inv X pins σ H s) : interactive X.env = false := by simp [interactive, I.ok.kind]
def tDrop (te : TE) : TS := fun D σ H => te σ H fun _ H1 => D.nx σ H1
theorem ps_expr (he : PE X e te) (hs : swapsWith e none pos.line X.env = pure false := by rfl) : PS X (.Expr e pos) (tDrop te) := by
  intro pins s σ H D I h
  exact wpAny_Expr_any (thn (he pins s σ H _ I h) fun v s1 ⟨x, H1, I1, r1, q1⟩ => ⟨σ, H1, I1, q1⟩) I.quiet hs
def tRet (te : TE) : TS := fun D σ H => te σ H D.rt
theorem ps_ret (he : PE X e te) : PS X (.Return (some e) pos) (tRet te) := by
  intro pins s σ H D I h
  exact wpAny_Return_some (thn (he pins s σ H _ I h) fun v s1 ⟨x, H1, I1, r1, q1⟩ => ⟨x, σ, H1, I1, r1, q1⟩)
def tIfS (c : TT) (t u : TS) : TS := fun D σ H => c σ H fun b H1 => if b = true then t D σ H1 else u D σ H1
theorem ps_if {c : Expr} {a b : List Stmt} {tc : TT} (hc : PT X c tc) (ha : PSs X a t) (hb : PSs X b u) : PS X (.If c a b pos) (tIfS tc t u) := by
  intro pins s σ H D I h
  refine wpAny_If (thn (hc pins s σ H _ I h) fun d s1 ⟨H1, I1, q1⟩ => ?_)
  cases d with
  | true => exact ha pins s1 σ H1 D I1 q1
  | false => exact hb pins s1 σ H1 D I1 q1
def tNever : TS := fun _ _ _ => False
theorem ps_never : PS X st tNever := fun _ _ _ _ _ _ h => h.elim
end

abbrev TG := V → St → Hp → (St → Hp → Prop) → Prop
abbrev TGs := List V → St → Hp → (St → Hp → Prop) → Prop
def PG (X : Cx) (target : Expr) (t : TG) : Prop :=
  ∀ (pins : List (Addr × Obj)) (s : Shared) (σ : St) (H : Hp) (v : V) (u : Value) (Q : St → Hp → Prop), Inv X pins σ H s → RelV v u → t v σ H Q →
    wpAny (model X.prog X.w) X.A (assign target X.env u) (fun _ s' => ∃ σ' H', Inv X pins σ' H' s' ∧ Q σ' H') X.xe s
def PGs (X : Cx) (ts : List Expr) (t : TGs) : Prop :=
  ∀ (pins : List (Addr × Obj)) (s : Shared) (σ : St) (H : Hp) (vs : List V) (us : List Value) (Q : St → Hp → Prop), Inv X pins σ H s → Vals vs us → t vs σ H Q →
    wpAny (model X.prog X.w) X.A (assignInOrder ((assignEach ts X.env).map (·.2)) us) (fun _ s' => ∃ σ' H', Inv X pins σ' H' s' ∧ Q σ' H') X.xe s
section
variable {X : Cx} {pos : Pos}
def gName (i : Nat) : TG := fun v σ H Q => Q (σ.set i (some v)) H
theorem pg_name {i : Nat} {x : Str} (hN : X.N.Nodup) (hi : X.N[i]? = some x) (hx : Loc X.env.scope x) (hf : X.fn x = true ∨ X.env.scope.names.lookup x = some .local := by first | exact .inl rfl | exact .inr rfl | assumption) : PG X (.Name x pos) (gName i) := by
  intro pins s σ H v u Q I r h
  exact wpAny_assign_Name (store_ok I hN hi hx r (fun s' I' => ⟨_, H, I', h⟩) hf)
inductive gNil (vs : List V) (σ : St) (H : Hp) (Q : St → Hp → Prop) : Prop where
  | mk  (h_0 : vs = []) (h_1 : Q σ H)
inductive gCons (t : TG) (u : TGs) (vs : List V) (σ : St) (H : Hp) (Q : St → Hp → Prop) : Prop where
  | mk (v : _) (r : _) (h_0 : vs = v :: r) (h_1 : t v σ H fun σ' H' => u r σ' H' Q)
theorem pgs_nil : PGs X [] gNil := by
  intro pins s σ H vs us Q I r h
  obtain ⟨e, h⟩ := h
  subst e
  cases r
  exact assignInOrder_nil ⟨σ, H, I, h⟩
theorem pgs_cons {e : Expr} {es : List Expr} {t : TG} {u : TGs} (h1 : PG X e t) (h2 : PGs X es u)
    (hs : (assignEach (e :: es) X.env).map (·.2) = assign e X.env :: (assignEach es X.env).map (·.2) := by rfl) : PGs X (e :: es) (gCons t u) := by
  intro pins s σ H vs us Q I r h
  obtain ⟨v, vr, e1, h⟩ := h
  subst e1
  cases r with
  | cons r rr =>
    rw [hs]
    refine assignInOrder_cons (thn (h1 pins s σ H _ _ _ I r h) fun _ s1 ⟨σ1, H1, I1, q1⟩ => ?_)
    exact h2 pins s1 σ1 H1 _ _ Q I1 rr q1
inductive gTup (K : PySem.W.Frag) (n : Nat) (t : TGs) (v : V) (σ : St) (H : Hp) (Q : St → Hp → Prop) : Prop where
  | mk (a : _) (xs : _) (h_0 : v = .ref a) (h_1 : SqT K H a xs) (h_2 : xs.length = n) (h_3 : t xs σ H Q)
theorem pg_tup {es : List Expr} {k : Nat} {t : TGs} {n : Nat} (hc : X.calm = true) (h : PGs X es t)
    (hn : (assignEach es X.env).length = n := by rfl) (hst : (assignEach es X.env).findIdx? (·.1) = none := by rfl) : PG X (.Tuple es k pos) (gTup X.K n t) := by
  intro pins s σ H v u Q I r hw
  obtain ⟨a, xs, e1, hq, hl, hw⟩ := hw
  subst e1
  cases r
  obtain ⟨its, rv, ht, hz⟩ := I.tuple hq
  refine assign_Tuple_tuple (I.ok.hd hc) ht (by simp [hn, ← hl, rv.length]) hst fun h' hx => ?_
  have I1 : Inv X pins σ H { s with heap := h' } := I.kept (t' := s.toks) fun b o e => hx b o (Nat.ne_of_lt (Heap.lt_size e)) e
  exact h pins _ σ H xs _ Q I1 (by simpa using rv) hw
def tAsg (te : TE) (g : TG) : TS := fun D σ H => te σ H fun x H1 => g x σ H1 D.nx
theorem ps_set {i : Nat} {x : Str} {e : Expr} {te : TE} {pos' : Pos} (hN : X.N.Nodup) (hi : X.N[i]? = some x) (hx : Loc X.env.scope x) (he : PE X e te) (hs : swapsWith e (some (.Name x pos')) pos.line X.env = pure false := by rfl) (hf : X.fn x = true ∨ X.env.scope.names.lookup x = some .local := by first | exact .inl rfl | exact .inr rfl | assumption) :
    PS X (.Assign [.Name x pos'] e pos) (tAsg te (gName i)) := by
  intro pins s σ H D I h
  refine wpAny_Assign_Name (thn (he pins s σ H _ I h) fun v s1 ⟨y, H1, I1, r1, q1⟩ => ?_) hs
  exact store_ok I1 hN hi hx r1 (fun s2 I2 => ⟨_, H1, I2, q1⟩) hf
end

section
variable {X : Cx} {pos : Pos}
def tWhile (c : TT) (tb : TS) : TS := fun D σ H => ∃ W : Nat → St → Hp → Prop, (∃ m, W m σ H) ∧ ∀ m σ H, W m σ H →
  c σ H fun b H1 => if b = true then ∃ N : St → Hp → Prop, (∀ σ' H', N σ' H' → ∃ m', m' < m ∧ W m' σ' H') ∧ tb { D with nx := N, ct := N, bk := D.nx } σ H1 else D.nx σ H1
theorem ps_while {c : Expr} {body : List Stmt} {tc : TT} {tb : TS} (hp : PassesOwn (model X.prog X.w) X.A X.env X.xe) (hc : PT X c tc) (hb : PSs X body tb) : PS X (.While c body [] pos) (tWhile tc tb) := by
  intro pins s σ H D I h
  obtain ⟨W, ⟨m0, w0⟩, turn⟩ := h
  refine wpAny_While (codeAny_whileLoop (fun n s' => ∃ σ' H', Inv X pins σ' H' s' ∧ W n σ' H') ?_ m0 ⟨σ, H, I, w0⟩)
  rintro n s1 ⟨σ1, H1, I1, w1⟩
  refine wpAny_passesOwn hp (thn (hc pins s1 σ1 H1 _ I1 (turn n σ1 H1 w1)) fun b s2 ⟨H2, I2, q2⟩ => ?_)
  cases b with
  | true =>
    obtain ⟨N, hN, q2⟩ := q2
    rw [if_pos rfl]
    refine wpAny_passesOwn hp (thn (hb pins s2 σ1 H2 _ I2 q2) fun f s3 q3 => ?_)
    cases f with
    | next =>
      obtain ⟨σ3, H3, I3, n3⟩ := q3
      obtain ⟨m', hm, w3⟩ := hN σ3 H3 n3
      exact ⟨m', hm, σ3, H3, I3, w3⟩
    | cont =>
      obtain ⟨σ3, H3, I3, n3⟩ := q3
      obtain ⟨m', hm, w3⟩ := hN σ3 H3 n3
      exact ⟨m', hm, σ3, H3, I3, w3⟩
    | brk => exact q3
    | ret v => exact q3
  | false =>
    rw [if_neg Bool.false_ne_true]
    exact wpAny_execs_nil ⟨σ1, H2, I2, q2⟩
end

structure It where
  go : Nat → Hp → Prop
  yld : Nat → Hp → V → Hp → Prop
  stop : Nat → Hp → Prop
def FpOk (X : Cx) (pins : List (Addr × Obj)) (H : Hp) (b : Addr) : Prop :=
  H b = none ∧ b ≠ X.env.locals ∧ b ∉ X.fs ∧ (b ∈ X.ex ∨ X.s₀.heap.objs.size ≤ b) ∧ (∀ x c, X.env.cells.lookup x = some c → c ≠ b) ∧ ∀ p ∈ X.pn ++ pins, p.1 ≠ b
theorem Inv.fpOk {X : Cx} {pins : List (Addr × Obj)} {σ : St} {H H' : Hp} {s : Shared} {b : Addr} (I : Inv X pins σ H s) (hb : s.heap.objs.size ≤ b) (hn : H' b = none) : FpOk X pins H' b := by
  refine ⟨hn, Nat.ne_of_gt (Nat.lt_of_lt_of_le I.lt hb), I.nofs hb, .inr (Nat.le_trans I.sz hb), fun x c e z => ?_, fun p hp z => ?_⟩
  · obtain ⟨v, q⟩ := I.cell x c e
    exact absurd (Nat.lt_of_lt_of_le q.lt (by rw [z]; exact hb)) (Nat.lt_irrefl _)
  · exact absurd (Nat.lt_of_lt_of_le (Heap.lt_size (I.pin p hp).1) (by rw [z]; exact hb)) (Nat.lt_irrefl _)
structure Turn (P : Program) (w : World) (K : PySem.W.Frag) (tg : Expr) (J : It) (fp : List Addr) (it : Addr) (tn : Nat → Heap → Prop) : Prop where
  mem : it ∈ fp
  obj : ∀ i h, tn i h → ∀ b ∈ fp, ∃ o, h.get? b = some o ∧ ∀ v, o.data ≠ .cell v
  keep : ∀ i h h', tn i h → (∀ b ∈ fp, ∀ o, h.get? b = some o → h'.get? b = some o) → tn i h'
  item : ∀ (X : Cx), X.prog = P → X.w = w → X.K = K → X.calm = true → ∀ (i : Nat) (pins : List (Addr × Obj)) (s : Shared) (σ : St) (H : Hp) (E : Value → Shared → Prop), Inv X pins σ H s → (∀ b ∈ fp, FpOk X pins H b) → tn i s.heap → J.go i H →
    wpAny (model P w) X.A (pyNext (.ref it)) (fun r s1 => ∃ u, r = some u ∧
      wpAny (model P w) X.A (letOwnedTupleGo tg (.ref it) u) (fun _ s2 => ∃ x H', Inv X pins σ H' s2 ∧ RelV x u ∧ J.yld i H x H' ∧ tn (i + 1) s2.heap ∧ ∀ b ∈ fp, H' b = none) E s1) E s
  done : ∀ (X : Cx), X.prog = P → X.w = w → X.K = K → X.calm = true → ∀ (i : Nat) (pins : List (Addr × Obj)) (s : Shared) (σ : St) (H : Hp) (E : Value → Shared → Prop), Inv X pins σ H s → (∀ b ∈ fp, FpOk X pins H b) → tn i s.heap → J.stop i H →
    wpAny (model P w) X.A (pyNext (.ref it)) (fun r s1 => r = none ∧ Inv X pins σ H s1) E s
  self : ∀ (A : Around) (i : Nat) (s : Shared) (Q : Value → Shared → Prop) (E : Value → Shared → Prop), tn i s.heap → Q (.ref it) s → wpAny (model P w) A (pyIter (.ref it)) Q E s
abbrev TI := St → Hp → (It → Hp → Prop) → Prop
def PIE (X : Cx) (pins : List (Addr × Obj)) (σ : St) (tg : Expr) (R : It → Hp → Prop) (itv : Value) (s2 : Shared) : Prop :=
  ∃ (it : Addr) (fp : List Addr) (tn : Nat → Heap → Prop) (J : It) (H' : Hp), itv = .ref it ∧ Inv X pins σ H' s2 ∧ Turn X.prog X.w X.K tg J fp it tn ∧ tn 0 s2.heap ∧ (∀ b ∈ fp, FpOk X pins H' b) ∧ R J H'
def PI (X : Cx) (tg iter : Expr) (wi : TI) : Prop :=
  ∀ (pins : List (Addr × Obj)) (s : Shared) (σ : St) (H : Hp) (R : It → Hp → Prop), Inv X pins σ H s → wi σ H R →
    wpAny (model X.prog X.w) X.A (eval iter X.env) (fun v s1 => wpAny (model X.prog X.w) X.A (pyIter v) (PIE X pins σ tg R) X.xe s1) X.xe s

theorem go_of {M : Model} {A : Around} {E : Value → Shared → Prop} {s : Shared} {tg : Expr} {it : Addr} {u : Value} {o : Obj} {n : String} {vs : Array Value} {Q : Unit → Shared → Prop} (ho : s.heap.get? it = some o) (hc : o.cls = .type n) (hd : o.data = .fields vs)
    (hn : ["enumerate", "zip", "dict_itemiterator", "dict_reverseitemiterator", "odict_iterator", "itertools.zip_longest", "itertools.pairwise"].contains n = false) (hQ : Q () s) : wpAny M A (letOwnedTupleGo tg (.ref it) u) Q E s := by
  unfold letOwnedTupleGo
  cases tg <;> first
    | exact wpAny_pure hQ
    | (cases u <;> first
        | exact wpAny_pure hQ
        | (refine wpAny_bind (wpAny_load ho ?_)
           rw [hc, hd]
           show wpAny M A (if (["enumerate", "zip", "dict_itemiterator", "dict_reverseitemiterator", "odict_iterator", "itertools.zip_longest", "itertools.pairwise"].contains n && vs[0]? == some (rawInt _)) = true then _ else _) Q E s
           rw [if_neg (by intro h; rw [hn, Bool.false_and] at h; cases h)]
           exact wpAny_pure hQ))

def Itl (K : PySem.W.Frag) (a : Addr) : It :=
  ⟨fun i H => ∃ xs x, SqL K H a xs ∧ xs[i]? = some x, fun i H x H' => H' = H ∧ ∀ xs, SqL K H a xs → xs[i]? = some x, fun i H => ∃ xs, SqL K H a xs ∧ xs.length ≤ i⟩
def Itt (K : PySem.W.Frag) (a : Addr) : It :=
  ⟨fun i H => ∃ xs x, SqT K H a xs ∧ xs[i]? = some x, fun i H x H' => H' = H ∧ ∀ xs, SqT K H a xs → xs[i]? = some x, fun i H => ∃ xs, SqT K H a xs ∧ xs.length ≤ i⟩
def Itr (lo : Int) (n : Nat) : It := ⟨fun i _ => i < n, fun i H x H' => H' = H ∧ x = .int (lo + i), fun i _ => n ≤ i⟩
theorem turn_list {P : Program} {w : World} {K : PySem.W.Frag} {tg : Expr} (a it : Addr) : Turn P w K tg (Itl K a) [it] it (fun i h => h.IsListIter it a i) where
  mem := by simp
  obj := fun i h st b hb => by
    have e : b = it := by simpa using hb
    subst e
    obtain ⟨o, e, c, d⟩ := st
    exact ⟨o, e, fun v z => by rw [d] at z; cases z⟩
  keep := fun i h h' st k => st.at fun o e => k it (by simp) o e
  item := by
    intro X hP hw hK hc i pins s σ H E I hf st hg
    subst hP hw hK
    obtain ⟨xs, x, hq, hx⟩ := hg
    obtain ⟨its, rv, p, hz⟩ := I.list hq
    obtain ⟨u, hu, ru⟩ := rv.get hx
    obtain ⟨f0, f1, f2, f3, f4, f5⟩ := hf it (by simp)
    refine wpAny_pyNext_list_item st p.isList (x := u) (by simpa using hu) fun h' st' sb => ?_
    have I1 : Inv X pins σ H { s with heap := h' } := I.turned (t' := s.toks) (fun b o hb e => (sb.2 b hb).trans e) f0 f1 f3 f4 f5
    obtain ⟨o, e, c, d⟩ := id st'
    exact ⟨u, rfl, go_of (s := { s with heap := h' }) e c d (by decide) ⟨x, H, I1, ru, ⟨rfl, fun ys hy => by rw [I.list_inj hy hq]; exact hx⟩, st', fun b hb => (hf b hb).1⟩⟩
  done := by
    intro X hP hw hK hc i pins s σ H E I hf st hg
    subst hP hw hK
    obtain ⟨xs, hq, hx⟩ := hg
    obtain ⟨its, rv, p, hz⟩ := I.list hq
    obtain ⟨f0, f1, f2, f3, f4, f5⟩ := hf it (by simp)
    have hl := rv.length
    exact wpAny_pyNext_list_end (I.ok.hd hc) st p.isList (by simp; omega) fun h' eb => ⟨rfl, I.turned (t' := s.toks) (fun b o hb e => eb b o hb e) f0 f1 f3 f4 f5⟩
  self := fun _ _ _ _ _ st h => wpAny_pyIter_listiter st h
theorem turn_tuple {P : Program} {w : World} {K : PySem.W.Frag} {tg : Expr} (a it : Addr) : Turn P w K tg (Itt K a) [it] it (fun i h => h.IsTupleIter it a i) where
  mem := by simp
  obj := fun i h st b hb => by
    have e : b = it := by simpa using hb
    subst e
    obtain ⟨o, e, c, d⟩ := st
    exact ⟨o, e, fun v z => by rw [d] at z; cases z⟩
  keep := fun i h h' st k => st.at fun o e => k it (by simp) o e
  item := by
    intro X hP hw hK hc i pins s σ H E I hf st hg
    subst hP hw hK
    obtain ⟨xs, x, hq, hx⟩ := hg
    obtain ⟨its, rv, p, hz⟩ := I.tuple hq
    obtain ⟨u, hu, ru⟩ := rv.get hx
    obtain ⟨f0, f1, f2, f3, f4, f5⟩ := hf it (by simp)
    refine wpAny_pyNext_tuple_item st (show s.heap.IsTuple a its.toArray from p) (x := u) (by simpa using hu) fun h' st' sb => ?_
    have I1 : Inv X pins σ H { s with heap := h' } := I.turned (t' := s.toks) (fun b o hb e => (sb.2 b hb).trans e) f0 f1 f3 f4 f5
    obtain ⟨o, e, c, d⟩ := id st'
    exact ⟨u, rfl, go_of (s := { s with heap := h' }) e c d (by decide) ⟨x, H, I1, ru, ⟨rfl, fun ys hy => by rw [I.tuple_inj hy hq]; exact hx⟩, st', fun b hb => (hf b hb).1⟩⟩
  done := by
    intro X hP hw hK hc i pins s σ H E I hf st hg
    subst hP hw hK
    obtain ⟨xs, hq, hx⟩ := hg
    obtain ⟨its, rv, p, hz⟩ := I.tuple hq
    obtain ⟨f0, f1, f2, f3, f4, f5⟩ := hf it (by simp)
    have hl := rv.length
    exact wpAny_pyNext_tuple_end (I.ok.hd hc) st (show s.heap.IsTuple a its.toArray from p) (by simp; omega) fun h' eb => ⟨rfl, I.turned (t' := s.toks) (fun b o hb e => eb b o hb e) f0 f1 f3 f4 f5⟩
  self := fun _ _ _ _ _ st h => wpAny_pyIter_tupleiter st h
theorem turn_range {P : Program} {w : World} {K : PySem.W.Frag} {tg : Expr} (it : Addr) (lo : Int) (n : Nat) : Turn P w K tg (Itr lo n) [it] it (fun i h => IsRangeIter h it (lo + (i : Nat) * 1) ((n : Int) - (i : Nat)) 1) where
  mem := by simp
  obj := fun i h st b hb => by
    have e : b = it := by simpa using hb
    subst e
    exact ⟨_, st, fun v z => by
      have z' : Data.fields _ = Data.cell v := z
      cases z'⟩
  keep := fun i h h' st k => k it (by simp) _ st
  item := by
    intro X hP hw hK hc i pins s σ H E I hf st hg
    subst hP hw hK
    obtain ⟨f0, f1, f2, f3, f4, f5⟩ := hf it (by simp)
    have W := Walks.range (prog := X.prog) (w := X.w) (I.ok.hd hc) it lo 1 n
    refine W.item i s _ _ hg st fun v h' tk hv st' kk => ?_
    obtain ⟨t, rfl⟩ := hv
    have I1 : Inv X pins σ H { s with heap := h', toks := tk } := I.turned (fun b o hb e => kk b o (by simpa using hb) e) f0 f1 f3 f4 f5
    refine ⟨_, rfl, go_of (s := { s with heap := h', toks := tk }) (n := "range_iterator") st' rfl rfl (by decide) ⟨.int (lo + i), H, I1, ⟨t, ?_⟩, ⟨rfl, rfl⟩, st', fun b hb => (hf b hb).1⟩⟩
    rw [Int.mul_one]
  done := by
    intro X hP hw hK hc i pins s σ H E I hf st hg
    subst hP hw hK
    obtain ⟨f0, f1, f2, f3, f4, f5⟩ := hf it (by simp)
    exact wpAny_pyNext_range_end (I.ok.hd hc) st (by have : n ≤ i := hg; omega) fun h' eb => ⟨rfl, I.turned (t' := s.toks) (fun b o hb e => eb b o hb e) f0 f1 f3 f4 f5⟩
  self := fun _ _ _ _ _ st h => wpAny_pyIter_rangeiter st h
end L2

namespace L2
open PySem PySem.Spec PyProof.Rows
section
variable {X : Cx} {tg : Expr}
inductive IsLs (K : PySem.W.Frag) (x : V) (H : Hp) (R : It → Hp → Prop) : Prop where
  | mk (a : _) (h : x = .ref a) (g : ∃ xs, SqL K H a xs) (q : R (Itl K a) H)
inductive IsTs (K : PySem.W.Frag) (x : V) (H : Hp) (R : It → Hp → Prop) : Prop where
  | mk (a : _) (h : x = .ref a) (g : ∃ xs, SqT K H a xs) (q : R (Itt K a) H)
def iList (K : PySem.W.Frag) (tl : TE) : TI := fun σ H R => tl σ H fun x H1 => IsLs K x H1 R
def iTup (K : PySem.W.Frag) (tl : TE) : TI := fun σ H R => tl σ H fun x H1 => IsTs K x H1 R
theorem pi_list {l : Expr} {tl : TE} (hl : PE X l tl) : PI X tg l (iList X.K tl) := by
  intro pins s σ H R I h
  refine thn (hl pins s σ H _ I h) fun v s1 ⟨x, H1, I1, r1, q1⟩ => ?_
  obtain ⟨a, e, ⟨xs, hq⟩, q⟩ := q1
  subst e
  cases r1
  obtain ⟨its, rv, p, hz⟩ := I1.list hq
  refine wpAny_pyIter_list p.isList ?_
  refine ⟨s1.heap.objs.size, [s1.heap.objs.size], _, _, H1, rfl, I1.kept (t' := s1.toks) fun b o e => Heap.get?_push_of_some _ e, turn_list a _, ⟨_, Heap.get?_push_size _ rfl, rfl, rfl⟩, fun b hb => ?_, q⟩
  have e : b = s1.heap.objs.size := by simpa using hb
  subst e
  exact I1.fpOk (Nat.le_refl _) (I1.hok.fresh (Nat.le_refl _))
theorem pi_tup {l : Expr} {tl : TE} (hl : PE X l tl) : PI X tg l (iTup X.K tl) := by
  intro pins s σ H R I h
  refine thn (hl pins s σ H _ I h) fun v s1 ⟨x, H1, I1, r1, q1⟩ => ?_
  obtain ⟨a, e, ⟨xs, hq⟩, q⟩ := q1
  subst e
  cases r1
  obtain ⟨its, rv, p, hz⟩ := I1.tuple hq
  refine wpAny_pyIter_tuple (show s1.heap.IsTuple a its.toArray from p) ?_
  refine ⟨s1.heap.objs.size, [s1.heap.objs.size], _, _, H1, rfl, I1.kept (t' := s1.toks) fun b o e => Heap.get?_push_of_some _ e, turn_tuple a _, ⟨_, Heap.get?_push_size _ rfl, rfl, rfl⟩, fun b hb => ?_, q⟩
  have e : b = s1.heap.objs.size := by simpa using hb
  subst e
  exact I1.fpOk (Nat.le_refl _) (I1.hok.fresh (Nat.le_refl _))
theorem range_it {pins : List (Addr × Obj)} {σ : St} {H : Hp} {s : Shared} {R : It → Hp → Prop} {E : Value → Shared → Prop} {lo hi : Int} {t u v : Tok} {tk : Nat} (I : Inv X pins σ H s) (h1 : -(2 ^ 62) ≤ lo) (h2 : lo < 2 ^ 62) (h3 : -(2 ^ 62) ≤ hi) (h4 : hi < 2 ^ 62)
    (q : R (Itr lo (hi - lo).toNat) H) : wpAny (model X.prog X.w) X.A (pyIter (.ref s.heap.objs.size)) (PIE X pins σ tg R) E { s with heap := s.heap.push { cls := .type "range", data := .fields #[.int lo t, .int hi u, .int 1 v] }, toks := tk } := by
  refine wpAny_pyIter_range (IsRange.new ..) (small_one h1 h2 h3 h4) ?_
  have I1 : Inv X pins σ H { s with heap := s.heap.push { cls := .type "range", data := .fields #[.int lo t, .int hi u, .int 1 v] }, toks := tk } := I.kept fun b o e => Heap.get?_push_of_some _ e
  refine ⟨(s.heap.push { cls := .type "range", data := .fields #[.int lo t, .int hi u, .int 1 v] }).objs.size, [(s.heap.push { cls := .type "range", data := .fields #[.int lo t, .int hi u, .int 1 v] }).objs.size], _, _, H, rfl,
    I1.kept (t' := tk) fun b o e => Heap.get?_push_of_some _ e, turn_range _ lo (hi - lo).toNat, ?_, fun b hb => ?_, q⟩
  · have e1 : lo + ((0 : Nat) : Int) * 1 = lo := by simp
    have e2 : (((hi - lo).toNat : Nat) : Int) - ((0 : Nat) : Int) = Builtin.Range.rangeSize lo hi 1 := by rw [rangeSize_one]; split <;> omega
    show IsRangeIter _ _ (lo + ((0 : Nat) : Int) * 1) ((((hi - lo).toNat : Nat) : Int) - ((0 : Nat) : Int)) 1
    rw [e1, e2]
    exact Heap.get?_push_size _ rfl
  · have e : b = (s.heap.push { cls := .type "range", data := .fields #[.int lo t, .int hi u, .int 1 v] }).objs.size := by simpa using hb
    subst e
    exact I1.fpOk (Nat.le_refl _) (I1.hok.fresh (Nat.le_refl _))
def iRng1 (ta : TA) : TI := fun σ H R => ta σ H fun vs H1 => ∃ j : Int, vs = [.int j] ∧ -(2 ^ 62) ≤ j ∧ j < 2 ^ 62 ∧ R (Itr 0 j.toNat) H1
def iRng2 (ta : TA) : TI := fun σ H R => ta σ H fun vs H1 => ∃ i j : Int, vs = [.int i, .int j] ∧ (-(2 ^ 62) ≤ i ∧ i < 2 ^ 62 ∧ -(2 ^ 62) ≤ j ∧ j < 2 ^ 62) ∧ R (Itr i (j - i).toNat) H1
theorem pi_range1 {a : Expr} {ta : TA} {p pos : Pos} (hg : Gl X "range") (hm : X.mg "range" = none) (ha : PA X [a] ta) (hs : starEach [a] X.env = [(false, eval a X.env)] := by rfl) : PI X tg (.Call (.Name "range" p) [a] [] pos) (iRng1 ta) := by
  intro pins s σ H R I h
  refine Call_ (ld_blt I hg hm boot_range (PyProof.Rows.callWith_type1 (thn (ha pos pins s σ H _ I h) fun us s1 ⟨vs, H1, I1, r1, q1⟩ => ?_) hs rfl))
  obtain ⟨j, e, q1, q2, q⟩ := q1
  subst e
  cases r1 with
  | cons r rr =>
    cases rr
    obtain ⟨t, rfl⟩ := r
    exact call_range_1 (range_it I1 (by omega) (by omega) q1 q2 (by simpa using q))
theorem pi_range2 {a b : Expr} {ta : TA} {p pos : Pos} (hg : Gl X "range") (hm : X.mg "range" = none) (ha : PA X [a, b] ta) (hs : starEach [a, b] X.env = [(false, eval a X.env), (false, eval b X.env)] := by rfl) (hs2 : starEach [b] X.env = [(false, eval b X.env)] := by rfl) :
    PI X tg (.Call (.Name "range" p) [a, b] [] pos) (iRng2 ta) := by
  intro pins s σ H R I h
  refine Call_ (ld_blt I hg hm boot_range (PyProof.Rows.callWith_type1 (thn (ha pos pins s σ H _ I h) fun us s1 ⟨vs, H1, I1, r1, q1⟩ => ?_) (by rw [hs, hs2]) (by rw [hs2]; rfl)))
  obtain ⟨i, j, e, ⟨q1, q2, q3, q4⟩, q⟩ := q1
  subst e
  cases r1 with
  | cons r rr =>
    cases rr with
    | cons r' rr =>
      cases rr
      obtain ⟨t, rfl⟩ := r
      obtain ⟨t', rfl⟩ := r'
      exact call_range_2 (range_it I1 q1 q2 q3 q4 q)

def tFor (wi : TI) (g : TG) (tb : TS) : TS := fun D σ H => wi σ H fun J H1 => ∃ W : Nat → Nat → St → Hp → Prop, (∃ m, W 0 m σ H1) ∧ ∀ i m σ H, W i m σ H →
  (J.stop i H ∧ D.nx σ H) ∨ (J.go i H ∧ ∃ N : St → Hp → Prop, (∀ σ' H', N σ' H' → ∃ m', m' < m ∧ W (i + 1) m' σ' H') ∧ ∀ x H', J.yld i H x H' → g x σ H' fun σ2 H2 => tb { D with nx := N, ct := N, bk := D.nx } σ2 H2)
def pinsAt (fp : List Addr) (h : Heap) : List (Addr × Obj) := fp.filterMap fun b => (h.get? b).map fun o => (b, o)
theorem mem_pinsAt {fp : List Addr} {h : Heap} {b : Addr} {o : Obj} (hb : b ∈ fp) (e : h.get? b = some o) : (b, o) ∈ pinsAt fp h := List.mem_filterMap.mpr ⟨b, hb, by rw [e]; rfl⟩
theorem of_pinsAt {fp : List Addr} {h : Heap} {p : Addr × Obj} (hp : p ∈ pinsAt fp h) : p.1 ∈ fp ∧ h.get? p.1 = some p.2 := by
  obtain ⟨b, hb, e⟩ := List.mem_filterMap.mp hp
  cases q : h.get? b with
  | none => rw [q] at e; cases e
  | some o =>
    rw [q] at e
    have e' : (b, o) = p := Option.some.inj e
    subst e'
    exact ⟨hb, q⟩
theorem Inv.pinned {pins : List (Addr × Obj)} {σ : St} {H : Hp} {s : Shared} {fp : List Addr} (I : Inv X pins σ H s) (hf : ∀ b ∈ fp, FpOk X pins H b) (ho : ∀ b ∈ fp, ∃ o, s.heap.get? b = some o ∧ ∀ v, o.data ≠ .cell v) : Inv X (pins ++ pinsAt fp s.heap) σ H s :=
  I.pins_of fun p hp => (List.mem_append.mp hp).elim (fun z => I.pin p (List.mem_append_right _ z)) fun z => by
    obtain ⟨hb, e⟩ := of_pinsAt z
    obtain ⟨f0, f1, f2, _⟩ := hf p.1 hb
    obtain ⟨o, e', d⟩ := ho p.1 hb
    rw [e] at e'; cases e'
    exact ⟨e, f0, f1, f2, d⟩
theorem Inv.unpinned {pins pl : List (Addr × Obj)} {σ : St} {H : Hp} {s : Shared} (I : Inv X (pins ++ pl) σ H s) : Inv X pins σ H s := I.pins_of fun p hp => I.pin p (List.mem_append_right _ (List.mem_append_left _ hp))
theorem ps_for {iter : Expr} {body : List Stmt} {wi : TI} {g : TG} {tb : TS} {pos : Pos} (hp : PassesOwn (model X.prog X.w) X.A X.env X.xe) (hc : X.calm = true) (hi : PI X tg iter wi) (hg : PG X tg g) (hb : PSs X body tb)
    (hs : ∀ x, foldedSetIterable iter X.env x = pure x := by intro _; rfl) : PS X (.For tg iter body [] pos) (tFor wi g tb) := by
  intro pins s σ H D I h
  refine wpAny_For (thn (hi pins s σ H _ I h) fun v s1 h1 => thn h1 fun itv s2 h2 => ?_) hs
  obtain ⟨it, fp, tn, J, H2, e, I2, T, st2, f2, W, ⟨m0, w0⟩, turn⟩ := h2
  subst e
  -- what stays true of the iterator's objects through the loop
  have stat : ∀ {H' : Hp}, (∀ b ∈ fp, H' b = none) → ∀ b ∈ fp, FpOk X pins H' b := fun hn b hb => ⟨hn b hb, (f2 b hb).2⟩
  refine codeAny_forLoop_any (fun n s' => ∃ i σ' H', Inv X pins σ' H' s' ∧ tn i s'.heap ∧ (∀ b ∈ fp, H' b = none) ∧ W i n σ' H') ?_ m0 ⟨0, σ, H2, I2, st2, fun b hb => (f2 b hb).1, w0⟩
  rintro n s3 ⟨i, σ3, H3, I3, st3, fr3, w3⟩
  rcases turn i n σ3 H3 w3 with ⟨stop, qn⟩ | ⟨go, N, hN, step⟩
  · refine wpAny_passesOwn hp (thn (T.done X rfl rfl rfl hc i pins s3 σ3 H3 X.xe I3 (stat fr3) st3 stop) fun r s4 ⟨hr, I4⟩ => ?_)
    subst hr
    exact wpAny_execs_nil ⟨σ3, H3, I4, qn⟩
  · refine wpAny_passesOwn hp (thn (T.item X rfl rfl rfl hc i pins s3 σ3 H3 X.xe I3 (stat fr3) st3 go) fun r s4 ⟨u, hr, h4⟩ => ?_)
    subst hr
    refine wpAny_passesOwn hp (thn h4 fun _ s5 ⟨x, H5, I5, r5, y5, st5, fr5⟩ => ?_)
    have I5' := I5.pinned (stat fr5) (T.obj _ _ st5)
    refine wpAny_passesOwn hp (thn (hg _ s5 σ3 H5 x u _ I5' r5 (step x H5 y5)) fun _ s6 ⟨σ6, H6, I6, q6⟩ => ?_)
    refine wpAny_passesOwn hp (thn (hb _ s6 σ6 H6 _ I6 q6) fun f s7 q7 => ?_)
    have again : ∀ {σ7 : St} {H7 : Hp}, Inv X (pins ++ pinsAt fp s5.heap) σ7 H7 s7 → N σ7 H7 → ∃ m, m < n ∧ ∃ i σ' H', Inv X pins σ' H' s7 ∧ tn i s7.heap ∧ (∀ b ∈ fp, H' b = none) ∧ W i m σ' H' := fun {σ7 H7} I7 n7 => by
      obtain ⟨m', hm, w7⟩ := hN σ7 H7 n7
      refine ⟨m', hm, i + 1, σ7, H7, I7.unpinned, T.keep _ _ _ st5 fun b hb o e => (I7.pin (b, o) (List.mem_append_right _ (List.mem_append_right _ (mem_pinsAt hb e)))).1, fun b hb => ?_, w7⟩
      obtain ⟨o, e, d⟩ := T.obj _ _ st5 b hb
      exact (I7.pin (b, o) (List.mem_append_right _ (List.mem_append_right _ (mem_pinsAt hb e)))).2.1
    cases f with
    | next => obtain ⟨σ7, H7, I7, n7⟩ := q7; exact again I7 n7
    | cont => obtain ⟨σ7, H7, I7, n7⟩ := q7; exact again I7 n7
    | brk => obtain ⟨σ7, H7, I7, q7⟩ := q7; exact ⟨σ7, H7, I7.unpinned, q7⟩
    | ret v => obtain ⟨x7, σ7, H7, I7, r7, q7⟩ := q7; exact ⟨x7, σ7, H7, I7.unpinned, r7, q7⟩
end

theorem for_list {K : PySem.W.Frag} {a : Addr} {xs : List V} {g : TG} {tb : TS} {D : Ends} {σ : St} {H : Hp} (Pv : Nat → St → Hp → Prop) (h0 : Pv 0 σ H) (hl : ∀ i σ H, i ≤ xs.length → Pv i σ H → SqL K H a xs)
    (hs : ∀ i x σ H, xs[i]? = some x → Pv i σ H → g x σ H fun σ2 H2 => tb { D with nx := Pv (i + 1), ct := Pv (i + 1), bk := D.nx } σ2 H2) (hd : ∀ σ H, Pv xs.length σ H → D.nx σ H) :
    ∃ W : Nat → Nat → St → Hp → Prop, (∃ m, W 0 m σ H) ∧ ∀ i m σ H, W i m σ H →
      ((Itl K a).stop i H ∧ D.nx σ H) ∨ ((Itl K a).go i H ∧ ∃ N : St → Hp → Prop, (∀ σ' H', N σ' H' → ∃ m', m' < m ∧ W (i + 1) m' σ' H') ∧ ∀ x H', (Itl K a).yld i H x H' → g x σ H' fun σ2 H2 => tb { D with nx := N, ct := N, bk := D.nx } σ2 H2) := by
  refine ⟨fun i m σ H => m = xs.length - i ∧ i ≤ xs.length ∧ Pv i σ H, ⟨xs.length, by simp, Nat.zero_le _, h0⟩, ?_⟩
  rintro i m σ H ⟨rfl, hi, p⟩
  have q := hl i σ H hi p
  by_cases hlt : i < xs.length
  · refine .inr ⟨⟨xs, xs[i], q, by simp [hlt]⟩, Pv (i + 1), fun σ' H' p' => ⟨xs.length - (i + 1), by omega, rfl, hlt, p'⟩, fun x H' y => ?_⟩
    obtain ⟨e, y⟩ := y
    subst e
    exact hs i x σ _ (y xs q) p
  · have e : i = xs.length := by omega
    subst e
    exact .inl ⟨⟨xs, q, Nat.le_refl _⟩, hd σ H p⟩
theorem for_range {lo : Int} {n : Nat} {g : TG} {tb : TS} {D : Ends} {σ : St} {H : Hp} (Pv : Nat → St → Hp → Prop) (h0 : Pv 0 σ H)
    (hs : ∀ i σ H, i < n → Pv i σ H → g (.int (lo + i)) σ H fun σ2 H2 => tb { D with nx := Pv (i + 1), ct := Pv (i + 1), bk := D.nx } σ2 H2) (hd : ∀ σ H, Pv n σ H → D.nx σ H) :
    ∃ W : Nat → Nat → St → Hp → Prop, (∃ m, W 0 m σ H) ∧ ∀ i m σ H, W i m σ H →
      ((Itr lo n).stop i H ∧ D.nx σ H) ∨ ((Itr lo n).go i H ∧ ∃ N : St → Hp → Prop, (∀ σ' H', N σ' H' → ∃ m', m' < m ∧ W (i + 1) m' σ' H') ∧ ∀ x H', (Itr lo n).yld i H x H' → g x σ H' fun σ2 H2 => tb { D with nx := N, ct := N, bk := D.nx } σ2 H2) := by
  refine ⟨fun i m σ H => m = n - i ∧ i ≤ n ∧ Pv i σ H, ⟨n, by simp, Nat.zero_le _, h0⟩, ?_⟩
  rintro i m σ H ⟨rfl, hi, p⟩
  by_cases hlt : i < n
  · refine .inr ⟨hlt, Pv (i + 1), fun σ' H' p' => ⟨n - (i + 1), by omega, rfl, hlt, p'⟩, fun x H' y => ?_⟩
    obtain ⟨e, y⟩ := y
    subst e y
    exact hs i σ _ hlt p
  · have e : i = n := by omega
    subst e
    exact .inl ⟨Nat.le_refl _, hd σ H p⟩
end L2

namespace L2
open PySem PySem.Spec PyProof.Rows

abbrev R2 := V → V → Hp → VK → Prop
def OpR (X : Cx) (f : Value → Value → Sem Value) (r : R2) : Prop :=
  ∀ (pins : List (Addr × Obj)) (s : Shared) (σ : St) (H : Hp) (x y : V) (v u : Value) (Q : VK), Inv X pins σ H s → RelV x v → RelV y u → r x y H Q →
    wpAny (model X.prog X.w) X.A (f v u) (EP X pins σ Q) X.xe s
def UnR (X : Cx) (f : Value → Sem Value) (r : V → Hp → VK → Prop) : Prop :=
  ∀ (pins : List (Addr × Obj)) (s : Shared) (σ : St) (H : Hp) (x : V) (v : Value) (Q : VK), Inv X pins σ H s → RelV x v → r x H Q →
    wpAny (model X.prog X.w) X.A (f v) (EP X pins σ Q) X.xe s
def CallR (X : Cx) (f : Value) (r : List V → Hp → VK → Prop) : Prop :=
  ∀ (pins : List (Addr × Obj)) (s : Shared) (σ : St) (H : Hp) (xs : List V) (us : List Value) (Q : VK), Inv X pins σ H s → Vals xs us → r xs H Q →
    wpAny (model X.prog X.w) X.A (call f us) (EP X pins σ Q) X.xe s
def tOp (r : R2) (ta tb : TE) : TE := fun σ H Q => ta σ H fun x H1 => tb σ H1 fun y H2 => r x y H2 Q
def tUn (r : V → Hp → VK → Prop) (ta : TE) : TE := fun σ H Q => ta σ H fun x H1 => r x H1 Q
inductive rI (C : Int → Int → Prop) (g : Int → Int → V) (x : V) (y : V) (H : Hp) (Q : VK) : Prop where
  | mk (i : _) (j : _) (h_0 : x = .int i) (h_1 : y = .int j) (h_2 : C i j) (h_3 : Q (g i j) H)
inductive rI0 (g : Int → Int → V) (x : V) (y : V) (H : Hp) (Q : VK) : Prop where
  | mk (i : _) (j : _) (h_0 : x = .int i) (h_1 : y = .int j) (h_2 : Q (g i j) H)
inductive rU (g : Int → V) (x : V) (H : Hp) (Q : VK) : Prop where
  | mk (i : _) (h_0 : x = .int i) (h_1 : Q (g i) H)

section
variable {X : Cx} {a b c : Expr} {ta tb tc : TE} {pos : Pos}

theorem binT (ha : PE X a ta) (hb : PE X b tb) {pins : List (Addr × Obj)} {s : Shared} {σ : St} {H : Hp} {R : V → V → Hp → Prop} (I : Inv X pins σ H s)
    (h : ta σ H fun x H1 => tb σ H1 fun y H2 => R x y H2) {Q : Value → Shared → Prop} {f : Value → Value → Sem Value}
    (hf : ∀ v u s2 x y H2, Inv X pins σ H2 s2 → RelV x v → RelV y u → R x y H2 → wpAny (model X.prog X.w) X.A (f v u) Q X.xe s2) :
    wpAny (model X.prog X.w) X.A (eval a X.env) (fun v s₁ => wpAny (model X.prog X.w) X.A (eval b X.env) (fun u s₂ => wpAny (model X.prog X.w) X.A (f v u) Q X.xe s₂) X.xe s₁) X.xe s := by
  refine thn (ha pins s σ H _ I h) fun v s1 ⟨x, H1, I1, r1, q1⟩ => ?_
  refine thn (hb pins s1 σ H1 _ I1 q1) fun u s2 ⟨y, H2, I2, r2, q2⟩ => ?_
  exact hf v u s2 x y H2 I2 r1 r2 q2

theorem pe_op {op : Operator} {r : R2} (ho : OpR X (binaryOp op) r) (ha : PE X a ta) (hb : PE X b tb) : PE X (.BinOp a op b pos) (tOp r ta tb) := by
  intro pins s σ H Q I h
  exact wpAny_BinOp (binT ha hb I h fun v u s2 x y H2 I2 rx ry q => ho pins s2 σ H2 x y v u Q I2 rx ry q)
theorem pe_un {op : UnaryOp} {r : V → Hp → VK → Prop} (ho : UnR X (unaryOp op) r) (ha : PE X a ta) : PE X (.UnaryOp op a pos) (tUn r ta) := by
  intro pins s σ H Q I h
  exact UnaryOp_ (thn (ha pins s σ H _ I h) fun v s1 ⟨x, H1, I1, r1, q1⟩ => ho pins s1 σ H1 x v Q I1 r1 q1)
theorem opI {f : Value → Value → Sem Value} {C : Int → Int → Prop} {g : Int → Int → Int}
    (rule : ∀ (i j : Int) (t u : Tok) (s : Shared) (Q : Value → Shared → Prop) (E : Value → Shared → Prop), C i j → Q (.int (g i j) s.toks) { s with toks := s.toks + 1 } → wpAny (model X.prog X.w) X.A (f (.int i t) (.int j u)) Q E s) :
    OpR X f (rI C fun i j => .int (g i j)) := by
  intro pins s σ H x y v u Q I rx ry h
  obtain ⟨i, j, rfl, rfl, hc, q⟩ := h
  obtain ⟨t, rfl⟩ := rx
  obtain ⟨t', rfl⟩ := ry
  exact rule i j t t' s _ _ hc ⟨.int (g i j), H, I.tok _, ⟨_, rfl⟩, q⟩
theorem opI0 {f : Value → Value → Sem Value} {g : Int → Int → Int}
    (rule : ∀ (i j : Int) (t u : Tok) (s : Shared) (Q : Value → Shared → Prop) (E : Value → Shared → Prop), Q (.int (g i j) s.toks) { s with toks := s.toks + 1 } → wpAny (model X.prog X.w) X.A (f (.int i t) (.int j u)) Q E s) :
    OpR X f (rI0 fun i j => .int (g i j)) := by
  intro pins s σ H x y v u Q I rx ry h
  obtain ⟨i, j, rfl, rfl, q⟩ := h
  obtain ⟨t, rfl⟩ := rx
  obtain ⟨t', rfl⟩ := ry
  exact rule i j t t' s _ _ ⟨.int (g i j), H, I.tok _, ⟨_, rfl⟩, q⟩
theorem opB0 {f : Value → Value → Sem Value} {g : Int → Int → Bool}
    (rule : ∀ (i j : Int) (t u : Tok) (s : Shared) (Q : Value → Shared → Prop) (E : Value → Shared → Prop), Q (.bool (g i j)) s → wpAny (model X.prog X.w) X.A (f (.int i t) (.int j u)) Q E s) :
    OpR X f (rI0 fun i j => .bl (g i j)) := by
  intro pins s σ H x y v u Q I rx ry h
  obtain ⟨i, j, rfl, rfl, q⟩ := h
  obtain ⟨t, rfl⟩ := rx
  obtain ⟨t', rfl⟩ := ry
  exact rule i j t t' s _ _ ⟨.bl (g i j), H, I, rfl, q⟩

def CDiv (i j : Int) : Prop := 0 < j ∧ j < 1073741824
def CPow (i j : Int) : Prop := 0 ≤ j ∧ j ≤ 1000000 ∧ i.natAbs < 2 ^ 64
def CMul (i j : Int) : Prop := (-(2 ^ 64) < i ∧ i < 2 ^ 64) ∨ (-(2 ^ 64) < j ∧ j < 2 ^ 64)
theorem CMul.ok {i j : Int} (h : CMul i j) : IntMulOk i j := by
  rcases h with ⟨h1, h2⟩ | ⟨h1, h2⟩
  · exact .of_left (intBits_le_64 h1 h2)
  · exact .of_right (intBits_le_64 h1 h2)
theorem op_add : OpR X (binaryOp .Add) (rI0 fun i j => .int (i + j)) := opI0 fun _ _ _ _ _ _ _ q => add_int q
theorem op_sub : OpR X (binaryOp .Sub) (rI0 fun i j => .int (i - j)) := opI0 fun _ _ _ _ _ _ _ q => sub_int q
theorem op_mul : OpR X (binaryOp .Mult) (rI CMul fun i j => .int (i * j)) := opI fun _ _ _ _ _ _ _ hc q => mul_int q hc.ok
theorem op_fdiv : OpR X (binaryOp .FloorDiv) (rI CDiv fun i j => .int (i / j)) := opI fun i j _ _ _ _ _ hc q => by
  have h1 : (0 : Int) < j := hc.1
  have h2 : j < 1073741824 := hc.2
  exact floordiv_int (by omega) (by rw [Int.fdiv_eq_ediv_of_nonneg i (by omega)]; exact q) (.inl (PyProof.noPylong_small (by omega)))
theorem op_mod : OpR X (binaryOp .Mod) (rI (fun _ j => 0 < j) fun i j => .int (i % j)) := opI fun i j _ _ _ _ _ hc q => by
  have h1 : (0 : Int) < j := hc
  exact mod_int' (by omega) (by rw [Int.fmod_eq_emod_of_nonneg i (by omega)]; exact q)
theorem op_pow : OpR X (binaryOp .Pow) (rI CPow fun i j => .int (i ^ j.toNat)) := opI fun _ _ _ _ _ _ _ hc q => pow_int_small hc.1 hc.2.1 hc.2.2 q
theorem unI {f : Value → Sem Value} {g : Int → Int}
    (rule : ∀ (i : Int) (t : Tok) (s : Shared) (Q : Value → Shared → Prop) (E : Value → Shared → Prop), Q (.int (g i) s.toks) { s with toks := s.toks + 1 } → wpAny (model X.prog X.w) X.A (f (.int i t)) Q E s) :
    UnR X f (rU fun i => .int (g i)) := by
  intro pins s σ H x v Q I rx h
  obtain ⟨i, rfl, q⟩ := h
  obtain ⟨t, rfl⟩ := rx
  exact rule i t s _ _ ⟨.int (g i), H, I.tok _, ⟨_, rfl⟩, q⟩
theorem un_neg : UnR X (unaryOp .USub) (rU fun i => .int (-i)) := unI fun _ _ _ _ _ q => neg_int q
end

def scal : V → V → Bool
  | .non, .non => true | .non, .int _ => true | .int _, .non => true | .non, .bl _ => true | .bl _, .non => true | .non, .str _ => true | .str _, .non => true
  | .int _, .int _ => true | .bl _, .bl _ => true | .str _, .str _ => true | .byt _, .byt _ => true
  | .int _, .str _ => true | .str _, .int _ => true | .bl _, .str _ => true | .str _, .bl _ => true
  | _, _ => false
inductive rEq (x : V) (y : V) (H : Hp) (Q : VK) : Prop where
  | mk  (h_0 : scal x y = true) (h_1 : Q (.bl (decide (x = y))) H)
inductive rNe (x : V) (y : V) (H : Hp) (Q : VK) : Prop where
  | mk  (h_0 : scal x y = true) (h_1 : Q (.bl (!decide (x = y))) H)

theorem dec_int {i j : Int} : decide (V.int i = V.int j) = (i == j) := by
  rw [Bool.eq_iff_iff]
  simp
theorem dec_bl {i j : Bool} : decide (V.bl i = V.bl j) = (i == j) := by
  rw [Bool.eq_iff_iff]
  simp
theorem dec_str {i j : Str} : decide (V.str i = V.str j) = (i == j) := by
  rw [Bool.eq_iff_iff]
  simp
theorem dec_byt {i j : Array UInt8} : decide (V.byt i = V.byt j) = (i.toList == j.toList) := by
  rw [Bool.eq_iff_iff]
  cases i
  cases j
  simp

section
variable {X : Cx} {a b c : Expr} {ta tb tc : TE} {pos : Pos}
theorem fin_bl {pins : List (Addr × Obj)} {σ : St} {H : Hp} {s : Shared} {Q : VK} {k k' : Bool} (I : Inv X pins σ H s) (q : Q (.bl k) H) (e : k = k') : EP X pins σ Q (.bool k') s := by
  subst e
  exact ⟨.bl k, H, I, rfl, q⟩
theorem op_eq : OpR X (compareOp .Eq) rEq := by
  intro pins s σ H x y v u Q I rx ry h
  obtain ⟨hs, q⟩ := h
  cases x with
  | non =>
    cases rx
    cases y with
    | non => cases ry; exact PySem.EqNone.eq_none_none (fin_bl I q (by simp))
    | bl j => cases ry; exact PySem.EqNone.eq_none_bool (fin_bl I q (by simp))
    | int j => obtain ⟨t', rfl⟩ := ry; exact PySem.EqNone.eq_none_int (fin_bl I q (by simp))
    | str j => obtain ⟨t', rfl⟩ := ry; exact PySem.EqNone.eq_none_str (fin_bl I q (by simp))
    | _ => exact absurd (show false = true from hs) Bool.false_ne_true
  | bl i =>
    cases rx
    cases y with
    | non => cases ry; exact PySem.EqNone.eq_bool_none (fin_bl I q (by simp))
    | bl j => cases ry; exact eq_bool (fin_bl I q dec_bl)
    | str j => obtain ⟨t', rfl⟩ := ry; exact PySem.EqMixed.eq_bool_str (fin_bl I q (by simp))
    | _ => exact absurd (show false = true from hs) Bool.false_ne_true
  | int i =>
    obtain ⟨t, rfl⟩ := rx
    cases y with
    | non => cases ry; exact PySem.EqNone.eq_int_none (fin_bl I q (by simp))
    | int j => obtain ⟨t', rfl⟩ := ry; exact eq_int (fin_bl I q dec_int)
    | str j => obtain ⟨t', rfl⟩ := ry; exact PySem.EqMixed.eq_int_str (fin_bl I q (by simp))
    | _ => exact absurd (show false = true from hs) Bool.false_ne_true
  | str i =>
    obtain ⟨t, rfl⟩ := rx
    cases y with
    | non => cases ry; exact PySem.EqNone.eq_str_none (fin_bl I q (by simp))
    | bl j => cases ry; exact PySem.EqMixed.eq_str_bool (fin_bl I q (by simp))
    | int j => obtain ⟨t', rfl⟩ := ry; exact PySem.EqMixed.eq_str_int (fin_bl I q (by simp))
    | str j => obtain ⟨t', rfl⟩ := ry; exact eq_str (fin_bl I q dec_str)
    | _ => exact absurd (show false = true from hs) Bool.false_ne_true
  | byt i =>
    obtain ⟨t, rfl⟩ := rx
    cases y with
    | byt j => obtain ⟨t', rfl⟩ := ry; exact PySem.W.eq_bytes (fin_bl I q dec_byt)
    | _ => exact absurd (show false = true from hs) Bool.false_ne_true
  | _ => cases y <;> exact absurd (show false = true from hs) Bool.false_ne_true
theorem op_ne : OpR X (compareOp .NotEq) rNe := by
  intro pins s σ H x y v u Q I rx ry h
  obtain ⟨hs, q⟩ := h
  cases x with
  | non =>
    cases rx
    cases y with
    | non => cases ry; exact PySem.EqNone.ne_none_none (fin_bl I q (by simp))
    | bl j => cases ry; exact PySem.EqNone.ne_none_bool (fin_bl I q (by simp))
    | int j => obtain ⟨t', rfl⟩ := ry; exact PySem.EqNone.ne_none_int (fin_bl I q (by simp))
    | str j => obtain ⟨t', rfl⟩ := ry; exact PySem.EqNone.ne_none_str (fin_bl I q (by simp))
    | _ => exact absurd (show false = true from hs) Bool.false_ne_true
  | bl i =>
    cases rx
    cases y with
    | non => cases ry; exact PySem.EqNone.ne_bool_none (fin_bl I q (by simp))
    | bl j => cases ry; exact ne_bool (fin_bl I q (congrArg not dec_bl))
    | str j => obtain ⟨t', rfl⟩ := ry; exact PySem.EqMixed.ne_bool_str (fin_bl I q (by simp))
    | _ => exact absurd (show false = true from hs) Bool.false_ne_true
  | int i =>
    obtain ⟨t, rfl⟩ := rx
    cases y with
    | non => cases ry; exact PySem.EqNone.ne_int_none (fin_bl I q (by simp))
    | int j => obtain ⟨t', rfl⟩ := ry; exact ne_int (fin_bl I q (congrArg not dec_int))
    | str j => obtain ⟨t', rfl⟩ := ry; exact PySem.EqMixed.ne_int_str (fin_bl I q (by simp))
    | _ => exact absurd (show false = true from hs) Bool.false_ne_true
  | str i =>
    obtain ⟨t, rfl⟩ := rx
    cases y with
    | non => cases ry; exact PySem.EqNone.ne_str_none (fin_bl I q (by simp))
    | bl j => cases ry; exact PySem.EqMixed.ne_str_bool (fin_bl I q (by simp))
    | int j => obtain ⟨t', rfl⟩ := ry; exact PySem.EqMixed.ne_str_int (fin_bl I q (by simp))
    | str j => obtain ⟨t', rfl⟩ := ry; exact ne_str (fin_bl I q (congrArg not dec_str))
    | _ => exact absurd (show false = true from hs) Bool.false_ne_true
  | byt i =>
    obtain ⟨t, rfl⟩ := rx
    cases y with
    | byt j => obtain ⟨t', rfl⟩ := ry; exact PySem.W.ne_bytes (fin_bl I q (congrArg not dec_byt))
    | _ => exact absurd (show false = true from hs) Bool.false_ne_true
  | _ => cases y <;> exact absurd (show false = true from hs) Bool.false_ne_true

theorem op_lt : OpR X (compareOp .Lt) (rI0 fun i j => .bl (decide (i < j))) := opB0 fun _ _ _ _ _ _ _ q => lt_int q
theorem op_le : OpR X (compareOp .LtE) (rI0 fun i j => .bl (decide (i ≤ j))) := opB0 fun _ _ _ _ _ _ _ q => le_int q
theorem op_gt : OpR X (compareOp .Gt) (rI0 fun i j => .bl (decide (j < i))) := opB0 fun _ _ _ _ _ _ _ q => gt_int q
theorem nomark (b : Expr) {op : CmpOp} (h : op ≠ .In := by decide) (h2 : op ≠ .NotIn := by decide) : behindInMarks op b = false := by
  have e1 : (op == CmpOp.In) = false := by cases op <;> first | rfl | exact absurd rfl h
  have e2 : (op == CmpOp.NotIn) = false := by cases op <;> first | rfl | exact absurd rfl h2
  cases b <;> simp [behindInMarks, e1, e2]
theorem pe_cmpR {op : CmpOp} {r : R2} (ho : OpR X (compareOp op) r) (ha : PE X a ta) (hb : PE X b tb) (hm : behindInMarks op b = false) : PE X (.Compare a [op] [b] pos) (tOp r ta tb) := by
  intro pins s σ H Q I h
  exact wpAny_Compare1 (binT ha hb I h fun v u s2 x y H2 I2 rx ry q => ho pins s2 σ H2 x y v u Q I2 rx ry q) hm
def tTest (t : TE) : TT := fun σ H Q => t σ H fun x H1 => IsBl x H1 Q
theorem pt_cmpR {op : CmpOp} {r : R2} (ho : OpR X (compareOp op) r) (ha : PE X a ta) (hb : PE X b tb) (hm : behindInMarks op b = false) : PT X (.Compare a [op] [b] pos) (tTest (tOp r ta tb)) := by
  intro pins s σ H Q I h
  refine wpAny_isTrue_Compare1 (thn (ha pins s σ H _ I h) fun v s1 ⟨x, H1, I1, r1, q1⟩ => thn (hb pins s1 σ H1 _ I1 q1) fun u s2 ⟨y, H2, I2, r2, q2⟩ =>
    thn (ho pins s2 σ H2 x y v u _ I2 r1 r2 q2) fun c s3 ⟨z, H3, I3, r3, k, e, q3⟩ => ?_) hm
  subst e
  cases r3
  exact wpAny_truthy_bool ⟨H3, I3, q3⟩
def tChain (r r' : R2) (ta tb tc : TE) : TE := fun σ H Q => ta σ H fun x H1 => tb σ H1 fun y H2 => r x y H2 fun z H3 => ∃ k, z = .bl k ∧
  (if k = true then tc σ H3 fun w' H4 => r' y w' H4 Q else Q (.bl false) H3)
theorem pe_chain {op op' : CmpOp} {r r' : R2} (ho : OpR X (compareOp op) r) (ho' : OpR X (compareOp op') r') (ha : PE X a ta) (hb : PE X b tb) (hc : PE X c tc)
    (hm : lastMarks [op, op'] [b, c] = false := by with_unfolding_all rfl) : PE X (.Compare a [op, op'] [b, c] pos) (tChain r r' ta tb tc) := by
  intro pins s σ H Q I h
  refine Compare_chain (thn (ha pins s σ H _ I h) fun v s1 ⟨x, H1, I1, r1, q1⟩ => chain_link (thn (hb pins s1 σ H1 _ I1 q1) fun u s2 ⟨y, H2, I2, r2, q2⟩ =>
    thn (ho pins s2 σ H2 x y v u _ I2 r1 r2 q2) fun d s3 ⟨z, H3, I3, r3, k, e, q3⟩ => ?_)) hm
  subst e
  cases r3
  refine wpAny_truthy_bool ?_
  cases k with
  | false => exact ite_ff ⟨.bl false, H3, I3, rfl, q3⟩
  | true => exact ite_tt (chain_last (thn (hc pins s3 σ H3 _ I3 q3) fun w' s4 ⟨z', H4, I4, r4, q4⟩ => ho' pins s4 σ H4 y z' u w' Q I4 r2 r4 q4))
theorem pt_chain {op op' : CmpOp} {r r' : R2} (ho : OpR X (compareOp op) r) (ho' : OpR X (compareOp op') r') (ha : PE X a ta) (hb : PE X b tb) (hc : PE X c tc)
    (hm : lastMarks [op, op'] [b, c] = false := by with_unfolding_all rfl) : PT X (.Compare a [op, op'] [b, c] pos) (tTest (tChain r r' ta tb tc)) := by
  intro pins s σ H Q I h
  refine isTrue_chain (thn (ha pins s σ H _ I h) fun v s1 ⟨x, H1, I1, r1, q1⟩ => test_link (thn (hb pins s1 σ H1 _ I1 q1) fun u s2 ⟨y, H2, I2, r2, q2⟩ =>
    thn (ho pins s2 σ H2 x y v u _ I2 r1 r2 q2) fun d s3 ⟨z, H3, I3, r3, k, e, q3⟩ => ?_)) hm
  subst e
  cases r3
  refine wpAny_truthy_bool ?_
  cases k with
  | false =>
    obtain ⟨k', e', q'⟩ := q3
    cases e'
    exact ite_ff ⟨H3, I3, q'⟩
  | true =>
    refine ite_tt (test_last (thn (hc pins s3 σ H3 _ I3 q3) fun w' s4 ⟨z', H4, I4, r4, q4⟩ => thn (ho' pins s4 σ H4 y z' u w' _ I4 r2 r4 q4) fun d' s5 ⟨z2, H5, I5, r5, k2, e2, q5⟩ => ?_))
    subst e2
    cases r5
    exact wpAny_truthy_bool ⟨H5, I5, q5⟩

theorem line63 : (sizeLine : Nat) < 2 ^ 63 := by rw [sizeLine_eq]; decide
theorem vals1 {x : V} {us : List Value} (r : Vals [x] us) : ∃ u, us = [u] ∧ RelV x u := by
  cases r with
  | cons r1 r2 => cases r2; exact ⟨_, rfl, r1⟩
theorem vals2 {x y : V} {us : List Value} (r : Vals [x, y] us) : ∃ u w', us = [u, w'] ∧ RelV x u ∧ RelV y w' := by
  cases r with
  | cons r1 r2 =>
    cases r2 with
    | cons r3 r4 => cases r4; exact ⟨_, _, rfl, r1, r3⟩
theorem call_abs : CallR X (.builtin "abs") (fun xs H Q => ∃ i, xs = [.int i] ∧ Q (.int (if i < 0 then -i else i)) H) := by
  intro pins s σ H xs us Q I r h
  obtain ⟨i, rfl, q⟩ := h
  obtain ⟨u, rfl, t, rfl⟩ := vals1 r
  exact call_abs_int fun u tk => ⟨.int (if i < 0 then -i else i), H, I.tok _, ⟨_, rfl⟩, q⟩
end
end L2

namespace L2
open PySem PySem.Spec PyProof.Rows

structure ObjM (h : Heap) (x dx C : Addr) (mA : Str → Option Value) : Prop where
  obj : h.get? x = some (PySem.W.instObj C dx)
  ns : h.Ns1 dx mA
  ne : dx ≠ x

theorem lookIn_ns {h : Heap} {dx : Addr} {mA : Str → Option Value} (n : h.Ns1 dx mA) : ∃ od, h.get? dx = some od ∧ ∀ name, PySem.W.lookIn name od = some (mA name) := by
  obtain ⟨o, es, ep, ho, hd, hk, _, hm⟩ := n
  refine ⟨o, ho, fun name => ?_⟩
  have e := hm name
  unfold nsFind findBy at e
  rw [← Array.find?_toList] at e
  unfold PySem.W.lookIn
  rw [hd]
  dsimp only
  split
  · rename_i y q
    rw [q] at e
    exact congrArg some e
  · rename_i q
    rw [q] at e
    have a : es.toList.any (·.refKey) = false := by
      rw [List.any_eq_false]
      intro y hy
      obtain ⟨z, t, hkey⟩ := hk y (Array.mem_toList_iff.mp hy)
      simp [DictEntry.refKey, hkey]
    have a' : ¬ es.toList.any (·.refKey) = true := by rw [a]; exact Bool.false_ne_true
    rw [if_neg a']
    exact congrArg some e

theorem ObjM.look {h : Heap} {x dx C : Addr} {mA : Str → Option Value} (I : ObjM h x dx C mA) : ∃ od, PySem.W.InstAt h x (PySem.W.instObj C dx) C (some od) ∧ ∀ name, PySem.W.lookIn name od = some (mA name) :=
  let ⟨od, ho, hl⟩ := lookIn_ns I.ns
  ⟨od, ⟨I.obj, rfl, rfl, ho⟩, hl⟩

section
variable {prog : Program} {w : World} {A : Around} {E : Value → Shared → Prop} {s : Shared} {K : PySem.W.Frag} {x dx C f : Addr} {mA : Str → Option Value} {name : Str} {v : Value}

theorem get_map {expr : Bool} {Q : Value → Shared → Prop} (X : K.In s.heap) (I : ObjM s.heap x dx C mA) (hg : PySem.W.plainGet K C name = true) (hh : PySem.W.hasDictIn K C = true)
    (ha : PySem.W.findIn K (.ref C) name = some none) (hv : mA name = some v) (hv' : PySem.W.handedIn v = true) (h : Q v { s with toks := s.toks + 1 }) :
    wpAny (model prog w) A (getAttr (.ref x) name expr) Q E s := by
  obtain ⟨od, J, hl⟩ := I.look
  exact PySem.W.get_value X J (PySem.W.plainGet_of hg).1 (PySem.W.findObj_own hh ha rfl (by rw [hl, hv])) hv' h

theorem set_map {ns : List Str} {Q : Unit → Shared → Prop} (X : K.In s.heap) (I : ObjM s.heap x dx C mA)
    (hs : PySem.W.findIn K (.ref C) "__setattr__" = some (some (.builtin "object.__setattr__"))) (hp : PySem.W.plainOver K C = true) (ht : PySem.W.takerIn K C name = some none) (hh : PySem.W.hasDictIn K C = true)
    (hw : PySem.Within mA ns) (hsz : ns.length ≤ sizeLine)
    (h : ∀ h', ObjM h' x dx C (fun y => if y = name then some v else mA y) → Heap.SameBut dx s.heap h' → Q () { s with heap := h', toks := s.toks + 2 }) :
    wpAny (model prog w) A (setAttr (.ref x) name v) Q E s := by
  obtain ⟨od, J, hl⟩ := I.look
  refine PySem.W.set_plain X J hs (PySem.W.osa_open (s := { s with toks := s.toks + 1 }) (r := none) X J hp ht fun b => ?_)
  obtain ⟨cd, hc, hd'⟩ := PySem.W.any_some hh
  have hx : s.heap.get? x = some ⟨.ref C, some dx, .plain, #[]⟩ := I.obj
  refine wpAny_bind (wpAny_pure (wpAny_bind (wpAny_bind (wpAny_loadPart hx (wpAny_bind (PySem.W.Looks.here (s := { s with toks := s.toks + 1 }) (PySem.W.looks_clsIn X hc) ?_))))))
  rw [hd']
  refine wpAny_pure (a := some dx) (wpAny_bind (wpAny_pure (wpAny_bind ?_)))
  refine wpAny_nsSet1 (s := { s with toks := s.toks + 1 }) I.ns fun h' hn2 hs2 => ?_
  obtain ⟨oD, esD, epD, hoD, hdD, hcD⟩ := hn2.count (PySem.Within.cons name v hw)
  refine wpAny_bind (wpAny_lookBehind hoD (by rw [hdD]; exact pastItsLine_dict (Nat.le_trans hcD (by rw [List.length_cons]; omega))) ?_)
  exact wpAny_pure (h _ ⟨(hs2.2 _ (Ne.symm I.ne)).trans I.obj, hn2, I.ne⟩ hs2)

theorem make_map {R : Result → Shared → Prop} {vs : List Value} {kw : List (Str × Value)} (X : K.In s.heap) (hm : PySem.W.makesIn K C = true)
    (hi : PySem.W.findIn K (.ref C) "__init__" = some (some (.ref f))) (hf : PySem.W.typeIn K (.ref f) = some (.type "function"))
    (h : codeAny (model prog w) (A.under (.builtin "type.__call__" ⟨.ref C :: vs, kw⟩)) (.call (.ref f) ⟨.ref (s.heap.objs.size + 1) :: vs, kw⟩) (PySem.W.InitBack (s.heap.objs.size + 1) R)
      { s with heap := (s.heap.push PySem.W.emptyDict).push (PySem.W.instObj C s.heap.objs.size) }) :
    codeAny (model prog w) A (.call (.ref C) ⟨vs, kw⟩) R s := by
  obtain ⟨hh, g, d, t, os⟩ := s
  exact PySem.W.make_core (PySem.W.makes_of X hm) (PySem.W.looks_findIn X hi) (fun self => PySem.W.bind_fn X self hf) (.inl rfl) h
end

def putF (f : Str) (v : V) : List (Str × V) → List (Str × V)
  | [] => [(f, v)]
  | (g, x) :: r => if g = f then (g, v) :: r else (g, x) :: putF f v r
theorem lookup_putF (f g : Str) (v : V) : ∀ fs : List (Str × V), (putF f v fs).lookup g = if g = f then some v else fs.lookup g
  | [] => by
    show List.lookup g [(f, v)] = _
    by_cases h : g = f
    · have hb : (g == f) = true := beq_iff_eq.mpr h
      simp only [List.lookup, hb, if_pos h]
    · have hb : (g == f) = false := beq_eq_false_iff_ne.mpr h
      simp only [List.lookup, hb, if_neg h]
  | (k, x) :: r => by
    have ih := lookup_putF f g v r
    rw [show putF f v ((k, x) :: r) = (if k = f then (k, v) :: r else (k, x) :: putF f v r) from rfl]
    by_cases hk : k = f
    · rw [if_pos hk]
      by_cases h : g = k
      · have hb : (g == k) = true := beq_iff_eq.mpr h
        simp only [List.lookup, hb, if_pos (h.trans hk)]
      · have hb : (g == k) = false := beq_eq_false_iff_ne.mpr h
        simp only [List.lookup, hb, if_neg (fun e : g = f => h (e.trans hk.symm))]
    · rw [if_neg hk]
      by_cases h : g = k
      · have hb : (g == k) = true := beq_iff_eq.mpr h
        simp only [List.lookup, hb, if_neg (fun e : g = f => hk (h.symm.trans e))]
      · have hb : (g == k) = false := beq_eq_false_iff_ne.mpr h
        simp only [List.lookup, hb]
        exact ih
theorem keys_putF (f : Str) (v : V) : ∀ fs : List (Str × V), f ∈ (putF f v fs).map (·.1) ∧ ∀ g, g ∈ fs.map (·.1) → g ∈ (putF f v fs).map (·.1)
  | [] => ⟨by simp [putF], fun g h => by simp at h⟩
  | (k, x) :: r => by
    obtain ⟨i1, i2⟩ := keys_putF f v r
    rw [show putF f v ((k, x) :: r) = (if k = f then (k, v) :: r else (k, x) :: putF f v r) from rfl]
    by_cases hk : k = f
    · rw [if_pos hk]
      subst hk
      exact ⟨by simp, fun g h => by simpa using h⟩
    · rw [if_neg hk]
      refine ⟨?_, fun g h => ?_⟩
      · rw [List.map_cons]
        exact List.mem_cons_of_mem _ i1
      · rw [List.map_cons] at h ⊢
        rcases List.mem_cons.mp h with e | e
        · exact List.mem_cons.mpr (.inl e)
        · exact List.mem_cons_of_mem _ (i2 g e)
theorem length_putF (f : Str) (v : V) : ∀ fs : List (Str × V), (putF f v fs).length ≤ fs.length + 1
  | [] => by simp [putF]
  | (k, x) :: r => by
    have ih := length_putF f v r
    rw [show putF f v ((k, x) :: r) = (if k = f then (k, v) :: r else (k, x) :: putF f v r) from rfl]
    by_cases hk : k = f
    · rw [if_pos hk, List.length_cons, List.length_cons]; omega
    · rw [if_neg hk, List.length_cons, List.length_cons]; omega

theorem RelO.some_of {v : V} {o : Option Value} (r : RelO (some v) o) : ∃ u, o = some u ∧ RelV v u := by
  cases o with
  | none => exact (show False from r).elim
  | some u => exact ⟨u, rfl, r⟩
theorem handed_of {v : V} {u : Value} (r : RelV v u) : PySem.W.handedIn u = true := by
  cases v with
  | non => cases (show u = Value.none from r); rfl
  | bl b => cases (show u = Value.bool b from r); rfl
  | int i => obtain ⟨t, e⟩ := (show ∃ t, u = Value.int i t from r); cases e; rfl
  | str x => obtain ⟨t, e⟩ := (show ∃ t, u = Value.str x t from r); cases e; rfl
  | byt b => obtain ⟨t, e⟩ := (show ∃ t, u = Value.bytes b t from r); cases e; rfl
  | flt b => obtain ⟨t, e⟩ := (show ∃ t, u = Value.float b t from r); cases e; rfl
  | ref a => cases (show u = Value.ref a from r); rfl
  | ty n => cases (show u = Value.type n from r); rfl

section
variable {P : Program} {w : World} {H H' : Hp} {h h' : Heap} {a C dx : Addr} {fs fs' : List (Str × V)}
theorem ins_get (hok : HOk P w H h) (e : H a = some (.ins C dx fs)) : ∃ mA, ObjM h a dx C mA ∧ (∀ f, RelO (fs.lookup f) (mA f)) ∧ PySem.Within mA (fs.map (·.1)) ∧ fs.length ≤ 1000 ∧ H dx = some (.own a) := by
  obtain ⟨d, z, ne, ob, mA, n, r, q⟩ := (show ObjOk P w H h a (.ins C dx fs) from hok a _ e)
  exact ⟨mA, ⟨ob, n, ne⟩, r, q, z, d⟩
end

structure Cls (K : PySem.W.Frag) (C : Addr) : Prop where
  pg : PySem.W.plainGet K C Str.empty = true
  hd : PySem.W.hasDictIn K C = true
  po : PySem.W.plainOver K C = true
  sa : PySem.W.findIn K (.ref C) "__setattr__" = some (some (.builtin "object.__setattr__"))
theorem Cls.get {K : PySem.W.Frag} {C : Addr} (c : Cls K C) (f : Str) : PySem.W.plainGet K C f = true := c.pg
def NoAttr (K : PySem.W.Frag) (C : Addr) (f : Str) : Prop := PySem.W.findIn K (.ref C) f = some none
theorem NoAttr.taker {K : PySem.W.Frag} {C : Addr} {f : Str} (n : NoAttr K C f) : PySem.W.takerIn K C f = some none := by
  unfold PySem.W.takerIn
  rw [show PySem.W.findIn K (.ref C) f = some none from n]
  rfl
section
variable {X : Cx} {pins : List (Addr × Obj)} {σ : St} {H : Hp} {s : Shared} {a C dx : Addr} {fs : List (Str × V)} {f : Str} {v : V} {A : Around} {E : Value → Shared → Prop}

theorem getattr_ok {b : Bool} {Q : Value → Shared → Prop} (I : Inv X pins σ H s) (e : H a = some (.ins C dx fs)) (c : Cls X.K C) (n : NoAttr X.K C f) (l : fs.lookup f = some v)
    (h : ∀ u s', Inv X pins σ H s' → RelV v u → Q u s') : wpAny (model X.prog X.w) A (getAttr (.ref a) f b) Q E s := by
  obtain ⟨mA, O, r, _, _, _⟩ := ins_get I.hok e
  obtain ⟨u, hu, ru⟩ := RelO.some_of (v := v) (o := mA f) (by rw [← l]; exact r f)
  exact get_map I.kIn O (c.get f) c.hd n hu (handed_of ru) (h u _ (I.tok _) ru)

theorem setattr_ok {y : V} {u : Value} {Q : Unit → Shared → Prop} (I : Inv X pins σ H s) (e : H a = some (.ins C dx fs)) (c : Cls X.K C) (n : NoAttr X.K C f) (hl : fs.length < 1000) (ry : RelV y u)
    (h : ∀ s', Inv X pins σ (upd H a (.ins C dx (putF f y fs))) s' → Q () s') : wpAny (model X.prog X.w) A (setAttr (.ref a) f u) Q E s := by
  obtain ⟨mA, O, r, wi, _, ho⟩ := ins_get I.hok e
  have hz : (fs.map (·.1)).length ≤ sizeLine := by rw [List.length_map, sizeLine_eq]; omega
  refine set_map I.kIn O c.sa c.po n.taker c.hd wi hz fun h' O' sb => h _ ?_
  have hd : ∃ o, h'.get? dx = some o := let ⟨o, _, _, e', _⟩ := O'.ns; ⟨o, e'⟩
  refine I.write (x := a) (e := dx) (by rw [e]; exact True.intro) (.inr ho) (fun b q hb z => (sb.2 b hb).trans z) hd ?_
  refine ⟨by rw [upd_ne O.ne]; exact ho, ?_, O.ne, O'.obj, _, O'.ns, fun g => ?_, fun g hg => ?_⟩
  · have := length_putF f y fs; omega
  · show RelO ((putF f y fs).lookup g) (if g = f then some u else mA g)
    rw [lookup_putF]
    by_cases q : g = f
    · rw [if_pos q, if_pos q]; exact ry
    · rw [if_neg q, if_neg q]; exact r g
  · by_cases q : g = f
    · rw [q]; exact (keys_putF f y fs).1
    · refine (keys_putF f y fs).2 g (wi g fun z => hg ?_)
      show (if g = f then some u else mA g) = none
      rw [if_neg q]; exact z

theorem Inv.made (I : Inv X pins σ H s) : Inv X pins σ (upd (upd H s.heap.objs.size (.own (s.heap.objs.size + 1))) (s.heap.objs.size + 1) (.ins C s.heap.objs.size []))
    { s with heap := (s.heap.push PySem.W.emptyDict).push (PySem.W.instObj C s.heap.objs.size) } := by
  have e1 : (s.heap.push PySem.W.emptyDict).get? s.heap.objs.size = some PySem.W.emptyDict := Heap.get?_push_size s.heap rfl
  have e2 : ((s.heap.push PySem.W.emptyDict).push (PySem.W.instObj C s.heap.objs.size)).get? (s.heap.objs.size + 1) = some (PySem.W.instObj C s.heap.objs.size) := by
    have := Heap.get?_push_size (s.heap.push PySem.W.emptyDict) (o := PySem.W.instObj C s.heap.objs.size) rfl
    rwa [Heap.size_push] at this
  have e3 : (s.heap.push PySem.W.emptyDict).Ns s.heap.objs.size (fun _ => none) := ⟨PySem.W.emptyDict, #[], _, e1, rfl, (fun e he => absurd he (by simp)), fun _ => rfl⟩
  have I1 := I.laid (a := s.heap.objs.size) (o := .own (s.heap.objs.size + 1)) (h' := s.heap.push PySem.W.emptyDict) (t' := s.toks) (fun b u q => Heap.get?_push_of_some _ q) (Nat.le_refl _) ⟨_, e1⟩
  refine I1.laid (a := s.heap.objs.size + 1) (o := .ins C s.heap.objs.size []) (t' := s.toks) (fun b u q => Heap.get?_push_of_some _ q) (Nat.le_of_eq (Heap.size_push _ _)) ?_
  have ne : s.heap.objs.size ≠ s.heap.objs.size + 1 := Nat.ne_of_lt (Nat.lt_succ_self _)
  refine ⟨by rw [upd_ne ne, upd_same], Nat.zero_le _, ne, e2, fun _ => none, (Heap.Ns1.of_empty e3).at fun o q => Heap.get?_push_of_some _ q, fun _ => True.intro, fun y hy => absurd rfl hy⟩

theorem attr_of {prog : Program} {w : World} {env : Env} {e : Expr} {f : Str} {pos : Pos} {s : Shared} {Q : Value → Shared → Prop} (hb : attributeBase e f env (eval e env) = eval e env)
    (h : wpAny (model prog w) A (eval e env) (fun o s₁ => wpAny (model prog w) A (getAttr o f true) Q E s₁) E s) : wpAny (model prog w) A (eval (.Attribute e f pos) env) Q E s :=
  Attribute_any_ h (by rw [arm_eval_Attribute, hb])
end

inductive IsFd (K : PySem.W.Frag) (f : Str) (x : V) (H : Hp) (Q : VK) : Prop where
  | mk (a : _) (C : _) (dx : _) (fs : _) (v : _) (h1 : x = .ref a) (h2 : H a = some (.ins C dx fs)) (h3 : Cls K C) (h4 : NoAttr K C f) (h5 : fs.lookup f = some v) (q : Q v H)
def tFld (K : PySem.W.Frag) (ta : TE) (f : Str) : TE := fun σ H Q => ta σ H fun x H1 => IsFd K f x H1 Q
def sFld (K : PySem.W.Frag) (ta tv : TE) (f : Str) : TS := fun D σ H => tv σ H fun y H1 => ta σ H1 fun x H2 => ∃ a C dx fs, x = .ref a ∧ H2 a = some (.ins C dx fs) ∧ Cls K C ∧ NoAttr K C f ∧ fs.length < 1000 ∧
  D.nx σ (upd H2 a (.ins C dx (putF f y fs)))
section
variable {X : Cx} {o e value : Expr} {f : Str} {pos pos' tpos : Pos} {ta tv : TE}
theorem pe_fld (he : PE X e ta) (hb : attributeBase e f X.env (eval e X.env) = eval e X.env) : PE X (.Attribute e f pos) (tFld X.K ta f) := by
  intro pins s σ H Q I h
  refine attr_of hb (thn (he pins s σ H _ I h) fun u s1 ⟨x, H1, I1, rx, a, C, dx, fs, v, ex, ea, c, n, l, q⟩ => ?_)
  subst ex
  obtain rfl : u = Value.ref a := rx
  exact getattr_ok I1 ea c n l fun u' s2 I2 ru => ⟨v, H1, I2, ru, q⟩
theorem ps_fld (ha : PE X o ta) (hv : PE X value tv) (hs : swapsWith value (some (.Attribute o f pos')) pos.line X.env = pure false) : PS X (.Assign [.Attribute o f pos'] value pos) (sFld X.K ta tv f) := by
  intro pins s σ H D I h
  refine plainObj_wpAny_Assign_Attribute (thn (hv pins s σ H _ I h) fun u s1 ⟨y, H1, I1, ry, q⟩ => thn (ha pins s1 σ H1 _ I1 q) fun ov s2 ⟨x, H2, I2, rx, a, C, dx, fs, ex, ea, c, n, l, q2⟩ => ?_) hs
  subst ex
  obtain rfl : ov = Value.ref a := rx
  exact setattr_ok I2 ea c n l ry fun s3 I3 => ⟨σ, _, I3, q2⟩
end

section
variable {X : Cx} {pins : List (Addr × Obj)} {σ : St} {H : Hp} {s : Shared} {A : Around} {E : Value → Shared → Prop} {Q : Value → Shared → Prop} {c : Value} {b : Bool}
inductive TyOf (K : PySem.W.Frag) (H : Hp) : V → Value → Prop where
  | non : TyOf K H .non (.type "NoneType")
  | bl (x : Bool) : TyOf K H (.bl x) (.type "bool")
  | int (i : Int) : TyOf K H (.int i) (.type "int")
  | str (x : Str) : TyOf K H (.str x) (.type "str")
  | flt (x : UInt64) : TyOf K H (.flt x) (.type "float")
  | lst {a : Addr} {xs : List V} (e : H a = some (.lst xs)) : TyOf K H (.ref a) (.type "list")
  | frz {a : Addr} {o : Obj} {xs : List V} (e : H a = some (.frz o (.lst xs))) : TyOf K H (.ref a) (.type "list")
  | tup {a : Addr} {xs : List V} (e : H a = some (.tup xs)) : TyOf K H (.ref a) (.type "tuple")
  | dK {a : Addr} {kvs : List (Key × V)} (e : H a = some (.dK kvs)) : TyOf K H (.ref a) (.type "dict")
  | dT {a : Addr} {kvs : List (List Key × V)} (e : H a = some (.dT kvs)) : TyOf K H (.ref a) (.type "dict")
  | ins {a C dx : Addr} {fs : List (Str × V)} (e : H a = some (.ins C dx fs)) (cl : Cls K C) (ha : PySem.W.findIn K (.ref C) "__class__" = some (some (.builtin "object.__class__")))
      (hn : PySem.W.specialIn K (.builtin "object.__class__") "__get__" = some (some (.builtin "getset_descriptor.__get__"))) (htk : PySem.W.takesIn K (.builtin "object.__class__") = some true)
      (hm : PySem.W.mroIn K C (.type "object") = some true) : TyOf K H (.ref a) (.ref C)
theorem isinst_ok {x : V} {u t : Value} (I : Inv X pins σ H s) (rx : RelV x u) (ty : TyOf X.K H x t) (e : PySem.W.kitOne X.K t c = some b) (h : ∀ tk, Q (.bool b) { s with toks := tk }) :
    wpAny (model X.prog X.w) A (call (.builtin "isinstance") [u, c]) Q E s := by
  cases ty with
  | non => cases (show u = Value.none from rx); exact PySem.W.kia_one PySem.W.kitx_none I.kIn True.intro e (fun z => nomatch z) h
  | bl y => cases (show u = Value.bool y from rx); exact PySem.W.kia_one PySem.W.kitx_bool I.kIn True.intro e (fun z => nomatch z) h
  | int i => obtain ⟨t, q⟩ := (show ∃ t, u = Value.int i t from rx); cases q; exact PySem.W.kia_one PySem.W.kitx_int I.kIn True.intro e (fun z => nomatch z) h
  | str y => obtain ⟨t, q⟩ := (show ∃ t, u = Value.str y t from rx); cases q; exact PySem.W.kia_one PySem.W.kitx_str I.kIn True.intro e (fun z => nomatch z) h
  | flt y => obtain ⟨t, q⟩ := (show ∃ t, u = Value.float y t from rx); cases q; exact PySem.W.kia_one PySem.W.kitx_float I.kIn True.intro e (fun z => nomatch z) h
  | @lst a xs ea =>
    cases (show u = Value.ref a from rx)
    obtain ⟨_, _, n, _, h1⟩ := (show ObjOk X.prog X.w H s.heap a (.lst xs) from I.hok a _ ea)
    exact PySem.W.kia_one PySem.W.kitx_list I.kIn ⟨_, h1, rfl⟩ e (fun z => nomatch z) h
  | @frz a ob xs ea =>
    cases (show u = Value.ref a from rx)
    obtain ⟨_, _, _, n, _, h1⟩ := (show ObjOk X.prog X.w H s.heap a (.frz ob (.lst xs)) from I.hok a _ ea)
    exact PySem.W.kia_one PySem.W.kitx_list I.kIn ⟨_, h1, rfl⟩ e (fun z => nomatch z) h
  | @tup a xs ea =>
    cases (show u = Value.ref a from rx)
    obtain ⟨_, _, _, p⟩ := (show ObjOk X.prog X.w H s.heap a (.tup xs) from I.hok a _ ea)
    obtain ⟨o, h1, h2, _⟩ := p
    exact PySem.W.kia_one PySem.W.kitx_tuple I.kIn ⟨o, h1, h2⟩ e (fun z => nomatch z) h
  | @dK a kvs ea =>
    cases (show u = Value.ref a from rx)
    obtain ⟨_, _, vs, _, p⟩ := (show ObjOk X.prog X.w H s.heap a (.dK kvs) from I.hok a _ ea)
    obtain ⟨o, es, ep, h1, h2, _⟩ := p
    exact PySem.W.kia_one PySem.W.kitx_dict I.kIn ⟨o, h1, h2.1⟩ e (fun z => nomatch z) h
  | @dT a kvs ea =>
    cases (show u = Value.ref a from rx)
    obtain ⟨_, _, xs, _, o, es, ep, h1, h2, _⟩ := (show ObjOk X.prog X.w H s.heap a (.dT kvs) from I.hok a _ ea)
    exact PySem.W.kia_one PySem.W.kitx_dict I.kIn ⟨o, h1, h2.1⟩ e (fun z => nomatch z) h
  | @ins a C dx fs ea cl ha hn htk hm =>
    cases (show u = Value.ref a from rx)
    obtain ⟨mA, O, _⟩ := ins_get I.hok ea
    obtain ⟨od, J, _⟩ := O.look
    exact PySem.W.kia_one (PySem.W.kitx_own (cl.get _) cl.hd ha hn htk hm) I.kIn J e (fun z => nomatch z) h
end
end L2

namespace L2
open PySem PySem.Spec PyProof.Rows

structure Room (k : Nat) (A : Around) : Prop where
  hd : A.handled = none
  dp : A.depth + 3 * k + 5 < recursionLimit
  un : A.units + 16 * k + 200 < cLine
theorem Room.mono {j k : Nat} {A : Around} (r : Room k A) (h : j ≤ k) : Room j A := ⟨r.hd, by have := r.dp; omega, by have := r.un; omega⟩
theorem Room.deeper {k : Nat} {A : Around} (r : Room (k + 1) A) (env : Env) : Room k (A.deeper env) :=
  ⟨r.hd, by have := r.dp; show A.depth + 1 + 3 * k + 5 < _; omega, by have := r.un; show A.units + 3 + 16 * k + 200 < _; omega⟩
theorem make_depth {A : Around} {C : Addr} {us : List Value} {kw : List (Str × Value)} : (A.under (.builtin "type.__call__" ⟨.ref C :: us, kw⟩)).depth = A.depth + 1 := by
  first | rfl | simp [Around.under, Code.weight, Code.isCreation, Code.isGuard, Code.isCaller, Code.frames, Code.isFrame, guardIds]
theorem make_units {A : Around} {C : Addr} {us : List Value} {kw : List (Str × Value)} : (A.under (.builtin "type.__call__" ⟨.ref C :: us, kw⟩)).units = A.units + 1 := by
  first | rfl | simp [Around.under, Code.cUnits, Code.frames, Code.isFrame]
theorem Room.make {k : Nat} {A : Around} (r : Room (k + 1) A) (C : Addr) (us : List Value) (kw : List (Str × Value)) : Room k (A.under (.builtin "type.__call__" ⟨.ref C :: us, kw⟩)) :=
  ⟨r.hd, by have := r.dp; rw [make_depth]; omega, by have := r.un; rw [make_units]; omega⟩
theorem Room.depth {k : Nat} {A : Around} (r : Room k A) : A.depth < recursionLimit := by have := r.dp; omega
theorem Room.units {k : Nat} {A : Around} (r : Room k A) : A.units + 64 < cLine := by have := r.un; omega
def tNil : TA := fun _ H Q => Q [] H
def tCons (ta : TE) (tr : TA) : TA := fun σ H Q => ta σ H fun x H1 => tr σ H1 fun xs H2 => Q (x :: xs) H2
section
variable {X : Cx} {e : Expr} {es : List Expr} {te : TE} {t : TA} {pos : Pos}
theorem pa_nil : PA X [] tNil := fun _ _ _ _ H Q I h => Calls.spliced_nil ⟨[], H, I, .nil, h⟩
theorem pa_cons (ha : PE X e te) (hr : PA X es t) (hs : starEach (e :: es) X.env = (false, eval e X.env) :: starEach es X.env := by rfl) : PA X (e :: es) (tCons te t) := by
  intro pos pins s σ H Q I h
  rw [hs]
  show wpAny _ _ (spliced ((false, eval e X.env) :: backTo pos (starEach es X.env))) _ _ s
  refine Calls.spliced_cons (thn (ha pins s σ H _ I h) fun u s1 ⟨x, H1, I1, r1, q1⟩ => ?_)
  exact thn (hr pos pins s1 σ H1 _ I1 q1) fun us s2 ⟨xs, H2, I2, r2, q2⟩ => ⟨x :: xs, H2, I2, .cons r1 r2, q2⟩

def tTup (t : TA) : TE := fun σ H Q => t σ H fun xs H1 => NewT xs H1 Q
def tLst (t : TA) : TE := fun σ H Q => t σ H fun xs H1 => NewL xs H1 Q
theorem pe_tup {x1} (h : PA X es t) : PE X (.Tuple es x1 pos) (tTup t) := by
  intro pins s σ H Q I hq
  refine wpAny_Tuple_spliced (thn (h pos pins s σ H _ I hq) fun us s1 ⟨xs, H1, I1, r, z, q⟩ => ⟨by rw [← r.length]; exact z, ?_⟩)
  have hf : H1 s1.heap.objs.size = none := I1.hok.fresh (Nat.le_refl _)
  refine ⟨.ref s1.heap.objs.size, upd H1 s1.heap.objs.size (.tup xs), I1.laid (t' := s1.toks) (fun b u e => Heap.get?_push_of_some _ e) (Nat.le_refl _) ?_, rfl, q _ hf⟩
  exact ⟨z, us, r, ⟨_, Heap.get?_push_size _ rfl, rfl, _, rfl⟩⟩
theorem pe_lst (h : PA X es t) : PE X (.List es pos) (tLst t) := by
  intro pins s σ H Q I hq
  refine wpAny_List_spliced (thn (h pos pins s σ H _ I hq) fun us s1 ⟨xs, H1, I1, r, z, q⟩ => ⟨by rw [← r.length]; exact z, ?_⟩)
  have hf : H1 s1.heap.objs.size = none := I1.hok.fresh (Nat.le_refl _)
  refine ⟨.ref s1.heap.objs.size, upd H1 s1.heap.objs.size (.lst xs), I1.laid (t' := s1.toks) (fun b u e => Heap.get?_push_of_some _ e) (Nat.le_refl _) ?_, rfl, q _ hf⟩
  exact ⟨z, us, 0, r, Heap.get?_push_size _ rfl⟩
end

abbrev Sp := List V → Hp → VK → XK → Prop
abbrev CXT := List Env → Hp → Shared → XK → Value → Shared → Prop

structure Env0 (P : Program) (w : World) (K : PySem.W.Frag) (mg : Str → Option Value) (base : Heap) (A : Around) (outer : List Env) (s : Shared) (H : Hp) : Prop where
  frames : A.frames = some outer
  mod : Mod K mg base
  bs : ∀ b o, base.get? b = some o → s.heap.get? b = some o ∧ H b = none
  bsz : base.objs.size ≤ s.heap.objs.size
  funs : s.heap.FunFrames base outer
  frf : ∀ b ∈ frs outer, H b = none
  hok : HOk P w H s.heap
  bare : AllBare s.gens
def CE (outer : List Env) (P : Program) (w : World) (H : Hp) (s : Shared) (Q : VK) (u : Value) (s' : Shared) : Prop :=
  ∃ v H', s'.os = s.os ∧ AllBare s'.gens ∧ Un (frs outer) [] H H' s.heap s'.heap ∧ HOk P w H' s'.heap ∧ RelV v u ∧ Q v H'
def CR (CX : CXT) (outer : List Env) (P : Program) (w : World) (H : Hp) (s : Shared) (Q : VK) (E : XK) (r : Result) (s' : Shared) : Prop :=
  match r with
  | .ok (.ret u) => CE outer P w H s Q u s'
  | .ok _ => False
  | .error e => CX outer H s E e s'
structure FnOk (P : Program) (w : World) (K : PySem.W.Frag) (mg : Str → Option Value) (base : Heap) (CX : CXT) (k : Nat) (f : Addr) (fd : FuncData) (ps : List Str) (sp : Sp) : Prop where
  len : ∀ vs H Q E, sp vs H Q E → vs.length = ps.length
  run : ∀ (A : Around) (outer : List Env) (s : Shared) (H : Hp) (args : Args) (us : List Value) (vs : List V) (Q : VK) (E : XK), Room k A → Env0 P w K mg base A outer s H → BindsTo s fd args (ps.zip us) → Vals vs us → sp vs H Q E →
    codeAny (model P w) A (.call (.ref f) args) (CR CX outer P w H s Q E) s
theorem Env0.make {P : Program} {w : World} {K : PySem.W.Frag} {mg : Str → Option Value} {base : Heap} {A : Around} {outer : List Env} {s : Shared} {H : Hp} (e : Env0 P w K mg base A outer s H) (C : Addr) (us : List Value) (kw : List (Str × Value)) :
    Env0 P w K mg base (A.under (.builtin "type.__call__" ⟨.ref C :: us, kw⟩)) outer s H := ⟨by first | exact e.frames | (simpa [Around.under, Code.envs, Code.isFrame, pushEnvs] using e.frames), e.mod, e.bs, e.bsz, e.funs, e.frf, e.hok, e.bare⟩
section
variable {X : Cx} {pins : List (Addr × Obj)} {σ : St} {H : Hp} {s s' : Shared}
theorem Inv.env0 (I : Inv X pins σ H s) : Env0 X.prog X.w X.K X.mg X.base X.A X.stack s H :=
  ⟨I.ok.frames, I.ok.mod, I.bs, Nat.le_trans I.ok.bsz I.sz, I.stack, I.stkFree, I.hok, I.bare⟩
theorem Inv.after {Q : VK} {u : Value} (I : Inv X pins σ H s) (h : CE X.stack X.prog X.w H s Q u s') : EP X pins σ Q u s' := by
  obtain ⟨v, H', os, bare, un, hok, r, q⟩ := h
  obtain ⟨hh, g, d, t, os'⟩ := s'
  obtain rfl : os' = s.os := os
  exact ⟨v, H', I.call (h' := hh) (g' := g) (d' := d) (t' := t) (ch := []) un hok bare (fun b z => absurd z (by simp)), r, q⟩
end

def tCall (sp : Sp) (dvs : List V) (E : XK) (t : TA) : TE := fun σ H Q => t σ H fun vs H1 => sp (vs ++ dvs) H1 Q E
def tMake (C : Addr) (sp : Sp) (dvs : List V) (E : XK) (t : TA) : TE := fun σ H Q => t σ H fun vs H1 => ∀ x dx, H1 x = none → H1 dx = none → dx ≠ x →
  sp (.ref x :: (vs ++ dvs)) (upd (upd H1 dx (.own x)) x (.ins C dx [])) (fun v H2 => v = .non ∧ Q (.ref x) H2) E

def Binds (K : PySem.W.Frag) (fd : FuncData) (ps : List Str) (ds : List Value) : Prop :=
  ∀ (s : Shared) (us : List Value), K.In s.heap → (us ++ ds).length = ps.length → BindsTo s fd ⟨us, []⟩ (ps.zip (us ++ ds))
theorem Binds.all {K : PySem.W.Frag} {fd : FuncData} {ps : List Str} (h : ∀ us : List Value, us.length = ps.length → bindArgs fd ⟨us, []⟩ = pure (ps.zip us)) : Binds K fd ps [] := fun s us _ hl => by
  rw [List.append_nil] at hl ⊢
  exact .of_eq (h us hl)

def Passes (CX : CXT) (X : Cx) (E : XK) : Prop := ∀ (pins : List (Addr × Obj)) (σ : St) (H : Hp) (s : Shared) (e : Value) (s' : Shared), Inv X pins σ H s → CX X.stack H s E e s' → X.xe e s'

section
variable {X : Cx} {CX : CXT} {k : Nat} {f C : Addr} {fd : FuncData} {ps : List Str} {sp : Sp} {dvs : List V} {ds : List Value} {E : XK} {x m : Str} {p pos apos : Pos} {e o : Expr} {es : List Expr} {ta : TE} {t : TA}

theorem run_fn {pins : List (Addr × Obj)} {σ : St} {H : Hp} {s : Shared} {Q : VK} {us : List Value} {vs : List V} (F : FnOk X.prog X.w X.K X.mg X.base CX k f fd ps sp) (hr : Room k X.A) (hb : Binds X.K fd ps ds) (hd : Vals dvs ds) (hx : Passes CX X E)
    (I : Inv X pins σ H s) (r : Vals vs us) (h : sp (vs ++ dvs) H Q E) : wpAny (model X.prog X.w) X.A (call (.ref f) us) (EP X pins σ Q) X.xe s := by
  have r2 : Vals (vs ++ dvs) (us ++ ds) := r.append hd
  have hl : (us ++ ds).length = ps.length := by rw [← r2.length]; exact F.len _ _ _ _ h
  refine wpAny_call (codeAny_mono (F.run X.A X.stack s H ⟨us, []⟩ (us ++ ds) (vs ++ dvs) Q E hr I.env0 (hb s us I.kIn hl) r2 h) fun r s' hq => ?_)
  cases r with
  | error e => exact hx pins σ H s e s' I hq
  | ok fl =>
    cases fl with
    | ret u => exact I.after hq
    | next => exact False.elim hq
    | brk => exact False.elim hq
    | cont => exact False.elim hq

theorem pe_call (F : FnOk X.prog X.w X.K X.mg X.base CX k f fd ps sp) (hr : Room k X.A) (hg : Gl X x) (hm : X.mg x = some (.ref f)) (hk : PySem.W.keepIn X.K (.ref f) = true) (hb : Binds X.K fd ps ds) (hd : Vals dvs ds) (hx : Passes CX X E)
    (ha : PA X (e :: es) t) (hdb : (x == ("__debug__" : Str)) = false := by decide) (he : starEach (e :: es) X.env = (false, eval e X.env) :: starEach es X.env := by rfl) (hpl : (backTo pos (starEach es X.env)).any (·.1) = false := by rfl) :
    PE X (.Call (.Name x p) (e :: es) [] pos) (tCall sp dvs E t) := by
  intro pins s σ H Q I h
  refine wpAny_Call_Name_kw (ld_glob I hg hm ?_ hdb)
  refine PySem.W.callWith_K (h₀ := X.base) I.ok.mod.kin hk (thn (ha pos pins s σ H _ I h) fun us s1 ⟨vs, H1, I1, r, q⟩ => ⟨I1.kIn, ?_⟩) he hpl
  exact run_fn F hr hb hd hx I1 r q
structure Mk (K : PySem.W.Frag) (C f : Addr) : Prop where
  makes : PySem.W.makesIn K C = true
  init : PySem.W.findIn K (.ref C) "__init__" = some (some (.ref f))
  fn : PySem.W.isFn K (.ref f) = true
  kp : PySem.W.keepIn K (.ref C) = true

theorem run_make {pins : List (Addr × Obj)} {σ : St} {H : Hp} {s : Shared} {Q : VK} {us : List Value} {vs : List V} (M : Mk X.K C f) (F : FnOk X.prog X.w X.K X.mg X.base CX k f fd ps sp) (hr : Room (k + 1) X.A) (hb : Binds X.K fd ps ds) (hd : Vals dvs ds)
    (hx : Passes CX X E) (I : Inv X pins σ H s) (r : Vals vs us)
    (h : ∀ x dx, H x = none → H dx = none → dx ≠ x → sp (.ref x :: (vs ++ dvs)) (upd (upd H dx (.own x)) x (.ins C dx [])) (fun v H2 => v = .non ∧ Q (.ref x) H2) E) :
    wpAny (model X.prog X.w) X.A (call (.ref C) us) (EP X pins σ Q) X.xe s := by
  have hq := h (s.heap.objs.size + 1) s.heap.objs.size (I.hok.fresh (Nat.le_succ _)) (I.hok.fresh (Nat.le_refl _)) (Nat.ne_of_lt (Nat.lt_succ_self _))
  have I2 := Inv.made (C := C) I
  have r2 : Vals (V.ref (s.heap.objs.size + 1) :: (vs ++ dvs)) (Value.ref (s.heap.objs.size + 1) :: (us ++ ds)) := .cons rfl (r.append hd)
  have hl : (Value.ref (s.heap.objs.size + 1) :: us ++ ds).length = ps.length := by
    have e := r2.length
    rw [F.len _ _ _ _ hq] at e
    exact e.symm
  refine wpAny_call (make_map (f := f) I.kIn M.makes M.init (beq_iff_eq.mp M.fn) (codeAny_mono (F.run _ X.stack _ _ ⟨Value.ref (s.heap.objs.size + 1) :: us, []⟩ (Value.ref (s.heap.objs.size + 1) :: (us ++ ds)) _ _ E (hr.make C us [])
    (I2.env0.make C us []) (hb _ (Value.ref (s.heap.objs.size + 1) :: us) I2.kIn hl) r2 hq) fun r s' hq' => ?_))
  cases r with
  | error e => exact hx pins σ _ _ e s' I2 hq'
  | ok fl =>
    cases fl with
    | ret u =>
      obtain ⟨v, H', I3, rv, ev, q3⟩ := I2.after hq'
      subst ev
      exact ⟨rv, ⟨V.ref (s.heap.objs.size + 1), H', I3, rfl, q3⟩⟩
    | next => exact False.elim hq'
    | brk => exact False.elim hq'
    | cont => exact False.elim hq'
theorem pe_make (M : Mk X.K C f) (F : FnOk X.prog X.w X.K X.mg X.base CX k f fd ps sp) (hr : Room (k + 1) X.A) (hg : Gl X x) (hm : X.mg x = some (.ref C)) (hb : Binds X.K fd ps ds) (hd : Vals dvs ds) (hx : Passes CX X E)
    (ha : PA X (e :: es) t) (hdb : (x == ("__debug__" : Str)) = false := by decide) (he : starEach (e :: es) X.env = (false, eval e X.env) :: starEach es X.env := by rfl) (hpl : (backTo pos (starEach es X.env)).any (·.1) = false := by rfl) :
    PE X (.Call (.Name x p) (e :: es) [] pos) (tMake C sp dvs E t) := by
  intro pins s σ H Q I h
  refine wpAny_Call_Name_kw (ld_glob I hg hm ?_ hdb)
  refine PySem.W.callWith_K (h₀ := X.base) I.ok.mod.kin M.kp (thn (ha pos pins s σ H _ I h) fun us s1 ⟨vs, H1, I1, r, q⟩ => ⟨I1.kIn, ?_⟩) he hpl
  exact run_make M F hr hb hd hx I1 r q
end

section
variable {X : Cx} {CX : CXT} {k : Nat} {f C : Addr} {fd : FuncData} {ps ks : List Str} {sp : Sp} {E : XK} {x m : Str} {p pos apos kpos : Pos} {e o : Expr} {es : List Expr} {kws : List Keyword} {te ta : TE} {t tk : TA} {nm : Option Str}
variable {g : List Value → List Value → List Value} {gV : List V → List V → List V}
end

structure FnScope (N P : List Str) (sc : Scope) : Prop where
  kind : sc.kind = .function
  co : sc.isCoroutine = false
  gen : sc.isGenerator = false
  nd : N.Nodup
  pre : N.take P.length = P
  par : ∀ x ∈ P, sc.names.lookup x = some .local ∨ sc.names.lookup x = some .cell
  nofree : ∀ y ∈ sc.names, y.2 ≠ .free

theorem bindL_out {kindOf : Str → Option NameKind} {x : Str} : ∀ {binds : List (Str × Value)} {m : Str → Option Value}, (∀ v, (x, v) ∉ binds) → bindL kindOf binds m x = m x
  | [], _, _ => rfl
  | (n, v) :: r, m, h => by
    unfold bindL
    rw [bindL_out fun w hw => h w (List.mem_cons_of_mem _ hw)]
    split
    · have : x ≠ n := by rintro rfl; exact h v List.mem_cons_self
      simp [this]
    · rfl
theorem bindC_out {kindOf : Str → Option NameKind} {x : Str} : ∀ {binds : List (Str × Value)} {m : Str → Option Value}, (∀ v, (x, v) ∉ binds) → bindC kindOf binds m x = m x
  | [], _, _ => rfl
  | (n, v) :: r, m, h => by
    unfold bindC
    rw [bindC_out fun w hw => h w (List.mem_cons_of_mem _ hw)]
    split
    · rfl
    · have : x ≠ n := by rintro rfl; exact h v List.mem_cons_self
      simp [this]
theorem bindL_get {kindOf : Str → Option NameKind} {x : Str} {v : Value} : ∀ {P : List Str} {vs : List Value} {i : Nat} {m : Str → Option Value}, P.Nodup → P[i]? = some x → vs[i]? = some v → kindOf x = some .local →
    bindL kindOf (P.zip vs) m x = some v
  | [], _, _, _, _, h, _, _ => by simp at h
  | _ :: _, [], _, _, _, _, h, _ => by simp at h
  | p :: P, w :: vs, 0, m, nd, h1, h2, hk => by
    simp at h1 h2; subst h1; subst h2
    show bindL kindOf ((p, w) :: P.zip vs) m p = _
    unfold bindL
    rw [bindL_out fun v hv => (List.nodup_cons.mp nd).1 (List.of_mem_zip hv).1, if_pos hk]
    simp
  | p :: P, w :: vs, i + 1, m, nd, h1, h2, hk => by
    show bindL kindOf ((p, w) :: P.zip vs) m x = _
    unfold bindL
    exact bindL_get (i := i) (List.nodup_cons.mp nd).2 (by simpa using h1) (by simpa using h2) hk
theorem bindC_get {kindOf : Str → Option NameKind} {x : Str} {v : Value} : ∀ {P : List Str} {vs : List Value} {i : Nat} {m : Str → Option Value}, P.Nodup → P[i]? = some x → vs[i]? = some v → kindOf x ≠ some .local →
    bindC kindOf (P.zip vs) m x = some v
  | [], _, _, _, _, h, _, _ => by simp at h
  | _ :: _, [], _, _, _, _, h, _ => by simp at h
  | p :: P, w :: vs, 0, m, nd, h1, h2, hk => by
    simp at h1 h2; subst h1; subst h2
    show bindC kindOf ((p, w) :: P.zip vs) m p = _
    unfold bindC
    rw [bindC_out fun v hv => (List.nodup_cons.mp nd).1 (List.of_mem_zip hv).1, if_neg hk]
    simp
  | p :: P, w :: vs, i + 1, m, nd, h1, h2, hk => by
    show bindC kindOf ((p, w) :: P.zip vs) m x = _
    unfold bindC
    exact bindC_get (i := i) (List.nodup_cons.mp nd).2 (by simpa using h1) (by simpa using h2) hk

def start (N : List Str) (vs : List V) : St := vs.map some ++ List.replicate (N.length - vs.length) none

def cxOf (CX : CXT) (P : Program) (w : World) (K : PySem.W.Frag) (mg : Str → Option Value) (base : Heap) (N : List Str) (qual : Str) (scope : Scope) (f : Addr) (cd : Value) (A : Around) (outer : List Env) (s : Shared) (H : Hp) (E : XK) : Cx where
  prog := P
  w := w
  K := K
  mg := mg
  base := base
  A := A.deeper (envOfC qual scope s.heap.objs.size f cd)
  N := N
  s₀ := s
  H₀ := H
  env := envOfC qual scope s.heap.objs.size f cd
  outer := outer
  stack := envOfC qual scope s.heap.objs.size f cd :: outer
  ex := []
  calm := true
  fn := fun _ => true
  pn := []
  xe := fun e s' => wpAny (model P w) (A.deeper (envOfC qual scope s.heap.objs.size f cd)) (leaving (envOfC qual scope s.heap.objs.size f cd) e) (fun _ s'' => CX outer H s E e s'') (fun e' s'' => CX outer H s E e' s'') s'

theorem cell_has {sc : Scope} {n : Nat} {x : Str} (h : sc.names.lookup x = some .cell) : ∃ c, (cellsFrom n sc.names []).lookup x = some c := by
  have q := PySem.W.cellsFrom_some sc.names n [] (.inl h)
  exact Option.isSome_iff_exists.mp q

theorem inv_start {CX : CXT} {P : Program} {w : World} {K : PySem.W.Frag} {mg : Str → Option Value} {base : Heap} {N ps : List Str} {qual : Str} {scope : Scope} {f : Addr} {cd : Value} {A : Around} {outer : List Env} {s s1 : Shared} {H : Hp} {E : XK} {us : List Value} {vs : List V}
    (S : FnScope N ps scope) (hd : A.handled = none) (e0 : Env0 P w K mg base A outer s H) (hl : vs.length = ps.length) (r : Vals vs us)
    (x : InCallC s s.heap.objs.size (bindL (envOfC qual scope s.heap.objs.size f cd).kindOf (ps.zip us) fun _ => none) (cellsFrom (s.heap.objs.size + 1) scope.names []) (bindC (envOfC qual scope s.heap.objs.size f cd).kindOf (ps.zip us) fun _ => none) s1) :
    Inv (cxOf CX P w K mg base N qual scope f cd A outer s H E) [] (start N vs) H s1 := by
  have hpl : ps.length ≤ N.length := by have := congrArg List.length S.pre; rw [List.length_take] at this; omega
  obtain ⟨h1, tk, rfl, hk⟩ := x.done
  have noA : ∀ b : Addr, b ∉ (cxOf CX P w K mg base N qual scope f cd A outer s H E).ex := fun b z => absurd (show b ∈ ([] : List Addr) from z) (by simp)
  refine ⟨⟨e0.mod, S.kind, rfl, rfl, Nat.le_refl _, fun y z c h1 h2 => ?_, fun y hy => ?_, fun y c _ h => ?_, fun _ => hd, Around.frames_deeper e0.frames, .inr ⟨rfl, rfl⟩, fun b z => absurd z (noA b), e0.bs, e0.bsz, fun b _ _ => noA b, fun b z => absurd z (noA b), e0.funs, e0.frf⟩,
    rfl, e0.bare, Un.kept hk, ⟨_, x.toInCall.ns, fun i y v h1 h2 h3 => ?_⟩, fun y c h => ⟨_, x.cell y c h⟩, e0.hok.fresh (Nat.le_refl _), fun y c h => ?_, fun p hp => absurd (show p ∈ ([] : List (Addr × Obj)) from hp) (by simp), e0.hok.kept hk, ?_⟩
  · exact name_of_addr x.apart (PySem.mem_of_lookup h1) (PySem.mem_of_lookup h2)
  · have hy : scope.names.lookup y = some .cell ∨ scope.names.lookup y = some .free := hy
    rcases hy with hy | hy
    · exact cell_has hy
    · exact absurd rfl (S.nofree _ (PySem.mem_of_lookup hy))
  · exact Nat.le_of_lt (x.above y c (PySem.mem_of_lookup h))
  · have hi : i < vs.length := by
      unfold start at h2
      by_cases hi : i < vs.length
      · exact hi
      · rw [List.getElem?_append_right (by simpa using hi)] at h2
        rw [List.getElem?_replicate] at h2
        split at h2 <;> cases h2
    have ha : vs[i]? = some v := by
      unfold start at h2
      rw [List.getElem?_append_left (by simpa using hi), List.getElem?_map] at h2
      cases e : vs[i]? with
      | none => rw [e] at h2; cases h2
      | some a => rw [e] at h2; cases h2; rfl
    obtain ⟨u, hu, rv⟩ := r.get ha
    have hp : ps[i]? = some y := by
      rw [← S.pre, List.getElem?_take_of_lt (by omega)]; exact h1
    have ndP : ps.Nodup := by rw [← S.pre]; exact S.nd.sublist (List.take_sublist _ _)
    refine ⟨u, rv, ?_⟩
    rcases S.par y (List.mem_of_getElem? hp) with k | k
    · exact .inl ⟨k, bindL_get ndP hp hu k⟩
    · obtain ⟨c, e⟩ := cell_has (n := s.heap.objs.size + 1) k
      refine .inr ⟨.inl k, c, e, ?_⟩
      have q := x.cell y c e
      rw [bindC_get ndP hp hu (by show scope.names.lookup y ≠ _; rw [k]; decide)] at q
      exact q
  · exact e0.hok.fresh (Nat.le_of_lt (x.above y c (PySem.mem_of_lookup h)))
  · unfold start
    show _ = N.length
    rw [List.length_append, List.length_map, List.length_replicate]
    omega

theorem fn_of {CX : CXT} {P : Program} {w : World} {K : PySem.W.Frag} {mg : Str → Option Value} {base : Heap} {k : Nat} {f : Addr} {name qual : Str} {params : Arguments} {body : List Stmt} {scope : Scope} {dV kV doc pm cdv ct oc : Value} {an od : Option Addr}
    {osl : Array (Option Value)} {N ps : List Str} {sp : Sp} (lk : K.lookup f = some ⟨oc, od, .func (PySem.W.fnOf name qual params body scope dV kV doc pm an cdv ct), osl⟩) (hcd : PySem.W.codeIn K cdv qual = true) (S : FnScope N ps scope)
    (len : ∀ vs H Q E, sp vs H Q E → vs.length = ps.length)
    (hbody : ∀ (A : Around) (outer : List Env) (s : Shared) (H : Hp) (vs : List V) (Q : VK) (E : XK), Room k (A.deeper (envOfC qual scope s.heap.objs.size f cdv)) → sp vs H Q E →
      ∃ t, PSs (cxOf CX P w K mg base N qual scope f cdv A outer s H E) body t ∧ t { nx := fun _ H' => Q .non H', rt := Q } (start N vs) H) :
    FnOk P w K mg base CX (k + 1) f (PySem.W.fnOf name qual params body scope dV kV doc pm an cdv ct) ps sp := by
  refine ⟨len, fun A outer s H args us vs Q E hr e0 hb r hsp => ?_⟩
  have hl := len _ _ _ _ hsp
  have KX : K.In s.heap := e0.mod.kin.keeps fun b o e => (e0.bs b o e).1
  have lim : s.heap.NoLimit := e0.mod.nolimit.keeps fun b o e => (e0.bs b o e).1
  have hkind : ∀ y ∈ ps.zip us, scope.names.lookup y.1 = some .local ∨ (scope.names.lookup y.1 = some .cell ∧ ((cellsFrom (s.heap.objs.size + 1) scope.names []).lookup y.1).isSome = true) := fun ⟨n, v⟩ hy => by
    rcases S.par n (List.of_mem_zip hy).1 with q | q
    · exact .inl q
    · exact .inr ⟨q, PySem.W.cellsFrom_some _ _ _ (.inl q)⟩
  refine codeAny_call_function hr.depth (KX _ _ lk) rfl S.co S.gen rfl (PySem.W.codeRec_of KX hcd) (hb _ _ _ _ ?_)
  refine wpAny_newFunctionEnv_cells S.kind hkind fun env he s1 x => ?_
  subst he
  refine ⟨lim.keeps x.toInCall.keep, codeAny_func ?_⟩
  obtain ⟨t, ht, hq⟩ := hbody A outer s H vs Q E (hr.deeper _) hsp
  have I : Inv (cxOf CX P w K mg base N qual scope f cdv A outer s H E) [] (start N vs) H s1 := inv_start S hr.hd e0 hl r x
  refine wpAny_mono (ht [] s1 (start N vs) H _ I hq) (fun fl s' hs => ?_) fun e s' hs => hs
  have fin : ∀ {σ' : St} {H' : Hp} {v : V} {u : Value}, Inv (cxOf CX P w K mg base N qual scope f cdv A outer s H E) [] σ' H' s' → RelV v u → Q v H' → CE outer P w H s Q u s' :=
    fun {σ' H' v u} J rv q => ⟨v, H', J.os, J.bare, J.base, J.hok, rv, q⟩
  cases fl with
  | ret u =>
    obtain ⟨v, σ', H', J, rv, q⟩ := hs
    exact fin J rv q
  | next =>
    obtain ⟨σ', H', J, q⟩ := hs
    exact fin (v := V.non) (u := Value.none) J rfl q
  | brk =>
    obtain ⟨_, _, _, q⟩ := hs
    exact False.elim q
  | cont =>
    obtain ⟨_, _, _, q⟩ := hs
    exact False.elim q
end L2

namespace L2
open PySem PySem.Spec PyProof.Rows
section
variable {X : Cx} {x : Str} {p pos : Pos} {e : Expr} {es : List Expr} {t : TA} {id T : String} {r : List V → Hp → VK → Prop}

def tCB (r : List V → Hp → VK → Prop) (t : TA) : TE := fun σ H Q => t σ H fun vs H1 => r vs H1 Q
theorem pe_callB (hc : CallR X (.builtin id) r) (hg : Gl X x) (hm : X.mg x = none) (hv : bootBuiltins x = some (.builtin id)) (ha : PA X (e :: es) t) (hn : x ≠ "__name__" := by decide) (hdb : (x == ("__debug__" : Str)) = false := by decide)
    (he : starEach (e :: es) X.env = (false, eval e X.env) :: starEach es X.env := by rfl) (hpl : (backTo pos (starEach es X.env)).any (·.1) = false := by rfl) : PE X (.Call (.Name x p) (e :: es) [] pos) (tCB r t) := by
  intro pins s σ H Q I h
  refine wpAny_Call_Name_kw (ld_blt I hg hm hv ?_ hn hdb)
  exact PyProof.Rows.callWith_builtin1 (thn (ha pos pins s σ H _ I h) fun us s1 ⟨vs, H1, I1, r1, q1⟩ => hc pins s1 σ H1 vs us Q I1 r1 q1) he hpl
theorem pe_callTy (hc : CallR X (.type T) r) (hg : Gl X x) (hm : X.mg x = none) (hv : bootBuiltins x = some (.type T)) (ha : PA X (e :: es) t) (hn : x ≠ "__name__" := by decide) (hdb : (x == ("__debug__" : Str)) = false := by decide)
    (he : starEach (e :: es) X.env = (false, eval e X.env) :: starEach es X.env := by rfl) (hpl : (backTo pos (starEach es X.env)).any (·.1) = false := by rfl) : PE X (.Call (.Name x p) (e :: es) [] pos) (tCB r t) := by
  intro pins s σ H Q I h
  refine wpAny_Call_Name_kw (ld_blt I hg hm hv ?_ hn hdb)
  exact PyProof.Rows.callWith_type1 (thn (ha pos pins s σ H _ I h) fun us s1 ⟨vs, H1, I1, r1, q1⟩ => hc pins s1 σ H1 vs us Q I1 r1 q1) he hpl
end
end L2

namespace HT
open PySem PyProof.Rows

section
open PySem.SeqAt
open PySem.AutoSeq1 (wpAny_loadPart')
open PySem.MeetsSeq PySem.MeetsSeq2 PySem.MeetsSeq3

end

section
variable {prog : Program} {w : World} {A : Around} {E : Value → Shared → Prop} {s : Shared}

def sIx (n d : Nat) : Option Int → Nat
  | none => d
  | some v => if v < 0 then (v + (n : Int)).toNat else min v.toNat n
theorem sIx_none (n d : Nat) : sIx n d none = d := rfl
theorem sIx_nat (n d k : Nat) : sIx n d (some (k : Int)) = min k n := by
  show (if (k : Int) < 0 then ((k : Int) + (n : Int)).toNat else min (k : Int).toNat n) = min k n
  rw [if_neg (by omega), Int.toNat_natCast]
end
end HT

namespace L2
open PySem PySem.Spec PyProof.Rows

abbrev TO := St → Hp → (Option Int → Hp → Prop) → Prop
def PO (X : Cx) (e : Option Expr) (t : TO) : Prop :=
  ∀ (pins : List (Addr × Obj)) (s : Shared) (σ : St) (H : Hp) (Q : Option Int → Hp → Prop), Inv X pins σ H s → t σ H Q →
    wpAny (model X.prog X.w) X.A (evalPart e X.env) (fun u s' => ∃ o H', Inv X pins σ H' s' ∧ IsPart u o ∧ Q o H') X.xe s
def tNoPart : TO := fun _ H Q => Q none H
def tPart (t : TE) : TO := fun σ H Q => t σ H fun x H1 => IsIn x H1 Q

section
variable {X : Cx} {e : Expr} {te : TE} {lo hi : Option Expr} {tl th : TO} {pos p2 : Pos}

theorem po_none : PO X none tNoPart := by
  intro pins s σ H Q I h
  rw [evalPart_none]
  exact wpAny_pure ⟨none, H, I, .none, h⟩
theorem po_some (h : PE X e te) : PO X (some e) (tPart te) := by
  intro pins s σ H Q I hw
  rw [evalPart_some]
  refine thn (h pins s σ H _ I hw) fun u s1 ⟨x, H1, I1, r1, q1⟩ => ?_
  obtain ⟨i, rfl, q⟩ := q1
  obtain ⟨t, rfl⟩ := r1
  exact ⟨some i, H1, I1, .int i t, q⟩

def SlR (X : Cx) (r : V → Option Int → Option Int → Hp → VK → Prop) : Prop :=
  ∀ (pins : List (Addr × Obj)) (s : Shared) (σ : St) (H : Hp) (x : V) (v vl vu : Value) (lo hi : Option Int) (sl : Addr) (Q : VK), Inv X pins σ H s → RelV x v → s.heap.IsSliceOf sl vl vu .none → IsPart vl lo → IsPart vu hi → r x lo hi H Q →
    ∃ T id, typeLookup (.type T) "__getitem__" = pure (some (.builtin id)) ∧ s.TypeIs v T ∧ wpAny (model X.prog X.w) X.A (getItem v (.ref sl)) (EP X pins σ Q) X.xe s
def tSl (r : V → Option Int → Option Int → Hp → VK → Prop) (te : TE) (tl th : TO) : TE := fun σ H Q => te σ H fun x H1 => tl σ H1 fun l H2 => th σ H2 fun u H3 => r x l u H3 Q
theorem pe_slice {r : V → Option Int → Option Int → Hp → VK → Prop} (hr : SlR X r) (he : PE X e te) (hl : PO X lo tl) (hu : PO X hi th) : PE X (.Subscript e (.Slice lo hi none p2) pos) (tSl r te tl th) := by
  intro pins s σ H Q I h
  refine Subscript_ (thn (he pins s σ H _ I h) fun v s1 ⟨x, H1, I1, r1, q1⟩ => ?_)
  refine wpAny_Slice (thn (hl pins s1 σ H1 _ I1 q1) fun vl s2 ⟨l, H2, I2, pl, q2⟩ => thn (hu pins s2 σ H2 _ I2 q2) fun vu s3 ⟨u, H3, I3, pu, q3⟩ => ?_)
  rw [evalPart_none]
  refine wpAny_pure ?_
  have I4 : Inv X pins σ H3 { s3 with heap := s3.heap.push { cls := .type "slice", data := .fields #[vl, vu, .none] } } := I3.kept (t' := s3.toks) fun b ob q => Heap.get?_push_of_some _ q
  obtain ⟨T, id, hT, ht, hg⟩ := hr pins { s3 with heap := s3.heap.push { cls := .type "slice", data := .fields #[vl, vu, .none] } } σ H3 x v vl vu l u s3.heap.objs.size Q I4 r1 (Heap.IsSliceOf.new ..) pl pu q3
  show wpAny (model X.prog X.w) X.A (subscriptTail e (.Slice lo hi none p2) v (.ref s3.heap.objs.size)) (EP X pins σ Q) X.xe { s3 with heap := s3.heap.push { cls := .type "slice", data := .fields #[vl, vu, .none] } }
  exact tail_any (ops := [.ref s3.heap.objs.size, v]) ht hT hg (by with_unfolding_all rfl)

def cutV (xs : List V) (lo hi : Option Int) : List V := (xs.drop (HT.sIx xs.length 0 lo)).take (HT.sIx xs.length xs.length hi - HT.sIx xs.length 0 lo)
theorem cutV_length (xs : List V) (lo hi : Option Int) : (cutV xs lo hi).length ≤ xs.length := by
  unfold cutV
  rw [List.length_take, List.length_drop]
  omega
end
end L2

namespace L2
open PySem PySem.Spec PyProof.Rows

def ixN (n : Nat) (i : Int) : Option Nat := if 0 ≤ i then (if i < n then some i.toNat else none) else if -(n : Int) ≤ i then some (i + n).toNat else none
def atI {α : Type} (xs : List α) (i : Int) : Option α := (ixN xs.length i).bind fun j => xs[j]?
theorem ixN_seq {n : Nat} {i : Int} {j : Nat} (h : ixN n i = some j) : seqIndex? i n = some j ∧ j < n ∧ -(n : Int) ≤ i ∧ i < n := by
  unfold ixN at h
  by_cases h0 : 0 ≤ i
  · rw [if_pos h0] at h
    by_cases h1 : i < n
    · rw [if_pos h1] at h
      have e : i.toNat = j := Option.some.inj h
      exact ⟨by rw [seqIndex_of h0 h1, e], by omega, by omega, h1⟩
    · rw [if_neg h1] at h; cases h
  · rw [if_neg h0] at h
    by_cases h1 : -(n : Int) ≤ i
    · rw [if_pos h1] at h
      have e : (i + n).toNat = j := Option.some.inj h
      exact ⟨by rw [seqIndex_neg (by omega) h1, e], by omega, h1, by omega⟩
    · rw [if_neg h1] at h; cases h
theorem atI_get {α : Type} {xs : List α} {i : Int} {v : α} (h : atI xs i = some v) : ∃ j, seqIndex? i xs.length = some j ∧ xs[j]? = some v ∧ j < xs.length ∧ -(xs.length : Int) ≤ i ∧ i < xs.length := by
  unfold atI at h
  cases e : ixN xs.length i with
  | none => rw [e] at h; cases h
  | some j =>
    rw [e] at h
    obtain ⟨h1, h2, h3, h4⟩ := ixN_seq e
    exact ⟨j, h1, h, h2, h3, h4⟩
theorem atI_nat {α : Type} {xs : List α} {j : Nat} {v : α} (h : xs[j]? = some v) : atI xs (j : Int) = some v := by
  have hj : j < xs.length := (List.getElem?_eq_some_iff.mp h).1
  have e : ixN xs.length (j : Int) = some j := by
    unfold ixN
    rw [if_pos (by omega), if_pos (by omega)]; simp
  unfold atI; rw [e]; exact h
theorem atI_last {α : Type} (xs : List α) (v : α) : atI (xs ++ [v]) (-1) = some v := by
  have hl : (xs ++ [v]).length = xs.length + 1 := by simp
  have e : ixN (xs ++ [v]).length (-1) = some xs.length := by
    unfold ixN
    rw [hl, if_neg (by decide), if_pos (by omega)]
    congr 1
    omega
  unfold atI
  rw [e]
  show (xs ++ [v])[xs.length]? = some v
  simp

def PlainIx (b : Expr) : Prop := ∀ o i, subscripted b false o i = operate [o, i] (getItem o i)
def IxR (X : Cx) (r : R2) : Prop :=
  ∀ (value slice : Expr) (pins : List (Addr × Obj)) (s : Shared) (σ : St) (H : Hp) (x y : V) (v u : Value) (Q : VK), Inv X pins σ H s → RelV x v → RelV y u → r x y H Q →
    subscripted slice false v u = operate [v, u] (getItem v u) → wpAny (model X.prog X.w) X.A (subscriptTail value slice v u) (EP X pins σ Q) X.xe s
def MtR (X : Cx) (id : String) (r : V → List V → Hp → VK → Prop) : Prop :=
  ∀ (pins : List (Addr × Obj)) (s : Shared) (σ : St) (H : Hp) (x : V) (xs : List V) (v : Value) (us : List Value) (Q : VK), Inv X pins σ H s → RelV x v → Vals xs us → r x xs H Q →
    wpAny (model X.prog X.w) X.A (call (.builtin id) (v :: us)) (EP X pins σ Q) X.xe s
section
variable {X : Cx} {a b : Expr} {ta tb : TE} {pos : Pos}
theorem pe_ix {r : R2} (hr : IxR X r) (ha : PE X a ta) (hb : PE X b tb) (hs : PlainIx b) : PE X (.Subscript a b pos) (tOp r ta tb) := by
  intro pins s σ H Q I h
  exact Subscript_ (binT ha hb I h fun v u s2 x y H2 I2 rx ry q => hr a b pins s2 σ H2 x y v u Q I2 rx ry q (hs _ _))

inductive rIxL (K : PySem.W.Frag) (x : V) (y : V) (H : Hp) (Q : VK) : Prop where
  | mk (p : _) (xs : _) (i : _) (v : _) (h_0 : x = .ref p) (h_1 : y = .int i) (h_2 : SqL K H p xs) (h_3 : atI xs i = some v) (h_4 : Q v H)
inductive rIxT (K : PySem.W.Frag) (x : V) (y : V) (H : Hp) (Q : VK) : Prop where
  | mk (p : _) (xs : _) (i : _) (v : _) (h_0 : x = .ref p) (h_1 : y = .int i) (h_2 : SqT K H p xs) (h_3 : atI xs i = some v) (h_4 : Q v H)
theorem ix_list : IxR X (rIxL X.K) := by
  intro value slice pins s σ H x y v u Q I rx ry h hs
  obtain ⟨p, xs, i, z, rfl, rfl, hq, he, q⟩ := h
  cases rx
  obtain ⟨t, rfl⟩ := ry
  obtain ⟨its, r, pl, hz⟩ := I.list hq
  obtain ⟨j, h1, h2, h3, h4, h5⟩ := atI_get he
  obtain ⟨w, ew, rw'⟩ := r.get h2
  have hl := r.length
  have hn := line63
  have fin : EP X pins σ Q w s := ⟨z, H, I, rw', q⟩
  by_cases h0 : 0 ≤ i
  · have hj : i.toNat = j := by
      rw [seqIndex_of h0 h5] at h1
      exact Option.some.inj h1
    exact item_listR pl.isList h0 (by omega) (by rw [hj]; simpa using ew) fin hs
  · have hj : (i + (its.toArray.size : Int)).toNat = j := by
      rw [seqIndex_neg (by omega) h4] at h1
      rw [List.size_toArray, ← hl]
      exact Option.some.inj h1
    exact subscriptTail_builtinR (x := w) pl.isList.typeIs slot_list_getitem.lookup
      (wpAny_getItem_list_neg (Q := fun r s' => r = w ∧ EP X pins σ Q r s') pl.isList (by omega) (by rw [List.size_toArray] <;> omega) (by omega) (by rw [hj]; simpa using ew) ⟨rfl, fin⟩) hs
theorem ix_tup : IxR X (rIxT X.K) := by
  intro value slice pins s σ H x y v u Q I rx ry h hs
  obtain ⟨p, xs, i, z, rfl, rfl, hq, he, q⟩ := h
  cases rx
  obtain ⟨t, rfl⟩ := ry
  obtain ⟨its, r, pl, hz⟩ := I.tuple hq
  obtain ⟨j, h1, h2, h3, h4, h5⟩ := atI_get he
  obtain ⟨w, ew, rw'⟩ := r.get h2
  have hl := r.length
  have hn := line63
  have fin : EP X pins σ Q w s := ⟨z, H, I, rw', q⟩
  exact subscriptTail_builtinR (x := w) pl.typeIs slot_tuple_getitem.lookup
    (getItem_tuple (j := j) (Q := fun r s' => r = w ∧ EP X pins σ Q r s') pl (by omega) (by omega) (by rw [List.size_toArray, ← hl]; exact h1) (by simpa using ew) ⟨rfl, fin⟩) hs
theorem slice_bounds (lo hi : Option Int) (n : Nat) : (sliceBounds lo hi none n).1 = ((HT.sIx n 0 lo : Nat) : Int) ∧ (sliceBounds lo hi none n).2.1 = ((HT.sIx n n hi : Nat) : Int) ∧ (sliceBounds lo hi none n).2.2 = 1 := by
  refine ⟨?_, ?_, rfl⟩
  · cases lo with
    | none => simp [sliceBounds, HT.sIx]
    | some i =>
      simp only [sliceBounds, HT.sIx, Option.getD_none, show (1 : Int) > 0 by decide, if_true]
      by_cases h : i < 0
      · simp only [h, if_true] <;> omega
      · simp only [h, if_false] <;> omega
  · cases hi with
    | none => simp [sliceBounds, HT.sIx]
    | some i =>
      simp only [sliceBounds, HT.sIx, Option.getD_none, show (1 : Int) > 0 by decide, if_true]
      by_cases h : i < 0
      · simp only [h, if_true] <;> omega
      · simp only [h, if_false] <;> omega
theorem slicePick_cut (its : List Value) (lo hi : Option Int) : slicePick its.toArray lo hi none = ((its.drop (HT.sIx its.length 0 lo)).take (HT.sIx its.length its.length hi - HT.sIx its.length 0 lo)).toArray := by
  obtain ⟨h1, h2, h3⟩ := slice_bounds lo hi its.toArray.size
  unfold slicePick
  rw [h1, h2, h3]
  simp only [sliceRange_one, pick_run, List.size_toArray] <;> rfl
inductive rSlL (K : PySem.W.Frag) (x : V) (lo : Option Int) (hi : Option Int) (H : Hp) (Q : VK) : Prop where
  | mk (a : _) (xs : _) (h_0 : x = .ref a) (h_1 : SqL K H a xs) (h_2 : ∀ p, H p = none → Q (.ref p) (upd H p (.lst (cutV xs lo hi))))
theorem sl_list : SlR X (rSlL X.K) := by
  intro pins s σ H x v vl vu lo hi sl Q I rx hs pl pu h
  obtain ⟨a, xs, rfl, hx, q⟩ := h
  cases rx
  obtain ⟨its, r, ht, hz⟩ := I.list hx
  have hlen := r.length
  refine ⟨"list", _, slot_list_getitem.lookup, ht.isList.typeIs, ?_⟩
  refine wpAny_getItem_list_slice ht.isList hs pl pu .none (by simp) ?_ (by rw [List.size_toArray] <;> omega)
  rw [slicePick_cut, ← hlen]
  refine ⟨.ref s.heap.objs.size, _, I.laid (t' := s.toks) (o := .lst (cutV xs lo hi)) (fun b ob q => Heap.get?_push_of_some _ q) (Nat.le_refl _) ?_, rfl, q _ (I.hok.fresh (Nat.le_refl _))⟩
  exact ⟨Nat.le_trans (cutV_length xs lo hi) hz, _, 0, (r.drop (HT.sIx xs.length 0 lo)).take (HT.sIx xs.length xs.length hi - HT.sIx xs.length 0 lo), Heap.get?_push_size _ rfl⟩

theorem call_len_seq : CallR X (.builtin "len") (fun xs H Q => ∃ p ys, xs = [.ref p] ∧ (SqL X.K H p ys ∨ SqT X.K H p ys) ∧ Q (.int ys.length) H) := by
  intro pins s σ H xs us Q I r h
  obtain ⟨p, ys, rfl, hq, q⟩ := h
  obtain ⟨u, rfl, rx⟩ := vals1 r
  cases rx
  have hn := line63
  rcases hq with hq | hq
  · obtain ⟨its, r', pl, hz⟩ := I.list hq
    have hlen := r'.length
    exact Calls.call_len_list pl.isList (by simp only [List.size_toArray] <;> omega) ⟨.int ys.length, H, I.tok _, ⟨s.toks + 1, by rw [List.size_toArray, hlen]⟩, q⟩
  · obtain ⟨its, r', pl, hz⟩ := I.tuple hq
    have hlen := r'.length
    exact len_tuple pl (by simp only [List.size_toArray] <;> omega) ⟨.int ys.length, H, I.tok _, ⟨s.toks + 1, by rw [List.size_toArray, hlen]⟩, q⟩
theorem call_list_of : CallR X (.type "list") (fun xs H Q => ∃ p ys, xs = [.ref p] ∧ (SqL X.K H p ys ∨ SqT X.K H p ys) ∧ ∀ l, H l = none → Q (.ref l) (upd H l (.lst ys))) := by
  intro pins s σ H xs us Q I r h
  obtain ⟨p, ys, rfl, hq, q⟩ := h
  obtain ⟨u, rfl, rx⟩ := vals1 r
  cases rx
  have fin : ∀ (its : List Value), Vals ys its → ys.length ≤ sizeLine → ∀ (h' : Heap) (c' : Nat), (∀ b o', s.heap.get? b = some o' → h'.get? b = some o') →
      h'.get? s.heap.objs.size = some { cls := .type "list", dict := none, data := .seq its.toArray c', slots := #[] } → EP X pins σ Q (.ref s.heap.objs.size) { s with heap := h' } := fun its r' hz h' c' kp e =>
    ⟨.ref s.heap.objs.size, _, I.laid (t' := s.toks) kp (Nat.le_refl _) (show ObjOk X.prog X.w _ h' _ (.lst ys) from ⟨hz, its, c', r', e⟩), rfl, q _ (I.hok.fresh (Nat.le_refl _))⟩
  rcases hq with hq | hq
  · obtain ⟨its, r', pl, hz⟩ := I.list hq
    have hlen := r'.length
    obtain ⟨o, ho, hc, n, hd⟩ := pl.isList
    exact call_list_seq p (.inl rfl) ho hc hd (fun h' c' kp e => fin its r' hz h' c' kp e) (by simp only [List.size_toArray] <;> omega)
  · obtain ⟨its, r', pl, hz⟩ := I.tuple hq
    have hlen := r'.length
    obtain ⟨o, ho, hc, n, hd⟩ := pl
    exact call_list_seq p (.inr rfl) ho hc hd (fun h' c' kp e => fin its r' hz h' c' kp e) (by simp only [List.size_toArray] <;> omega)
def tyV (K : PySem.W.Frag) (T : String) (x : V) (H : Hp) : Prop := match x with
  | .str _ => T = "str"
  | .int _ => T = "int"
  | .ref p => (T = "list" ∧ ∃ xs, SqL K H p xs) ∨ (T = "tuple" ∧ ∃ o, K.lookup p = some o ∧ o.cls = .type "tuple" ∧ o.dict = none) ∨
      (T = "dict" ∧ ((∃ kvs, H p = some (.dK kvs)) ∨ ∃ kvs, H p = some (.dT kvs))) ∨ (T = "set" ∧ ∃ S n, H p = some (.set S n))
  | _ => False
theorem tyV_is {pins : List (Addr × Obj)} {σ : St} {H : Hp} {s : Shared} {T : String} {x : V} {v : Value} (I : Inv X pins σ H s) (r : RelV x v) (ty : tyV X.K T x H) :
    s.TypeIs v T ∧ ∀ a, v = .ref a → ∃ ob, s.heap.get? a = some ob ∧ ob.dict = none := by
  cases x with
  | str z =>
    obtain ⟨t, rfl⟩ := r
    cases (show T = "str" from ty)
    exact ⟨typeIs_str s z t, fun _ e => nomatch e⟩
  | int i =>
    obtain ⟨t, rfl⟩ := r
    cases (show T = "int" from ty)
    exact ⟨typeIs_int s i t, fun _ e => nomatch e⟩
  | ref p =>
    cases r
    rcases ty with ⟨rfl, xs, hq⟩ | ⟨rfl, o, hk, hc, hd⟩ | ⟨rfl, hk⟩ | ⟨rfl, S, n, hk⟩
    · obtain ⟨its, _, pl, _⟩ := I.list hq
      refine ⟨pl.isList.typeIs, fun a e => ?_⟩
      cases e
      obtain ⟨o, n, e, c, hd, _⟩ := pl
      exact ⟨o, e, hd⟩
    · refine ⟨⟨o, I.kIn p o hk, hc⟩, fun a e => ?_⟩
      cases e
      exact ⟨o, I.kIn _ o hk, hd⟩
    · have z : ∃ o, s.heap.get? p = some o ∧ o.ExactDict := by
        rcases hk with ⟨kvs, hk⟩ | ⟨kvs, hk⟩
        · obtain ⟨_, _, _, _, o, _, _, e, ex, _⟩ := I.hok p _ hk
          exact ⟨o, e, ex⟩
        · obtain ⟨_, _, _, _, o, _, _, e, ex, _⟩ := I.hok p _ hk
          exact ⟨o, e, ex⟩
      obtain ⟨o, e, ex⟩ := z
      refine ⟨⟨o, e, ex.1⟩, fun a e2 => ?_⟩
      cases e2
      exact ⟨o, e, ex.2.1⟩
    · obtain ⟨o, _, _, _, e, ex, _⟩ := I.hok p _ hk
      refine ⟨⟨o, e, ex.1⟩, fun a e2 => ?_⟩
      cases e2
      exact ⟨o, e, ex.2.1⟩
  | _ => exact False.elim ty
def tBM0 (K : PySem.W.Frag) (T : String) (r : V → List V → Hp → VK → Prop) (to : TE) : TE := fun σ H Q => to σ H fun x H1 => tyV K T x H1 ∧ r x [] H1 Q
def tBM (K : PySem.W.Frag) (T : String) (r : V → List V → Hp → VK → Prop) (to : TE) (t : TA) : TE := fun σ H Q => to σ H fun x H1 => tyV K T x H1 ∧ t σ H1 fun xs H2 => r x xs H2 Q
variable {o e : Expr} {es : List Expr} {to : TE} {t : TA} {name : Str} {apos cpos : Pos} {T id : String} {r : V → List V → Hp → VK → Prop}
theorem pe_bm0 (pa : PlainAttrs T) (slot : Slot T name id) (hty : typeOf (.builtin id) = pure (.type "method_descriptor")) (hm : MtR X id r) (ho : PE X o to)
    (hbase : attributeBase o name X.env (eval o X.env) = eval o X.env := by rfl) (hline : (apos.endLine == cpos.line) = true := by rfl) : PE X (.Call (.Attribute o name apos) [] [] cpos) (tBM0 X.K T r to) := by
  intro pins s σ H Q I h
  refine wpAny_Call_method0_late hbase hline (thn (ho pins s σ H _ I h) fun v s1 ⟨x, H1, I1, r1, ty, q1⟩ => ?_)
  obtain ⟨h1, h2⟩ := tyV_is I1 r1 ty
  exact ⟨T, id, pa, slot, hty, h1, h2, Calls.callWith_builtin rfl (PySem.evalArgs_none (hm pins s1 σ H1 x [] v [] Q I1 r1 .nil q1))⟩
theorem pe_bm (pa : PlainAttrs T) (slot : Slot T name id) (hty : typeOf (.builtin id) = pure (.type "method_descriptor")) (hm : MtR X id r) (ho : PE X o to) (ha : PA X (e :: es) t)
    (hbase : attributeBase o name X.env (eval o X.env) = eval o X.env := by rfl)
    (hfew : ((backTo cpos (starEach (e :: es) X.env)).all (fun x => !x.1) && (backToKw cpos (keywordEach [] X.env)).all (fun x => x.1.isSome)
      && decide ((e :: es).length + ([] : List Keyword).length + (if ([] : List Keyword).isEmpty then 0 else 1) < 30)) = true := by rfl)
    (hline : (apos.endLine == cpos.line) = true := by rfl) (hs : starEach (e :: es) X.env = (false, eval e X.env) :: starEach es X.env := by rfl) (hplain : (backTo cpos (starEach es X.env)).any (·.1) = false := by rfl) :
    PE X (.Call (.Attribute o name apos) (e :: es) [] cpos) (tBM X.K T r to t) := by
  intro pins s σ H Q I h
  refine wpAny_Call_method_late hbase hfew hline rfl (thn (ho pins s σ H _ I h) fun v s1 ⟨x, H1, I1, r1, ty, q1⟩ => ?_)
  obtain ⟨h1, h2⟩ := tyV_is I1 r1 ty
  refine ⟨T, id, pa, slot, hty, h1, h2, ?_⟩
  have hA := ha cpos pins s1 σ H1 _ I1 q1
  rw [hs] at hA ⊢
  refine Calls.callWith_builtin (by show (false || (backTo cpos (starEach es X.env)).any (·.1)) = false; rw [hplain] <;> rfl) (Calls.evalArgs_plain ?_)
  exact thn hA fun us s2 ⟨vs, H2, I2, r2, q2⟩ => hm pins s2 σ H2 x vs v us Q I2 r1 r2 q2
/- xs.append(e), list.index on a module's tuple .. are MtR facts of 06m -/
end
end L2

namespace L2
open PySem PySem.Spec PyProof.Rows

def MtM (X : Cx) (id : String) (r : V → List V → Hp → VK → Prop) : Prop :=
  ∀ (pins : List (Addr × Obj)) (s : Shared) (σ : St) (H : Hp) (x : V) (xs : List V) (v : Value) (us : List Value) (Q : VK), Inv X pins σ H s → RelV x v → Vals xs us → r x xs H Q →
    wpAny (model X.prog X.w) X.A (call (.builtin id) (v :: us)) (EP X pins σ Q) X.xe s

theorem Vals.one : ∀ {x : V} {us : List Value}, Vals [x] us → ∃ u, us = [u] ∧ RelV x u
  | _, _, .cons r .nil => ⟨_, rfl, r⟩
theorem Vals.zero : ∀ {us : List Value}, Vals [] us → us = []
  | _, .nil => rfl
theorem Vals.dropLast {xs : List V} {us : List Value} (h : Vals xs us) : Vals xs.dropLast us.dropLast := by
  induction h with
  | nil => exact .nil
  | cons r t ih =>
    cases t with
    | nil => exact .nil
    | cons q t' => exact .cons r ih
theorem Vals.rep {xs : List V} {us : List Value} (h : Vals xs us) : ∀ k : Nat, Vals (List.replicate k xs).flatten (List.replicate k us).flatten
  | 0 => .nil
  | k + 1 => by
    rw [List.replicate_succ, List.replicate_succ, List.flatten_cons, List.flatten_cons]
    exact Vals.append h (Vals.rep h k)
theorem erase_last {α : Type} (l : List α) : l.eraseIdx (l.length - 1) = l.dropLast := by
  induction l with
  | nil => rfl
  | cons a r ih =>
    cases r with
    | nil => rfl
    | cons b r =>
      have e : (a :: b :: r).length - 1 = ((b :: r).length - 1) + 1 := by
        have h1 : (a :: b :: r).length = r.length + 2 := rfl
        have h2 : (b :: r).length = r.length + 1 := rfl
        omega
      rw [e, List.eraseIdx_cons_succ, ih]
      all_goals rfl
theorem foldl_rep (its : List Value) : ∀ (k : Nat) (acc : List Value),
    List.foldl (fun x1 x2 => x1 ++ x2) acc.toArray (List.replicate k its.toArray) = (acc ++ (List.replicate k its).flatten).toArray
  | 0, acc => by simp
  | k + 1, acc => by
    have e : acc.toArray ++ its.toArray = (acc ++ its).toArray := by simp
    have e2 : (acc ++ its) ++ (List.replicate k its).flatten = acc ++ (List.replicate (k + 1) its).flatten := by
      rw [List.replicate_succ, List.flatten_cons, List.append_assoc]
    rw [← e2, ← foldl_rep its k (acc ++ its), ← e, List.replicate_succ, List.foldl_cons]

section
variable {X : Cx} {pins : List (Addr × Obj)} {σ : St} {H : Hp} {s : Shared} {l b : Addr} {xs ys zs : List V}

theorem Inv.lset {its its' : List Value} {n : Nat} {f : Array Value → Array Value} {t' : Nat} (I : Inv X pins σ H s) (hH : H l = some (.lst xs))
    (e : s.heap.get? l = some { cls := .type "list", data := .seq its.toArray n }) (hf : f its.toArray = its'.toArray) (hv : Vals ys its') (hz : ys.length ≤ sizeLine) :
    Inv X pins σ (upd H l (.lst ys)) { s with heap := s.heap.update l (Obj.mapSeq f), toks := t' } := by
  have q := PySem.IsL.update e f
  rw [hf] at q
  refine I.write (x := l) (e := l) (by rw [hH]; exact trivial) (.inl rfl) (fun b' u hb hu => (Heap.get?_update_other s.heap (Obj.mapSeq f) (Ne.symm hb)).trans hu) ⟨_, q⟩ ?_
  exact ⟨hz, its', _, hv, q⟩
theorem Inv.lnew {its : List Value} {t' : Nat} (I : Inv X pins σ H s) (hv : Vals ys its) (hz : ys.length ≤ sizeLine) :
    Inv X pins σ (upd H s.heap.objs.size (.lst ys)) { s with heap := s.heap.push { cls := .type "list", data := .seq its.toArray }, toks := t' } :=
  I.laid (fun _ _ q => Heap.get?_push_of_some _ q) (Nat.le_refl _) ⟨hz, its, 0, hv, Heap.get?_push_size _ rfl⟩
theorem Inv.fresh (I : Inv X pins σ H s) : H s.heap.objs.size = none := I.hok.fresh (Nat.le_refl _)
theorem Inv.lstM (I : Inv X pins σ H s) (hH : H l = some (.lst xs)) : xs.length ≤ sizeLine ∧ ∃ (its : List Value) (n : Nat), Vals xs its ∧ xs.length = its.length ∧ s.heap.get? l = some { cls := .type "list", data := .seq its.toArray n } := by
  obtain ⟨z, its, n, r, e⟩ := I.hok l _ hH
  exact ⟨z, its, n, r, r.length, e⟩

theorem notLongL {n : Nat} (h : n ≤ sizeLine) : Builtin.List.listTooLong n = false := by
  unfold Builtin.List.listTooLong
  exact decide_eq_false (by omega)
end

section
variable {X : Cx}

inductive rAppend (x : V) (vs : List V) (H : Hp) (Q : VK) : Prop where
  | mk (l : _) (xs : _) (y : _) (h_0 : x = .ref l) (h_1 : vs = [y]) (h_2 : H l = some (.lst xs)) (h_3 : xs.length < sizeLine) (h_4 : Q .non (upd H l (.lst (xs ++ [y]))))
theorem mt_append : MtM X "list.append" rAppend := by
  intro pins s σ H x vs v us Q I rx rv h
  obtain ⟨l, xs, y, rfl, rfl, hH, hz, q⟩ := h
  cases rx
  obtain ⟨u, rfl, ru⟩ := rv.one
  obtain ⟨z, its, n, r, hl, e⟩ := I.lstM hH
  refine call_meets F.slot_list_append ⟨_, e, rfl⟩ F.entry_list_append (F.args_list_append_2 _ _) (PySem.list_append l its.toArray n u (by rw [List.size_toArray]; omega)) ⟨e, ?_⟩
  refine ⟨.non, _, I.lset (its' := its ++ [u]) hH e (by simp) (r.append (.cons ru .nil)) ?_, rfl, q⟩
  rw [List.length_append, List.length_singleton]
  omega

inductive rExtend (x : V) (vs : List V) (H : Hp) (Q : VK) : Prop where
  | mk (l : _) (b : _) (xs : _) (zs : _) (h_0 : x = .ref l) (h_1 : vs = [.ref b]) (h_2 : H l = some (.lst xs)) (h_3 : H b = some (.lst zs)) (h_4 : xs.length + zs.length ≤ sizeLine) (h_5 : Q .non (upd H l (.lst (xs ++ zs))))
theorem mt_extend : MtM X "list.extend" rExtend := by
  intro pins s σ H x vs v us Q I rx rv h
  obtain ⟨l, b, xs, zs, rfl, rfl, hH, hB, hz, q⟩ := h
  cases rx
  obtain ⟨u, rfl, ru⟩ := rv.one
  cases ru
  obtain ⟨z, its, n, r, hl, e⟩ := I.lstM hH
  obtain ⟨z2, its2, n2, r2, hl2, e2⟩ := I.lstM hB
  have hsz : its.toArray.size + its2.toArray.size ≤ sizeLine := by rw [List.size_toArray, List.size_toArray]; omega
  have hlong : ¬ (!its.toArray.isEmpty && Builtin.List.listTooLong (its.toArray.size + its2.toArray.size)) = true := by
    rw [notLongL hsz, Bool.and_false]
    exact Bool.false_ne_true
  refine call_meets F.slot_list_extend ⟨_, e, rfl⟩ F.entry_list_extend (F.args_list_extend_2 _ _)
    (AutoSeq1.list_extend_list_list_0 l its.toArray n b its2.toArray n2 hlong (by rw [List.size_toArray]; omega) (by omega)) ⟨e, e2, ?_⟩
  refine ⟨.non, _, I.lset (its' := its ++ its2) hH e (by simp) (r.append r2) ?_, rfl, q⟩
  rw [List.length_append]
  omega

inductive rPop (x : V) (vs : List V) (H : Hp) (Q : VK) : Prop where
  | mk (l : _) (xs : _) (y : _) (h_0 : x = .ref l) (h_1 : vs = []) (h_2 : H l = some (.lst xs)) (h_3 : xs[xs.length - 1]? = some y) (h_4 : Q y (upd H l (.lst xs.dropLast)))
theorem mt_pop : MtM X "list.pop" rPop := by
  intro pins s σ H x vs v us Q I rx rv h
  obtain ⟨l, xs, y, rfl, rfl, hH, hy, q⟩ := h
  cases rx
  have hus := rv.zero
  subst hus
  obtain ⟨z, its, n, r, hl, e⟩ := I.lstM hH
  obtain ⟨u, hu, ru⟩ := r.get hy
  have hy' : its.toArray[its.toArray.size - 1]? = some u := by
    show its.toArray[its.length - 1]? = some u
    rw [← Array.getElem?_toList, ← hl]
    exact hu
  refine call_meets F.slot_list_pop ⟨_, e, rfl⟩ F.entry_list_pop (F.args_list_pop_1 _) (MeetsSeq.list_pop_last l its.toArray n u hy' (by rw [List.size_toArray]; omega)) ⟨e, ?_⟩
  refine ⟨y, _, I.lset (its' := its.dropLast) hH e ?_ r.dropLast ?_, ru, q⟩
  · show its.toArray.eraseIdxIfInBounds (its.toArray.size - 1) = its.dropLast.toArray
    rw [List.size_toArray, List.eraseIdxIfInBounds_toArray, erase_last]
  · rw [List.length_dropLast]
    omega

inductive rCat (x : V) (y : V) (H : Hp) (Q : VK) : Prop where
  | mk (l : _) (b : _) (xs : _) (zs : _) (h_0 : x = .ref l) (h_1 : y = .ref b) (h_2 : H l = some (.lst xs)) (h_3 : H b = some (.lst zs)) (h_4 : xs.length + zs.length ≤ sizeLine) (h_5 : ∀ p, H p = none → Q (.ref p) (upd H p (.lst (xs ++ zs))))
theorem op_cat : OpR X (binaryOp .Add) rCat := by
  intro pins s σ H x y v u Q I rx ry h
  obtain ⟨l, b, xs, zs, rfl, rfl, hH, hB, hz, q⟩ := h
  cases rx
  cases ry
  obtain ⟨z, its, n, r, hl, e⟩ := I.lstM hH
  obtain ⟨z2, its2, n2, r2, hl2, e2⟩ := I.lstM hB
  refine PySem.P.add_list e e2 ?_ (by rw [List.size_toArray, List.size_toArray]; omega)
  have ea : its.toArray ++ its2.toArray = (its ++ its2).toArray := by simp
  rw [ea]
  exact ⟨.ref _, _, I.lnew (t' := s.toks) (r.append r2) (by rw [List.length_append]; omega), rfl, q _ I.fresh⟩
inductive rRep (x : V) (y : V) (H : Hp) (Q : VK) : Prop where
  | mk (l : _) (k : _) (xs : _) (h_0 : x = .ref l) (h_1 : y = .int k) (h_2 : H l = some (.lst xs)) (h_3 : -(2 ^ 63) ≤ k) (h_4 : k < 2 ^ 63) (h_5 : xs.length * k.toNat ≤ sizeLine) (h_6 : ∀ p, H p = none → Q (.ref p) (upd H p (.lst (List.replicate k.toNat xs).flatten)))
theorem len_rep {α : Type} (xs : List α) (k : Nat) : (List.replicate k xs).flatten.length = k * xs.length := by
  induction k with
  | zero => simp
  | succ k ih => rw [List.replicate_succ, List.flatten_cons, List.length_append, ih, Nat.succ_mul, Nat.add_comm]
theorem op_rep : OpR X (binaryOp .Mult) rRep := by
  intro pins s σ H x y v u Q I rx ry h
  obtain ⟨l, k, xs, rfl, rfl, hH, h1, h2, hz, q⟩ := h
  cases rx
  obtain ⟨t, rfl⟩ := ry
  obtain ⟨z, its, n, r, hl, e⟩ := I.lstM hH
  have hlen : its.toArray.size * k.toNat ≤ sizeLine := by rw [List.size_toArray, ← hl]; exact hz
  have hcap : ¬ its.toArray.size * k.toNat > (2 ^ 63 - 1) / 8 := by
    have : (sizeLine : Nat) ≤ (2 ^ 63 - 1) / 8 := by decide
    omega
  have hfit : ¬ (!Builtin.List.listFitsIndex k) = true := by
    rw [fitsIndex_both h1 h2]
    exact Bool.false_ne_true
  have hlong : ¬ Builtin.List.listTooLong (its.toArray.size * k.toNat) = true := by
    rw [notLongL hlen]
    exact Bool.false_ne_true
  have hnew : List.foldl (fun x1 x2 => x1 ++ x2) #[] (List.replicate (if its.toArray.isEmpty = true then 0 else k.toNat) its.toArray) = (List.replicate k.toNat its).flatten.toArray := by
    have f0 : ∀ m : Nat, List.foldl (fun x1 x2 => x1 ++ x2) #[] (List.replicate m its.toArray) = (List.replicate m its).flatten.toArray := fun m => by
      have := foldl_rep its m []
      rw [List.nil_append] at this
      exact this
    rw [f0]
    cases its with
    | nil => simp
    | cons a r' => rw [if_neg (by simp)]
  refine wpAny_binaryOp_repeat_ref (T := "list") (U := "int") (by decide) ⟨_, e, rfl⟩ (fun s' => typeIs_int s' k t) noFill_list_mul F.fills_int_mul F.slot_int_rmul repeat_list F.slot_int_index.lookup
    (call_meets F.slot_int_rmul (typeIs_int s k t) F.entry_int_rmul (F.args_int_rmul_2 _ _) (int___rmul___int_list k t l its.toArray n)
      ⟨e, rfl, ⟨_, e, rfl⟩, call_meets F.slot_list_mul ⟨_, e, rfl⟩ F.entry_list_mul (F.args_list_mul_2 _ _) (AutoListH.list___mul___list_int_3 l its.toArray n k t hfit hcap hlong) ⟨e, ?_⟩⟩)
  rw [hnew]
  exact ⟨.ref _, _, I.lnew (t' := s.toks) (r.rep k.toNat) (by rw [len_rep, Nat.mul_comm]; exact hz), rfl, q _ I.fresh⟩

end

section
variable {prog : Program} {w : World} {A : Around} {E : Value → Shared → Prop} {s : Shared}
end

section
variable {X : Cx}
end
end L2

namespace Att
open PySem PySem.W PySem.Calls PyProof.Rows

theorem ints_of_wellAll {P : Params} {h : Heap} : ∀ (ns : List Int) (vs : List Value), WellAll P h vs (ns.map WData.int) → IntsAre vs ns := by
  intro ns
  induction ns with
  | nil =>
    intro vs w
    rw [List.map_nil] at w
    cases w
    exact .nil
  | cons n ns ih =>
    intro vs w
    rw [List.map_cons] at w
    cases w with
    | cons a b =>
      cases a
      exact .cons _ _ (ih _ b)

theorem script_of {l : OpenLaw} {n : Nat} (hn : l.most = some n) {P : Params} {h : Heap} {args : List WData} {vals : List Value}
    (hpre : l.row.toRowW.claim.pre args = true) (hwl : WellAll P h vals args) :
    ∃ a vs ns, vals = [Value.ref a] ∧ args = [WData.list (ns.map WData.int)] ∧ h.get? a = some { cls := .type "list", data := .seq vs.toArray } ∧ IntsAre vs ns ∧ ns.length ≤ n := by
  have hsh : WShape.hasAll [] args [.list .int] = true := (pre_splitW hpre).1
  have hc : l.pre.holds [] { args := args } = true := (pre_splitW hpre).2
  obtain ⟨d, r, rfl, h1, h2⟩ := hasAllW_cons hsh
  obtain rfl := hasAllW_nil h2
  obtain ⟨xs, rfl, h3⟩ := hasW_list h1
  obtain ⟨ns, rfl⟩ := items_int h3
  have hlen : ns.length ≤ n := by
    unfold OpenLaw.pre at hc
    have h4 : (WTm.not (.lt (.lit (.int (n : Int))) (.len (.arg 0)))).holds [] { args := [.list (ns.map .int)] } = true := by
      have h4 := (holds_andW hc).1
      rw [hn] at h4
      exact h4
    have h5 := condW_of h4 (w_not (w_lt w_lit (w_len_list (w_arg rfl))))
    rw [List.length_map] at h5
    refine Nat.le_of_not_lt fun q => ?_
    have q' : (n : Int) < ((ns.length : Nat) : Int) := by omega
    first
      | (rw [decide_eq_true q'] at h5; exact absurd h5 (by decide))
      | (simp at h5; omega)
  cases hwl with
  | cons w1 w2 =>
    cases w2
    cases w1 with
    | list ho hall => exact ⟨_, _, ns, rfl, rfl, ho, ints_of_wellAll ns _ hall, hlen⟩

theorem post_true (l : OpenLaw) (args : List WData) : l.row.toRowW.claim.post args (.bool true) args = true :=
  postW_of (r := l.row.toRowW) (X := (true == true))
    (show WShape.has [] (.bool true) .bool = true by first | rfl | decide | simp [WShape.has, WShape.arms, WShape.armsAll])
    (show (WTm.eq .res (.lit (.bool true))).value [] { args := args, res := some (.bool true), after := args } = some (.bool (true == true)) from w_eq_bool (w_res rfl) w_lit) rfl

theorem attach_call {l : OpenLaw} {n : Nat} {q : Program} {loose : List Str} {XP : (Str → Option Value) → Heap → Prop} {YP : World → Heap → Prop} {d : DefRec}
    (hn : l.most = some n) (hdf : d.params.defaults = [])
    (call : ∀ (w : World) (s₀ s₁ : Shared) (mg mb : Str → Option Value) (fa : Addr) (o : Obj) (pm cd doc : Value) (a : Addr) (vs : List Value) (ns : List Int),
      Ground q loose [] XP w s₀ mg mb s₁.heap → YP w s₁.heap →
      s₁.heap.get? fa = some o → o.data = .func (docDef d.name d.params d.body d.scope pm cd doc) → s₁.heap.CodeRec cd d.name → mg d.name = some (.ref fa) →
      s₁.heap.get? a = some { cls := .type "list", data := .seq vs.toArray } → IntsAre vs ns → ns.length ≤ n → s₁.gens = #[] →
      codeAny (model l.prog w) callerA (.call (.ref fa) ⟨[.ref a], []⟩) (fun r s' => r = .ok (.ret (.bool true)) ∧ OldK s₁.heap s'.heap ∧ s'.os = s₁.os ∧ AllBare s'.gens) s₁) :
    WalkO q loose XP YP l.row.toRowW d [] (fun f vs => PySem.call f vs) := by
  intro w s₀ s₁ mg mb G Y fa o pm cd doc dV kV ho hd hcd hD hmg hg args vals as hpre hlay hrd hwl hlo
  obtain rfl : dV = .none := Dflts.none hD hdf
  obtain rfl : kV = .none := Dflts.noKw hD
  obtain ⟨a, vs, ns, rfl, rfl, hobj, hints, hlen⟩ := script_of hn hpre hwl
  refine enter_call (codeAny_mono (call w s₀ s₁ mg mb fa o pm cd doc a vs ns G Y ho (fd_plain hd) hcd hmg hobj hints hlen hg) fun r s' hq => ?_)
  obtain ⟨rfl, h2, h3, h4⟩ := hq
  exact ⟨.inl ⟨.bool true, .bool true, [], rfl, fun _ => rfl, .bool true, post_true l _, fun _ => ⟨List.Pairwise.nil, fun _ hm => (nomatch hm)⟩⟩, h2, h3, h4⟩

section
variable {prog : Program} {w : World} {A : Around} {E : Value → Shared → Prop} {s : Shared} {K : Frag}

end
end Att

namespace L2
open PySem PySem.Spec PyProof.Rows

theorem vals_ints : ∀ {vs : List Value} {ns : List Int}, IntsAre vs ns → Vals (ns.map V.int) vs
  | _, _, .nil => .nil
  | _, _, .cons n t h => .cons ⟨t, rfl⟩ (vals_ints h)

end L2

namespace L2
open PySem PySem.Spec PyProof.Rows

end L2

/- THE LAST THEOREM (shape; LID, My.* are yours):
   My.Adr: a structure of the addresses that your layer names (classes, functions); My.Txt K t: a structure (Prop) of the equations over K;
   My.txt_mk : {K} {implicit addresses ..} (e1 : nsIn K mainGlobals "law" = some (some (.ref f))) (e2 : K.lookup f = some ⟨oc, od, .func (fnOf "law" "law" params body scope dV kV doc pm an cdv ct), sl⟩) (e3 : codeIn K cdv "law" = true) .. : ∃ t, My.Txt K t

(the tactic k_is has no namespace: write k_is) -/

namespace L2
open PySem PySem.Spec PyProof.Rows

def inClass (s : Stmt) (j : Nat) : Stmt := match s with
  | .ClassDef _ _ _ body _ _ _ _ _ _ _ => body.getD j (.Pass ⟨0, 0, 0, 0⟩)
  | _ => .Pass ⟨0, 0, 0, 0⟩
def defArgs (s : Stmt) : Arguments := match s with
  | .FunctionDef _ a _ _ _ _ _ _ _ _ => a
  | _ => { posonlyargs := [], args := [], vararg := none, kwonlyargs := [], kw_defaults := [], kwarg := none, defaults := [] }
def defBody (s : Stmt) : List Stmt := match s with
  | .FunctionDef _ _ b _ _ _ _ _ _ _ => b
  | _ => []
def defScope (s : Stmt) : Scope := match s with
  | .FunctionDef _ _ _ _ _ _ sc _ _ _ => sc
  | _ => { kind := .function, names := [], isGenerator := false, isCoroutine := false }

abbrev CX0 : CXT := fun _ _ _ _ _ _ => False
abbrev E0 : XK := fun _ _ _ => False
theorem pass0 {X : Cx} : Passes CX0 X E0 := fun _ _ _ _ _ _ _ h => h.elim

structure Fun (K : PySem.W.Frag) (x qual : Str) (st : Stmt) (f : Addr) (fd : FuncData) : Prop where
  ex : ∃ (oc : Value) (od : Option Addr) (kV doc pm : Value) (an : Option Addr) (cdv ct : Value) (osl : Array (Option Value)),
    fd = PySem.W.fnOf x qual (defArgs st) (defBody st) (defScope st) .none kV doc pm an cdv ct ∧ K.lookup f = some ⟨oc, od, .func fd, osl⟩ ∧ PySem.W.codeIn K cdv qual = true
  kp : PySem.W.keepIn K (.ref f) = true
section
variable {P : Program} {w : World} {K : PySem.W.Frag} {mg : Str → Option Value} {base : Heap}
theorem Fun.ok {x qual : Str} {st : Stmt} {f : Addr} {fd : FuncData} {N ps : List Str} {k : Nat} {sp : Sp} (F : Fun K x qual st f fd) (S : FnScope N ps (defScope st)) (len : ∀ vs H Q E, sp vs H Q E → vs.length = ps.length)
    (hbody : ∀ (cdv : Value) (A : Around) (outer : List Env) (s : Shared) (H : Hp) (vs : List V) (Q : VK) (E : XK), Room k (A.deeper (envOfC qual (defScope st) s.heap.objs.size f cdv)) → sp vs H Q E →
      ∃ t, PSs (cxOf CX0 P w K mg base N qual (defScope st) f cdv A outer s H E).nox (defBody st) t ∧ t { nx := fun _ H' => Q .non H', rt := Q } (start N vs) H) : FnOk P w K mg base CX0 (k + 1) f fd ps sp := by
  obtain ⟨oc, od, kV, doc, pm, an, cdv, ct, osl, rfl, lk, hcd⟩ := F.ex
  refine fn_of lk hcd S len fun A outer s H vs Q E hr hsp => ?_
  obtain ⟨t, h, q⟩ := hbody cdv A outer s H vs Q E hr hsp
  exact ⟨t, h.nox, q⟩
theorem Fun.binds {x qual : Str} {st : Stmt} {f : Addr} {fd : FuncData} {ps : List Str} (F : Fun K x qual st f fd)
    (h : ∀ (kV doc pm : Value) (an : Option Addr) (cdv ct : Value) (us : List Value), us.length = ps.length → bindArgs (PySem.W.fnOf x qual (defArgs st) (defBody st) (defScope st) .none kV doc pm an cdv ct) ⟨us, []⟩ = pure (ps.zip us)) : Binds K fd ps [] := by
  obtain ⟨oc, od, kV, doc, pm, an, cdv, ct, osl, rfl, lk, hcd⟩ := F.ex
  exact .all (h kV doc pm an cdv ct)
theorem fun_mk {x qual : Str} {st : Stmt} {f : Addr} {oc : Value} {od an : Option Addr} {osl : Array (Option Value)} {kV doc pm cdv ct : Value} (l : K.lookup f = some ⟨oc, od, .func (PySem.W.fnOf x qual (defArgs st) (defBody st) (defScope st) .none kV doc pm an cdv ct), osl⟩)
    (c : PySem.W.codeIn K cdv qual = true) (k : PySem.W.keepIn K (.ref f) = true) : Fun K x qual st f (PySem.W.fnOf x qual (defArgs st) (defBody st) (defScope st) .none kV doc pm an cdv ct) := ⟨⟨oc, od, kV, doc, pm, an, cdv, ct, osl, rfl, l, c⟩, k⟩
end
section
variable {X : Cx}
theorem pv (i : Nat) {x : Str} {pos : Pos} (hN : X.N[i]? = some x := by rfl) (hv : Vis X.env.scope x := by first | exact Or.inl rfl | exact Or.inr (Or.inl rfl) | exact Or.inr (Or.inr rfl)) (hd : (x == ("__debug__" : Str)) = false := by decide)
    (hcd : (x == ("__classdict__" : Str)) = false := by decide) : PE X (.Name x pos) (tVar i) := pe_var hN hv hd hcd
end

theorem iteF {A B : Prop} (h : B) : if false = true then A else B := by
  rw [if_neg Bool.false_ne_true]
  exact h
theorem iteT {A B : Prop} (h : A) : if true = true then A else B := by
  rw [if_pos rfl]
  exact h
theorem ite2 {c A B : Prop} [Decidable c] (h1 : c → A) (h2 : ¬ c → B) : if c then A else B := by
  by_cases h : c
  · rw [if_pos h]
    exact h1 h
  · rw [if_neg h]
    exact h2 h
def Same (H H' : Hp) : Prop := ∀ b o, H b = some o → H' b = some o
theorem Same.refl (H : Hp) : Same H H := fun _ _ h => h
theorem Same.trans {H H1 H2 : Hp} (a : Same H H1) (b : Same H1 H2) : Same H H2 := fun c o h => b c o (a c o h)
theorem Same.free {H H' : Hp} (e : Same H H') {l : Addr} (h : H' l = Option.none) : H l = Option.none := by
  cases q : H l with
  | none => rfl
  | some o =>
    rw [e l o q] at h
    cases h
theorem Same.seq {K : PySem.W.Frag} {H H' : Hp} {a : Addr} {xs : List V} (e : Same H H') (h : SqL K H a xs) : SqL K H' a xs := by
  rcases h with (h | ⟨o, h⟩) | h
  · exact .inl (.inl (e _ _ h))
  · exact .inl (.inr ⟨o, e _ _ h⟩)
  · exact .inr h

end L2
set_option linter.all false
namespace Hull
abbrev P := Int × Int
def turn (a b c : P) : Int := (b.1 - a.1) * (c.2 - a.2) - (b.2 - a.2) * (c.1 - a.1)
def lt (a b : P) : Prop := a.1 < b.1 ∨ (a.1 = b.1 ∧ a.2 < b.2)
instance (a b : P) : Decidable (lt a b) := by unfold lt; infer_instance
def cr (u v : P) : Int := u.1 * v.2 - u.2 * v.1
def pos (u : P) : Prop := 0 < u.1 ∨ (u.1 = 0 ∧ 0 < u.2)
def sb (a b : P) : P := (a.1 - b.1, a.2 - b.2)
theorem pos_sb {a b : P} : pos (sb b a) ↔ lt a b := by unfold pos sb lt; dsimp; omega
theorem lt_trans {a b c : P} (h : lt a b) (g : lt b c) : lt a c := by unfold lt at *; omega
theorem lt_irrefl {a : P} : ¬ lt a a := by unfold lt; omega
theorem lt_asymm {a b : P} (h : lt a b) : ¬ lt b a := by unfold lt at *; omega
theorem lt_ne {a b : P} (h : lt a b) : a ≠ b := fun e => lt_irrefl (e ▸ h)
theorem lt_tri (a b : P) : lt a b ∨ a = b ∨ lt b a := by
  obtain ⟨x, y⟩ := a; obtain ⟨z, w⟩ := b
  unfold lt; simp only [Prod.mk.injEq]; omega
theorem pos_nn {u : P} (h : pos u) : 0 ≤ u.1 := by unfold pos at h; omega

theorem mid_nn {u v w : P} (hu : pos u) (hv : pos v) (hw : pos w) (h1 : 0 ≤ cr u v) (h2 : 0 ≤ cr v w) : 0 ≤ cr u w := by
  have e1 : cr u w * v.1 = cr u v * w.1 + cr v w * u.1 := by unfold cr; grind
  have e2 : cr u w * v.2 = cr u v * w.2 + cr v w * u.2 := by unfold cr; grind
  have hu1 := pos_nn hu
  have hw1 := pos_nn hw
  have a1 := Int.mul_nonneg h1 hw1
  have a2 := Int.mul_nonneg h2 hu1
  apply Classical.byContradiction
  intro hc
  have hc' : cr u w < 0 := by omega
  rcases hv with hv | ⟨hv, hv2⟩
  · have := Int.mul_neg_of_neg_of_pos hc' hv
    omega
  · have b1 : cr v w = - (v.2 * w.1) := by unfold cr; rw [hv]; grind
    have b2 := Int.mul_nonneg (Int.le_of_lt hv2) hw1
    have b3 : v.2 * w.1 = 0 := by omega
    have b4 : w.1 = 0 := by
      rcases Int.mul_eq_zero.mp b3 with h | h
      · omega
      · exact h
    have b5 : 0 < w.2 := by unfold pos at hw; omega
    have b6 : cr u w = u.1 * w.2 := by unfold cr; rw [b4]; grind
    have := Int.mul_nonneg hu1 (Int.le_of_lt b5)
    omega
theorem mid_pos {u v w : P} (hu : pos u) (hv : pos v) (hw : pos w) (h1 : 0 ≤ cr u v) (h2 : 0 ≤ cr v w) (h : 0 < cr u v ∨ 0 < cr v w) : 0 < cr u w := by
  have n := mid_nn hu hv hw h1 h2
  apply Classical.byContradiction
  intro hc
  have z : cr u w = 0 := by omega
  have e1 : cr u v * w.1 + cr v w * u.1 = 0 := by have : cr u w * v.1 = cr u v * w.1 + cr v w * u.1 := by unfold cr; grind
                                                  rw [z] at this; omega
  have e2 : cr u v * w.2 + cr v w * u.2 = 0 := by have : cr u w * v.2 = cr u v * w.2 + cr v w * u.2 := by unfold cr; grind
                                                  rw [z] at this; omega
  have hu1 := pos_nn hu
  have hw1 := pos_nn hw
  have a1 := Int.mul_nonneg h1 hw1
  have a2 := Int.mul_nonneg h2 hu1
  have c1 : cr u v * w.1 = 0 := by omega
  have c2 : cr v w * u.1 = 0 := by omega
  have d1 := Int.mul_eq_zero.mp c1
  have d2 := Int.mul_eq_zero.mp c2
  -- one of the weights is positive: its vector has first number 0, second above 0
  have f1 : 0 ≤ cr u v * w.2 := by
    rcases d1 with d | d
    · rw [d]; simp
    · exact Int.mul_nonneg h1 (by unfold pos at hw; omega)
  have f2 : 0 ≤ cr v w * u.2 := by
    rcases d2 with d | d
    · rw [d]; simp
    · exact Int.mul_nonneg h2 (by unfold pos at hu; omega)
  have g1 := Int.mul_eq_zero.mp (show cr u v * w.2 = 0 by omega)
  have g2 := Int.mul_eq_zero.mp (show cr v w * u.2 = 0 by omega)
  unfold pos at hu hw
  omega

theorem turn_cr (a b c : P) : turn a b c = cr (sb b a) (sb c b) := by unfold turn cr sb; dsimp; grind
theorem turn_cr2 (a b c : P) : turn a b c = cr (sb b a) (sb c a) := by unfold turn cr sb; dsimp
theorem turn_aab (a b : P) : turn a a b = 0 := by unfold turn; grind
theorem turn_aba (a b : P) : turn a b a = 0 := by unfold turn; grind
theorem turn_abb (a b : P) : turn a b b = 0 := by unfold turn; grind

def pops (t : P) : List P → List P
  | b :: a :: r => if turn a b t ≤ 0 then pops t (a :: r) else b :: a :: r
  | l => l
def push (st : List P) (t : P) : List P := t :: pops t st
def chainR (row : List P) : List P := row.foldl push []

def Dec (st : List P) : Prop := st.Pairwise fun b a => lt a b
def EdgesOk (pre : List P) : List P → Prop
  | b :: a :: r => (∀ x ∈ pre, 0 ≤ turn a b x) ∧ EdgesOk pre (a :: r)
  | _ => True
def Conv : List P → Prop
  | c :: b :: a :: r => 0 < turn a b c ∧ Conv (b :: a :: r)
  | _ => True

theorem Dec.tail {a : P} {r : List P} (h : Dec (a :: r)) : Dec r := (List.pairwise_cons.mp h).2
theorem Conv.tail {a : P} {r : List P} (h : Conv (a :: r)) : Conv r := by
  match r, h with
  | [], _ => trivial
  | [_], _ => trivial
  | b :: c :: r, h => exact h.2
theorem EdgesOk.tail {pre : List P} {a : P} {r : List P} (h : EdgesOk pre (a :: r)) : EdgesOk pre r := by
  match r, h with
  | [], _ => trivial
  | b :: r, h => exact h.2
theorem EdgesOk.mono {pre pre' : List P} (s : ∀ x ∈ pre', x ∈ pre) : ∀ {st : List P}, EdgesOk pre st → EdgesOk pre' st
  | [], _ => trivial
  | [_], _ => trivial
  | b :: a :: r, h => ⟨fun x hx => h.1 x (s x hx), EdgesOk.mono s (st := a :: r) h.2⟩

theorem pops_suffix (t : P) : ∀ st : List P, ∃ l, st = l ++ pops t st
  | [] => ⟨[], rfl⟩
  | [b] => ⟨[], rfl⟩
  | b :: a :: r => by
    unfold pops
    split
    · obtain ⟨l, e⟩ := pops_suffix t (a :: r)
      exact ⟨b :: l, by rw [List.cons_append, ← e]⟩
    · exact ⟨[], rfl⟩
theorem pops_ne (t : P) : ∀ st : List P, st ≠ [] → pops t st ≠ []
  | [], h => absurd rfl h
  | [b], _ => by simp [pops]
  | b :: a :: r, _ => by
    unfold pops
    split
    · exact pops_ne t (a :: r) (by simp)
    · simp
theorem pops_turn (t : P) : ∀ st : List P, ∀ b a r, pops t st = b :: a :: r → 0 < turn a b t
  | [], b, a, r, h => by simp [pops] at h
  | [_], b, a, r, h => by simp [pops] at h
  | b' :: a' :: r', b, a, r, h => by
    unfold pops at h
    split at h
    · exact pops_turn t (a' :: r') b a r h
    · rename_i hc
      injection h with h1 h2
      injection h2 with h3 h4
      subst h1; subst h3; omega
theorem pops_last (t : P) : ∀ st : List P, ∀ a r, pops t st = a :: r → (st = a :: r) ∨ ∃ l b, st = l ++ b :: a :: r ∧ turn a b t ≤ 0
  | [], a, r, h => by simp [pops] at h
  | [b], a, r, h => by simp [pops] at h; exact .inl (by rw [h.1, h.2])
  | b' :: a' :: r', a, r, h => by
    unfold pops at h
    split at h
    · rename_i hc
      rcases pops_last t (a' :: r') a r h with e | ⟨l, b, e, q⟩
      · injection e with e1 e2
        subst e1; subst e2
        exact .inr ⟨[], b', rfl, hc⟩
      · exact .inr ⟨b' :: l, b, by rw [e]; rfl, q⟩
    · exact .inl h

theorem EdgesOk.suffix {pre : List P} : ∀ {l st : List P}, EdgesOk pre (l ++ st) → EdgesOk pre st
  | [], _, h => h
  | _ :: l, _, h => EdgesOk.suffix (l := l) (EdgesOk.tail h)
theorem Conv.suffix : ∀ {l st : List P}, Conv (l ++ st) → Conv st
  | [], _, h => h
  | _ :: l, _, h => Conv.suffix (l := l) (Conv.tail h)
theorem Dec.suffix : ∀ {l st : List P}, Dec (l ++ st) → Dec st
  | [], _, h => h
  | _ :: l, _, h => Dec.suffix (l := l) (Dec.tail h)

structure Ch (st pre : List P) : Prop where
  dec : Dec st
  conv : Conv st
  edges : EdgesOk pre st
  sub : ∀ x ∈ st, x ∈ pre
  top : ∀ x ∈ pre, ∀ b r, st = b :: r → x = b ∨ lt x b
  bot : ∀ x ∈ pre, ∀ l a, st = l ++ [a] → x = a ∨ lt a x
  ne : pre ≠ [] → st ≠ []

theorem Ch.nil : Ch [] [] := ⟨List.Pairwise.nil, trivial, trivial, fun _ h => h, (fun _ h => nomatch h), (fun _ h => nomatch h), fun h => absurd rfl h⟩

theorem all_left {t : P} : ∀ {st : List P}, Dec st → Conv st → (∀ b r, st = b :: r → lt b t) → (∀ b a r, st = b :: a :: r → 0 < turn a b t) → EdgesOk [t] st
  | [], _, _, _, _ => trivial
  | [_], _, _, _, _ => trivial
  | b :: a :: r, hd, hc, ht, hl => by
    have h0 := hl b a r rfl
    refine ⟨fun x hx => ?_, ?_⟩
    · rw [List.mem_singleton.mp hx]; omega
    · have hab : lt a b := (List.pairwise_cons.mp hd).1 a (by simp)
      have hbt := ht b _ rfl
      refine all_left (st := a :: r) hd.tail hc.tail (fun b' r' e => ?_) (fun b' a' r' e => ?_)
      · injection e with e1 _; subst e1; exact lt_trans hab hbt
      · injection e with e1 e2; subst e1; subst e2
        have ha'a : lt a' a := (List.pairwise_cons.mp hd.tail).1 a' (by simp)
        have h1 : 0 < turn a' a b := hc.1
        rw [turn_cr] at h1 h0
        rw [turn_cr2]
        have k := mid_pos (u := sb a a') (v := sb b a) (w := sb t b) (pos_sb.mpr ha'a) (pos_sb.mpr hab) (pos_sb.mpr hbt) (by omega) (by omega) (.inl h1)
        -- cr (a - a') (t - a') = cr u v + cr u w
        have e : cr (sb a a') (sb t a') = cr (sb a a') (sb b a) + cr (sb a a') (sb t b) := by unfold cr sb; dsimp; grind
        omega

theorem Ch.push {st pre : List P} {t : P} (h : Ch st pre) (ht : ∀ x ∈ pre, lt x t) : Ch (push st t) (pre ++ [t]) := by
  obtain ⟨l, el⟩ := pops_suffix t st
  have hd : Dec (pops t st) := Dec.suffix (l := l) (el ▸ h.dec)
  have hc : Conv (pops t st) := Conv.suffix (l := l) (el ▸ h.conv)
  have he : EdgesOk pre (pops t st) := EdgesOk.suffix (l := l) (el ▸ h.edges)
  have hs : ∀ x ∈ pops t st, x ∈ pre := fun x hx => h.sub x (by rw [el]; exact List.mem_append_right _ hx)
  have hl := pops_turn t st
  have htop : ∀ b r, pops t st = b :: r → lt b t := fun b r e => ht b (hs b (by rw [e]; simp))
  have hall : EdgesOk [t] (pops t st) := all_left hd hc htop hl
  have hboth : ∀ s : List P, EdgesOk pre s → EdgesOk [t] s → EdgesOk (pre ++ [t]) s := by
    intro s
    induction s with
    | nil => intro _ _; trivial
    | cons b s ih =>
      match s, ih with
      | [], _ => intro _ _; trivial
      | a :: r, ih =>
        intro h1 h2
        refine ⟨fun x hx => ?_, ih h1.2 h2.2⟩
        rcases List.mem_append.mp hx with hx | hx
        · exact h1.1 x hx
        · exact h2.1 x hx
  refine ⟨?_, ?_, ?_, ?_, ?_, ?_, ?_⟩
  · exact List.pairwise_cons.mpr ⟨fun a ha => ht a (hs a ha), hd⟩
  · show Conv (t :: pops t st)
    cases e : pops t st with
    | nil => trivial
    | cons b r =>
      cases r with
      | nil => trivial
      | cons a r => exact ⟨hl b a r e, by rw [← e]; exact hc⟩
  · show EdgesOk (pre ++ [t]) (t :: pops t st)
    cases e : pops t st with
    | nil => trivial
    | cons c r =>
      refine ⟨fun x hx => ?_, by rw [← e]; exact hboth _ he hall⟩
      have hct : lt c t := htop c r e
      rcases List.mem_append.mp hx with hx | hx
      · rcases lt_tri x c with hxc | hxc | hxc
        · -- x before c: there is an edge below c
          cases r with
          | nil =>
            -- c is the bottom
            have : st = l ++ [c] := by rw [el, e]
            rcases h.bot x hx l c this with q | q
            · rw [q, turn_aba]; exact Int.le_refl 0
            · exact absurd q (lt_asymm hxc)
          | cons d r =>
            have h1 : 0 < turn d c t := hl c d r e
            have h2 : 0 ≤ turn d c x := by have := he; rw [e] at this; exact this.1 x hx
            have hdc : lt d c := (List.pairwise_cons.mp (e ▸ hd)).1 d (by simp)
            rw [turn_cr] at h1
            have k := mid_nn (u := sb c x) (v := sb c d) (w := sb t c) (pos_sb.mpr hxc) (pos_sb.mpr hdc) (pos_sb.mpr hct)
              (by have : cr (sb c x) (sb c d) = turn d c x := by unfold cr sb turn; dsimp; grind
                  omega) (by omega)
            have : turn c t x = cr (sb c x) (sb t c) := by unfold cr sb turn; dsimp; grind
            omega
        · rw [hxc, turn_aba]; exact Int.le_refl 0
        · -- x behind c: c was not the top
          rcases pops_last t st c r e with q | ⟨l', b, q, hq⟩
          · rcases h.top x hx c r q with z | z
            · exact absurd (z ▸ hxc) lt_irrefl
            · exact absurd z (lt_asymm hxc)
          · have hb : EdgesOk pre (b :: c :: r) := EdgesOk.suffix (l := l') (q ▸ h.edges)
            have hdb : Dec (b :: c :: r) := Dec.suffix (l := l') (q ▸ h.dec)
            have hcb : lt c b := (List.pairwise_cons.mp hdb).1 c (by simp)
            have h2 := hb.1 x hx
            have k := mid_nn (u := sb t c) (v := sb b c) (w := sb x c) (pos_sb.mpr hct) (pos_sb.mpr hcb) (pos_sb.mpr hxc)
              (by have : cr (sb t c) (sb b c) = - turn c b t := by unfold cr sb turn; dsimp; grind
                  omega)
              (by have : cr (sb b c) (sb x c) = turn c b x := by unfold cr sb turn; dsimp
                  omega)
            have : turn c t x = cr (sb t c) (sb x c) := by unfold cr sb turn; dsimp
            omega
      · rw [List.mem_singleton.mp hx, turn_abb]; exact Int.le_refl 0
  · intro x hx
    rcases List.mem_cons.mp hx with hx | hx
    · rw [hx]; simp
    · exact List.mem_append_left _ (hs x hx)
  · intro x hx b r e
    have : t = b := by injection e
    subst this
    rcases List.mem_append.mp hx with hx | hx
    · exact .inr (ht x hx)
    · exact .inl (List.mem_singleton.mp hx)
  · intro x hx l' a e
    by_cases hp : pre = []
    · subst hp
      have hst : st = [] := by
        cases st with
        | nil => rfl
        | cons c r => exact absurd (h.sub c (by simp)) (by simp)
      subst hst
      have : l' = [] ∧ t = a := by
        have e' : [t] = l' ++ [a] := e
        cases l' with
        | nil => simp at e'; exact ⟨rfl, e'⟩
        | cons z l' => simp at e'
      simp at hx
      rw [hx]; exact .inl this.2
    · have hne := pops_ne t st (h.ne hp)
      -- the last of the rest is the last of st
      have e2 : pops t st = pops t st := rfl
      cases l' with
      | nil =>
        have e' : t :: pops t st = [a] := e
        injection e' with _ e''
        exact absurd e'' hne
      | cons z l' =>
        have e' : t :: pops t st = z :: (l' ++ [a]) := e
        injection e' with _ e''
        have hst : st = (l ++ l') ++ [a] := by
          calc st = l ++ pops t st := el
            _ = (l ++ l') ++ [a] := by rw [e'', List.append_assoc]
        rcases List.mem_append.mp hx with hx | hx
        · exact h.bot x hx _ a hst
        · rw [List.mem_singleton.mp hx]
          exact .inr (ht a (h.sub a (by rw [hst]; simp)))
  · intro _; exact List.cons_ne_nil _ _

theorem Ch.fold : ∀ (row pre st : List P), Ch st pre → (pre ++ row).Pairwise lt → Ch (row.foldl Hull.push st) (pre ++ row)
  | [], pre, st, h, _ => by simpa using h
  | t :: row, pre, st, h, hp => by
    have ht : ∀ x ∈ pre, lt x t := fun x hx => (List.pairwise_append.mp hp).2.2 x hx t (by simp)
    have := Ch.fold row (pre ++ [t]) (Hull.push st t) (h.push ht) (by simpa using hp)
    simpa using this
theorem chain_ok {row : List P} (h : row.Pairwise lt) : Ch (chainR row) row := by
  have := Ch.fold row [] [] Ch.nil (by simpa using h)
  simpa [chainR] using this

def Held (row : List P) (s : P) : Prop :=
  (∃ p ∈ row, ∃ q ∈ row, turn p q s = 0 ∧ lt p s ∧ lt s q) ∨ (∃ p ∈ row, ∃ q ∈ row, ∃ r ∈ row, 0 < turn p q s ∧ 0 < turn q r s ∧ 0 < turn r p s)

theorem zero_par {w u v : P} (hu : pos u) (hv : pos v) (huv : cr u v = 0) (h1 : cr w u ≤ 0) (h2 : 0 ≤ cr w v) : cr w u = 0 ∧ cr w v = 0 := by
  have e1 : cr w v * u.1 = cr w u * v.1 + cr u v * w.1 := by unfold cr; grind
  have e2 : cr w v * u.2 = cr w u * v.2 + cr u v * w.2 := by unfold cr; grind
  rw [huv] at e1 e2
  have hu1 := pos_nn hu
  have hv1 := pos_nn hv
  have a1 := Int.mul_nonneg h2 hu1
  have a2 := Int.mul_nonneg (show 0 ≤ - cr w u by omega) hv1
  rw [Int.neg_mul] at a2
  have b1 : cr w v * u.1 = 0 := by omega
  have b2 : cr w u * v.1 = 0 := by omega
  have c1 := Int.mul_eq_zero.mp b1
  have c2 := Int.mul_eq_zero.mp b2
  unfold pos at hu hv
  have f1 : 0 ≤ cr w v * u.2 := by
    rcases c1 with c | c
    · rw [c]; simp
    · exact Int.mul_nonneg h2 (by omega)
  have f2 : 0 ≤ (- cr w u) * v.2 := by
    rcases c2 with c | c
    · rw [c]; simp
    · exact Int.mul_nonneg (by omega) (by omega)
  rw [Int.neg_mul] at f2
  have g1 := Int.mul_eq_zero.mp (show cr w v * u.2 = 0 by omega)
  have g2 := Int.mul_eq_zero.mp (show cr w u * v.2 = 0 by omega)
  constructor <;> omega

theorem par_zero {w w' u : P} (hu : pos u ∨ pos (sb (0, 0) u)) (h1 : cr w u = 0) (h2 : cr w' u = 0) : cr w w' = 0 := by
  have e1 : cr w w' * u.1 = cr w u * w'.1 - cr w' u * w.1 := by unfold cr; grind
  have e2 : cr w w' * u.2 = cr w u * w'.2 - cr w' u * w.2 := by unfold cr; grind
  rw [h1, h2] at e1 e2
  have c1 := Int.mul_eq_zero.mp (show cr w w' * u.1 = 0 by omega)
  have c2 := Int.mul_eq_zero.mp (show cr w w' * u.2 = 0 by omega)
  unfold pos sb at hu
  dsimp at hu
  omega

theorem corner_free {row : List P} {a s c : P} (ht : 0 < turn a s c) (h1 : ∀ x ∈ row, 0 ≤ turn a s x) (h2 : ∀ x ∈ row, 0 ≤ turn s c x) : ¬ Held row s := by
  rintro (⟨p, hp, q, hq, hz, l1, l2⟩ | ⟨p, hp, q, hq, r, hr, t1, t2, t3⟩)
  · have hu := pos_sb.mpr l1
    have hv := pos_sb.mpr l2
    have huv : cr (sb s p) (sb q s) = 0 := by have : cr (sb s p) (sb q s) = - turn p q s := by unfold cr sb turn; dsimp; grind
                                              omega
    have z1 := zero_par (w := sb s a) hu hv huv
      (by have := h1 p hp
          have e : turn a s p = - cr (sb s a) (sb s p) := by unfold cr sb turn; dsimp; grind
          omega)
      (by have := h1 q hq
          have e : turn a s q = cr (sb s a) (sb q s) := by unfold cr sb turn; dsimp; grind
          omega)
    have z2 := zero_par (w := sb c s) hu hv huv
      (by have := h2 p hp
          have e : turn s c p = - cr (sb c s) (sb s p) := by unfold cr sb turn; dsimp; grind
          omega)
      (by have := h2 q hq
          have e : turn s c q = cr (sb c s) (sb q s) := by unfold cr sb turn; dsimp
          omega)
    have := par_zero (.inl hu) z1.1 z2.1
    rw [turn_cr] at ht
    omega
  · -- weights
    have e : turn q r s * turn a s p + turn r p s * turn a s q + turn p q s * turn a s r = 0 := by unfold turn; grind
    have f1 := h1 p hp
    have f2 := h1 q hq
    have f3 := h1 r hr
    have m1 := Int.mul_nonneg (Int.le_of_lt t2) f1
    have m2 := Int.mul_nonneg (Int.le_of_lt t3) f2
    have m3 := Int.mul_nonneg (Int.le_of_lt t1) f3
    have k1 := Int.mul_eq_zero.mp (show turn q r s * turn a s p = 0 by omega)
    have k2 := Int.mul_eq_zero.mp (show turn r p s * turn a s q = 0 by omega)
    have n1 : turn a s p = 0 := by omega
    have n2 : turn a s q = 0 := by omega
    have hne : a ≠ s := by intro e; rw [e, turn_aab] at ht; omega
    have hw : pos (sb s a) ∨ pos (sb (0, 0) (sb s a)) := by
      rcases lt_tri a s with g | g | g
      · exact .inl (pos_sb.mpr g)
      · exact absurd g hne
      · right
        have : sb (0, 0) (sb s a) = sb a s := by unfold sb; simp; omega
        rw [this]; exact pos_sb.mpr g
    have := par_zero (w := sb p s) (w' := sb q s) hw
      (by have e : cr (sb p s) (sb s a) = - turn a s p := by unfold cr sb turn; dsimp; grind
          omega)
      (by have e : cr (sb q s) (sb s a) = - turn a s q := by unfold cr sb turn; dsimp; grind
          omega)
    have e : turn p q s = cr (sb p s) (sb q s) := by unfold cr sb turn; dsimp; grind
    omega

theorem tri_ne {p q s : P} (h : 0 < turn p q s) : p ≠ s ∧ q ≠ s := by
  constructor
  · intro e; subst e; rw [turn_aba] at h; omega
  · intro e; subst e; rw [turn_abb] at h; omega
theorem pos_sum {A B C : Int} {u v w : P} (hA : 0 < A) (hB : 0 < B) (hC : 0 < C) (hu : pos u) (hv : pos v) (hw : pos w)
    (e1 : A * u.1 + B * v.1 + C * w.1 = 0) (e2 : A * u.2 + B * v.2 + C * w.2 = 0) : False := by
  have m1 := Int.mul_nonneg (Int.le_of_lt hA) (pos_nn hu)
  have m2 := Int.mul_nonneg (Int.le_of_lt hB) (pos_nn hv)
  have m3 := Int.mul_nonneg (Int.le_of_lt hC) (pos_nn hw)
  have k1 := Int.mul_eq_zero.mp (show A * u.1 = 0 by omega)
  have k2 := Int.mul_eq_zero.mp (show B * v.1 = 0 by omega)
  have k3 := Int.mul_eq_zero.mp (show C * w.1 = 0 by omega)
  unfold pos at hu hv hw
  have n1 := Int.mul_pos hA (show 0 < u.2 by omega)
  have n2 := Int.mul_pos hB (show 0 < v.2 by omega)
  have n3 := Int.mul_pos hC (show 0 < w.2 by omega)
  omega
theorem least_free {row : List P} {s : P} (h : ∀ x ∈ row, x = s ∨ lt s x) : ¬ Held row s := by
  rintro (⟨p, hp, q, hq, hz, l1, l2⟩ | ⟨p, hp, q, hq, r, hr, t1, t2, t3⟩)
  · rcases h p hp with e | e
    · exact lt_ne l1 e
    · exact lt_asymm e l1
  · have hp' := (h p hp).resolve_left (tri_ne t1).1
    have hq' := (h q hq).resolve_left (tri_ne t2).1
    have hr' := (h r hr).resolve_left (tri_ne t3).1
    exact pos_sum t2 t3 t1 (pos_sb.mpr hp') (pos_sb.mpr hq') (pos_sb.mpr hr') (by unfold sb turn; dsimp; grind) (by unfold sb turn; dsimp; grind)
theorem most_free {row : List P} {s : P} (h : ∀ x ∈ row, x = s ∨ lt x s) : ¬ Held row s := by
  rintro (⟨p, hp, q, hq, hz, l1, l2⟩ | ⟨p, hp, q, hq, r, hr, t1, t2, t3⟩)
  · rcases h q hq with e | e
    · exact lt_ne l2 e.symm
    · exact lt_asymm e l2
  · have hp' := (h p hp).resolve_left (tri_ne t1).1
    have hq' := (h q hq).resolve_left (tri_ne t2).1
    have hr' := (h r hr).resolve_left (tri_ne t3).1
    exact pos_sum t2 t3 t1 (pos_sb.mpr hp') (pos_sb.mpr hq') (pos_sb.mpr hr') (by unfold sb turn; dsimp; grind) (by unfold sb turn; dsimp; grind)

theorem EdgesOk.at {pre : List P} {l l' : List P} {b a : P} (h : EdgesOk pre (l ++ b :: a :: l')) : ∀ x ∈ pre, 0 ≤ turn a b x :=
  (EdgesOk.suffix (l := l) h).1
theorem Conv.at {l l' : List P} {c b a : P} (h : Conv (l ++ c :: b :: a :: l')) : 0 < turn a b c := (Conv.suffix (l := l) h).1
theorem stack_place {s : P} : ∀ {st : List P}, s ∈ st → (∃ r, st = s :: r) ∨ (∃ l, st = l ++ [s]) ∨ ∃ l c a l', st = l ++ c :: s :: a :: l'
  | [], h => nomatch h
  | b :: r, h => by
    rcases List.mem_cons.mp h with e | e
    · subst e; exact .inl ⟨r, rfl⟩
    · rcases stack_place e with ⟨r', q⟩ | ⟨l, q⟩ | ⟨l, c, a, l', q⟩
      · subst q
        cases r' with
        | nil => exact .inr (.inl ⟨[b], rfl⟩)
        | cons a r' => exact .inr (.inr ⟨[], b, a, r', rfl⟩)
      · exact .inr (.inl ⟨b :: l, by rw [q]; rfl⟩)
      · exact .inr (.inr ⟨b :: l, c, a, l', by rw [q]; rfl⟩)
def ng (a : P) : P := (-a.1, -a.2)
theorem ng_ng (a : P) : ng (ng a) = a := by unfold ng; simp
theorem turn_ng (a b c : P) : turn (ng a) (ng b) (ng c) = turn a b c := by unfold turn ng; dsimp; grind
theorem lt_ng {a b : P} : lt (ng a) (ng b) ↔ lt b a := by unfold lt ng; dsimp; omega
theorem pops_ng (t : P) : ∀ st : List P, pops (ng t) (st.map ng) = (pops t st).map ng
  | [] => rfl
  | [b] => rfl
  | b :: a :: r => by
    show pops (ng t) (ng b :: ng a :: r.map ng) = _
    unfold pops
    rw [turn_ng]
    split
    · exact pops_ng t (a :: r)
    · rfl
theorem fold_ng : ∀ (row st : List P), (row.map ng).foldl push (st.map ng) = (row.foldl push st).map ng
  | [], _ => rfl
  | t :: row, st => by
    have e : push (st.map ng) (ng t) = (push st t).map ng := by unfold push; rw [pops_ng]; rfl
    show (row.map ng).foldl push (push (st.map ng) (ng t)) = _
    rw [e]; exact fold_ng row (push st t)
theorem chain_ng (row : List P) : chainR (row.map ng) = (chainR row).map ng := fold_ng row []

theorem edges_ng {pre : List P} : ∀ {st : List P}, EdgesOk (pre.map ng) (st.map ng) → EdgesOk pre st
  | [], _ => trivial
  | [_], _ => trivial
  | b :: a :: r, h => ⟨fun x hx => by rw [← turn_ng]; exact h.1 (ng x) (List.mem_map_of_mem hx), edges_ng (st := a :: r) h.2⟩
theorem conv_ng : ∀ {st : List P}, Conv (st.map ng) → Conv st
  | [], _ => trivial
  | [_], _ => trivial
  | [_, _], _ => trivial
  | c :: b :: a :: r, h => ⟨by rw [← turn_ng]; exact h.1, conv_ng (st := b :: a :: r) h.2⟩

structure ChU (st row : List P) : Prop where
  inc : st.Pairwise lt
  conv : Conv st
  edges : EdgesOk row st
  sub : ∀ x ∈ st, x ∈ row
  top : ∀ x ∈ row, ∀ b r, st = b :: r → x = b ∨ lt b x
  bot : ∀ x ∈ row, ∀ l a, st = l ++ [a] → x = a ∨ lt x a
  ne : row ≠ [] → st ≠ []
theorem ng_inj {a b : P} (h : ng a = ng b) : a = b := by rw [← ng_ng a, h, ng_ng]
theorem chainU_ok {row : List P} (h : row.Pairwise lt) : ChU (chainR row.reverse) row := by
  have hr : (row.reverse.map ng).Pairwise lt := by
    rw [List.pairwise_map, List.pairwise_reverse]
    exact h.imp fun g => lt_ng.mpr g
  have c := chain_ok hr
  rw [chain_ng] at c
  have hm : ∀ x, x ∈ row → ng x ∈ row.reverse.map ng := fun x hx => List.mem_map_of_mem (List.mem_reverse.mpr hx)
  refine ⟨?_, conv_ng c.conv, (edges_ng c.edges).mono fun x hx => List.mem_reverse.mpr hx, ?_, ?_, ?_, ?_⟩
  · have := c.dec
    unfold Dec at this
    rw [List.pairwise_map] at this
    exact this.imp fun g => lt_ng.mp g
  · intro x hx
    have := c.sub (ng x) (List.mem_map_of_mem hx)
    obtain ⟨y, hy, e⟩ := List.mem_map.mp this
    rw [← ng_inj e]; exact List.mem_reverse.mp hy
  · intro x hx b r e
    rcases c.top (ng x) (hm x hx) (ng b) (r.map ng) (by rw [e]; rfl) with q | q
    · exact .inl (ng_inj q)
    · exact .inr (lt_ng.mp q)
  · intro x hx l a e
    rcases c.bot (ng x) (hm x hx) (l.map ng) (ng a) (by rw [e]; simp) with q | q
    · exact .inl (ng_inj q)
    · exact .inr (lt_ng.mp q)
  · intro hne e
    have := c.ne (by simpa using hne)
    rw [e] at this; exact this rfl
end Hull
set_option linter.all false
namespace Hull
def hull (row : List P) : List P := if row.length = 1 then row else (chainR row).reverse.dropLast ++ (chainR row.reverse).reverse.dropLast

section
variable {row : List P} (hrow : row.Pairwise lt)
include hrow

theorem lo_free {s : P} (h : s ∈ chainR row) : ¬ Held row s := by
  have c := chain_ok hrow
  rcases stack_place h with ⟨r, e⟩ | ⟨l, e⟩ | ⟨l, c', a, l', e⟩
  · exact most_free fun x hx => c.top x hx s r e
  · exact least_free fun x hx => c.bot x hx l s e
  · have hc := c.conv
    have he := c.edges
    rw [e] at hc he
    have he2 : EdgesOk row ((l ++ [c']) ++ s :: a :: l') := by simpa using he
    exact corner_free (Conv.at hc) (EdgesOk.at he2) (EdgesOk.at he)
theorem up_free {s : P} (h : s ∈ chainR row.reverse) : ¬ Held row s := by
  have c := chainU_ok hrow
  rcases stack_place h with ⟨r, e⟩ | ⟨l, e⟩ | ⟨l, c', a, l', e⟩
  · exact least_free fun x hx => c.top x hx s r e
  · exact most_free fun x hx => c.bot x hx l s e
  · have hc := c.conv
    have he := c.edges
    rw [e] at hc he
    have he2 : EdgesOk row ((l ++ [c']) ++ s :: a :: l') := by simpa using he
    exact corner_free (Conv.at hc) (EdgesOk.at he2) (EdgesOk.at he)

theorem not_both {s : P} {l l' m m' : List P} {c a u v : P} (e : chainR row = l ++ c :: s :: a :: l') (f : chainR row.reverse = m ++ v :: s :: u :: m') : False := by
  have h := chain_ok hrow
  have d := chainU_ok hrow
  have hc := h.conv; have he := h.edges; have hdec := h.dec; have hsub := h.sub
  have dc := d.conv; have de := d.edges; have dinc := d.inc; have dsub := d.sub
  rw [e] at hc he hdec hsub
  rw [f] at dc de dinc dsub
  have he2 : EdgesOk row ((l ++ [c]) ++ s :: a :: l') := by simpa using he
  have de2 : EdgesOk row ((m ++ [v]) ++ s :: u :: m') := by simpa using de
  have mc : c ∈ row := hsub c (by simp)
  have ma : a ∈ row := hsub a (by simp)
  have mu : u ∈ row := dsub u (by simp)
  have mv : v ∈ row := dsub v (by simp)
  have las : lt a s := (List.pairwise_cons.mp (List.pairwise_cons.mp (Dec.suffix (l := l) hdec)).2).1 a (by simp)
  have lsc : lt s c := (List.pairwise_cons.mp (Dec.suffix (l := l) hdec)).1 s (by simp)
  have dinc' := (List.pairwise_append.mp dinc).2.1
  have lvs : lt v s := (List.pairwise_cons.mp dinc').1 s (by simp)
  have lsu : lt s u := (List.pairwise_cons.mp (List.pairwise_cons.mp dinc').2).1 u (by simp)
  have t0 : 0 < turn a s c := Conv.at hc
  -- the edges: a to s, s to c; u to s, s to v
  have f1 := EdgesOk.at he2 u mu
  have f2 := EdgesOk.at de2 a ma
  have f3 := EdgesOk.at he v mv
  have f4 := EdgesOk.at de c mc
  have f5 := EdgesOk.at he2 v mv
  have e1 : turn u s a = - turn a s u := by unfold turn; grind
  have e2 : turn s v c = - turn s c v := by unfold turn; grind
  have z2 : turn s c v = 0 := by omega
  -- v - s lies against c - s
  have hu := pos_sb.mpr lvs
  have hv := pos_sb.mpr lsc
  have huv : cr (sb s v) (sb c s) = 0 := by have : cr (sb s v) (sb c s) = turn s c v := by unfold cr sb turn; dsimp; grind
                                            omega
  have z := zero_par (w := sb s a) hu hv huv
    (by have e : turn a s v = - cr (sb s a) (sb s v) := by unfold cr sb turn; dsimp; grind
        omega)
    (by have e : turn a s c = cr (sb s a) (sb c s) := by unfold cr sb turn; dsimp; grind
        omega)
  have e3 : turn a s c = cr (sb s a) (sb c s) := by unfold cr sb turn; dsimp; grind
  omega
end
end Hull
set_option linter.all false
namespace Hull
section
variable {row : List P} (hrow : row.Pairwise lt)
include hrow

theorem lo_nodup : (chainR row).Nodup := (chain_ok hrow).dec.imp fun h => (lt_ne h).symm
theorem up_nodup : (chainR row.reverse).Nodup := (chainU_ok hrow).inc.imp fun h => lt_ne h

theorem revDrop (st : List P) : st.reverse.dropLast = st.tail.reverse := by
  cases st with
  | nil => rfl
  | cons a r => simp

theorem tops (h2 : 2 ≤ row.length) : ∃ z y lt' ut', chainR row = z :: lt' ∧ chainR row.reverse = y :: ut' ∧ lt' ≠ [] ∧ ut' ≠ [] ∧ (∃ l, lt' = l ++ [y]) ∧ (∃ m, ut' = m ++ [z]) ∧
    (∀ x ∈ row, x = z ∨ lt x z) ∧ (∀ x ∈ row, x = y ∨ lt y x) ∧ z ∈ row ∧ y ∈ row ∧ y ≠ z := by
  have c := chain_ok hrow
  have d := chainU_ok hrow
  have hne : row ≠ [] := by intro e; rw [e] at h2; simp at h2
  cases e : chainR row with
  | nil => exact absurd e (c.ne hne)
  | cons z lt' =>
    cases f : chainR row.reverse with
    | nil => exact absurd f (d.ne hne)
    | cons y ut' =>
      have hz : ∀ x ∈ row, x = z ∨ lt x z := fun x hx => c.top x hx z lt' e
      have hy : ∀ x ∈ row, x = y ∨ lt y x := fun x hx => d.top x hx y ut' f
      have mz : z ∈ row := c.sub z (by rw [e]; simp)
      have my : y ∈ row := d.sub y (by rw [f]; simp)
      have hyz : y ≠ z := by
        intro q
        -- all are one
        have all1 : ∀ x ∈ row, x = z := fun x hx => by
          rcases hz x hx with h | h
          · exact h
          · rcases hy x hx with g | g
            · rw [g, q]
            · exact absurd h (lt_asymm (q ▸ g))
        match row, hrow, h2, all1 with
        | a :: b :: r, hrow, _, all1 =>
          have := (List.pairwise_cons.mp hrow).1 b (by simp)
          rw [all1 a (by simp), all1 b (by simp)] at this
          exact lt_irrefl this
      -- the end of the lower one
      have le : ∃ l, z :: lt' = l ++ [y] := by
        have hn : z :: lt' ≠ [] := by simp
        have e1 := List.dropLast_concat_getLast hn
        have b := c.bot y my _ _ (by rw [e]; exact e1.symm)
        have hm : (z :: lt').getLast hn ∈ row := c.sub _ (by rw [e]; exact List.getLast_mem hn)
        rcases b with b | b
        · exact ⟨_, by rw [b]; exact e1.symm⟩
        · rcases hy _ hm with g | g
          · exact absurd (g ▸ b) lt_irrefl
          · exact absurd b (lt_asymm g)
      have ue : ∃ l, y :: ut' = l ++ [z] := by
        have hn : y :: ut' ≠ [] := by simp
        have e1 := List.dropLast_concat_getLast hn
        have b := d.bot z mz _ _ (by rw [f]; exact e1.symm)
        have hm : (y :: ut').getLast hn ∈ row := d.sub _ (by rw [f]; exact List.getLast_mem hn)
        rcases b with b | b
        · exact ⟨_, by rw [b]; exact e1.symm⟩
        · rcases hz _ hm with g | g
          · exact absurd (g ▸ b) lt_irrefl
          · exact absurd b (lt_asymm g)
      obtain ⟨l, le⟩ := le
      obtain ⟨m, ue⟩ := ue
      have l1 : ∃ l', lt' = l' ++ [y] := by
        cases l with
        | nil => simp at le; exact absurd le.1.symm hyz
        | cons b l => injection le with _ q; exact ⟨l, q⟩
      have u1 : ∃ m', ut' = m' ++ [z] := by
        cases m with
        | nil => simp at ue; exact absurd ue.1 hyz
        | cons b m => injection ue with _ q; exact ⟨m, q⟩
      refine ⟨z, y, lt', ut', rfl, rfl, ?_, ?_, l1, u1, hz, hy, mz, my, hyz⟩
      · obtain ⟨l', q⟩ := l1; rw [q]; simp
      · obtain ⟨l', q⟩ := u1; rw [q]; simp

theorem hull_eq (h2 : 2 ≤ row.length) : hull row = (chainR row).tail.reverse ++ (chainR row.reverse).tail.reverse := by
  unfold hull
  rw [if_neg (by omega), revDrop hrow, revDrop hrow]

theorem hull_mem (h2 : 2 ≤ row.length) {s : P} : s ∈ hull row ↔ s ∈ chainR row ∨ s ∈ chainR row.reverse := by
  obtain ⟨z, y, l, u, e, f, _, _, ⟨l', el⟩, ⟨u', eu⟩, _⟩ := tops hrow h2
  rw [hull_eq hrow h2, e, f]
  simp only [List.tail_cons, List.mem_append, List.mem_reverse, List.mem_cons]
  constructor
  · rintro (h | h)
    · exact .inl (.inr h)
    · exact .inr (.inr h)
  · rintro ((h | h) | (h | h))
    · exact .inr (by rw [h, eu]; simp)
    · exact .inl h
    · exact .inl (by rw [h, el]; simp)
    · exact .inr h

theorem hull_held {s : P} (h : s ∈ hull row) : s ∈ row ∧ ¬ Held row s := by
  by_cases h2 : 2 ≤ row.length
  · rcases (hull_mem hrow h2).mp h with g | g
    · exact ⟨(chain_ok hrow).sub s g, lo_free hrow g⟩
    · exact ⟨(chainU_ok hrow).sub s g, up_free hrow g⟩
  · match row, h2, h with
    | [], _, h => exact nomatch h
    | [a], _, h =>
      have : s = a := by simpa [hull] using h
      subst this
      refine ⟨by simp, least_free fun x hx => .inl (List.mem_singleton.mp hx)⟩
    | _ :: _ :: _, h2, _ => exact absurd (by simp) h2
theorem hull_nodup : (hull row).Nodup := by
  by_cases h2 : 2 ≤ row.length
  · obtain ⟨z, y, l, u, e, f, _, _, ⟨l', el⟩, ⟨u', eu⟩, hz, hy, mz, my, hyz⟩ := tops hrow h2
    rw [hull_eq hrow h2]
    have n1 := lo_nodup hrow
    have n2 := up_nodup hrow
    rw [e] at n1 ⊢
    rw [f] at n2 ⊢
    simp only [List.tail_cons]
    have n1' := List.nodup_cons.mp n1
    have n2' := List.nodup_cons.mp n2
    refine List.nodup_append.mpr ⟨List.pairwise_reverse.mpr (n1'.2.imp Ne.symm), List.pairwise_reverse.mpr (n2'.2.imp Ne.symm), fun s hs s' hs' q => ?_⟩
    subst q
    have hs := List.mem_reverse.mp hs
    have hs' := List.mem_reverse.mp hs'
    have sz : s ≠ z := fun q => n1'.1 (q ▸ hs)
    have sy : s ≠ y := fun q => n2'.1 (q ▸ hs')
    rcases stack_place (st := chainR row) (s := s) (by rw [e]; exact List.mem_cons_of_mem _ hs) with ⟨r, q⟩ | ⟨r, q⟩ | ⟨r, c, a, r', q⟩
    · rw [e] at q; injection q with q _; exact sz q.symm
    · rw [e, el] at q
      have : y = s := by
        have := congrArg List.getLast? q
        rw [← List.cons_append, List.getLast?_concat, List.getLast?_concat] at this
        exact Option.some.inj this
      exact sy this.symm
    · rcases stack_place (st := chainR row.reverse) (s := s) (by rw [f]; exact List.mem_cons_of_mem _ hs') with ⟨r2, q2⟩ | ⟨r2, q2⟩ | ⟨r2, c2, a2, r2', q2⟩
      · rw [f] at q2; injection q2 with q2 _; exact sy q2.symm
      · rw [f, eu] at q2
        have : z = s := by
          have := congrArg List.getLast? q2
          rw [← List.cons_append, List.getLast?_concat, List.getLast?_concat] at this
          exact Option.some.inj this
        exact sz this.symm
      · exact not_both hrow q q2
  · match row, hrow, h2 with
    | [], _, _ => simp [hull, chainR]
    | [a], _, _ => simp [hull]
    | _ :: _ :: _, _, h2 => exact absurd (by simp) h2

end
theorem sorted_eq : ∀ {xs ys : List P}, xs.Pairwise lt → ys.Pairwise lt → (∀ a, a ∈ xs ↔ a ∈ ys) → xs = ys
  | [], [], _, _, _ => rfl
  | [], y :: ys, _, _, h => absurd ((h y).mpr (by simp)) (by simp)
  | x :: xs, [], _, _, h => absurd ((h x).mp (by simp)) (by simp)
  | x :: xs, y :: ys, hx, hy, h => by
    have hx' := List.pairwise_cons.mp hx
    have hy' := List.pairwise_cons.mp hy
    have e : x = y := by
      rcases List.mem_cons.mp ((h x).mp (by simp)) with g | g
      · exact g
      · rcases List.mem_cons.mp ((h y).mpr (by simp)) with k | k
        · exact k.symm
        · exact absurd (hx'.1 y k) (lt_asymm (hy'.1 x g))
    subst e
    have : xs = ys := sorted_eq hx'.2 hy'.2 fun a => by
      constructor
      · intro ha
        rcases List.mem_cons.mp ((h a).mp (List.mem_cons_of_mem _ ha)) with g | g
        · exact absurd (g ▸ hx'.1 a ha) lt_irrefl
        · exact g
      · intro ha
        rcases List.mem_cons.mp ((h a).mpr (List.mem_cons_of_mem _ ha)) with g | g
        · exact absurd (g ▸ hy'.1 a ha) lt_irrefl
        · exact g
    rw [this]
end Hull
set_option linter.all false
namespace Hull
def mn (a b : P) : P := if lt b a then b else a
def mx (a b : P) : P := if lt a b then b else a
def le (a b : P) : Prop := ¬ lt b a
def On (a b s : P) : Prop := turn a b s = 0 ∧ le (mn a b) s ∧ le s (mx a b)
def Tri (a b c s : P) : Prop := (0 < turn a b s ∧ 0 < turn b c s ∧ 0 < turn c a s) ∨ (turn a b s < 0 ∧ turn b c s < 0 ∧ turn c a s < 0)
def HeldIx (others : List P) (s : P) : Prop :=
  ∃ (k n : Nat) (a b : P), k < n ∧ others[k]? = some a ∧ others[n]? = some b ∧ (On a b s ∨ ∃ (m : Nat) (c : P), n < m ∧ others[m]? = some c ∧ Tri a b c s)
def others (row : List P) (s : P) : List P := row.filter fun x => decide (x ≠ s)
section
open Classical
noncomputable def due (row : List P) : List P := row.filter fun s => decide (¬ HeldIx (others row s) s)
end
end Hull
set_option linter.all false
set_option maxRecDepth 100000
namespace SetM
open PySem PySem.SetTable

theorem below_go (xs : Array Nat) (j : Nat) (hs : xs.toList.Pairwise (· < ·)) : ∀ (fuel lo hi : Nat), lo ≤ hi → hi ≤ xs.size → hi - lo ≤ fuel →
    (∀ (i x : Nat), i < lo → xs[i]? = some x → x < j) → (∀ (i x : Nat), hi ≤ i → xs[i]? = some x → j ≤ x) →
    (∀ (i x : Nat), i < below.go xs j fuel lo hi → xs[i]? = some x → x < j) ∧ (∀ (i x : Nat), below.go xs j fuel lo hi ≤ i → xs[i]? = some x → j ≤ x) ∧ below.go xs j fuel lo hi ≤ xs.size
  | 0, lo, hi, h1, h2, h3, a, b => by
    have e : lo = hi := by omega
    subst e
    exact ⟨a, b, h2⟩
  | fuel + 1, lo, hi, h1, h2, h3, a, b => by
    unfold below.go
    by_cases hlt : lo < hi
    · rw [if_pos hlt]
      have hm : (lo + hi) / 2 < xs.size := by omega
      have hv : xs.getD ((lo + hi) / 2) j = xs[(lo + hi) / 2] := by simp [Array.getD, hm]
      have mono : ∀ (i k x y : Nat), i < k → xs[i]? = some x → xs[k]? = some y → x < y := by
        intro i k x y hik hx hy
        have hx' : xs.toList[i]? = some x := by simpa using hx
        have hy' : xs.toList[k]? = some y := by simpa using hy
        obtain ⟨p1, q1⟩ := List.getElem?_eq_some_iff.mp hx'
        obtain ⟨p2, q2⟩ := List.getElem?_eq_some_iff.mp hy'
        have := List.pairwise_iff_getElem.mp hs i k p1 p2 hik
        rw [q1, q2] at this; exact this
      have hme : xs[(lo + hi) / 2]? = some xs[(lo + hi) / 2] := by simp [hm]
      dsimp only
      rw [hv]
      by_cases hc : xs[(lo + hi) / 2] < j
      · rw [if_pos hc]
        refine below_go xs j hs fuel _ hi (by omega) h2 (by omega) (fun i x hi' hx => ?_) b
        rcases Nat.lt_or_ge i ((lo + hi) / 2) with h | h
        · have := mono i _ x _ h hx hme; omega
        · have : i = (lo + hi) / 2 := by omega
          subst this; rw [hme] at hx; cases hx; exact hc
      · rw [if_neg hc]
        refine below_go xs j hs fuel lo _ (by omega) (by omega) (by omega) a (fun i x hi' hx => ?_)
        rcases Nat.lt_or_ge ((lo + hi) / 2) i with h | h
        · have := mono _ i _ x h hme hx; omega
        · have : i = (lo + hi) / 2 := by omega
          subst this; rw [hme] at hx; cases hx; omega
    · rw [if_neg hlt]
      have e : lo = hi := by omega
      subst e
      exact ⟨a, b, h2⟩
theorem below_spec {xs : Array Nat} (j : Nat) (hs : xs.toList.Pairwise (· < ·)) :
    (∀ (i x : Nat), i < below xs j → xs[i]? = some x → x < j) ∧ (∀ (i x : Nat), below xs j ≤ i → xs[i]? = some x → j ≤ x) ∧ below xs j ≤ xs.size := by
  unfold below
  refine below_go xs j hs xs.size 0 xs.size (Nat.zero_le _) (Nat.le_refl _) (by omega) (fun i x h => absurd h (Nat.not_lt_zero _)) (fun i x h hx => ?_)
  rw [Array.getElem?_eq_none h] at hx; cases hx
theorem below_at {xs : Array Nat} {j i : Nat} (hs : xs.toList.Pairwise (· < ·)) (h : xs[i]? = some j) : below xs j = i := by
  obtain ⟨a, b, _⟩ := below_spec j hs
  rcases Nat.lt_trichotomy (below xs j) i with g | g | g
  · have hlt : below xs j < xs.size := by
      have : i < xs.size := by
        rcases Nat.lt_or_ge i xs.size with k | k
        · exact k
        · rw [Array.getElem?_eq_none k] at h; cases h
      omega
    have e : xs[below xs j]? = some xs[below xs j] := by simp [hlt]
    have h1 := b (below xs j) _ (Nat.le_refl _) e
    have hx' : xs.toList[below xs j]? = some xs[below xs j] := by simpa using e
    have hy' : xs.toList[i]? = some j := by simpa using h
    obtain ⟨p1, q1⟩ := List.getElem?_eq_some_iff.mp hx'
    obtain ⟨p2, q2⟩ := List.getElem?_eq_some_iff.mp hy'
    have := List.pairwise_iff_getElem.mp hs _ _ p1 p2 g
    rw [q1, q2] at this
    omega
  · exact g
  · have := a i j g h; omega

def Occ (t : SetTable) (j : Nat) : Prop := j ∈ t.place.toList
theorem slot_live {t : SetTable} {i j : Nat} (hs : t.place.toList.Pairwise (· < ·)) (h : t.place[i]? = some j) : t.slot j = .live i := by
  unfold slot
  dsimp only
  rw [below_at hs h, h]
  simp
theorem slot_empty {t : SetTable} {j : Nat} (hd : t.dummies = #[]) (h : ¬ Occ t j) : t.slot j = .empty := by
  unfold slot
  have h1 : (t.place[below t.place j]? == some j) = false := by
    apply Bool.eq_false_iff.mpr
    intro e
    have e' : t.place[below t.place j]? = some j := by simpa using e
    have e'' : t.place.toList[below t.place j]? = some j := by simpa using e'
    exact h (List.mem_of_getElem? e'')
  have h2 : has t.dummies j = false := by rw [hd]; simp [has]
  simp only [h1, h2]; rfl
def adv (mask : Nat) (p : Probe) : Probe :=
  if p.more > 0 then { p with j := p.j + 1, more := p.more - 1 } else
  let (i, perturb) := leap mask p.i p.perturb
  { p with j := i, more := runEnd mask i - i, i, perturb }
def at0 (mask i q : Nat) : Probe := { j := i, more := runEnd mask i - i, i, perturb := q, dummy := none }
def path (mask : Nat) (h : Int) : Nat → Probe
  | 0 => at0 mask (bits h % (mask + 1)) (bits h)
  | k + 1 => adv mask (path mask h k)
def iter (mask : Nat) (p : Probe) : Nat → Probe
  | 0 => p
  | k + 1 => adv mask (iter mask p k)
theorem iter_add (mask : Nat) (p : Probe) (a : Nat) : ∀ b, iter mask p (a + b) = iter mask (iter mask p a) b
  | 0 => rfl
  | b + 1 => by show adv mask (iter mask p (a + b)) = adv mask (iter mask (iter mask p a) b); rw [iter_add mask p a b]
theorem path_iter (mask : Nat) (h : Int) : ∀ k, path mask h k = iter mask (path mask h 0) k
  | 0 => rfl
  | k + 1 => by show adv mask _ = adv mask _; rw [path_iter mask h k]
theorem iter_run (mask i q : Nat) : ∀ k, k ≤ runEnd mask i - i → iter mask (at0 mask i q) k = { j := i + k, more := runEnd mask i - i - k, i := i, perturb := q, dummy := none }
  | 0, _ => rfl
  | k + 1, h => by
    show adv mask (iter mask (at0 mask i q) k) = _
    rw [iter_run mask i q k (by omega)]
    unfold adv
    rw [if_pos (show runEnd mask i - i - k > 0 by omega)]
    simp only [Probe.mk.injEq, and_true, true_and]
    omega
theorem iter_leap (mask i q : Nat) : iter mask (at0 mask i q) (runEnd mask i - i + 1) = at0 mask (leap mask i q).1 (leap mask i q).2 := by
  show adv mask (iter mask (at0 mask i q) (runEnd mask i - i)) = _
  rw [iter_run mask i q _ (Nat.le_refl _)]
  unfold adv
  rw [if_neg (by simp)]
  rfl
def leaps (mask i q : Nat) : Nat → Nat × Nat
  | 0 => (i, q)
  | n + 1 => leap mask (leaps mask i q n).1 (leaps mask i q n).2
theorem runEnd_le (mask i : Nat) : runEnd mask i - i ≤ 9 := by unfold runEnd; split <;> omega
theorem iter_leaps (mask i q : Nat) : ∀ n, ∃ k, k ≤ 10 * n ∧ n ≤ k ∧ iter mask (at0 mask i q) k = at0 mask (leaps mask i q n).1 (leaps mask i q n).2
  | 0 => ⟨0, by omega, by omega, rfl⟩
  | n + 1 => by
    obtain ⟨k, h1, h3, h2⟩ := iter_leaps mask i q n
    have := runEnd_le mask (leaps mask i q n).1
    refine ⟨k + (runEnd mask (leaps mask i q n).1 - (leaps mask i q n).1 + 1), by omega, by omega, ?_⟩
    rw [iter_add, h2, iter_leap]; rfl
theorem leaps_q (mask i q : Nat) : ∀ n, (leaps mask i q n).2 = q / 32 ^ n
  | 0 => by simp [leaps]
  | n + 1 => by
    show (leaps mask i q n).2 / 32 = _
    rw [leaps_q mask i q n, Nat.div_div_eq_div_mul, Nat.pow_succ]
theorem leaps_add (mask i q : Nat) (a : Nat) : ∀ b, leaps mask i q (a + b) = leaps mask (leaps mask i q a).1 (leaps mask i q a).2 b
  | 0 => rfl
  | b + 1 => by
    show leap mask (leaps mask i q (a + b)).1 (leaps mask i q (a + b)).2 = leap mask _ _
    rw [leaps_add mask i q a b]
theorem leaps_lt (mask i q : Nat) (h : i ≤ mask) : ∀ n, (leaps mask i q n).1 ≤ mask
  | 0 => h
  | n + 1 => by
    show ((leaps mask i q n).1 * 5 + 1 + (leaps mask i q n).2 / 32) % (mask + 1) ≤ mask
    have := Nat.mod_lt ((leaps mask i q n).1 * 5 + 1 + (leaps mask i q n).2 / 32) (show 0 < mask + 1 by omega)
    omega
theorem bits_lt (h : Int) : bits h < 2 ^ 64 := by
  unfold bits
  have h1 := Int.emod_nonneg h (show (2 ^ 64 : Int) ≠ 0 by decide)
  have h2 := Int.emod_lt_of_pos h (show (0 : Int) < 2 ^ 64 by decide)
  have e : ((2 : Int) ^ 64) = ((2 ^ 64 : Nat) : Int) := by norm_cast
  rw [e] at h2
  omega
def Full (mask : Nat) : Prop := ∀ i j, i ≤ mask → j ≤ mask → ∃ m, m ≤ mask ∧ (leaps mask i 0 m).1 = j
def reachB (mask i : Nat) (j : Nat) : Bool := (List.range (mask + 1)).any fun m => (leaps mask i 0 m).1 == j
theorem full_of {mask : Nat} (h : ((List.range (mask + 1)).all fun i => (List.range (mask + 1)).all fun j => reachB mask i j) = true) : Full mask := by
  intro i j hi hj
  have h1 := List.all_eq_true.mp h i (List.mem_range.mpr (by omega))
  have h2 := List.all_eq_true.mp h1 j (List.mem_range.mpr (by omega))
  obtain ⟨m, h3, h4⟩ := List.any_eq_true.mp h2
  exact ⟨m, by have := List.mem_range.mp h3; omega, by simpa using h4⟩
theorem full7 : Full 7 := full_of (by decide +kernel)
theorem full31 : Full 31 := full_of (by decide +kernel)
theorem cover_leaps {mask : Nat} (hf : Full mask) (i q j : Nat) (hi : i ≤ mask) (hq : q < 2 ^ 64) (hj : j ≤ mask) : ∃ n, n ≤ mask + 13 ∧ (leaps mask i q n).1 = j := by
  have h13 : (leaps mask i q 13).2 = 0 := by
    rw [leaps_q]
    apply Nat.div_eq_of_lt
    have : (32 : Nat) ^ 13 = 2 ^ 65 := by decide +kernel
    rw [this]
    have : (2 : Nat) ^ 65 = 2 * 2 ^ 64 := by decide +kernel
    omega
  obtain ⟨m, h1, h2⟩ := hf (leaps mask i q 13).1 j (leaps_lt mask i q hi 13) hj
  refine ⟨13 + m, by omega, ?_⟩
  rw [leaps_add, h13]; exact h2
theorem cover {mask : Nat} (hf : Full mask) (h : Int) (j : Nat) (hj : j ≤ mask) : ∃ k, k < 10 * turns mask ∧ (path mask h k).j = j := by
  have hi : bits h % (mask + 1) ≤ mask := by have := Nat.mod_lt (bits h) (show 0 < mask + 1 by omega); omega
  obtain ⟨n, h1, h2⟩ := cover_leaps hf (bits h % (mask + 1)) (bits h) j hi (bits_lt h) hj
  obtain ⟨k, h3, _, h4⟩ := iter_leaps mask (bits h % (mask + 1)) (bits h) n
  refine ⟨k, by unfold turns; omega, ?_⟩
  rw [path_iter]
  show (iter mask (at0 mask (bits h % (mask + 1)) (bits h)) k).j = j
  rw [h4, h2]; rfl
theorem adv_dummy (mask : Nat) (p : Probe) : (adv mask p).dummy = p.dummy := by
  unfold adv; split <;> rfl
theorem path_dummy (mask : Nat) (h : Int) : ∀ k, (path mask h k).dummy = none
  | 0 => rfl
  | k + 1 => by show (adv mask (path mask h k)).dummy = none; rw [adv_dummy, path_dummy mask h k]
theorem path_in (mask : Nat) (h : Int) : ∀ k, (path mask h k).j + (path mask h k).more ≤ mask ∧ (path mask h k).i ≤ mask
  | 0 => by
    have hi : bits h % (mask + 1) ≤ mask := by have := Nat.mod_lt (bits h) (show 0 < mask + 1 by omega); omega
    refine ⟨?_, hi⟩
    show bits h % (mask + 1) + (runEnd mask (bits h % (mask + 1)) - bits h % (mask + 1)) ≤ mask
    unfold runEnd; split <;> omega
  | k + 1 => by
    obtain ⟨h1, h2⟩ := path_in mask h k
    show (adv mask (path mask h k)).j + (adv mask (path mask h k)).more ≤ mask ∧ (adv mask (path mask h k)).i ≤ mask
    unfold adv
    by_cases hc : (path mask h k).more > 0
    · rw [if_pos hc]; dsimp only; omega
    · rw [if_neg hc]
      have hi : ((path mask h k).i * 5 + 1 + (path mask h k).perturb / 32) % (mask + 1) ≤ mask := by have := Nat.mod_lt ((path mask h k).i * 5 + 1 + (path mask h k).perturb / 32) (show 0 < mask + 1 by omega); omega
      refine ⟨?_, hi⟩
      show ((path mask h k).i * 5 + 1 + (path mask h k).perturb / 32) % (mask + 1) + (runEnd mask (((path mask h k).i * 5 + 1 + (path mask h k).perturb / 32) % (mask + 1)) - ((path mask h k).i * 5 + 1 + (path mask h k).perturb / 32) % (mask + 1)) ≤ mask
      generalize ((path mask h k).i * 5 + 1 + (path mask h k).perturb / 32) % (mask + 1) = x at hi
      unfold runEnd; split <;> omega
end SetM
set_option linter.all false
set_option maxRecDepth 100000
namespace SetM
open PySem PySem.SetTable
theorem hole : ∀ (n : Nat) (l : List Nat), l.length < n → ∃ j, j < n ∧ j ∉ l
  | 0, _, h => absurd h (Nat.not_lt_zero _)
  | n + 1, l, h => by
    by_cases hm : n ∈ l
    · have hl : (l.erase n).length = l.length - 1 := List.length_erase_of_mem hm
      have hp : 0 < l.length := List.length_pos_of_mem hm
      obtain ⟨j, h1, h2⟩ := hole n (l.erase n) (by omega)
      refine ⟨j, by omega, fun h3 => h2 ((List.mem_erase_of_ne (by omega)).mpr h3)⟩
    · exact ⟨n, by omega, hm⟩
theorem least {p : Nat → Prop} : ∀ (K : Nat), (∃ k, k < K ∧ p k) → ∃ k, k < K ∧ p k ∧ ∀ k', k' < k → ¬ p k'
  | 0, ⟨k, h, _⟩ => absurd h (Nat.not_lt_zero _)
  | K + 1, ⟨k, h, hp⟩ => by
    by_cases hq : ∃ k, k < K ∧ p k
    · obtain ⟨k, h1, h2, h3⟩ := least K hq
      exact ⟨k, by omega, h2, h3⟩
    · refine ⟨k, h, hp, fun k' hk' hp' => hq ⟨k', by omega, hp'⟩⟩

def Reach (mask : Nat) (occ : Nat → Prop) (h : Int) (j : Nat) : Prop := ∃ k, k < 10 * turns mask ∧ (path mask h k).j = j ∧ ∀ k', k' < k → occ (path mask h k').j
theorem Reach.mono {mask : Nat} {occ occ' : Nat → Prop} {h : Int} {j : Nat} (r : Reach mask occ h j) (m : ∀ j, occ j → occ' j) : Reach mask occ' h j := by
  obtain ⟨k, h1, h2, h3⟩ := r
  exact ⟨k, h1, h2, fun k' hk' => m _ (h3 k' hk')⟩
structure TOk {α : Type} (t : SetTable) (es : List (Int × α)) (Z : List (Nat × (Int × α))) : Prop where
  hm : t.mask = 7 ∨ t.mask = 31
  dum : t.dummies = #[]
  pl : t.place.toList = Z.map (·.1)
  el : es = Z.map (·.2)
  rise : (Z.map (·.1)).Pairwise (· < ·)
  bound : ∀ z ∈ Z, z.1 ≤ t.mask
  room : Z.length ≤ t.mask
  reach : ∀ z ∈ Z, Reach t.mask (Occ t) z.2.1 z.1
section
variable {α : Type} {t : SetTable} {es : List (Int × α)} {Z : List (Nat × (Int × α))}
theorem TOk.full (T : TOk t es Z) : Full t.mask := by
  rcases T.hm with e | e <;> rw [e]
  · exact full7
  · exact full31
theorem TOk.rise' (T : TOk t es Z) : t.place.toList.Pairwise (· < ·) := by rw [T.pl]; exact T.rise
theorem TOk.occ (T : TOk t es Z) {j : Nat} : Occ t j ↔ ∃ z ∈ Z, z.1 = j := by
  unfold Occ; rw [T.pl]; simp
theorem TOk.free (T : TOk t es Z) (h : Int) : ∃ k, k < 10 * turns t.mask ∧ ¬ Occ t (path t.mask h k).j ∧ ∀ k', k' < k → Occ t (path t.mask h k').j := by
  obtain ⟨j, h1, h2⟩ := hole (t.mask + 1) t.place.toList (by rw [T.pl, List.length_map]; have := T.room; omega)
  obtain ⟨k, h3, h4⟩ := cover T.full h j (by omega)
  obtain ⟨k, h5, h6, h7⟩ := least (p := fun k => ¬ Occ t (path t.mask h k).j) _ ⟨k, h3, by rw [h4]; exact h2⟩
  exact ⟨k, h5, h6, fun k' hk' => Classical.not_not.mp (h7 k' hk')⟩
theorem TOk.get (T : TOk t es Z) {i : Nat} {z : Nat × (Int × α)} (h : Z[i]? = some z) : t.place[i]? = some z.1 ∧ es[i]? = some z.2 := by
  constructor
  · have : t.place.toList[i]? = some z.1 := by rw [T.pl, List.getElem?_map, h]; rfl
    simpa using this
  · rw [T.el, List.getElem?_map, h]; rfl
theorem TOk.ix (T : TOk t es Z) {j : Nat} (h : Occ t j) : ∃ (i : Nat) (z : Nat × (Int × α)), Z[i]? = some z ∧ z.1 = j := by
  obtain ⟨z, hz, e⟩ := T.occ.mp h
  obtain ⟨i, hi⟩ := List.mem_iff_getElem?.mp hz
  exact ⟨i, z, hi, e⟩
theorem TOk.probe_go (T : TOk t es Z) (hashAt : Nat → Int) (h : Int) : ∀ (fuel k0 k1 : Nat), k0 ≤ k1 → k1 < k0 + fuel →
    (∀ k, k0 ≤ k → k < k1 → ∃ i, t.place[i]? = some (path t.mask h k).j ∧ hashAt i ≠ h) →
    (¬ Occ t (path t.mask h k1).j → probe.go t hashAt h fuel (path t.mask h k0) = some (.empty (path t.mask h k1).j none)) ∧
    (∀ i : Nat, t.place[i]? = some (path t.mask h k1).j → hashAt i = h → probe.go t hashAt h fuel (path t.mask h k0) = some (.candidate (path t.mask h k1).j i (path t.mask h (k1 + 1))))
  | 0, k0, k1, h1, h2, _ => by omega
  | fuel + 1, k0, k1, h1, h2, hw => by
    rcases Nat.eq_or_lt_of_le h1 with e | hlt
    · subst e
      constructor
      · intro ho
        unfold probe.go
        rw [slot_empty T.dum ho]
        dsimp only
        rw [path_dummy]
      · intro i hi hh
        unfold probe.go
        rw [slot_live T.rise' hi]
        dsimp only
        rw [hh]
        simp only [beq_self_eq_true, if_true]
        rfl
    · obtain ⟨i, hi, hne⟩ := hw k0 (Nat.le_refl _) hlt
      have ih := TOk.probe_go T hashAt h fuel (k0 + 1) k1 (by omega) (by omega) fun k a b => hw k (by omega) b
      have step : probe.go t hashAt h (fuel + 1) (path t.mask h k0) = probe.go t hashAt h fuel (path t.mask h (k0 + 1)) := by
        conv => lhs; unfold probe.go
        rw [slot_live T.rise' hi]
        dsimp only
        have : (hashAt i == h) = false := by simpa using hne
        rw [this]
        simp only [Bool.false_eq_true, if_false]
        rfl
      rw [step]; exact ih

theorem insertAt_list {β : Type} (xs : Array β) (p : Nat) (x : β) : (SetTable.insertAt xs p x).toList = xs.toList.take p ++ x :: xs.toList.drop p := by
  simp [SetTable.insertAt, List.extract_eq_take_drop, List.take_of_length_le]
theorem TOk.put (T : TOk t es Z) {h : Int} {x : α} {k : Nat} (hk : k < 10 * turns t.mask) (hfree : ¬ Occ t (path t.mask h k).j) (hocc : ∀ k', k' < k → Occ t (path t.mask h k').j) (room : Z.length + 1 ≤ t.mask) (pln : Bool) :
    ∃ Z', TOk { (t.put (path t.mask h k).j).1 with plain := pln } (es.take (t.put (path t.mask h k).j).2 ++ (h, x) :: es.drop (t.put (path t.mask h k).j).2) Z' ∧ Z'.length = Z.length + 1 := by
  generalize hj : (path t.mask h k).j = j at *
  have hp : (t.put j).2 = below t.place j := rfl
  have hd : (t.put j).1.dummies = #[] := by
    show (if has t.dummies j then eraseAt t.dummies (below t.dummies j) else t.dummies) = #[]
    rw [T.dum]; simp [has]
  have hpl : (t.put j).1.place.toList = t.place.toList.take (below t.place j) ++ j :: t.place.toList.drop (below t.place j) := insertAt_list _ _ _
  obtain ⟨b1, b2, b3⟩ := below_spec j T.rise'
  have hjm : j ≤ t.mask := by have := (path_in t.mask h k).1; rw [hj] at this; omega
  refine ⟨Z.take (below t.place j) ++ (j, (h, x)) :: Z.drop (below t.place j), ⟨T.hm, hd, ?_, ?_, ?_, ?_, ?_, ?_⟩, ?_⟩
  · show (t.put j).1.place.toList = _
    rw [hpl, T.pl]; simp [List.map_take, List.map_drop]
  · rw [hp, T.el]; simp [List.map_take, List.map_drop]
  · have e : (Z.take (below t.place j) ++ (j, (h, x)) :: Z.drop (below t.place j)).map (·.1) = t.place.toList.take (below t.place j) ++ j :: t.place.toList.drop (below t.place j) := by
      rw [T.pl]; simp [List.map_take, List.map_drop]
    rw [e]
    have r := T.rise'
    have r' := r
    rw [← List.take_append_drop (below t.place j) t.place.toList] at r'
    obtain ⟨r1, r2, r3⟩ := List.pairwise_append.mp r'
    refine List.pairwise_append.mpr ⟨r1, List.pairwise_cons.mpr ⟨fun y hy => ?_, r2⟩, fun y hy z hz => ?_⟩
    · obtain ⟨i, hi⟩ := List.mem_iff_getElem?.mp hy
      rw [List.getElem?_drop] at hi
      have := b2 (below t.place j + i) y (by omega) (by simpa using hi)
      have hne : y ≠ j := fun e => hfree (by rw [← e]; exact List.mem_of_getElem? hi)
      omega
    · have hyj : y < j := by
        obtain ⟨i, hi⟩ := List.mem_iff_getElem?.mp hy
        rw [List.getElem?_take] at hi
        split at hi
        · rename_i hlt
          exact b1 i y hlt (by simpa using hi)
        · cases hi
      rcases List.mem_cons.mp hz with e | hz
      · omega
      · exact r3 y hy z hz
  · intro z hz
    rcases List.mem_append.mp hz with hz | hz
    · exact T.bound z (List.mem_of_mem_take hz)
    · rcases List.mem_cons.mp hz with e | hz
      · rw [e]; exact hjm
      · exact T.bound z (List.mem_of_mem_drop hz)
  · show (Z.take (below t.place j) ++ (j, (h, x)) :: Z.drop (below t.place j)).length ≤ t.mask
    rw [List.length_append, List.length_cons, List.length_take, List.length_drop]
    omega
  · have om : ∀ i, Occ t i → Occ { (t.put j).1 with plain := pln } i := fun i hi => by
      show i ∈ (t.put j).1.place.toList
      rw [hpl]
      have hi' : i ∈ t.place.toList := hi
      rw [← List.take_append_drop (below t.place j) t.place.toList] at hi'
      rcases List.mem_append.mp hi' with q | q
      · exact List.mem_append_left _ q
      · exact List.mem_append_right _ (List.mem_cons_of_mem _ q)
    intro z hz
    have old : ∀ z ∈ Z, Reach t.mask (Occ { (t.put j).1 with plain := pln }) z.2.1 z.1 := fun z hz => (T.reach z hz).mono om
    rcases List.mem_append.mp hz with hz | hz
    · exact old z (List.mem_of_mem_take hz)
    · rcases List.mem_cons.mp hz with e | hz
      · rw [e]
        exact ⟨k, hk, hj, fun k' hk' => om _ (hocc k' hk')⟩
      · exact old z (List.mem_of_mem_drop hz)
  · rw [List.length_append, List.length_cons, List.length_take, List.length_drop]
    have : below t.place j ≤ Z.length := by
      have : t.place.size = Z.length := by have := congrArg List.length T.pl; simpa using this
      omega
    omega
theorem TOk.fresh (f m : Nat) (led : Bool) : TOk (α := α) (SetTable.fresh f m led) [] [] :=
  ⟨.inl rfl, rfl, rfl, rfl, List.Pairwise.nil, (fun _ h => nomatch h), Nat.zero_le _, (fun _ h => nomatch h)⟩
end
end SetM
set_option linter.all false
set_option maxRecDepth 100000
namespace SetM
open PySem PySem.SetTable
def OccO (owner : Array (Option Nat)) (j : Nat) : Prop := ∃ k, owner[j]? = some (some k)
theorem free_path (mask : Nat) (owner : Array (Option Nat)) (hsz : owner.size = mask + 1) (h : Int) : ∀ (fuel k0 i q : Nat), path mask h k0 = at0 mask i q → i ≤ mask →
    ∀ (n : Nat), n < fuel → (∃ j, j ≤ mask ∧ (leaps mask i q n).1 = j ∧ ¬ OccO owner j) →
    ∃ k, k0 ≤ k ∧ k ≤ k0 + 10 * n + 9 ∧ layClean.free mask owner fuel i q = some (path mask h k).j ∧ ¬ OccO owner (path mask h k).j ∧ ∀ k', k0 ≤ k' → k' < k → OccO owner (path mask h k').j
  | 0, _, _, _, _, _, n, hn, _ => absurd hn (Nat.not_lt_zero _)
  | fuel + 1, k0, i, q, hp, hi, n, hn, hj => by
    have run : ∀ m, m ≤ runEnd mask i - i → (path mask h (k0 + m)).j = i + m := by
      intro m hm
      rw [path_iter, iter_add, ← path_iter, hp, iter_run mask i q m hm]
    have inb : ∀ m, m ≤ runEnd mask i - i → i + m < owner.size := by
      intro m hm
      rw [hsz]
      unfold runEnd at hm
      split at hm <;> omega
    have none_iff : ∀ m, m ≤ runEnd mask i - i → ((owner.getD (i + m) (some 0)).isNone = true ↔ ¬ OccO owner (i + m)) := by
      intro m hm
      have hb := inb m hm
      have e : owner.getD (i + m) (some 0) = owner[i + m] := by simp [Array.getD, hb]
      have e2 : owner[i + m]? = some owner[i + m] := by simp [hb]
      rw [e]
      unfold OccO
      rw [e2]
      cases owner[i + m] with
      | none => simp
      | some k => simp
    unfold layClean.free
    cases hf : (List.range (runEnd mask i + 1 - i)).find? fun k => (owner.getD (i + k) (some 0)).isNone with
    | some m =>
      have hre : i ≤ runEnd mask i := by unfold runEnd; split <;> omega
      obtain ⟨hm1, l1, l2, hl, hall⟩ := List.find?_eq_some_iff_append.mp hf
      have hmr : m ∈ List.range (runEnd mask i + 1 - i) := by rw [hl]; simp
      have hm : m ≤ runEnd mask i - i := by have := List.mem_range.mp hmr; omega
      have hr9 := runEnd_le mask i
      refine ⟨k0 + m, by omega, by omega, ?_, ?_, fun k' h1 h2 => ?_⟩
      · dsimp only; rw [run m hm]
      · rw [run m hm]; exact (none_iff m hm).mp hm1
      · obtain ⟨d, rfl⟩ : ∃ d, k' = k0 + d := ⟨k' - k0, by omega⟩
        have hd : d < m := by omega
        rw [run d (by omega)]
        have hdm : d ∈ l1 := by
          have hin : d ∈ List.range (runEnd mask i + 1 - i) := List.mem_range.mpr (by omega)
          rw [hl] at hin
          rcases List.mem_append.mp hin with h | h
          · exact h
          · -- behind m all are greater
            exfalso
            have hpw : (List.range (runEnd mask i + 1 - i)).Pairwise (· < ·) := List.pairwise_lt_range
            rw [hl] at hpw
            have hc := (List.pairwise_append.mp hpw).2.1
            rcases List.mem_cons.mp h with e | h
            · omega
            · have := (List.pairwise_cons.mp hc).1 d h; omega
        have := hall d hdm
        have hn' : ¬ ((owner.getD (i + d) (some 0)).isNone = true) := by
          intro hc; rw [hc] at this; simp at this
        exact Classical.not_not.mp fun hc => hn' ((none_iff d (by omega)).mpr hc)
    | none =>
      have hre : i ≤ runEnd mask i := by unfold runEnd; split <;> omega
      have hnone := List.find?_eq_none.mp hf
      have allocc : ∀ m, m ≤ runEnd mask i - i → OccO owner (i + m) := by
        intro m hm
        have := hnone m (List.mem_range.mpr (by omega))
        exact Classical.not_not.mp fun hc => this ((none_iff m hm).mpr hc)
      -- n is not 0
      have hn0 : n ≠ 0 := by
        intro e; subst e
        obtain ⟨j, h1, h2, h3⟩ := hj
        have : i = j := h2
        subst this
        exact h3 (by simpa using allocc 0 (Nat.zero_le _))
      obtain ⟨n', rfl⟩ : ∃ n', n = 1 + n' := ⟨n - 1, by omega⟩
      have hp' : path mask h (k0 + (runEnd mask i - i + 1)) = at0 mask (leap mask i q).1 (leap mask i q).2 := by
        rw [path_iter, iter_add, ← path_iter, hp, iter_leap]
      have hl1 : leaps mask i q 1 = leap mask i q := rfl
      have hi' : (leap mask i q).1 ≤ mask := leaps_lt mask i q hi 1
      obtain ⟨k, a1, a2, a3, a4, a5⟩ := free_path mask owner hsz h fuel (k0 + (runEnd mask i - i + 1)) (leap mask i q).1 (leap mask i q).2 hp' hi' n' (by omega) (by
        obtain ⟨j, h1, h2, h3⟩ := hj
        refine ⟨j, h1, ?_, h3⟩
        rw [leaps_add, hl1] at h2
        exact h2)
      have hr9 := runEnd_le mask i
      refine ⟨k, by omega, by omega, a3, a4, fun k' h1 h2 => ?_⟩
      rcases Nat.lt_or_ge k' (k0 + (runEnd mask i - i + 1)) with g | g
      · obtain ⟨d, rfl⟩ : ∃ d, k' = k0 + d := ⟨k' - k0, by omega⟩
        rw [run d (by omega)]
        exact allocc d (by omega)
      · exact a5 k' g h2

def liveOf (mask : Nat) (owner : Array (Option Nat)) : List (Nat × Nat) := (List.range (mask + 1)).filterMap fun j => (owner.getD j none).map (j, ·)
theorem mem_live {mask : Nat} {owner : Array (Option Nat)} {j k : Nat} : (j, k) ∈ liveOf mask owner ↔ j ≤ mask ∧ owner.getD j none = some k := by
  unfold liveOf
  rw [List.mem_filterMap]
  constructor
  · rintro ⟨a, h1, h2⟩
    cases e : owner.getD a none with
    | none => rw [e] at h2; cases h2
    | some b =>
      rw [e] at h2
      simp only [Option.map_some, Option.some.injEq, Prod.mk.injEq] at h2
      obtain ⟨rfl, rfl⟩ := h2
      exact ⟨by have := List.mem_range.mp h1; omega, e⟩
  · rintro ⟨h1, h2⟩
    exact ⟨j, List.mem_range.mpr (by omega), by rw [h2]; rfl⟩
theorem live_rise (mask : Nat) (owner : Array (Option Nat)) : ((liveOf mask owner).map (·.1)).Pairwise (· < ·) := by
  unfold liveOf
  rw [List.map_filterMap]
  have e : (fun x => Option.map (fun x : Nat × Nat => x.1) (Option.map (fun x_1 => (x, x_1)) (owner.getD x none))) = fun j => if (owner.getD j none).isSome then some j else none := by
    funext j
    cases owner.getD j none <;> rfl
  rw [e]
  have : ((List.range (mask + 1)).filterMap fun j => if (owner.getD j none).isSome then some j else none) = (List.range (mask + 1)).filter fun j => (owner.getD j none).isSome := by
    rw [← List.filterMap_eq_filter]
    rfl
  rw [this]
  exact List.pairwise_lt_range.filter _

structure OwnOk (mask : Nat) (hs : List Int) (owner : Array (Option Nat)) (n : Nat) : Prop where
  size : owner.size = mask + 1
  val : ∀ (j k : Nat), owner[j]? = some (some k) → k < n
  all : ∀ k, k < n → ∃ j : Nat, owner[j]? = some (some k)
  inj : ∀ (j j' k : Nat), owner[j]? = some (some k) → owner[j']? = some (some k) → j = j'
  reach : ∀ (j k : Nat) (h : Int), owner[j]? = some (some k) → hs[k]? = some h → Reach mask (OccO owner) h j

theorem own_step {mask : Nat} (hf : Full mask) {hs : List Int} {owner : Array (Option Nat)} {n : Nat} (O : OwnOk mask hs owner n) (hn : n ≤ mask) {h : Int} (hh : hs[n]? = some h) :
    ∃ j, layClean.free mask owner (turns mask) (bits h % (mask + 1)) (bits h) = some j ∧ OwnOk mask hs (owner.setIfInBounds j (some n)) (n + 1) := by
  -- an empty slot
  have hi : bits h % (mask + 1) ≤ mask := by have := Nat.mod_lt (bits h) (show 0 < mask + 1 by omega); omega
  have hfree : ∃ j, j < mask + 1 ∧ ¬ OccO owner j := by
    apply Classical.byContradiction
    intro hc
    have hall : ∀ j, j < mask + 1 → ∃ k, owner[j]? = some (some k) := fun j hj => Classical.not_not.mp fun h => hc ⟨j, hj, h⟩
    -- the owners' slots
    have hch : ∃ f : Nat → Nat, ∀ k, k < n → owner[f k]? = some (some k) := by
      refine ⟨fun k => if hk : k < n then Classical.choose (O.all k hk) else 0, fun k hk => ?_⟩
      simp only [hk, dif_pos]
      exact Classical.choose_spec (O.all k hk)
    obtain ⟨f, hfk⟩ := hch
    obtain ⟨j, h1, h2⟩ := hole (mask + 1) ((List.range n).map f) (by simp; omega)
    obtain ⟨k, hk⟩ := hall j h1
    have hkn := O.val j k hk
    exact h2 (List.mem_map.mpr ⟨k, List.mem_range.mpr hkn, O.inj _ _ k (hfk k hkn) hk⟩)
  obtain ⟨j0, hj0, ho⟩ := hfree
  obtain ⟨m, hm, hl⟩ := cover_leaps hf (bits h % (mask + 1)) (bits h) j0 hi (bits_lt h) (by omega)
  obtain ⟨k, a1, a2, a3, a4, a5⟩ := free_path mask owner O.size h (turns mask) 0 (bits h % (mask + 1)) (bits h) rfl hi m (by unfold turns; omega) ⟨j0, by omega, hl, ho⟩
  have hjm : (path mask h k).j ≤ mask := by have := (path_in mask h k).1; omega
  refine ⟨_, a3, ?_⟩
  generalize hj : (path mask h k).j = j at *
  have hjs : j < owner.size := by rw [O.size]; omega
  have get : ∀ i, (owner.setIfInBounds j (some n))[i]? = if i = j then some (some n) else owner[i]? := by
    intro i
    rw [Array.getElem?_setIfInBounds]
    by_cases e : j = i
    · subst e; simp [hjs]
    · rw [if_neg e, if_neg (fun q => e q.symm)]
  have om : ∀ i, OccO owner i → OccO (owner.setIfInBounds j (some n)) i := fun i ⟨q, hq⟩ => by
    unfold OccO
    rw [get]
    by_cases e : i = j
    · rw [if_pos e]; exact ⟨n, rfl⟩
    · rw [if_neg e]; exact ⟨q, hq⟩
  refine ⟨by simp [O.size], fun i q hq => ?_, fun q hq => ?_, fun i i' q h1 h2 => ?_, fun i q g h1 h2 => ?_⟩
  · rw [get] at hq
    split at hq
    · cases hq; omega
    · have := O.val i q hq; omega
  · rcases Nat.lt_or_ge q n with hlt | hge
    · obtain ⟨i, hi'⟩ := O.all q hlt
      refine ⟨i, ?_⟩
      rw [get, if_neg]
      · exact hi'
      · intro e; subst e; exact a4 ⟨q, hi'⟩
    · have : q = n := by omega
      subst this
      exact ⟨j, by rw [get, if_pos rfl]⟩
  · rw [get] at h1 h2
    split at h1
    · rename_i e1
      split at h2
      · rename_i e2; rw [e1, e2]
      · cases h1; have := O.val i' _ h2; omega
    · split at h2
      · cases h2; have := O.val i _ h1; omega
      · exact O.inj i i' q h1 h2
  · rw [get] at h1
    split at h1
    · rename_i e1
      cases h1
      rw [hh] at h2; cases h2
      subst e1
      exact ⟨k, by unfold turns; omega, hj, fun k' hk' => om _ (a5 k' (Nat.zero_le _) hk')⟩
    · exact (O.reach i q g h1 h2).mono om

theorem own_fold {mask : Nat} (hf : Full mask) (hs : List Int) (hlen : hs.length ≤ mask) : ∀ (rest : List Int) (n : Nat) (owner : Array (Option Nat)), n ≤ hs.length → hs.drop n = rest → OwnOk mask hs owner n →
    ∃ owner', (rest.foldl (init := some (owner, n)) fun acc h => do
      let (owner, k) ← acc
      let j ← layClean.free mask owner (turns mask) (bits h % (mask + 1)) (bits h)
      pure (owner.setIfInBounds j (some k), k + 1)) = some (owner', hs.length) ∧ OwnOk mask hs owner' hs.length
  | [], n, owner, hn2, hd, O => by
    have hn : hs.length ≤ n := by
      rcases Nat.lt_or_ge n hs.length with h | h
      · have := List.drop_eq_getElem_cons h; rw [hd] at this; cases this
      · exact h
    have e : n = hs.length := by omega
    subst e
    exact ⟨owner, rfl, O⟩
  | h :: rest, n, owner, hn2, hd, O => by
    have hn : n < hs.length := by
      rcases Nat.lt_or_ge n hs.length with g | g
      · exact g
      · rw [List.drop_eq_nil_of_le g] at hd; cases hd
    have hc := List.drop_eq_getElem_cons hn
    rw [hd] at hc
    injection hc with h1 h2
    obtain ⟨j, e1, O'⟩ := own_step hf O (by omega) (h := h) (by rw [h1]; simp [hn])
    obtain ⟨owner', e2, O''⟩ := own_fold hf hs hlen rest (n + 1) _ (by omega) h2.symm O'
    refine ⟨owner', ?_, O''⟩
    rw [List.foldl_cons]
    simp only [Option.bind_eq_bind, Option.bind_some, e1, Option.pure_def]
    exact e2

theorem own_start (mask : Nat) (hs : List Int) : OwnOk mask hs (Array.replicate (mask + 1) none) 0 := by
  have no : ∀ (j k : Nat), (Array.replicate (mask + 1) (none : Option Nat))[j]? ≠ some (some k) := by
    intro j k h
    rw [Array.getElem?_replicate] at h
    split at h <;> simp at h
  exact ⟨by simp, fun j k h => absurd h (no j k), fun k h => absurd h (Nat.not_lt_zero _), fun j _ k h => absurd h (no j k), fun j k _ h => absurd h (no j k)⟩
theorem layClean_ok {mask : Nat} (hf : Full mask) (hs : Array Int) (hlen : hs.size ≤ mask) : ∃ owner, layClean mask hs = some owner ∧ OwnOk mask hs.toList owner hs.size := by
  obtain ⟨owner, e, O⟩ := own_fold hf hs.toList (by simpa using hlen) hs.toList 0 _ (Nat.zero_le _) rfl (own_start mask hs.toList)
  refine ⟨owner, ?_, by simpa using O⟩
  unfold layClean
  rw [← Array.foldl_toList]
  have e' := congrArg (Option.map (·.1)) e
  exact e'
theorem laid_ok {α : Type} {mask : Nat} (hm : mask = 7 ∨ mask = 31) (f m : Nat) (led plain : Bool) (es : Array (Int × α)) (hlen : es.size ≤ mask) :
    ∃ t' order, laid mask f m led plain (es.map (·.1)) = some (t', order) ∧ t'.led = led ∧ t'.plain = plain ∧ t'.mask = mask ∧
      ∃ Z, TOk t' (order.filterMap (es[·]?)).toList Z ∧ List.Perm (order.filterMap (es[·]?)).toList es.toList := by
  have hf : Full mask := by rcases hm with e | e <;> rw [e]; exact full7; exact full31
  obtain ⟨owner, e, O⟩ := layClean_ok hf (es.map (·.1)) (by simpa using hlen)
  have hsz : (es.map (·.1)).size = es.size := by simp
  rw [hsz] at O
  refine ⟨{ mask, place := ((liveOf mask owner).map (·.1)).toArray, dummies := #[], finger := f, led, moves := m, plain }, ((liveOf mask owner).map (·.2)).toArray, ?_, rfl, rfl, rfl, ?_⟩
  · unfold laid
    rw [e]; rfl
  have getD : ∀ j k, owner.getD j none = some k ↔ owner[j]? = some (some k) := by
    intro j k
    by_cases hj : j < owner.size
    · simp [Array.getD, hj]
    · simp [Array.getD, hj]
  -- the owners are all places, once each
  have nd : ((liveOf mask owner).map (·.2)).Nodup := by
    have r := live_rise mask owner
    rw [List.nodup_iff_pairwise_ne, List.pairwise_map]
    rw [List.pairwise_map] at r
    refine (List.Pairwise.and_mem.mp r).imp fun {a b} ⟨ha, hb, hab⟩ hq => ?_
    obtain ⟨a1, a2⟩ := a
    obtain ⟨b1, b2⟩ := b
    have h1 := (getD _ _).mp (mem_live.mp ha).2
    have h2 := (getD _ _).mp (mem_live.mp hb).2
    have hq' : a2 = b2 := hq
    subst hq'
    have := O.inj _ _ _ h1 h2
    have hab' : a1 < b1 := hab
    omega
  have pm : List.Perm ((liveOf mask owner).map (·.2)) (List.range es.size) := by
    refine (List.perm_ext_iff_of_nodup nd List.nodup_range).mpr fun k => ?_
    rw [List.mem_range, List.mem_map]
    constructor
    · rintro ⟨⟨j, q⟩, h1, rfl⟩
      exact O.val j q ((getD _ _).mp (mem_live.mp h1).2)
    · intro hk
      obtain ⟨j, hj⟩ := O.all k hk
      have hjs : j < owner.size := by
        rcases Nat.lt_or_ge j owner.size with g | g
        · exact g
        · rw [Array.getElem?_eq_none g] at hj; cases hj
      exact ⟨(j, k), mem_live.mpr ⟨by have := O.size; omega, (getD _ _).mpr hj⟩, rfl⟩
  have rng : (List.range es.size).filterMap (fun i => es[i]?) = es.toList := by
    have aux : ∀ l : List (Int × α), (List.range l.length).filterMap (fun i => l[i]?) = l := by
      intro l
      induction l with
      | nil => simp
      | cons a t ih =>
        rw [List.length_cons, List.range_succ_eq_map, List.filterMap_cons_some (b := a) (by simp), List.filterMap_map]
        have e : ((fun i => (a :: t)[i]?) ∘ Nat.succ) = fun i => t[i]? := by funext i; simp
        rw [e, ih]
    have := aux es.toList
    simpa using this
  have eq1 : (((liveOf mask owner).map (·.2)).toArray.filterMap (es[·]?)).toList = (liveOf mask owner).filterMap (fun z => es[z.2]?) := by
    rw [Array.toList_filterMap]
    simp [List.filterMap_map, Function.comp_def]
  refine ⟨(liveOf mask owner).filterMap fun z => (es[z.2]?).map (z.1, ·), ?_, ?_⟩
  · -- every owner is an element
    have some_at : ∀ z ∈ liveOf mask owner, ∃ x, es[z.2]? = some x := fun z hz => by
      have := O.val z.1 z.2 ((getD _ _).mp (mem_live.mp hz).2)
      exact ⟨es[z.2], by simp [this]⟩
    have m1 : ∀ l : List (Nat × Nat), (∀ z ∈ l, ∃ x, es[z.2]? = some x) → (l.filterMap fun z => (es[z.2]?).map (z.1, ·)).map (·.1) = l.map (·.1) := by
      intro l
      induction l with
      | nil => intro _; rfl
      | cons z l ih =>
        intro h
        obtain ⟨x, hx⟩ := h z (by simp)
        rw [List.filterMap_cons_some (b := (z.1, x)) (by rw [hx]; rfl), List.map_cons, List.map_cons, ih fun y hy => h y (List.mem_cons_of_mem _ hy)]
    have m2 : ∀ l : List (Nat × Nat), (l.filterMap fun z => (es[z.2]?).map (z.1, ·)).map (·.2) = l.filterMap fun z => es[z.2]? := by
      intro l
      induction l with
      | nil => rfl
      | cons z l ih =>
        cases hx : es[z.2]? with
        | none => rw [List.filterMap_cons_none (by rw [hx]; rfl), List.filterMap_cons_none (f := fun z : Nat × Nat => es[z.2]?) hx, ih]
        | some x => rw [List.filterMap_cons_some (b := (z.1, x)) (by rw [hx]; rfl), List.filterMap_cons_some (f := fun z : Nat × Nat => es[z.2]?) hx, List.map_cons, ih]
    have lenL : (liveOf mask owner).length = es.size := by have := pm.length_eq; simpa using this
    refine ⟨hm, rfl, ?_, ?_, ?_, ?_, ?_, ?_⟩
    · rw [m1 _ some_at]
    · rw [eq1, m2]
    · rw [m1 _ some_at]; exact live_rise mask owner
    · intro z hz
      obtain ⟨⟨j, k⟩, h1, h2⟩ := List.mem_filterMap.mp hz
      obtain ⟨x, hx⟩ := some_at _ h1
      rw [hx] at h2
      cases h2
      exact (mem_live.mp h1).1
    · have : ((liveOf mask owner).filterMap fun z => (es[z.2]?).map (z.1, ·)).length = (liveOf mask owner).length := by
        have := congrArg List.length (m1 _ some_at); simpa using this
      rw [this, lenL]; exact hlen
    · intro z hz
      obtain ⟨⟨j, k⟩, h1, h2⟩ := List.mem_filterMap.mp hz
      obtain ⟨x, hx⟩ := some_at _ h1
      rw [hx] at h2
      cases h2
      have ho := (getD _ _).mp (mem_live.mp h1).2
      refine (O.reach j k x.1 ho (by simp [hx])).mono fun i hi => ?_
      obtain ⟨q, hq⟩ := hi
      show i ∈ (liveOf mask owner).map (·.1)
      have his : i < owner.size := by
        rcases Nat.lt_or_ge i owner.size with g | g
        · exact g
        · rw [Array.getElem?_eq_none g] at hq; cases hq
      exact List.mem_map.mpr ⟨(i, q), mem_live.mpr ⟨by have := O.size; omega, (getD _ _).mpr hq⟩, rfl⟩
  · rw [eq1]
    have h1 := pm.filterMap (fun i => es[i]?)
    rw [rng, List.filterMap_map] at h1
    exact h1
end SetM
set_option linter.all false
set_option maxRecDepth 100000
namespace SortM
open PySem PySem.W PyProof.Rows
def run {α : Type} (T : Nat → Nat → Bool) : KasT α → α
  | .ret a => a
  | .ask i j k => run T (k (T i j))
theorem run_bind {α β : Type} (T : Nat → Nat → Bool) (f : α → KasT β) : ∀ t : KasT α, run T (t.bind f) = run T (f (run T t))
  | .ret _ => rfl
  | .ask i j k => by
    show run T ((k (T i j)).bind f) = _
    rw [run_bind T f (k (T i j))]; rfl
structure Ord (n : Nat) (T : Nat → Nat → Bool) : Prop where
  irr : ∀ i, T i i = false
  tr : ∀ i j k, T i j = true → T j k = true → T i k = true
  tot : ∀ i j, i < n → j < n → i ≠ j → T i j = true ∨ T j i = true
structure Pm (n : Nat) (p : Array Nat) : Prop where
  size : p.size = n
  lt : ∀ i, i < n → p.getD i 0 < n
  inj : ∀ i j, i < n → j < n → p.getD i 0 = p.getD j 0 → i = j
theorem Pm.start (n : Nat) : Pm n (List.toArray (List.range n)) := by
  have g : ∀ i, i < n → (List.toArray (List.range n)).getD i 0 = i := fun i hi => by simp [Array.getD, hi]
  exact ⟨by simp, fun i hi => by rw [g i hi]; exact hi, fun i j hi hj e => by rw [g i hi, g j hj] at e; exact e⟩
def Srt (T : Nat → Nat → Bool) (p : Array Nat) (m : Nat) : Prop := ∀ a b, a < b → b < m → T (p.getD a 0) (p.getD b 0) = true
def Dsc (T : Nat → Nat → Bool) (p : Array Nat) (m : Nat) : Prop := ∀ a b, a < b → b < m → T (p.getD b 0) (p.getD a 0) = true
section
variable {n : Nat} {T : Nat → Nat → Bool} (O : Ord n T)
include O
theorem tot' {p : Array Nat} (P : Pm n p) {i j : Nat} (hi : i < n) (hj : j < n) (hij : i ≠ j) (h : ¬ T (p.getD i 0) (p.getD j 0) = true) : T (p.getD j 0) (p.getD i 0) = true :=
  (O.tot _ _ (P.lt i hi) (P.lt j hj) fun e => hij (P.inj i j hi hj e)).resolve_left h
theorem srt_more {p : Array Nat} {m : Nat} (hm : 1 ≤ m) (S : Srt T p m) (h : T (p.getD (m - 1) 0) (p.getD m 0) = true) : Srt T p (m + 1) := by
  intro a b hab hb
  rcases Nat.lt_or_ge b m with g | g
  · exact S a b hab g
  · have e : b = m := by omega
    subst e
    rcases Nat.lt_or_ge a (b - 1) with k | k
    · exact O.tr _ _ _ (S a (b - 1) k (by omega)) h
    · have : a = b - 1 := by omega
      subst this; exact h
theorem dsc_more {p : Array Nat} {m : Nat} (hm : 1 ≤ m) (S : Dsc T p m) (h : T (p.getD m 0) (p.getD (m - 1) 0) = true) : Dsc T p (m + 1) := by
  intro a b hab hb
  rcases Nat.lt_or_ge b m with g | g
  · exact S a b hab g
  · have e : b = m := by omega
    subst e
    rcases Nat.lt_or_ge a (b - 1) with k | k
    · exact O.tr _ _ _ h (S a (b - 1) k (by omega))
    · have : a = b - 1 := by omega
      subst this; exact h
theorem asc_ok {p : Array Nat} (P : Pm n p) : ∀ (f m : Nat), 1 ≤ m → m + f ≤ n → Srt T p m →
    m ≤ run T (kas_asc p f m) ∧ run T (kas_asc p f m) ≤ m + f ∧ Srt T p (run T (kas_asc p f m)) ∧ (run T (kas_asc p f m) = m + f ∨ T (p.getD (run T (kas_asc p f m)) 0) (p.getD (run T (kas_asc p f m) - 1) 0) = true)
  | 0, m, _, _, S => ⟨Nat.le_refl _, Nat.le_refl _, S, .inl rfl⟩
  | f + 1, m, h1, h2, S => by
    have e : run T (kas_asc p (f + 1) m) = run T (if T (p.getD m 0) (p.getD (m - 1) 0) = true then .ret m else kas_asc p f (m + 1)) := rfl
    rw [e]
    by_cases hc : T (p.getD m 0) (p.getD (m - 1) 0) = true
    · rw [if_pos hc]
      exact ⟨Nat.le_refl _, by show m ≤ m + (f + 1); omega, S, .inr hc⟩
    · rw [if_neg hc]
      have hS := srt_more O h1 S (tot' O P (i := m) (j := m - 1) (by omega) (by omega) (by omega) hc)
      obtain ⟨a, b, c, d⟩ := asc_ok P f (m + 1) (by omega) (by omega) hS
      refine ⟨by omega, by omega, c, ?_⟩
      rcases d with d | d
      · exact .inl (by omega)
      · exact .inr d
theorem desc_ok {p : Array Nat} (P : Pm n p) : ∀ (f m : Nat), 1 ≤ m → m + f ≤ n → Dsc T p m →
    ∃ m', run T (kas_desc f p m 0) = (p, m', 0) ∧ m ≤ m' ∧ m' ≤ m + f ∧ Dsc T p m'
  | 0, m, _, _, S => ⟨m, rfl, Nat.le_refl _, Nat.le_refl _, S⟩
  | f + 1, m, h1, h2, S => by
    have e : run T (kas_desc (f + 1) p m 0) = run T (if T (p.getD m 0) (p.getD (m - 1) 0) = true then (if 0 > 0 then kas_desc f (kas_rev p (m - (0 + 1)) m) (m + 1) 0 else kas_desc f p (m + 1) 0)
      else .ask (p.getD (m - 1) 0) (p.getD m 0) fun d => if d = true then .ret (p, m, 0) else kas_desc f p (m + 1) (0 + 1)) := rfl
    rw [e]
    by_cases hc : T (p.getD m 0) (p.getD (m - 1) 0) = true
    · rw [if_pos hc, if_neg (by omega)]
      obtain ⟨m', a, b, c, d⟩ := desc_ok P f (m + 1) (by omega) (by omega) (dsc_more O h1 S hc)
      exact ⟨m', a, by omega, by omega, d⟩
    · rw [if_neg hc]
      have hd := tot' O P (i := m) (j := m - 1) (by omega) (by omega) (by omega) hc
      refine ⟨m, ?_, Nat.le_refl _, by omega, S⟩
      show run T (if T (p.getD (m - 1) 0) (p.getD m 0) = true then .ret (p, m, 0) else kas_desc f p (m + 1) (0 + 1)) = _
      rw [if_pos hd]; rfl
end
theorem getD_rev {p : Array Nat} {m : Nat} (hm : m ≤ p.size) (k : Nat) : (kas_rev p 0 m).getD k 0 = if k < m then p.getD (m - 1 - k) 0 else p.getD k 0 := by
  have h := getElem?_mirror_all (xs := p) (i := 0) (j := m) hm k
  have e : ∀ (xs : Array Nat) (k : Nat), xs.getD k 0 = (xs[k]?).getD 0 := fun xs k => by simp [Array.getD_eq_getD_getElem?]
  rw [e]
  show ((mirror p 0 m ((m - 0) / 2))[k]?).getD 0 = _
  rw [h]
  by_cases hk : k < m
  · rw [if_pos hk, e]
    simp [hk, Nat.zero_add]
  · rw [if_neg hk, e]
    simp [hk]
def rix (m k : Nat) : Nat := if k < m then m - 1 - k else k
theorem getD_rix {p : Array Nat} {m : Nat} (hm : m ≤ p.size) (k : Nat) : (kas_rev p 0 m).getD k 0 = p.getD (rix m k) 0 := by
  rw [getD_rev hm]
  unfold rix
  by_cases h1 : k < m
  · rw [if_pos h1, if_pos h1]
  · rw [if_neg h1, if_neg h1]
theorem rix_lt {n m k : Nat} (hm : m ≤ n) (hk : k < n) : rix m k < n := by unfold rix; split <;> omega
theorem rix_inj {m i j : Nat} (e : rix m i = rix m j) : i = j := by
  unfold rix at e
  repeat' split at e
  all_goals omega
theorem pm_rev {n : Nat} {p : Array Nat} (P : Pm n p) {m : Nat} (hm : m ≤ n) : Pm n (kas_rev p 0 m) := by
  have hs : m ≤ p.size := by rw [P.size]; exact hm
  refine ⟨by rw [← P.size]; exact mirror_size _ _ _ _, fun i hi => ?_, fun i j hi hj e => ?_⟩
  · rw [getD_rix hs]; exact P.lt _ (rix_lt hm hi)
  · rw [getD_rix hs, getD_rix hs] at e
    exact rix_inj (P.inj _ _ (rix_lt hm hi) (rix_lt hm hj) e)
theorem srt_rev {n : Nat} {T : Nat → Nat → Bool} {p : Array Nat} (P : Pm n p) {m : Nat} (hm : m ≤ n) (D : Dsc T p m) : Srt T (kas_rev p 0 m) m := by
  have hs : m ≤ p.size := by rw [P.size]; exact hm
  intro a b hab hb
  rw [getD_rev hs, getD_rev hs, if_pos (by omega), if_pos hb]
  exact D (m - 1 - b) (m - 1 - a) (by omega) (by omega)
section
variable {n : Nat} {T : Nat → Nat → Bool} (O : Ord n T)
include O
theorem count_ok {p : Array Nat} (P : Pm n p) (h1 : 1 ≤ n) : ∃ m p', run T (kas_count n p) = (m, p') ∧ Pm n p' ∧ 1 ≤ m ∧ m ≤ n ∧ Srt T p' m := by
  have S1 : Srt T p 1 := fun a b hab hb => by omega
  obtain ⟨a, b, c, d⟩ := asc_ok O P (n - 1) 1 (Nat.le_refl _) (by omega) S1
  unfold kas_count
  rw [run_bind]
  generalize run T (kas_asc p (n - 1) 1) = m at a b c d
  by_cases hm : (m == n) = true
  · rw [if_pos hm]
    exact ⟨m, p, rfl, P, a, by omega, c⟩
  · rw [if_neg hm]
    have hmn : m ≠ n := by simpa using hm
    have hd : T (p.getD m 0) (p.getD (m - 1) 0) = true := by
      rcases d with d | d
      · omega
      · exact d
    by_cases h2 : m > 1
    · rw [if_pos h2]
      have h0 : T (p.getD 0 0) (p.getD (m - 1) 0) = true := c 0 (m - 1) (by omega) (by omega)
      refine ⟨m, p, ?_, P, a, by omega, c⟩
      show run T (if T (p.getD 0 0) (p.getD (m - 1) 0) = true then .ret (m, p) else kas_descPart m n (kas_rev p 0 m)) = _
      rw [if_pos h0]; rfl
    · rw [if_neg h2]
      have hm1 : m = 1 := by omega
      subst hm1
      have D2 : Dsc T p (1 + 1) := fun x y hxy hy => by
        have e1 : x = 0 := by omega
        have e2 : y = 1 := by omega
        subst e1; subst e2; exact hd
      obtain ⟨m', e, f, g, h⟩ := desc_ok O P (n - (1 + 1)) (1 + 1) (by omega) (by omega) D2
      unfold kas_descPart
      rw [run_bind, e]
      dsimp only
      rw [if_neg (by omega)]
      unfold kas_tail3
      rw [run_bind]
      have P' := pm_rev P (m := m') (by omega)
      have S' := srt_rev P (m := m') (by omega) h
      obtain ⟨a', b', c', _⟩ := asc_ok O P' (n - m') m' (by omega) (by omega) S'
      exact ⟨_, _, rfl, P', by omega, by omega, c'⟩
theorem place_ok {p : Array Nat} (P : Pm n p) {k : Nat} (hk : k < n) (S : Srt T p k) : ∀ (f l r : Nat), l ≤ r → r ≤ k → r - l ≤ f →
    (∀ a, a < l → T (p.getD a 0) (p.getD k 0) = true) → (∀ a, r ≤ a → a < k → T (p.getD k 0) (p.getD a 0) = true) →
    run T (kas_place p k f l r) ≤ k ∧ (∀ a, a < run T (kas_place p k f l r) → T (p.getD a 0) (p.getD k 0) = true) ∧ (∀ a, run T (kas_place p k f l r) ≤ a → a < k → T (p.getD k 0) (p.getD a 0) = true)
  | 0, l, r, h1, h2, h3, A, B => by
    have e : l = r := by omega
    subst e
    exact ⟨h2, A, B⟩
  | f + 1, l, r, h1, h2, h3, A, B => by
    unfold kas_place
    by_cases hc : l ≥ r
    · rw [if_pos hc]
      have e : l = r := by omega
      subst e
      exact ⟨h2, A, B⟩
    · rw [if_neg hc]
      show run T (if T (p.getD k 0) (p.getD ((l + r) / 2) 0) = true then kas_place p k f l ((l + r) / 2) else kas_place p k f ((l + r) / 2 + 1) r) ≤ k ∧ (∀ a, a < run T (if T (p.getD k 0) (p.getD ((l + r) / 2) 0) = true then kas_place p k f l ((l + r) / 2) else kas_place p k f ((l + r) / 2 + 1) r) → _) ∧ (∀ a, run T (if T (p.getD k 0) (p.getD ((l + r) / 2) 0) = true then kas_place p k f l ((l + r) / 2) else kas_place p k f ((l + r) / 2 + 1) r) ≤ a → _)
      by_cases hd : T (p.getD k 0) (p.getD ((l + r) / 2) 0) = true
      · rw [if_pos hd]
        refine place_ok P hk S f l ((l + r) / 2) (by omega) (by omega) (by omega) A fun a ha hak => ?_
        rcases Nat.lt_or_ge a r with g | g
        · rcases Nat.eq_or_lt_of_le ha with q | q
          · rw [← q]; exact hd
          · exact O.tr _ _ _ hd (S _ a q hak)
        · exact B a g hak
      · rw [if_neg hd]
        have hd' := tot' O P (i := k) (j := (l + r) / 2) hk (by omega) (by omega) hd
        refine place_ok P hk S f ((l + r) / 2 + 1) r (by omega) h2 (by omega) (fun a ha => ?_) B
        rcases Nat.lt_or_ge a ((l + r) / 2) with g | g
        · exact O.tr _ _ _ (S a _ g (by omega)) hd'
        · have : a = (l + r) / 2 := by omega
          subst this; exact hd'
end
theorem getD_bubble {p : Array Nat} {src d : Nat} (hs : src < p.size) (hd : d ≤ src) (k : Nat) : (bubble p src d).getD k 0 = if k = src - d then p.getD src 0 else if src - d < k ∧ k ≤ src then p.getD (k - 1) 0 else p.getD k 0 := by
  have h := getElem?_bubble hs d hd k
  have e : ∀ (xs : Array Nat) (k : Nat), xs.getD k 0 = (xs[k]?).getD 0 := fun xs k => by simp [Array.getD_eq_getD_getElem?]
  rw [e, h]
  by_cases h1 : k = src - d
  · rw [if_pos h1, if_pos h1, e]
  · rw [if_neg h1, if_neg h1]
    by_cases h2 : src - d < k ∧ k ≤ src
    · rw [if_pos h2, if_pos h2, e]
    · rw [if_neg h2, if_neg h2, e]
def bix (src d k : Nat) : Nat := if k = src - d then src else if src - d < k ∧ k ≤ src then k - 1 else k
theorem getD_bix {p : Array Nat} {src d : Nat} (hs : src < p.size) (hd : d ≤ src) (k : Nat) : (bubble p src d).getD k 0 = p.getD (bix src d k) 0 := by
  rw [getD_bubble hs hd]
  unfold bix
  by_cases h1 : k = src - d
  · rw [if_pos h1, if_pos h1]
  · rw [if_neg h1, if_neg h1]
    by_cases h2 : src - d < k ∧ k ≤ src
    · rw [if_pos h2, if_pos h2]
    · rw [if_neg h2, if_neg h2]
theorem bix_lt {n src d k : Nat} (hs : src < n) (hk : k < n) : bix src d k < n := by
  unfold bix; repeat' split
  all_goals omega
theorem bix_inj {src d i j : Nat} (hd : d ≤ src) (e : bix src d i = bix src d j) : i = j := by
  unfold bix at e
  repeat' split at e
  all_goals omega
theorem pm_bubble {n : Nat} {p : Array Nat} (P : Pm n p) {src d : Nat} (hs : src < n) (hd : d ≤ src) : Pm n (bubble p src d) := by
  have hs' : src < p.size := by rw [P.size]; exact hs
  refine ⟨by rw [← P.size]; exact bubble_size _ _ _, fun i hi => ?_, fun i j hi hj e => ?_⟩
  · rw [getD_bix hs' hd]; exact P.lt _ (bix_lt hs hi)
  · rw [getD_bix hs' hd, getD_bix hs' hd] at e
    exact bix_inj hd (P.inj _ _ (bix_lt hs hi) (bix_lt hs hj) e)
section
variable {n : Nat} {T : Nat → Nat → Bool} (O : Ord n T)
include O
theorem bin_ok : ∀ (f : Nat) (p : Array Nat) (k : Nat), Pm n p → 1 ≤ k → k + f = n → Srt T p k → Pm n (run T (kas_bin f p k)) ∧ Srt T (run T (kas_bin f p k)) n
  | 0, p, k, P, _, h, S => by
    have e : k = n := by omega
    subst e; exact ⟨P, S⟩
  | f + 1, p, k, P, h1, h, S => by
    unfold kas_bin
    rw [run_bind]
    obtain ⟨a, b, c⟩ := place_ok O P (k := k) (by omega) S k 0 k (Nat.zero_le _) (Nat.le_refl _) (by omega) (fun a ha => absurd ha (Nat.not_lt_zero _)) (fun a ha hk => by omega)
    generalize run T (kas_place p k k 0 k) = l at a b c
    have hs : k < p.size := by rw [P.size]; omega
    refine bin_ok f _ (k + 1) (pm_bubble P (by omega) (by omega)) (by omega) (by omega) fun x y hxy hy => ?_
    have ekl : k - (k - l) = l := by omega
    rw [getD_bubble hs (by omega), getD_bubble hs (by omega), ekl]
    by_cases hx : x = l
    · rw [if_pos hx, if_neg (by omega), if_pos ⟨by omega, by omega⟩]
      exact c (y - 1) (by omega) (by omega)
    · rw [if_neg hx]
      by_cases hy' : y = l
      · rw [if_pos hy', if_neg (by omega)]
        exact b x (by omega)
      · rw [if_neg hy']
        by_cases h2 : l < x ∧ x ≤ k
        · rw [if_pos h2, if_pos ⟨by omega, by omega⟩]
          exact S (x - 1) (y - 1) (by omega) (by omega)
        · rw [if_neg h2]
          by_cases h3 : l < y ∧ y ≤ k
          · rw [if_pos h3]
            rcases Nat.lt_or_ge x (y - 1) with g | g
            · exact S x (y - 1) g (by omega)
            · omega
          · rw [if_neg h3]; exact S x y hxy (by omega)
theorem sort_ok (h1 : 1 ≤ n) : Pm n (run T (kas_sort n)) ∧ Srt T (run T (kas_sort n)) n := by
  unfold kas_sort
  rw [run_bind]
  obtain ⟨m, p', e, P, a, b, c⟩ := count_ok O (Pm.start n) h1
  rw [e]
  dsimp only
  by_cases hm : m < n
  · rw [if_pos hm]
    have hx : max m 1 = m := by omega
    rw [hx]
    exact bin_ok O (n - m) p' m P a (by omega) c
  · rw [if_neg hm]
    have : m = n := by omega
    subst this
    exact ⟨P, c⟩
end
end SortM
set_option linter.all false
set_option maxRecDepth 100000
set_option maxHeartbeats 4000000
namespace SortM
open PySem PySem.W PyProof.Rows
def AskP {α : Type} (n : Nat) (R : α → Prop) : KasT α → Prop
  | .ret a => R a
  | .ask i j k => i < n ∧ j < n ∧ ∀ b, AskP n R (k b)
theorem AskP.bind {α β : Type} {n : Nat} {R : α → Prop} {S : β → Prop} {f : α → KasT β} : ∀ {t : KasT α}, AskP n R t → (∀ a, R a → AskP n S (f a)) → AskP n S (t.bind f)
  | .ret a, h, g => g a h
  | .ask i j k, h, g => ⟨h.1, h.2.1, fun b => AskP.bind (h.2.2 b) g⟩
def Sm (n : Nat) (p : Array Nat) : Prop := p.Perm (List.range n).toArray
theorem Sm.lt {n : Nat} {p : Array Nat} (h1 : 1 ≤ n) (P : Sm n p) (i : Nat) : p.getD i 0 < n := by
  by_cases hi : i < p.size
  · have e : p.getD i 0 = p[i] := by simp [Array.getD, hi]
    rw [e]
    have : p[i] ∈ (List.range n).toArray := P.mem_iff.mp (Array.getElem_mem hi)
    simpa using this
  · have e : p.getD i 0 = 0 := by simp [Array.getD, hi]
    rw [e]; exact h1
theorem Sm.rev {n : Nat} {p : Array Nat} (P : Sm n p) (i j : Nat) : Sm n (kas_rev p i j) := (mirror_perm _ _ _ _).trans P
section
variable {n : Nat} (h1 : 1 ≤ n)
include h1
theorem asc_ask {p : Array Nat} (P : Sm n p) : ∀ f m, AskP n (fun _ => True) (kas_asc p f m)
  | 0, _ => trivial
  | f + 1, m => ⟨P.lt h1 _, P.lt h1 _, fun b => by
    cases b with
    | true => exact trivial
    | false => exact asc_ask P f (m + 1)⟩
theorem desc_ask : ∀ f {p : Array Nat} (m q : Nat), Sm n p → AskP n (fun r : Array Nat × Nat × Nat => Sm n r.1) (kas_desc f p m q)
  | 0, _, _, _, P => P
  | f + 1, p, m, q, P => ⟨P.lt h1 _, P.lt h1 _, fun b => by
    cases b with
    | true =>
      show AskP n _ (if q > 0 then kas_desc f (kas_rev p (m - (q + 1)) m) (m + 1) 0 else kas_desc f p (m + 1) 0)
      by_cases hq : q > 0
      · rw [if_pos hq]; exact desc_ask f _ _ (P.rev _ _)
      · rw [if_neg hq]; exact desc_ask f _ _ P
    | false =>
      refine ⟨P.lt h1 _, P.lt h1 _, fun b => ?_⟩
      cases b with
      | true => exact P
      | false => exact desc_ask f _ _ P⟩
theorem tail3_ask {p : Array Nat} (m k : Nat) (P : Sm n p) : AskP n (fun r : Nat × Array Nat => Sm n r.2) (kas_tail3 m k p) :=
  (asc_ask h1 (P.rev _ _) _ _).bind fun _ _ => P.rev _ _
theorem descPart_ask {p : Array Nat} (m k : Nat) (P : Sm n p) : AskP n (fun r : Nat × Array Nat => Sm n r.2) (kas_descPart m k p) := by
  refine (desc_ask h1 _ _ _ P).bind fun r R => ?_
  by_cases hq : r.2.2 > 0
  · rw [if_pos hq]; exact tail3_ask h1 _ _ (R.rev _ _)
  · rw [if_neg hq]; exact tail3_ask h1 _ _ R
theorem count_ask {p : Array Nat} (k : Nat) (P : Sm n p) : AskP n (fun r : Nat × Array Nat => Sm n r.2) (kas_count k p) := by
  refine (asc_ask h1 P _ _).bind fun m _ => ?_
  by_cases ha : (m == k) = true
  · rw [if_pos ha]; exact P
  · rw [if_neg ha]
    by_cases hb : m > 1
    · rw [if_pos hb]
      refine ⟨P.lt h1 _, P.lt h1 _, fun b => ?_⟩
      cases b with
      | true => exact P
      | false => exact descPart_ask h1 _ _ (P.rev _ _)
    · rw [if_neg hb]; exact descPart_ask h1 _ _ P
theorem place_ask {p : Array Nat} (k : Nat) (P : Sm n p) : ∀ f l r, AskP n (fun _ => True) (kas_place p k f l r)
  | 0, _, _ => trivial
  | f + 1, l, r => by
    unfold kas_place
    by_cases h : l ≥ r
    · rw [if_pos h]; exact trivial
    · rw [if_neg h]
      refine ⟨P.lt h1 _, P.lt h1 _, fun b => ?_⟩
      cases b with
      | true => exact place_ask k P f _ _
      | false => exact place_ask k P f _ _
theorem bin_ask : ∀ f {p : Array Nat} (k : Nat), Sm n p → AskP n (Sm n) (kas_bin f p k)
  | 0, _, _, P => P
  | f + 1, _, k, P => (place_ask h1 k P _ _ _).bind fun _ _ => bin_ask f _ ((bubble_perm _ _ _).trans P)
theorem sort_ask : AskP n (Sm n) (kas_sort n) := by
  refine (count_ask h1 n (Array.Perm.refl _)).bind fun r R => ?_
  by_cases h : r.1 < n
  · rw [if_pos h]; exact bin_ask h1 _ _ R
  · rw [if_neg h]; exact R
end
theorem kasWp_run {α : Type} {n : Nat} {R : α → Prop} {T : Nat → Nat → Bool} {cmp : Nat → Nat → (Bool → Shared → Prop) → Shared → Prop} {s : Shared} (hc : ∀ i j C, i < n → j < n → C (T i j) s → cmp i j C s) {Q : α → Shared → Prop} :
    ∀ t : KasT α, AskP n R t → (R (run T t) → Q (run T t) s) → t.kasWp cmp Q s
  | .ret a, h, q => q h
  | .ask i j k, h, q => hc i j _ h.1 h.2.1 (kasWp_run hc (k (T i j)) (h.2.2 _) q)

open Hull
def SpotAt (h : Heap) (v : Value) (p : P) : Prop := ∃ a o t u n, v = .ref a ∧ h.get? a = some o ∧ o.cls = .type "tuple" ∧ o.data = .seq #[.int p.1 t, .int p.2 u] n
inductive Spots (h : Heap) : List Value → List P → Prop
  | nil : Spots h [] []
  | cons {v p vs ps} : SpotAt h v p → Spots h vs ps → Spots h (v :: vs) (p :: ps)
theorem Spots.length {h : Heap} {vs : List Value} {ps : List P} (S : Spots h vs ps) : vs.length = ps.length := by
  induction S with
  | nil => rfl
  | cons _ _ ih => rw [List.length_cons, List.length_cons, ih]
theorem Spots.get {h : Heap} {vs : List Value} {ps : List P} (S : Spots h vs ps) : ∀ i, i < vs.length → SpotAt h (vs.getD i .none) (ps.getD i (0, 0)) := by
  induction S with
  | nil => intro i hi; simp at hi
  | cons a _ ih =>
    intro i hi
    cases i with
    | zero => exact a
    | succ i => exact ih i (by simpa using hi)
theorem SpotAt.kept {h h' : Heap} {v : Value} {p : P} (k : ∀ a o, o.cls = .type "tuple" → h.get? a = some o → h'.get? a = some o) (S : SpotAt h v p) : SpotAt h' v p := by
  obtain ⟨a, o, t, u, n, e, ho, hc, hd⟩ := S
  exact ⟨a, o, t, u, n, e, k a o hc ho, hc, hd⟩
theorem Spots.kept {h h' : Heap} {vs : List Value} {ps : List P} (k : ∀ a o, o.cls = .type "tuple" → h.get? a = some o → h'.get? a = some o) (S : Spots h vs ps) : Spots h' vs ps := by
  induction S with
  | nil => exact .nil
  | cons a _ ih => exact .cons (a.kept k) ih
theorem Spots.firsts {h : Heap} {vs : List Value} {ps : List P} (S : Spots h vs ps) : ∃ fs, KatTups h vs fs ∧ fs.length = vs.length ∧ ∀ v ∈ fs, ∃ i t, v = .int i t := by
  induction S with
  | nil => exact ⟨[], trivial, rfl, fun _ h => nomatch h⟩
  | cons a _ ih =>
    obtain ⟨fs, k, l, q⟩ := ih
    obtain ⟨a, o, t, u, n, rfl, ho, hc, hd⟩ := a
    refine ⟨_ :: fs, KatTups.cons ho hc hd rfl k, by rw [List.length_cons, List.length_cons, l], fun v hv => ?_⟩
    rcases List.mem_cons.mp hv with rfl | hv
    · exact ⟨_, _, rfl⟩
    · exact q v hv
def ltb (p q : P) : Bool := decide (lt p q)
section
variable {prog : Program} {w : World} {A : Around} {E : Value → Shared → Prop} {s : Shared}
theorem spot_lt {x y : Value} {p q : P} {Q : Bool → Shared → Prop} (hx : SpotAt s.heap x p) (hy : SpotAt s.heap y q) (h : Q (ltb p q) s) : wpAny (model prog w) A (keyLt' (tuples' true) x y) Q E s := by
  obtain ⟨a, o, t, u, n, rfl, ho, hc, hd⟩ := hx
  obtain ⟨a', o', t', u', n', rfl, ho', hc', hd'⟩ := hy
  refine kat_lt ho hd ho' hd' (kat_cons (wpAny_eqBool_int ?_))
  refine kat_go (fun e => kat_yes (kat_cons (wpAny_eqBool_int (kat_go (fun e2 => kat_yes (kat_nil ?_)) fun e2 => kat_no ?_)))) fun e => kat_no ?_
  · have e1 : p.1 = q.1 := by simpa using e
    have e3 : p.2 = q.2 := by simpa using e2
    have : ltb p q = false := decide_eq_false (by unfold lt; omega)
    rw [this] at h
    exact h
  · have e1 : p.1 = q.1 := by simpa using e
    have e3 : p.2 ≠ q.2 := by simpa using e2
    have : ltb p q = decide (p.2 < q.2) := decide_eq_decide.mpr (by unfold lt; omega)
    rw [this] at h
    exact kat_one _ _ (PyProof.Rows.lt_int h)
  · have e1 : p.1 ≠ q.1 := by simpa using e
    have : ltb p q = decide (p.1 < q.1) := decide_eq_decide.mpr (by unfold lt; omega)
    rw [this] at h
    exact oneLt_int h
def atIx (ps : List P) (ix : List Nat) : List P := ix.map fun i => ps.getD i (0, 0)
def valIx (vs : List Value) (ix : List Nat) : List Value := ix.map fun i => vs.getD i .none
theorem ord_of {ps : List P} (hnd : ps.Nodup) : Ord ps.length fun i j => ltb (ps.getD i (0, 0)) (ps.getD j (0, 0)) := by
  refine ⟨fun i => by unfold ltb; exact decide_eq_false lt_irrefl, fun i j k h g => ?_, fun i j hi hj hij => ?_⟩
  · unfold ltb at *
    exact decide_eq_true (lt_trans (of_decide_eq_true h) (of_decide_eq_true g))
  · unfold ltb
    have ei : ps.getD i (0, 0) = ps[i] := by simp [hi]
    have ej : ps.getD j (0, 0) = ps[j] := by simp [hj]
    rw [ei, ej]
    rcases lt_tri ps[i] ps[j] with g | g | g
    · exact .inl (decide_eq_true g)
    · exact absurd ((List.getElem_inj hnd).mp g) hij
    · exact .inr (decide_eq_true g)
theorem valIx_range (vs : List Value) : valIx vs (List.range vs.length) = vs := by
  apply List.ext_getElem
  · simp [valIx]
  · intro i h1 h2
    simp [valIx, h2]
theorem list_sort_spots {a : Addr} {vs : List Value} {ps : List P} {n : Nat} {P' : PySem.Fin → Shared → Prop} (ho : s.heap.get? a = some (seqObj "list" vs.toArray n))
    (hS : Spots s.heap vs ps) (hnd : ps.Nodup) (h64 : vs.length < 64)
    (h : ∀ ix : List Nat, ix.Perm (List.range vs.length) → (atIx ps ix).Pairwise lt → P' (.done (.ret .none)) { s with heap := sortedHeap s.heap a vs (valIx vs ix).toArray }) :
    wpAny (model prog w) A (Builtin.«list.sort» ⟨[.ref a], []⟩) P' E s := by
  rw [list_sort_plain]
  have ha : a < s.heap.objs.size := Heap.lt_size ho
  refine wpAny_bind (listItems_at ho rfl ?_)
  refine wpAny_bind (listUpdate_at ho rfl ?_ (by rw [List.size_toArray, sizeLine_eq]; omega) (Nat.zero_le _))
  obtain ⟨e1, ho1⟩ : ∃ e1, (s.heap.update a (Obj.mapSeq fun _ => (#[] : Array Value))).get? a = some (seqObj "list" #[] e1) := ⟨_, get?_update_seq ho (fun _ => #[])⟩
  refine wpAny_bind (seqEpoch_at ho1 rfl ?_)
  refine wpAny_bind (wpAny_newTuple ?_ (by show vs.length ≤ _; rw [sizeLine_eq]; omega))
  refine wpAny_bind (wpAny_newList ?_ (Nat.zero_le _))
  refine wpAny_holding ?_
  have ho6 : (((s.heap.update a (Obj.mapSeq fun _ => (#[] : Array Value))).push (seqObj "tuple" vs.toArray 0)).push (seqObj "list" #[] 0)).get? a = some (seqObj "list" #[] e1) := by
    rw [Heap.get?_push_ne _ _ _ (by rw [size_push', Heap.size_update]; exact Nat.ne_of_lt (Nat.lt_succ_of_lt ha)), Heap.get?_push_ne _ _ _ (by rw [Heap.size_update]; exact Nat.ne_of_lt ha)]
    exact ho1
  have keep : ∀ b o, o.cls = .type "tuple" → s.heap.get? b = some o → (((s.heap.update a (Obj.mapSeq fun _ => (#[] : Array Value))).push (seqObj "tuple" vs.toArray 0)).push (seqObj "list" #[] 0)).get? b = some o := fun b o hc e => by
    have hne : b ≠ a := by
      rintro rfl
      rw [ho] at e; cases e
      have hc' : Value.type "list" = Value.type "tuple" := hc
      exact absurd hc' (by decide)
    refine Heap.get?_push_of_some _ (Heap.get?_push_of_some _ ?_)
    rw [Heap.get?_update_ne _ _ _ _ hne]; exact e
  have hS' := hS.kept keep
  show wpAny (model prog w) A _ P' E { s with heap := ((s.heap.update a (Obj.mapSeq fun _ => #[])).push (seqObj "tuple" vs.toArray 0)).push (seqObj "list" #[] 0) }
  dsimp only
  have hsz : vs.toArray.size = vs.length := by simp
  by_cases h2 : vs.toArray.size < 2
  · rw [if_pos h2, if_pos h2]
    refine wpAny_bind (wpAny_pure ?_)
    rw [StateT.run_pure]
    refine wpAny_bind (wpAny_pure ?_)
    dsimp only
    have hout : (arrOf (SortSt.mk' general' (vs.toArray.zip vs.toArray) #[] 7 none)).map (·.2) = (valIx vs (List.range vs.length)).toArray := by
      rw [valIx_range]
      show (vs.toArray.zip vs.toArray).map (·.2) = vs.toArray
      apply Array.ext_getElem?
      intro i
      rw [Array.getElem?_map]
      by_cases hi : i < vs.length
      · simp [hi]
      · simp [hi]
    rw [hout]
    refine wpAny_bind (seqEpoch_at ho6 rfl ?_)
    refine wpAny_bind (listUpdate_at ho6 rfl ?_ (Nat.zero_le _) (by rw [valIx_range, List.size_toArray, sizeLine_eq]; omega))
    simp only [bne_self_eq_false, Bool.false_eq_true, if_false]
    refine wpAny_pure (h (List.range vs.length) (List.Perm.refl _) ?_)
    have hp : (atIx ps (List.range vs.length)).length ≤ 1 := by unfold atIx; rw [List.length_map, List.length_range]; omega
    match atIx ps (List.range vs.length), hp with
    | [], _ => exact .nil
    | [_], _ => exact List.pairwise_singleton _ _
    | _ :: _ :: _, q => simp at q
  · rw [if_neg h2, if_neg h2]
    obtain ⟨fs, kt, lf, hf⟩ := hS'.firsts
    have hl := hS.length
    refine wpAny_bind (kat_kind (T := .type "int") kt (by omega) (fun v hv => ?_) (by rfl) ?_)
    · obtain ⟨i, t, rfl⟩ := hf v hv
      exact Looks.now
    have hb : (Value.type "int" != Value.type "tuple") = true := by decide
    rw [hb]
    refine wpAny_bind (wpAny_mono (kat_run (ks := vs) (vs := vs) (Q := fun st' s' => ∃ p : Array Nat, p.size = vs.length ∧ arrOf st' = p.map (kas_item (vs.toArray.zip vs.toArray)) ∧ failedOf st' = none ∧ s' = { s with heap := ((s.heap.update a (Obj.mapSeq fun _ => #[])).push (seqObj "tuple" vs.toArray 0)).push (seqObj "list" #[] 0) } ∧ Sm vs.length p ∧ (atIx ps p.toList).Pairwise lt)
      rfl (by omega) h64 (G := fun p s' => s' = { s with heap := ((s.heap.update a (Obj.mapSeq fun _ => #[])).push (seqObj "tuple" vs.toArray 0)).push (seqObj "list" #[] 0) } ∧ Sm vs.length p ∧ (atIx ps p.toList).Pairwise lt)
      (fun p' st' s' a1 a2 a3 a4 => ⟨p', a1, a2, a3, a4⟩) ?_) ?_ fun _ _ e => e)
    · refine kasWp_run (n := vs.length) (T := fun i j => ltb (ps.getD i (0, 0)) (ps.getD j (0, 0))) (fun i j C hi hj hC => spot_lt (hS'.get i hi) (hS'.get j hj) hC) _ (sort_ask (by omega)) fun R => ⟨rfl, R, ?_⟩
      have O := ord_of hnd
      rw [← hl] at O
      have so := (sort_ok O (by omega)).2
      have hps : (run (fun i j => ltb (ps.getD i (0, 0)) (ps.getD j (0, 0))) (kas_sort vs.length)).size = vs.length := by rw [R.size_eq]; simp
      rw [List.pairwise_iff_getElem]
      intro i j hi hj hij
      unfold atIx at hi hj ⊢
      rw [List.length_map, Array.length_toList] at hi hj
      have := so i j hij (by omega)
      have e : ∀ k (hk : k < (run (fun i j => ltb (ps.getD i (0, 0)) (ps.getD j (0, 0))) (kas_sort vs.length)).size), (run (fun i j => ltb (ps.getD i (0, 0)) (ps.getD j (0, 0))) (kas_sort vs.length)).getD k 0 = (run (fun i j => ltb (ps.getD i (0, 0)) (ps.getD j (0, 0))) (kas_sort vs.length))[k] := fun k hk => by simp only [Array.getD, hk, dif_pos]; rfl
      rw [e i hi, e j hj] at this
      rw [List.getElem_map, List.getElem_map, Array.getElem_toList, Array.getElem_toList]
      exact of_decide_eq_true this
    rintro ⟨⟨⟩, st'⟩ s' ⟨p, hp, har, hf', rfl, hsm, hpw⟩
    dsimp only
    have hout := kat_snds (ks := vs) (vs := vs) rfl har
    rw [hout]
    refine wpAny_bind (seqEpoch_at ho6 rfl ?_)
    refine wpAny_bind (listUpdate_at ho6 rfl ?_ (Nat.zero_le _) (by rw [List.size_toArray, List.length_map, Array.length_toList, hp, sizeLine_eq]; omega))
    rw [hf']
    simp only [bne_self_eq_false, Bool.false_eq_true, if_false]
    exact wpAny_pure (h p.toList (by simpa using hsm.toList) hpw)
end
end SortM
set_option linter.all false
set_option maxRecDepth 100000
set_option maxHeartbeats 4000000
namespace SetX
open PySem PySem.W PyProof.Rows Hull SortM SetM
section
variable {prog : Program} {w : World} {A : Around} {E : Value → Shared → Prop} {s : Shared}
def hashP (prog : Program) (w : World) (p : P) : Int := tupleKeyHash (intKind prog w) [p.1, p.2]
theorem tkey {h : Heap} {a : Addr} {p : P} (S : SpotAt h (.ref a) p) : IsTupleKey (intKind prog w) h [p.1, p.2] a := by
  obtain ⟨b, o, t, u, n, e, ho, hc, hd⟩ := S
  cases e
  exact ⟨o, _, n, ho, hc, hd, .cons (intKind_is _ _ _ _) (.cons (intKind_is _ _ _ _) .nil)⟩
theorem SpotAt.ref {h : Heap} {v : Value} {p : P} (S : SpotAt h v p) : ∃ a, v = .ref a := by
  obtain ⟨a, _, _, _, _, e, _⟩ := S; exact ⟨a, e⟩
theorem SpotAt.typeIs {v : Value} {p : P} (S : SpotAt s.heap v p) : s.TypeIs v "tuple" := by
  obtain ⟨a, o, _, _, _, rfl, ho, hc, _⟩ := S; exact ⟨o, ho, hc⟩
theorem spot_hash {v : Value} {p : P} {Q : Int → Shared → Prop} (hu : A.units < cLine) (S : SpotAt s.heap v p) (h : Q (hashP prog w p) { s with toks := s.toks + 3 }) : wpAny (model prog w) A (pyHash v) Q E s := by
  obtain ⟨a, rfl⟩ := SpotAt.ref S
  exact wpAny_pyHash_tuple hu (tkey S) h
theorem spot_eq {v u : Value} {p q : P} {Q : Bool → Shared → Prop} (hu : A.units < cLine) (S : SpotAt s.heap v p) (T : SpotAt s.heap u q) (h : Q (decide (p = q)) s) : wpAny (model prog w) A (eqBool v u) Q E s := by
  obtain ⟨a, rfl⟩ := SpotAt.ref S
  obtain ⟨b, rfl⟩ := SpotAt.ref T
  refine wpAny_eqBool_tuple hu (tkey S) (tkey T) ?_
  have : decide ([p.1, p.2] = [q.1, q.2]) = decide (p = q) := by
    refine decide_eq_decide.mpr ⟨fun e => ?_, fun e => by rw [e]⟩
    simp only [List.cons.injEq, and_true] at e
    exact Prod.ext e.1 e.2
  rw [this]; exact h
theorem spot_quiet {v : Value} {p : P} {Q : Bool → Shared → Prop} (S : SpotAt s.heap v p) (h : Q true s) : wpAny (model prog w) A (eqIsQuiet 8 v) Q E s := by
  obtain ⟨a, rfl⟩ := SpotAt.ref S
  exact wpAny_eqIsQuiet_tuple (tkey (prog := prog) (w := w) S) h
theorem spot_class {v : Value} {p : P} {Q : Bool → Shared → Prop} (S : SpotAt s.heap v p) (h : Q false s) : wpAny (model prog w) A (ofAClassStatement 8 v) Q E s := by
  have hT := SpotAt.typeIs S
  obtain ⟨a, o, t, u, n, rfl, ho, hc, hd⟩ := S
  unfold ofAClassStatement
  refine wpAny_bind (wpAny_typeOf hT ?_)
  dsimp only
  have e : (("tuple" : String) == "tuple") = true := by decide
  rw [if_pos e]
  refine wpAny_bind (wpAny_pure ?_)
  simp only [Bool.not_true, Bool.false_eq_true, if_false]
  refine wpAny_bind (wpAny_seqItems ho hd ?_)
  dsimp only
  refine wpAny_bind ?_
  rw [← Array.forIn_toList]
  refine wpAny_forIn_list _ (fun rest r s' => r.1 = none ∧ s' = s ∧ ∀ v ∈ rest, ∃ i t, v = .int i t) _ ?_ ?_ _ _ ⟨rfl, rfl, fun v hv => ?_⟩
  · rintro v rest r s' ⟨hr, rfl, hall⟩
    obtain ⟨i, t, rfl⟩ := hall v (.head _)
    refine wpAny_bind (wpAny_pure ?_)
    simp only [Bool.false_eq_true, if_false]
    exact wpAny_pure ⟨rfl, rfl, fun u hu' => hall u (List.mem_cons_of_mem _ hu')⟩
  · rintro ⟨r1, r2⟩ s' ⟨hr, rfl, _⟩
    simp only at hr
    subst hr
    exact wpAny_pure h
  · simp at hv
    rcases hv with rfl | rfl
    · exact ⟨_, _, rfl⟩
    · exact ⟨_, _, rfl⟩
theorem spot_byValue {v : Value} {p : P} {Q : Bool → Shared → Prop} (S : SpotAt s.heap v p) (h : Q true s) : wpAny (model prog w) A (hashByValue 8 v) Q E s := by
  have hT := SpotAt.typeIs S
  obtain ⟨a, o, t, u, n, rfl, ho, hc, hd⟩ := S
  unfold hashByValue
  refine wpAny_bind (wpAny_specialOf hT F.slot_tuple_hash.lookup ?_)
  dsimp only
  refine wpAny_bind (wpAny_seqItems ho hd ?_)
  dsimp only [Option.getD]
  refine wpAny_bind ?_
  rw [← Array.forIn_toList]
  refine wpAny_forIn_list _ (fun rest r s' => r.1 = none ∧ s' = s ∧ ∀ v ∈ rest, ∃ i t, v = .int i t) _ ?_ ?_ _ _ ⟨rfl, rfl, fun v hv => ?_⟩
  · rintro v rest r s' ⟨hr, rfl, hall⟩
    obtain ⟨i, t, rfl⟩ := hall v (.head _)
    refine wpAny_bind (wpAny_pure ?_)
    simp only [Bool.not_true, Bool.false_eq_true, if_false]
    exact wpAny_pure ⟨rfl, rfl, fun u hu' => hall u (List.mem_cons_of_mem _ hu')⟩
  · rintro ⟨r1, r2⟩ s' ⟨hr, rfl, _⟩
    simp only at hr
    subst hr
    exact wpAny_pure h
  · simp at hv
    rcases hv with rfl | rfl
    · exact ⟨_, _, rfl⟩
    · exact ⟨_, _, rfl⟩
theorem spot_unseen {v : Value} {p : P} {Q : Bool → Shared → Prop} (S : SpotAt s.heap v p) : ∀ {l : List Value}, (∀ y ∈ l, ∃ q, SpotAt s.heap y q) → Q false s → wpAny (model prog w) A (searchCouldBeSeen v l) Q E s := by
  intro l hl h
  unfold searchCouldBeSeen
  refine wpAny_bind ?_
  refine wpAny_forIn_list _ (fun rest r s' => r.1 = none ∧ s' = s ∧ ∀ v ∈ rest, ∃ q, SpotAt s.heap v q) _ ?_ ?_ _ _ ⟨rfl, rfl, hl⟩
  · rintro y rest r s' ⟨hr, rfl, hall⟩
    obtain ⟨q, T⟩ := hall y (.head _)
    obtain ⟨a, rfl⟩ := SpotAt.ref S
    obtain ⟨b, rfl⟩ := SpotAt.ref T
    dsimp only
    split
    · exact wpAny_pure ⟨rfl, rfl, fun u hu' => hall u (List.mem_cons_of_mem _ hu')⟩
    · refine wpAny_bind (spot_quiet S ?_)
      simp only [Bool.not_true, Bool.false_eq_true, if_false]
      refine wpAny_bind (spot_quiet T ?_)
      simp only [Bool.not_true, Bool.false_eq_true, if_false]
      refine wpAny_bind (spot_class S ?_)
      simp only [Bool.false_eq_true, if_false]
      refine wpAny_bind (spot_class T ?_)
      simp only [Bool.false_eq_true, if_false]
      exact wpAny_pure ⟨rfl, rfl, fun u hu' => hall u (List.mem_cons_of_mem _ hu')⟩
  · rintro ⟨r1, r2⟩ s' ⟨hr, rfl, _⟩
    simp only at hr
    subst hr
    exact wpAny_pure h
end
end SetX
set_option linter.all false
set_option maxRecDepth 100000
set_option maxHeartbeats 4000000
namespace SetX
open PySem PySem.W PyProof.Rows Hull SortM SetM
abbrev VP := Value × P
def ent (prog : Program) (w : World) (z : VP) : Int × Value := (hashP prog w z.2, z.1)
theorem perm_map_inv {α β : Type} {f : α → β} {l₁ l₂ : List β} (h : l₁.Perm l₂) : ∀ L : List α, l₂ = L.map f → ∃ L' : List α, L'.Perm L ∧ l₁ = L'.map f := by
  induction h with
  | nil =>
    intro L e
    exact ⟨L, .refl _, e⟩
  | cons x _ ih =>
    intro L e
    cases L with
    | nil => cases e
    | cons a L =>
      rw [List.map_cons] at e
      injection e with e1 e2
      obtain ⟨L', p, q⟩ := ih L e2
      exact ⟨a :: L', p.cons a, by rw [List.map_cons, e1, q]⟩
  | swap x y l =>
    intro L e
    match L, e with
    | a :: b :: L, e =>
      rw [List.map_cons, List.map_cons] at e
      injection e with e1 e2
      injection e2 with e2 e3
      exact ⟨b :: a :: L, List.Perm.swap a b L, by rw [List.map_cons, List.map_cons, e1, e2, e3]⟩
  | trans _ _ ih1 ih2 =>
    intro L e
    obtain ⟨L2, p2, q2⟩ := ih2 L e
    obtain ⟨L1, p1, q1⟩ := ih1 L2 q2
    exact ⟨L1, p1.trans p2, q1⟩
section
variable {prog : Program} {w : World} {A : Around} {E : Value → Shared → Prop} {s : Shared}
theorem search_ok {a : Addr} {o : Obj} {es : Array (Int × Value)} {ep : Nat} {t : SetTable} {Z : List (Nat × (Int × Value))} {L : List VP} {x : Value} {p : P} {Q : SetFound → Shared → Prop} {kf : Nat}
    (hu : A.units < cLine) (ho : s.heap.get? a = some o) (hd : o.data = .set es ep t) (T : TOk t es.toList Z) (he : es.toList = L.map (ent prog w)) (hL : ∀ z ∈ L, SpotAt s.heap z.1 z.2) (S : SpotAt s.heap x p)
    (k1 : kf < 10 * SetTable.turns t.mask) (k2 : ¬ Occ t (path t.mask (hashP prog w p) kf).j) (k3 : ∀ k', k' < kf → Occ t (path t.mask (hashP prog w p) k').j)
    (q1 : p ∈ L.map (·.2) → Q (.there none) s) (q2 : p ∉ L.map (·.2) → Q (.free (path t.mask (hashP prog w p) kf).j false) s) :
    ∀ (n k0 fuel : Nat) (stand : Option SetTable.Probe), kf - k0 = n → k0 ≤ kf → n < fuel → stand.getD (t.probeStart (hashP prog w p)) = path t.mask (hashP prog w p) k0 →
      (∀ k, k < k0 → ∀ (i : Nat) z l, Z[i]? = some z → z.1 = (path t.mask (hashP prog w p) k).j → L[i]? = some l → l.2 ≠ p) →
      wpAny (model prog w) A (setSearchFrom a x (hashP prog w p) true fuel stand) Q E s := by
  have hZL : Z.map (·.2) = L.map (ent prog w) := T.el.symm.trans he
  have hlen : Z.length = L.length := by have := congrArg List.length hZL; simpa using this
  have hsz : es.size = Z.length := by have := congrArg List.length T.el; simpa using this
  have hfits : t.fits es.size = true := by
    have h1 : t.place.size = Z.length := by have := congrArg List.length T.pl; simpa using this
    have h2 : t.fill = Z.length := by unfold SetTable.fill; rw [T.dum, h1]; simp
    unfold SetTable.fits
    rw [h1, hsz, h2]
    simpa using T.room
  have hodd : t.gaveWay = false := by
    unfold SetTable.gaveWay
    rcases T.hm with e | e <;> rw [e] <;> decide
  have zl : ∀ (i : Nat) (z : Nat × (Int × Value)), Z[i]? = some z → ∃ l, L[i]? = some l ∧ l ∈ L ∧ z.2 = ent prog w l := fun i z hz => by
    have hi : i < L.length := by rw [← hlen]; exact (List.getElem?_eq_some_iff.mp hz).1
    have e := congrArg (fun l => l[i]?) hZL
    simp only [List.getElem?_map, hz, List.getElem?_eq_getElem hi, Option.map_some] at e
    exact ⟨L[i], by simp [hi], List.getElem_mem hi, Option.some.inj e⟩
  intro n
  induction n using Nat.strongRecOn with
  | _ n ih =>
    intro k0 fuel stand hn hk hf hst hnp
    obtain ⟨fuel, rfl⟩ : ∃ f, fuel = f + 1 := ⟨fuel - 1, by omega⟩
    obtain ⟨m, hm1, ⟨hm2, hm3⟩, hm4⟩ := least (p := fun k => k0 ≤ k ∧ (k = kf ∨ ∃ (i : Nat) (z : Nat × (Int × Value)), Z[i]? = some z ∧ z.1 = (path t.mask (hashP prog w p) k).j ∧ z.2.1 = hashP prog w p)) (kf + 1) ⟨kf, by omega, hk, .inl rfl⟩
    have skip : ∀ k, k0 ≤ k → k < m → ∃ (i : Nat) (z : Nat × (Int × Value)), Z[i]? = some z ∧ z.1 = (path t.mask (hashP prog w p) k).j ∧ z.2.1 ≠ hashP prog w p := fun k a1 a2 => by
      obtain ⟨i, z, h1, h2⟩ := T.ix (k3 k (by omega))
      exact ⟨i, z, h1, h2, fun e => hm4 k a2 ⟨a1, .inr ⟨i, z, h1, h2, e⟩⟩⟩
    have zinj : ∀ (i i' : Nat) (z z' : Nat × (Int × Value)), Z[i]? = some z → Z[i']? = some z' → z.1 = z'.1 → i = i' := fun i i' z z' h1 h2 e => by
      have r := T.rise
      have g1 : (Z.map (·.1))[i]? = some z.1 := by rw [List.getElem?_map, h1]; rfl
      have g2 : (Z.map (·.1))[i']? = some z'.1 := by rw [List.getElem?_map, h2]; rfl
      rw [← e] at g2
      obtain ⟨b1, c1⟩ := List.getElem?_eq_some_iff.mp g1
      obtain ⟨b2, c2⟩ := List.getElem?_eq_some_iff.mp g2
      rcases Nat.lt_trichotomy i i' with g | g | g
      · have := List.pairwise_iff_getElem.mp r i i' b1 b2 g; omega
      · exact g
      · have := List.pairwise_iff_getElem.mp r i' i b2 b1 g; omega
    have hnp' : ∀ k, k < m → ∀ (i : Nat) z l, Z[i]? = some z → z.1 = (path t.mask (hashP prog w p) k).j → L[i]? = some l → l.2 ≠ p := fun k hkm i z l h1 h2 h3 => by
      rcases Nat.lt_or_ge k k0 with g | g
      · exact hnp k g i z l h1 h2 h3
      · obtain ⟨i', z', g1, g2, g3⟩ := skip k g hkm
        have := zinj i i' z z' h1 g1 (by rw [h2, g2])
        subst this
        rw [h1] at g1; cases g1
        obtain ⟨l', e1, _, e2⟩ := zl i z h1
        rw [h3] at e1; cases e1
        intro e
        apply g3
        rw [e2, ← e]; rfl
    unfold setSearchFrom
    refine wpAny_bind (wpAny_setState_of ho hd hfits ?_)
    dsimp only
    rw [hodd]
    simp only [Bool.false_eq_true, if_false]
    rw [hst]
    have hpg := T.probe_go (fun i => (es[i]?.map (·.1)).getD 0) (hashP prog w p) (10 * SetTable.turns t.mask) k0 m hm2 (by omega) (fun k a1 a2 => by
      obtain ⟨i, z, h1, h2, h3⟩ := skip k a1 a2
      refine ⟨i, by rw [← h2]; exact (T.get h1).1, ?_⟩
      have : es[i]? = some z.2 := by have := (T.get h1).2; simpa using this
      show (es[i]?.map (·.1)).getD 0 ≠ _
      rw [this]; exact h3)
    rcases Nat.lt_or_ge m kf with hmk | hmk
    · -- a candidate
      obtain ⟨i, z, h1, h2, h3⟩ := hm3.resolve_left (by omega)
      obtain ⟨l, l1, l2, l3⟩ := zl i z h1
      have hes : es[i]? = some z.2 := by have := (T.get h1).2; simpa using this
      have hpl : t.place[i]? = some (path t.mask (hashP prog w p) m).j := by rw [← h2]; exact (T.get h1).1
      have hc := hpg.2 i hpl (by show (es[i]?.map (·.1)).getD 0 = _; rw [hes]; exact h3)
      generalize hX : SetTable.probe t _ (hashP prog w p) (path t.mask (hashP prog w p) k0) = X
      obtain rfl : X = some (.candidate (path t.mask (hashP prog w p) m).j i (path t.mask (hashP prog w p) (m + 1))) := hX.symm.trans hc
      dsimp only
      by_cases hled : (!t.led) = true
      · rw [if_pos hled]
        refine wpAny_bind (spot_unseen S (fun y hy => ?_) ?_)
        · obtain ⟨e, he', rfl⟩ := List.mem_map.mp hy
          have hme : e ∈ es.toList := by
            have : e ∈ Array.filter (fun x => x.fst == hashP prog w p) es := by simpa using he'
            exact Array.mem_toList_iff.mpr (Array.mem_filter.mp this).1
          rw [he] at hme
          obtain ⟨q, hq, rfl⟩ := List.mem_map.mp hme
          exact ⟨q.2, hL q hq⟩
        simp only [Bool.false_eq_true, if_false]
        rw [hes, l3]
        dsimp only [ent]
        refine wpAny_bind (wpAny_holding (spot_eq hu (hL l l2) S ?_))
        refine wpAny_bind (wpAny_setState_of ho hd hfits ?_)
        dsimp only
        by_cases hq : l.2 = p
        · rw [decide_eq_true hq]
          simp only [Bool.and_self, if_true]
          exact wpAny_pure (q1 (List.mem_map.mpr ⟨l, l2, hq⟩))
        · rw [decide_eq_false hq]
          simp only [Bool.and_false, Bool.false_eq_true, if_false]
          have hsm : t.sameMemory t.moves t.mask = some true := by unfold SetTable.sameMemory; simp
          have hes' : es[i]? = some (ent prog w l) := by rw [hes, l3]
          obtain ⟨b, hb⟩ := SpotAt.ref (hL l l2)
          rw [hsm]
          dsimp only
          rw [if_pos rfl, slot_live T.rise' hpl]
          dsimp only
          rw [hes']
          dsimp only [ent]
          rw [hb]
          refine wpAny_bind (wpAny_isSame_ref_self ?_)
          refine wpAny_bind (wpAny_pure ?_)
          rw [if_pos rfl]
          dsimp only
          refine ih (kf - (m + 1)) (by omega) (m + 1) fuel (some (path t.mask (hashP prog w p) (m + 1))) rfl (by omega) (by omega) rfl fun k hk' => ?_
          rcases Nat.lt_or_ge k m with g | g
          · exact hnp' k g
          · have e : k = m := by omega
            subst e
            intro i' z' l' e1 e2 e3
            have := zinj i i' z z' h1 e1 (by rw [h2, e2])
            subst this
            rw [l1] at e3; cases e3
            exact hq
      · rw [if_neg hled]
        rw [hes, l3]
        dsimp only [ent]
        refine wpAny_bind (wpAny_holding (spot_eq hu (hL l l2) S ?_))
        refine wpAny_bind (wpAny_setState_of ho hd hfits ?_)
        dsimp only
        by_cases hq : l.2 = p
        · rw [decide_eq_true hq]
          simp only [Bool.and_self, if_true]
          exact wpAny_pure (q1 (List.mem_map.mpr ⟨l, l2, hq⟩))
        · rw [decide_eq_false hq]
          simp only [Bool.and_false, Bool.false_eq_true, if_false]
          have hsm : t.sameMemory t.moves t.mask = some true := by unfold SetTable.sameMemory; simp
          have hes' : es[i]? = some (ent prog w l) := by rw [hes, l3]
          obtain ⟨b, hb⟩ := SpotAt.ref (hL l l2)
          rw [hsm]
          dsimp only
          rw [if_pos rfl, slot_live T.rise' hpl]
          dsimp only
          rw [hes']
          dsimp only [ent]
          rw [hb]
          refine wpAny_bind (wpAny_isSame_ref_self ?_)
          refine wpAny_bind (wpAny_pure ?_)
          rw [if_pos rfl]
          dsimp only
          refine ih (kf - (m + 1)) (by omega) (m + 1) fuel (some (path t.mask (hashP prog w p) (m + 1))) rfl (by omega) (by omega) rfl fun k hk' => ?_
          rcases Nat.lt_or_ge k m with g | g
          · exact hnp' k g
          · have e : k = m := by omega
            subst e
            intro i' z' l' e1 e2 e3
            have := zinj i i' z z' h1 e1 (by rw [h2, e2])
            subst this
            rw [l1] at e3; cases e3
            exact hq
    · have e : m = kf := by omega
      subst e
      have hc := hpg.1 k2
      generalize hX : SetTable.probe t _ (hashP prog w p) (path t.mask (hashP prog w p) k0) = X
      obtain rfl : X = some (.empty (path t.mask (hashP prog w p) m).j none) := hX.symm.trans hc
      dsimp only
      refine wpAny_pure (q2 fun hm => ?_)
      obtain ⟨l, hl, rfl⟩ := List.mem_map.mp hm
      obtain ⟨i, hi⟩ := List.mem_iff_getElem?.mp hl
      have hiZ : i < Z.length := by rw [hlen]; exact (List.getElem?_eq_some_iff.mp hi).1
      have hz : Z[i]? = some Z[i] := by simp [hiZ]
      obtain ⟨l', e1, _, e2⟩ := zl i _ hz
      rw [hi] at e1; cases e1
      obtain ⟨k, r1, r2, r3⟩ := T.reach Z[i] (List.getElem_mem hiZ)
      rw [e2] at r2 r3
      have hocc : Occ t (path t.mask (hashP prog w l.2) k).j := T.occ.mpr ⟨Z[i], List.getElem_mem hiZ, r2.symm⟩
      rcases Nat.lt_trichotomy k m with g | g | g
      · exact hnp' k g i _ l hz r2.symm hi rfl
      · subst g; exact k2 hocc
      · exact k2 (r3 m g)
end
end SetX
set_option linter.all false
set_option maxRecDepth 100000
set_option maxHeartbeats 4000000
namespace SetX
open PySem PySem.W PyProof.Rows Hull SortM SetM
def led (w : World) : Bool := !(w.params.followText "set-order")
def setObj (es : Array (Int × Value)) (ep : Nat) (t : SetTable) : Obj := { cls := .type "set", dict := none, data := .set es ep t }
structure SBody (prog : Program) (w : World) (h : Heap) (es : Array (Int × Value)) (t : SetTable) (L : List VP) : Prop where
  el : es.toList = L.map (ent prog w)
  tok : ∃ Z, TOk t es.toList Z
  pln : t.plain = true
  ld : t.led = led w
  sp : ∀ z ∈ L, SpotAt h z.1 z.2
  nd : (L.map (·.2)).Nodup
  few : t.mask = 7 → L.length ≤ 4
def SSet (prog : Program) (w : World) (h : Heap) (a : Addr) (L : List VP) : Prop := ∃ es ep t, h.get? a = some (setObj es ep t) ∧ SBody prog w h es t L
section
variable {prog : Program} {w : World} {A : Around} {E : Value → Shared → Prop} {s : Shared}
theorem SBody.size {h : Heap} {es : Array (Int × Value)} {t : SetTable} {L : List VP} (B : SBody prog w h es t L) : es.size = L.length := by
  have := congrArg List.length B.el; simpa using this
theorem SBody.fill {h : Heap} {es : Array (Int × Value)} {t : SetTable} {L : List VP} (B : SBody prog w h es t L) : t.fill = L.length ∧ t.place.size = L.length := by
  obtain ⟨Z, T⟩ := B.tok
  have h1 : t.place.size = Z.length := by have := congrArg List.length T.pl; simpa using this
  have h3 : es.size = Z.length := by have := congrArg List.length T.el; simpa using this
  have h2 : t.fill = Z.length := by unfold SetTable.fill; rw [T.dum, h1]; simp
  rw [← B.size, h2, h1, h3]; exact ⟨rfl, rfl⟩
theorem SBody.fits {h : Heap} {es : Array (Int × Value)} {t : SetTable} {L : List VP} (B : SBody prog w h es t L) : t.fits es.size = true := by
  obtain ⟨Z, T⟩ := B.tok
  have h3 : es.size = Z.length := by have := congrArg List.length T.el; simpa using this
  obtain ⟨f1, f2⟩ := B.fill
  have := T.room
  unfold SetTable.fits
  rw [f1, f2, B.size]
  rw [B.size] at h3
  simp; omega
theorem SBody.kept {h h' : Heap} {es : Array (Int × Value)} {t : SetTable} {L : List VP} (k : ∀ a o, o.cls = .type "tuple" → h.get? a = some o → h'.get? a = some o) (B : SBody prog w h es t L) : SBody prog w h' es t L :=
  ⟨B.el, B.tok, B.pln, B.ld, fun z hz => (B.sp z hz).kept k, B.nd, B.few⟩
theorem SSet.kept {h h' : Heap} {a : Addr} {L : List VP} (k : ∀ b o, (o.cls = .type "tuple" ∨ b = a) → h.get? b = some o → h'.get? b = some o) (S : SSet prog w h a L) : SSet prog w h' a L := by
  obtain ⟨es, ep, t, ho, B⟩ := S
  exact ⟨es, ep, t, k a _ (.inr rfl) ho, B.kept fun b o hc e => k b o (.inl hc) e⟩
theorem setObj_tuple {h : Heap} {a b : Addr} {es : Array (Int × Value)} {ep : Nat} {t : SetTable} {o : Obj} (ho : h.get? a = some (setObj es ep t)) (hc : o.cls = .type "tuple") (hb : h.get? b = some o) : b ≠ a := by
  rintro rfl
  rw [ho] at hb; cases hb
  have hc' : Value.type "set" = Value.type "tuple" := hc
  exact absurd hc' (by decide)
theorem stored {h : Heap} {a : Addr} {es : Array (Int × Value)} {ep : Nat} {t : SetTable} (ho : h.get? a = some (setObj es ep t)) (es' : Array (Int × Value)) (t' : SetTable) :
    (h.update a (Obj.putSet es' t')).get? a = some (setObj es' (ep + 1) t') := by
  have := Heap.get?_update_self (Obj.putSet es' t') ho (by rw [putSet_of es' t' rfl]; rfl)
  rw [putSet_of es' t' rfl] at this; exact this
theorem relay_ok {a : Addr} {es : Array (Int × Value)} {ep : Nat} {t : SetTable} {L : List VP} {n : Nat} {Q : Unit → Shared → Prop} (ho : s.heap.get? a = some (setObj es ep t)) (hf : t.fits es.size = true)
    (el : es.toList = L.map (ent prog w)) (hs : SetTable.sizeAbove n = 32) (hl : L.length ≤ 31) (pln : t.plain = true) (ld : t.led = led w) (sp : ∀ z ∈ L, SpotAt s.heap z.1 z.2) (nd : (L.map (·.2)).Nodup)
    (q : ∀ h' L', Heap.SameBut a s.heap h' → SSet prog w h' a L' → L'.Perm L → Q () { s with heap := h' }) :
    wpAny (model prog w) A (setRelay a n) Q E s := by
  have hsz : es.size = L.length := by have := congrArg List.length el; simpa using this
  obtain ⟨t', order, e1, e2, e3, e4, Z, T, pm⟩ := laid_ok (mask := 31) (.inr rfl) t.finger (t.movedTo 31) t.led t.plain es (by omega)
  obtain ⟨L', p1, p2⟩ := perm_map_inv pm L el
  have hs2 : (order.filterMap (es[·]?)).size = es.size := by rw [← Array.length_toList, pm.length_eq, Array.length_toList]
  unfold setRelay
  refine wpAny_bind (wpAny_setState_of ho rfl hf ?_)
  dsimp only
  rw [hs]
  rw [if_neg (by rw [sizeLine_eq]; omega)]
  have hr : t.relaid (es.map (·.1)) n = some (t', order) := by unfold SetTable.relaid; rw [hs]; exact e1
  rw [hr]
  refine wpAny_bind ?_
  show wpAny _ _ (@ite _ _ _ _ _) _ _ _
  rw [if_neg (by rw [hs2]; simp)]
  refine wpAny_pure ?_
  dsimp only
  refine wpAny_storeSet_of ho rfl ?_ (by rw [hs2, hsz, sizeLine_eq]; omega)
  have sb := Heap.SameBut.update s.heap a (Obj.putSet (order.filterMap (es[·]?)) t')
  refine q _ L' sb ⟨_, _, t', stored ho _ _, ?_⟩ p1
  refine ⟨p2, ⟨Z, T⟩, by rw [e3]; exact pln, by rw [e2]; exact ld, fun z hz => ?_, (p1.map _).nodup_iff.mpr nd, fun e => by rw [e4] at e; cases e⟩
  exact (sp z (p1.mem_iff.mp hz)).kept fun b o hc e => (sb.2 b (setObj_tuple ho hc e)).trans e
theorem add_ok {a : Addr} {L : List VP} {x : Value} {p : P} {Q : Bool → Shared → Prop} (hu : A.units < cLine) (h : SSet prog w s.heap a L) (S : SpotAt s.heap x p) (hn : L.length < 12)
    (q : ∀ b h' L', Heap.SameBut a s.heap h' → SSet prog w h' a L' → (∀ r, r ∈ L'.map (·.2) ↔ r ∈ L.map (·.2) ∨ r = p) → L'.length ≤ L.length + 1 → (∀ z ∈ L', z ∈ L ∨ z = (x, p)) → Q b { s with heap := h' }) :
    wpAny (model prog w) A (setAddHashed a x (hashP prog w p)) Q E s := by
  obtain ⟨es, ep, t, ho, B⟩ := h
  obtain ⟨Z, T⟩ := B.tok
  have hf := B.fits
  have hsz := B.size
  have hZ : Z.length = L.length := by have := congrArg List.length T.el; rw [Array.length_toList, List.length_map, hsz] at this; exact this.symm
  obtain ⟨kf, k1, k2, k3⟩ := T.free (hashP prog w p)
  have hb : byScan x es = false := by
    obtain ⟨b, rfl⟩ := SpotAt.ref S
    simp [byScan, Value.scannable]
  unfold setAddHashed setAddHashedIn
  refine wpAny_holding ?_
  refine wpAny_bind (wpAny_setState_of ho rfl hf ?_)
  dsimp only
  rw [hb]
  simp only [Bool.false_eq_true, if_false]
  unfold setSearch
  refine wpAny_bind (search_ok hu ho rfl T B.el B.sp S k1 k2 k3 (fun hm => ?_) (fun hm => ?_) kf 0 100000 none rfl (Nat.zero_le _) ?_ rfl fun k hk => absurd hk (Nat.not_lt_zero _))
  · refine wpAny_pure (q _ s.heap L (Heap.SameBut.refl a s.heap) ⟨es, ep, t, ho, B⟩ (fun r => ⟨.inl, fun e => e.elim id fun e => e ▸ hm⟩) (Nat.le_succ _) fun z hz => .inl hz)
  · dsimp only
    refine wpAny_bind (wpAny_setState_of ho rfl hf ?_)
    dsimp only
    obtain ⟨Z', T', hZ'⟩ := T.put (x := x) k1 k2 k3 (by rcases T.hm with e | e; (have := B.few e; omega); omega) true
    generalize (path t.mask (hashP prog w p) kf).j = j at *
    have hpl : (t.put j).1.plain = true := B.pln
    have heta : ({ (t.put j).1 with plain := true } : SetTable) = (t.put j).1 := by
      have : (t.put j).1.plain = true := B.pln
      generalize (t.put j).1 = u at *
      cases u; simp_all
    rw [heta] at T'
    have hins := insertAt_list es (t.put j).2 (hashP prog w p, x)
    rw [hpl]
    simp only [if_true]
    refine wpAny_bind (spot_byValue S ?_)
    simp only [if_true]
    generalize hL1 : L.take (t.put j).2 ++ (x, p) :: L.drop (t.put j).2 = L1
    have hel : (SetTable.insertAt es (t.put j).2 (hashP prog w p, x)).toList = L1.map (ent prog w) := by
      rw [hins, B.el, ← hL1]; simp [List.map_take, List.map_drop, ent]
    have hpm : L1.Perm ((x, p) :: L) := by
      rw [← hL1]
      refine List.perm_middle.trans ?_
      rw [List.take_append_drop]
    have hl1 : L1.length = L.length + 1 := by rw [hpm.length_eq]; rfl
    have hz1 : (SetTable.insertAt es (t.put j).2 (hashP prog w p, x)).size = L.length + 1 := by rw [← Array.length_toList, hel, List.length_map, hl1]
    refine wpAny_bind (wpAny_storeSet_of ho rfl ?_ (by rw [hz1, sizeLine_eq]; omega))
    have sb := Heap.SameBut.update s.heap a (Obj.putSet (SetTable.insertAt es (t.put j).2 (hashP prog w p, x)) (t.put j).1)
    have ho1 := stored ho (SetTable.insertAt es (t.put j).2 (hashP prog w p, x)) (t.put j).1
    have kp : ∀ b o, o.cls = .type "tuple" → s.heap.get? b = some o → (s.heap.update a (Obj.putSet (SetTable.insertAt es (t.put j).2 (hashP prog w p, x)) (t.put j).1)).get? b = some o := fun b o hc e => (sb.2 b (setObj_tuple ho hc e)).trans e
    have hsp : ∀ z ∈ L1, SpotAt (s.heap.update a (Obj.putSet (SetTable.insertAt es (t.put j).2 (hashP prog w p, x)) (t.put j).1)) z.1 z.2 := fun z hz => by
      rcases List.mem_cons.mp (hpm.mem_iff.mp hz) with rfl | hz
      · exact S.kept kp
      · exact (B.sp z hz).kept kp
    have hnd : (L1.map (·.2)).Nodup := by
      rw [(hpm.map _).nodup_iff]
      exact List.nodup_cons.mpr ⟨hm, B.nd⟩
    have hmem : ∀ L2 : List VP, L2.Perm L1 → ∀ r, r ∈ L2.map (·.2) ↔ r ∈ L.map (·.2) ∨ r = p := fun L2 p2 r => by
      rw [((p2.trans hpm).map (·.2)).mem_iff, List.map_cons, List.mem_cons]
      exact Or.comm
    have hent : ∀ L2 : List VP, L2.Perm L1 → ∀ z ∈ L2, z ∈ L ∨ z = (x, p) := fun L2 p2 z hz => by
      rcases List.mem_cons.mp ((p2.trans hpm).mem_iff.mp hz) with e | e
      · exact .inr e
      · exact .inl e
    have hfill : (t.put j).1.fill = L.length + 1 := by
      have h1 : (t.put j).1.place.size = Z'.length := by have := congrArg List.length T'.pl; simpa using this
      unfold SetTable.fill; rw [T'.dum, h1, hZ', hZ]; simp
    have hmask : (t.put j).1.mask = t.mask := rfl
    have hfit1 : (t.put j).1.fits (SetTable.insertAt es (t.put j).2 (hashP prog w p, x)).size = true := by
      have h1 : (t.put j).1.place.size = Z'.length := by have := congrArg List.length T'.pl; simpa using this
      unfold SetTable.fits
      rw [hz1, h1, hfill, hZ', hZ]
      have := T'.room
      simp; omega
    by_cases hfull : (!false && (t.put j).1.tooFull) = true
    · rw [if_pos hfull]
      have h35 : (t.put j).1.fill * 5 ≥ (t.put j).1.mask * 3 := by
        have : (t.put j).1.tooFull = true := by simpa using hfull
        unfold SetTable.tooFull at this
        exact of_decide_eq_true this
      rw [hfill, hmask] at h35
      have h7 : L.length = 4 := by
        rcases T.hm with e | e
        · have := B.few e; omega
        · omega
      refine wpAny_bind (relay_ok (s := { s with heap := s.heap.update a (Obj.putSet (SetTable.insertAt es (t.put j).2 (hashP prog w p, x)) (t.put j).1) }) ho1 hfit1 hel (by rw [hsz, h7]; decide) (by omega) hpl B.ld hsp hnd fun h' L2 sb2 S2 p2 => ?_)
      exact wpAny_pure (q _ h' L2 (sb.trans sb2) S2 (hmem L2 p2) (by rw [p2.length_eq, hl1]; exact Nat.le_refl _) (hent L2 p2))
    · rw [if_neg hfull]
      refine wpAny_pure (q _ _ L1 sb ⟨_, _, _, ho1, ⟨hel, ⟨Z', ?_⟩, hpl, B.ld, hsp, hnd, fun e => ?_⟩⟩ (hmem L1 (.refl _)) (Nat.le_of_eq hl1) (hent L1 (.refl _)))
      · rw [hins]; exact T'
      · have : (t.put j).1.tooFull = false := by simpa using hfull
        unfold SetTable.tooFull at this
        have := of_decide_eq_false this
        rw [hfill] at this
        omega
  · rcases T.hm with e | e <;> rw [e] at k1 <;> unfold SetTable.turns at k1 <;> omega
end
end SetX
set_option linter.all false
set_option maxRecDepth 100000
set_option maxHeartbeats 8000000
namespace SetX
open PySem PySem.W PyProof.Rows Hull SortM SetM
section
variable {prog : Program} {w : World} {A : Around} {R : Result → Shared → Prop} {I : Addr} {fp wr : List Addr} {G : Array GenState → Array GenState → Prop} {n : Nat} {Pv : Nat → Value → Prop} {St : Nat → Shared → Prop}
theorem fill_ok (W : WalksS prog w A.in1 I fp wr G n Pv St) (S : Addr) (hSf : S ∉ fp) (hu : A.in1.units < cLine) (hn : n ≤ 12) (ps : Nat → P)
    (hw : ∀ i (s : Shared) b o, St i s → b ∈ wr → s.heap.get? b = some o → o.cls ≠ .type "tuple") :
    ∀ (k i : Nat) (s : Shared) (L : List VP), n - i = k → i ≤ n → St i s → SSet prog w s.heap S L → L.length ≤ i → (∀ j v, Pv j v → SpotAt s.heap v (ps j)) →
      (∀ s' L', Moved (S :: wr) G s s' → SSet prog w s'.heap S L' → (∀ r, r ∈ L'.map (·.2) ↔ r ∈ L.map (·.2) ∨ ∃ j, i ≤ j ∧ j < n ∧ r = ps j) → L'.length ≤ n → (∀ z ∈ L', z ∈ L ∨ ∃ j v, Pv j v ∧ z = (v, ps j)) → R (.ok (.ret .none)) s') →
      codeAny (model prog w) A (.builtin "set.update.loop" ⟨[.ref S, .ref I], []⟩) R s := by
  have hSw : S ∉ wr := fun h => hSf (W.sub _ h)
  have hsub : ∀ b ∈ wr, b ∈ S :: wr := fun b hb => List.mem_cons_of_mem _ hb
  have keepT : ∀ i (s s' : Shared), St i s → Moved wr G s s' → ∀ b o, o.cls = .type "tuple" → s.heap.get? b = some o → s'.heap.get? b = some o := fun i s s' hst hm b o hc e =>
    hm.heap b o (fun hb => hw i s b o hst hb e hc) e
  intro k
  induction k with
  | zero =>
    intro i s L hk hi hst hS hl hp hR
    have hin : i = n := by omega
    subst hin
    refine codeAny_builtin PyProof.Rows.F.entry_set_update_loop ?_
    rw [Around.under_plainId PyProof.Rows.F.plain_set_update_loop _]
    show wpAny _ A.in1 (pyNext (.ref I) >>= _) _ _ s
    refine wpAny_bind (W.done s _ _ hst fun s' hm => ?_)
    show wpAny _ A.in1 (ret Value.none) _ _ s'
    refine wpAny_pure (hR s' L (hm.mono hsub) (hS.kept fun b o hb e => ?_) (fun r => ⟨.inl, fun h => h.elim id fun ⟨j, a, b, _⟩ => by omega⟩) hl fun z hz => .inl hz)
    rcases hb with hc | rfl
    · exact keepT _ s s' hst hm b o hc e
    · exact hm.heap b o hSw e
  | succ k ih =>
    intro i s L hk hi hst hS hl hp hR
    have hlt : i < n := by omega
    refine codeAny_builtin PyProof.Rows.F.entry_set_update_loop ?_
    rw [Around.under_plainId PyProof.Rows.F.plain_set_update_loop _]
    show wpAny _ A.in1 (pyNext (.ref I) >>= _) _ _ s
    refine wpAny_bind (W.item i s _ _ hlt hst fun v s' hP hst' hm => ?_)
    have kT := keepT _ s s' hst hm
    have hS' : SSet prog w s'.heap S L := hS.kept fun b o hb e => by
      rcases hb with hc | rfl
      · exact kT b o hc e
      · exact hm.heap b o hSw e
    have hp' : ∀ j v, Pv j v → SpotAt s'.heap v (ps j) := fun j v h => (hp j v h).kept kT
    show wpAny _ A.in1 (holding [v] (setAdd S v) >>= _) _ _ s'
    refine wpAny_bind (wpAny_holding ?_)
    unfold setAdd
    refine wpAny_holding ?_
    refine wpAny_bind (spot_hash hu (hp' i v hP) ?_)
    refine add_ok (s := { s' with toks := s'.toks + 3 }) hu hS' (hp' i v hP) (by omega) fun _ h' L' sb hS2 hmem hlen hent => ?_
    obtain ⟨es, ep, t, ho, B⟩ := hS'
    have kT2 : ∀ b o, o.cls = .type "tuple" → s'.heap.get? b = some o → h'.get? b = some o := fun b o hc e => (sb.2 b (setObj_tuple ho hc e)).trans e
    refine wpAny_pure ⟨plainId_quiet PyProof.Rows.F.plain_set_update_loop _, ih (i + 1) _ L' (by omega) hlt (W.frame _ s' _ _ hst' (Nat.le_add_right _ _) fun b hb o e => ?_) hS2 (by omega) (fun j v h => (hp' j v h).kept kT2) fun s'' L'' hm'' hS'' hmem'' hl'' hent'' => ?_⟩
    · rw [sb.2 b (fun h : b = S => hSf (by rw [← h]; exact hb))]; exact e
    · refine hR s'' L'' (Moved.trans W.gtrans ((hm.mono hsub).then_heap (Nat.le_add_right _ _) fun b o hb e => ?_) hm'') hS'' (fun r => ?_) hl'' fun z hz => ?_
      · rw [sb.2 b (fun h : b = S => hb (by rw [h]; exact List.mem_cons_self))]; exact e
      · rw [hmem'' r, hmem r]
        constructor
        · rintro ((h | h) | ⟨j, a, b, c⟩)
          · exact .inl h
          · exact .inr ⟨i, Nat.le_refl _, hlt, h⟩
          · exact .inr ⟨j, by omega, b, c⟩
        · rintro (h | ⟨j, a, b, c⟩)
          · exact .inl (.inl h)
          · rcases Nat.eq_or_lt_of_le a with e | e
            · subst e; exact .inl (.inr c)
            · exact .inr ⟨j, e, b, c⟩
      · rcases hent'' z hz with g | g
        · rcases hent z g with g | g
          · exact .inl g
          · exact .inr ⟨i, v, hP, g⟩
        · exact .inr g
end
section
variable {prog : Program} {w : World} {A : Around} {E : Value → Shared → Prop} {s : Shared}
def emptySet (w : World) : Obj := { cls := .type "set", dict := none, data := .set #[] 0 (.fresh 0 0 (led w)) }
theorem set_new {a : Value} {Q₁ : Value → Shared → Prop}
    (h : Q₁ (.ref s.heap.objs.size) { s with heap := s.heap.push (emptySet w) }) :
    codeAny (model prog w) A (.call (.builtin "set.__new__") ⟨[.type "set", a], []⟩) (wants Q₁ E) s := by
  refine codeAny_of_tree ?_
  show wpAny _ A.in1 (do checkBuiltinCall "set.__new__" ⟨[.type "set", a], []⟩; again (.builtin "set.__new__" ⟨[.type "set", a], []⟩)) _ _ s
  refine wpAny_bind (wpAny_of_eq (F.newCall_set_1 a) (wpAny_pure ⟨plainId_quiet F.plain_set_new _, codeAny_builtin F.entry_set_new ?_⟩))
  rw [Around.under_plainId F.plain_set_new _]
  unfold Builtin.«set.__new__» Builtin.Frozenset.newClass
  have hsub := sub_set_self
  obtain ⟨hp, g, d, tk, os⟩ := s
  dsimp only
  wp_walk
  refine wpAny_askSetting (wpAny_pure ?_)
  dsimp only
  simp only [newObj]
  refine wpAny_bind (wpAny_alloc (wpAny_pure ?_))
  exact wpAny_pure h
end
end SetX
set_option linter.all false
set_option maxRecDepth 100000
set_option maxHeartbeats 8000000
namespace SetX
open PySem PySem.W PyProof.Rows Hull SortM SetM
section
variable {prog : Program} {w : World} {A : Around} {E : Value → Shared → Prop} {s : Shared}
theorem sset_empty (h : Heap) : SSet prog w (h.push (emptySet w)) h.objs.size [] :=
  ⟨#[], 0, _, Heap.get?_push_size _ rfl, ⟨rfl, ⟨[], TOk.fresh 0 0 (led w)⟩, rfl, rfl, (fun _ h => nomatch h), List.nodup_nil, fun _ => Nat.zero_le _⟩⟩
theorem call_set_spots {l : Addr} {items : List Value} {ps : List P} {Q : Value → Shared → Prop}
    (hh : A.handled = none) (hu : A.units + 8 < cLine) (hl : s.heap.IsList l items.toArray) (hi : Spots s.heap items ps) (hb : items.length ≤ 12)
    (h : ∀ (h' : Heap) (tk : Nat) (L : List VP), SSet prog w h' s.heap.objs.size L → (∀ r, r ∈ L.map (·.2) ↔ r ∈ ps) → L.length ≤ ps.length → (∀ z ∈ L, ∃ j, j < items.length ∧ z = (items.getD j .none, ps.getD j (0, 0))) →
      (∀ b o, b < s.heap.objs.size → s.heap.get? b = some o → h'.get? b = some o) → Q (.ref s.heap.objs.size) { s with heap := h', toks := tk }) :
    wpAny (model prog w) A (call (.type "set") [.ref l]) Q E s := by
  obtain ⟨c, tl, hmro⟩ := F.called_set.mro
  have hmade := F.called_set.made
  have hsub := F.called_set.sub
  have hlen := hi.length
  refine wpAny_call (codeAny_of_tree ?_)
  show wpAny _ _ (callAny (.type "set") _) _ _ _
  refine wpAny_pure ⟨Code.quiet_builtin _ (by decide +kernel), codeAny_builtin F.entry_type_call ?_⟩
  rw [Around.under_plain (weight_type_call_type "set" [.ref l] []) rfl]
  have h1 := F.called_set.notType
  have h2 := F.called_set.canCreate
  have hct := F.typeCall_set_1 (.ref l)
  repeat (any_goals (first | assumption | wp_step))
  refine codeAny_mono (set_new (a := .ref l) (E := E) (Q₁ := fun obj s₁ => obj = .ref s.heap.objs.size ∧ s₁ = { s with heap := s.heap.push (emptySet w) }) ⟨rfl, rfl⟩) fun r s₁ hr => ?_
  cases r with
  | error e => exact hr
  | ok fl =>
    cases fl with
    | ret obj =>
      obtain ⟨rfl, rfl⟩ := hr
      have hS : (s.heap.push (emptySet w)).get? s.heap.objs.size = some (emptySet w) := Heap.get?_push_size _ rfl
      have hT : Shared.TypeIs { s with heap := s.heap.push (emptySet w) } (.ref s.heap.objs.size) "set" := ⟨_, hS, rfl⟩
      have hli := F.called_set.init.lookup
      have hbi := F.called_set.init.bind (.ref s.heap.objs.size)
      repeat (any_goals (first | assumption | wp_step))
      refine codeAny_mono (codeAny_call_builtin (R := wants (fun r s₂ => r = .none ∧ ∃ h' tk L, s₂ = { s with heap := h', toks := tk } ∧ SSet prog w h' s.heap.objs.size L ∧ (∀ r, r ∈ L.map (·.2) ↔ r ∈ ps) ∧ L.length ≤ ps.length ∧ (∀ z ∈ L, ∃ j, j < items.length ∧ z = (items.getD j .none, ps.getD j (0, 0))) ∧
          (∀ b o, b < s.heap.objs.size → s.heap.get? b = some o → h'.get? b = some o)) E) F.called_set.init.plain F.entry_set_init (check_set_init_1 hT ?_)) fun r₂ s₂ hr₂ => ?_
      · obtain ⟨ol, hol, hcl, nl, hdl⟩ := hl
        obtain ⟨ocls, odict, odata, oslots⟩ := ol
        simp only at hcl hdl
        subst hcl; subst hdl
        have hol' : (s.heap.push (emptySet w)).get? l = some { cls := .type "list", dict := odict, data := .seq items.toArray nl, slots := oslots } := Heap.get?_push_of_some _ hol
        have hsls := F.sub_list_set
        have hslf := F.sub_list_frozenset
        have hne : (Value.type "list" == Value.type "dict") = false := by decide
        have hl1 : (s.heap.push (emptySet w)).IsList l items.toArray := ⟨_, hol', rfl, nl, rfl⟩
        unfold Builtin.«set.__init__» noKeywords Builtin.Frozenset.updateFrom
        generalize hPI : pyIter = PI
        wp_walk
        subst hPI
        refine wpAny_pyIter_list hl1 ?_
        refine wpAny_bind (wpAny_runValue ?_)
        have hlS : l < s.heap.objs.size := Heap.lt_size hol
        have hh3 : A.in1.in1.in1.handled = none := by simp [hh]
        have hneI : l ≠ (s.heap.push (emptySet w)).objs.size := by
          rw [Heap.size_push]; exact Nat.ne_of_lt (Nat.lt_succ_of_lt hlS)
        have hSf : s.heap.objs.size ∉ [(s.heap.push (emptySet w)).objs.size, l] := by
          rw [Heap.size_push]; simp only [List.mem_cons, List.mem_singleton, List.not_mem_nil, or_false, not_or]
          exact ⟨Nat.ne_of_lt (Nat.lt_succ_self _), Nat.ne_of_gt hlS⟩
        have hkp : ∀ b o, o.cls = .type "tuple" → s.heap.get? b = some o → ((s.heap.push (emptySet w)).push { cls := .type "list_iterator", data := .fields #[.ref l, .int 0 0] }).get? b = some o := fun b o _ e => Heap.get?_push_of_some _ (Heap.get?_push_of_some _ e)
        refine fill_ok ((Walks.list hh3 _ l hneI items.toArray).toS) s.heap.objs.size
          hSf (by simp only [Around.in1_units]; omega) (by simpa using hb) (fun i => ps.getD i (0, 0)) ?hw (items.toArray.size - 0) 0 _ [] (by omega) (Nat.zero_le _)
          ⟨⟨_, Heap.get?_push_size _ rfl, rfl, rfl⟩, (hl1.push _)⟩ ?hS0 (Nat.zero_le _) ?hp ?hR
        case hw =>
          rintro i s' b o ⟨⟨oi, hoi, hci, _⟩, _⟩ hb' e
          have : b = (s.heap.push (emptySet w)).objs.size := by simpa using hb'
          subst this
          rw [hoi] at e; cases e
          rw [hci]; decide
        case hS0 => exact (sset_empty s.heap).kept fun b o _ e => Heap.get?_push_of_some _ e
        case hp =>
          intro j v hv
          have hj : j < items.length := by
            have hv' : items[j]? = some v := by simpa using hv
            exact (List.getElem?_eq_some_iff.mp hv').1
          have hv' : items.getD j .none = v := by
            have hv' : items[j]? = some v := by simpa using hv
            rw [List.getD_eq_getElem?_getD, hv']; rfl
          have := hi.get j hj
          rw [hv'] at this
          exact this.kept hkp
        case hR =>
          intro s' L hm hS' hmem hlL hent
          obtain ⟨h', g', d', tk', os'⟩ := s'
          have eg : g' = s.gens := hm.gens
          have ed : d' = s.drawn := hm.drawn
          have eo : os' = s.os := hm.os
          subst eg; subst ed; subst eo
          show wpAny _ _ _ _ _ _
          refine wpAny_pure ?_
          show wpAny _ _ (ret Value.none) _ _ _
          refine wpAny_pure ⟨rfl, h', tk', L, rfl, hS', fun r => ?_, by simp at hlL; omega, fun z hz => ?_, fun b o hb e => ?_⟩
          · rw [hmem r]
            constructor
            · rintro (h | ⟨j, _, hj, rfl⟩)
              · cases h
              · have hj' : j < ps.length := by simp at hj; omega
                have : ps.getD j (0, 0) = ps[j] := by simp [hj']
                rw [this]; exact List.getElem_mem hj'
            · intro hr
              obtain ⟨j, hj, rfl⟩ := List.mem_iff_getElem.mp hr
              exact .inr ⟨j, Nat.zero_le _, by simp; omega, by simp [hj]⟩
          · rcases hent z hz with g | ⟨j, v, hv, rfl⟩
            · cases g
            · have hv' : items[j]? = some v := by simpa using hv
              exact ⟨j, (List.getElem?_eq_some_iff.mp hv').1, by rw [List.getD_eq_getElem?_getD (l := items), hv']; rfl⟩
          · have hb1 : b ≠ s.heap.objs.size := Nat.ne_of_lt hb
            have hb2 : b ≠ (s.heap.push (emptySet w)).objs.size := by
              rw [Heap.size_push]; exact Nat.ne_of_lt (Nat.lt_succ_of_lt hb)
            exact hm.heap b o (by simp only [List.mem_cons, List.mem_singleton, List.not_mem_nil, or_false, not_or]; exact ⟨hb1, hb2⟩) (Heap.get?_push_of_some _ (Heap.get?_push_of_some _ e))
      · cases r₂ with
        | error e => exact hr₂
        | ok fl₂ =>
          cases fl₂ with
          | ret r =>
            obtain ⟨rfl, h', tk, L, rfl, hS', hm', hl', he', hk'⟩ := hr₂
            repeat (any_goals (first | assumption | wp_step))
            exact h _ _ _ hS' hm' hl' he' hk'
          | _ => exact hr₂.elim
    | _ => exact hr.elim
end
end SetX
set_option linter.all false
set_option maxRecDepth 100000
set_option maxHeartbeats 8000000
namespace SetX
open PySem PySem.W PyProof.Rows Hull SortM SetM
namespace F
theorem slot_next : Slot "set_iterator" "__next__" "set_iterator.__next__" :=
  .of (owner := "set_iterator") (n := "__next__") (by rw [typeLookup_type, builtinLookup_eq_fast]; kernel_rfl) (by decide +kernel) (by decide +kernel) (by decide +kernel)
    (by first | exact .inl (by decide +kernel) | exact .inr (by decide +kernel)) (by rw [isSubtype_type]; kernel_rfl)
theorem entry_next : entryFor table "set_iterator.__next__" = some Builtin.«set_iterator.__next__» := entryFor_of_tree (by kernel_rfl)
theorem args_next (a : Value) : argsOk "set_iterator.__next__" ⟨[a], []⟩ := by unfold argsOk; kernel_rfl
theorem slot_self : Slot "set_iterator" "__iter__" "set_iterator.__iter__" :=
  .of (owner := "set_iterator") (n := "__iter__") (by rw [typeLookup_type, builtinLookup_eq_fast]; kernel_rfl) (by decide +kernel) (by decide +kernel) (by decide +kernel)
    (by first | exact .inl (by decide +kernel) | exact .inr (by decide +kernel)) (by rw [isSubtype_type]; kernel_rfl)
theorem entry_self : entryFor table "set_iterator.__iter__" = some Builtin.«dict_keyiterator.__iter__» :=
  entryFor_alias (id' := "dict_keyiterator.__iter__") (by kernel_rfl) rfl (by decide +kernel) (by kernel_rfl)
theorem args_self (a : Value) : argsOk "set_iterator.__iter__" ⟨[a], []⟩ := by unfold argsOk; kernel_rfl
theorem entry_iter : entryFor table "set.__iter__" = some Builtin.«frozenset.__iter__» :=
  entryFor_alias (id' := "frozenset.__iter__") (by kernel_rfl) rfl (by decide +kernel) (by kernel_rfl)
end F
theorem pick_perm {α : Type} (next : Nat → Nat) : ∀ (fuel k : Nat) (left : List α) (out : Array α), left.length = fuel → (pickOrder.go next fuel k left out).toList.Perm (out.toList ++ left)
  | 0, k, left, out, h => by
    have : left = [] := List.length_eq_zero_iff.mp h
    subst this
    unfold pickOrder.go; simp
  | fuel + 1, k, left, out, h => by
    have hlt : next k % left.length < left.length := Nat.mod_lt _ (by omega)
    unfold pickOrder.go
    rw [List.getElem?_eq_getElem hlt]
    dsimp only
    refine (pick_perm next fuel (k + 1) _ _ (by rw [List.length_eraseIdx, if_pos hlt]; omega)).trans ?_
    rw [Array.toList_push, List.append_assoc]
    refine List.Perm.append_left _ ?_
    have d : left.take (next k % left.length) ++ left[next k % left.length] :: left.drop (next k % left.length + 1) = left := by rw [← List.drop_eq_getElem_cons hlt, List.take_append_drop]
    rw [List.eraseIdx_eq_take_drop_succ]
    refine List.Perm.trans ?_ (List.Perm.of_eq d)
    rw [List.singleton_append]
    exact List.perm_middle.symm
def byText (w : World) : Bool := w.params.followText "set-order"
def ord (w : World) (a : Addr) (ep : Nat) (es : Array (Int × Value)) : Array (Int × Value) := if byText w then pickOrder (w.params.setOrder a ep) es else es
theorem ord_perm (w : World) (a : Addr) (ep : Nat) (es : Array (Int × Value)) : (ord w a ep es).toList.Perm es.toList := by
  unfold ord
  split
  · exact (pick_perm _ es.size 0 es.toList #[] (by simp)).trans (by simp)
  · exact .refl _
def sl (w : World) (t : SetTable) (i : Nat) : Nat := if byText w then 0 else if i = 0 then 0 else t.place.getD (i - 1) 0 + 1
section
variable {prog : Program} {w : World} {A : Around} {E : Value → Shared → Prop} {s : Shared} {a : Addr} {es : Array (Int × Value)} {ep : Nat} {t : SetTable} {L : List VP}
theorem byText_ask {Q : Bool → Shared → Prop} (h : Q (byText w) s) : wpAny (model prog w) A setsByText Q E s := by
  unfold setsByText
  exact wpAny_bind (wpAny_askSetting (wpAny_pure h))
theorem ord_size (w : World) (a : Addr) (ep : Nat) (es : Array (Int × Value)) : (ord w a ep es).size = es.size := by
  have := (ord_perm w a ep es).length_eq; simpa using this
theorem below_sl (hs : t.place.toList.Pairwise (· < ·)) (hb : byText w = false) {i : Nat} (hi : i ≤ t.place.size) : SetTable.below t.place (sl w t i) = i := by
  obtain ⟨b1, b2, b3⟩ := below_spec (sl w t i) hs
  unfold sl at *
  rw [hb] at *
  simp only [Bool.false_eq_true, if_false] at *
  generalize hB : SetTable.below t.place (if i = 0 then 0 else t.place.getD (i - 1) 0 + 1) = B at *
  have hp : ∀ (j k : Nat) (x y : Nat), j < k → t.place[j]? = some x → t.place[k]? = some y → x < y := fun j k x y hjk h1 h2 => by
    have h1' : t.place.toList[j]? = some x := by simpa using h1
    have h2' : t.place.toList[k]? = some y := by simpa using h2
    obtain ⟨c1, d1⟩ := List.getElem?_eq_some_iff.mp h1'
    obtain ⟨c2, d2⟩ := List.getElem?_eq_some_iff.mp h2'
    rw [← d1, ← d2]
    exact List.pairwise_iff_getElem.mp hs j k c1 c2 hjk
  by_cases h0 : i = 0
  · rw [if_pos h0] at b1 b2
    rcases Nat.eq_zero_or_pos B with g | g
    · omega
    · have hlt : B - 1 < t.place.size := by omega
      have := b1 (B - 1) t.place[B - 1] (by omega) (by simp [hlt])
      omega
  · rw [if_neg h0] at b1 b2
    have hi1 : i - 1 < t.place.size := by omega
    have e1 : t.place.getD (i - 1) 0 = t.place[i - 1] := by simp [Array.getD, hi1]
    rw [e1] at b1 b2
    rcases Nat.lt_trichotomy B i with g | g | g
    · have := b2 (i - 1) t.place[i - 1] (by omega) (by simp [hi1])
      omega
    · exact g
    · have hlt : i < t.place.size := by omega
      have h1 := b1 i t.place[i] g (by simp [hlt])
      have h2 := hp (i - 1) i _ _ (by omega) (by simp [hi1] : t.place[i - 1]? = some t.place[i - 1]) (by simp [hlt] : t.place[i]? = some t.place[i])
      omega
theorem next_ok {i : Nat} {Q : Option (Value × Nat) → Shared → Prop} (ho : s.heap.get? a = some (setObj es ep t)) (B : SBody prog w s.heap es t L) (hi : i ≤ es.size)
    (h1 : ∀ e, (ord w a ep es)[i]? = some e → Q (some (e.2, sl w t (i + 1))) s) (h2 : (ord w a ep es)[i]? = none → Q none s) : wpAny (model prog w) A (setNext a (sl w t i) i ep) Q E s := by
  have hf := B.fits
  unfold setNext
  refine wpAny_bind (wpAny_setState_of ho rfl hf ?_)
  dsimp only
  refine wpAny_bind (byText_ask ?_)
  by_cases hb : byText w = true
  · rw [if_pos hb]
    rw [if_neg (by simp)]
    refine wpAny_bind ?_
    unfold setWalk
    refine wpAny_bind (wpAny_setState_of ho rfl hf ?_)
    dsimp only
    refine wpAny_bind (byText_ask ?_)
    rw [if_pos hb]
    refine wpAny_bind (wpAny_askSetting (wpAny_pure ?_))
    have hord : ord w a ep es = pickOrder (w.params.setOrder a ep) es := by unfold ord; rw [if_pos hb]
    rw [hord] at h1 h2
    have hsl : ∀ i, sl w t i = 0 := fun i => by unfold sl; rw [if_pos hb]
    rw [hsl] at h1 ⊢
    show wpAny _ _ (pure (((pickOrder (w.params.setOrder a ep) es)[i]?).map fun e => (e.2, 0))) _ _ _
    cases hc : (pickOrder (w.params.setOrder a ep) es)[i]? with
    | none => exact wpAny_pure (h2 hc)
    | some e => exact wpAny_pure (h1 e hc)
  · have hb' : byText w = false := by simpa using hb
    rw [if_neg hb]
    have hord : ord w a ep es = es := by unfold ord; rw [if_neg hb]
    rw [hord] at h1 h2
    rw [if_neg (by show ¬ ((!t.plain && decide (es.size > 1)) = true); rw [B.pln]; simp)]
    refine wpAny_bind ?_
    show wpAny _ _ (@ite _ _ _ _ _) _ _ _
    rw [if_neg (by
      have : t.led = true := by rw [B.ld]; unfold led; have : w.params.followText "set-order" = false := hb'; rw [this]; rfl
      rw [this]; simp)]
    refine wpAny_pure ?_
    obtain ⟨Z, T⟩ := B.tok
    obtain ⟨f1, f2⟩ := B.fill
    have hsz := B.size
    rw [below_sl T.rise' hb' (by omega)]
    rcases Nat.lt_or_ge i es.size with g | g
    · have hp : i < t.place.size := by omega
      have e1 : es[i]? = some es[i] := by simp [g]
      have e2 : t.place[i]? = some t.place[i] := by simp [hp]
      have e3 : sl w t (i + 1) = t.place[i] + 1 := by unfold sl; rw [if_neg hb, if_neg (by omega)]; simp [Array.getD, hp]
      rw [e1, e2]
      dsimp only
      refine wpAny_pure ?_
      have := h1 _ e1
      rw [e3] at this
      exact this
    · have e1 : es[i]? = none := by simp [g]
      rw [e1]
      exact wpAny_pure (h2 e1)
end
end SetX
set_option linter.all false
set_option maxRecDepth 100000
set_option maxHeartbeats 8000000
namespace SetX
open PySem PySem.W PyProof.Rows Hull SortM SetM
def IsSetIter (h : Heap) (it a : Addr) (slot i n ep : Nat) : Prop := ∃ o, h.get? it = some o ∧ o.cls = .type "set_iterator" ∧ o.data = .fields #[.int slot 0, .int i 0, .ref a, .int n 0, .int ep 0]
section
variable {prog : Program} {w : World} {A : Around} {E : Value → Shared → Prop} {s : Shared} {a it : Addr} {es : Array (Int × Value)} {ep : Nat} {t : SetTable} {L : List VP}
theorem IsSetIter.typeIs {slot i n ep : Nat} (x : IsSetIter s.heap it a slot i n ep) : s.TypeIs (.ref it) "set_iterator" := let ⟨o, ho, hc, _⟩ := x; ⟨o, ho, hc⟩
theorem next_item {i : Nat} {e : Int × Value} {Q : Option Value → Shared → Prop} (hit : IsSetIter s.heap it a (sl w t i) i es.size ep) (ho : s.heap.get? a = some (setObj es ep t)) (B : SBody prog w s.heap es t L) (hx : (ord w a ep es)[i]? = some e)
    (hQ : ∀ h', IsSetIter h' it a (sl w t (i + 1)) (i + 1) es.size ep → Heap.SameBut it s.heap h' → Q (some e.2) { s with heap := h' }) : wpAny (model prog w) A (pyNext (.ref it)) Q E s := by
  obtain ⟨o, hoi, hc, hd⟩ := id hit
  have hi : i < es.size := by
    rw [← ord_size w a ep es]
    exact (Array.getElem?_eq_some_iff.mp hx).1
  unfold pyNext
  refine wpAny_bind (wpAny_attempt (wpAny_callSpecial?_slot (name := Str.ofString "__next__") hit.typeIs F.slot_next (wpAny_call_entry F.slot_next hit.typeIs F.entry_next ?_ (F.args_next _))))
  unfold Builtin.«set_iterator.__next__»
  refine wpAny_bind (m := slotArgs _ _ _) (wpAny_pure ?_)
  refine wpAny_bind (wpAny_fieldsOf hoi hd ?_)
  dsimp only
  refine wpAny_bind (wpAny_setEntries_of ho rfl B.fits ?_)
  rw [if_neg (by simp)]
  simp only [Int.toNat_natCast]
  refine wpAny_bind (next_ok ho B (by omega) (fun e' he' => ?_) fun hn => ?_)
  · rw [hx] at he'; cases he'
    dsimp only
    refine wpAny_bind (wpAny_setField hoi hd (by simp) ?_)
    have ho2 := Heap.get?_update_self (Obj.mapFields (·.setIfInBounds 0 (rawInt ((sl w t (i + 1) : Nat) : Int)))) hoi (Obj.isFreed_of_fields (Obj.data_mapFields hd _))
    have hd2 := Obj.data_mapFields hd (·.setIfInBounds 0 (rawInt ((sl w t (i + 1) : Nat) : Int)))
    refine wpAny_bind (wpAny_setField ho2 hd2 (by simp) ?_)
    refine wpAny_pure ⟨_, rfl, wpAny_pure (hQ _ ⟨_, Heap.get?_update_self _ ho2 (Obj.isFreed_of_fields (Obj.data_mapFields hd2 _)), ?_, ?_⟩ ((Heap.SameBut.update ..).trans (Heap.SameBut.update ..)))⟩
    · rw [Obj.cls_mapFields, Obj.cls_mapFields]; exact hc
    · rw [Obj.data_mapFields hd2]; simp [rawInt]
  · rw [hx] at hn; cases hn
theorem next_end {Q : Option Value → Shared → Prop} (hh : A.handled = none) (hit : IsSetIter s.heap it a (sl w t es.size) es.size es.size ep) (ho : s.heap.get? a = some (setObj es ep t)) (B : SBody prog w s.heap es t L)
    (hQ : ∀ h', Heap.ExtBut it s.heap h' → Q none { s with heap := h' }) : wpAny (model prog w) A (pyNext (.ref it)) Q E s := by
  obtain ⟨o, hoi, hc, hd⟩ := id hit
  unfold pyNext
  refine wpAny_bind (wpAny_attempt (wpAny_callSpecial?_slot (name := Str.ofString "__next__") hit.typeIs F.slot_next (wpAny_call_entry F.slot_next hit.typeIs F.entry_next ?_ (F.args_next _))))
  unfold Builtin.«set_iterator.__next__»
  refine wpAny_bind (m := slotArgs _ _ _) (wpAny_pure ?_)
  refine wpAny_bind (wpAny_fieldsOf hoi hd ?_)
  dsimp only
  refine wpAny_bind (wpAny_setEntries_of ho rfl B.fits ?_)
  rw [if_neg (by simp)]
  simp only [Int.toNat_natCast]
  have hnone : (ord w a ep es)[es.size]? = none := by rw [Array.getElem?_eq_none]; rw [ord_size]; exact Nat.le_refl _
  refine wpAny_bind (next_ok ho B (Nat.le_refl _) (fun e' he' => ?_) fun hn => ?_)
  · rw [hnone] at he'; cases he'
  · dsimp only
    refine wpAny_bind (wpAny_setField hoi hd (by simp) ?_)
    refine wpAny_bind ?_
    simp only [newExc, newTuple]
    refine wpAny_bind (wpAny_newObj_type ?_ (by size_fits))
    refine wpAny_bind (m := firstArgMember _ _) (wpAny_of_eq (a := Value.none) (by first | rfl | (simp only [firstArgMember]; rfl)) ?_)
    refine wpAny_newObj_type ?_ (by size_fits)
    simp only [raiseNew]
    refine wpAny_bind (wpAny_handled ?_)
    rw [show A.in1.handled = none from hh]
    refine wpAny_bind (wpAny_pure (wpAny_throw ?_))
    refine wpAny_bind (wpAny_isInstance (T := "StopIteration") (b := true) ⟨_, Heap.get?_push_size _ rfl, rfl⟩ isSubtype_stop ?_)
    exact wpAny_pure (hQ _ (((Heap.SameBut.update ..).extBut.push _).push _))
theorem iter_self {slot i n : Nat} {Q : Value → Shared → Prop} (hit : IsSetIter s.heap it a slot i n ep) (h : Q (.ref it) s) : wpAny (model prog w) A (pyIter (.ref it)) Q E s := by
  refine wpAny_pyIter_slot hit.typeIs F.slot_self (wpAny_call_entry F.slot_self hit.typeIs F.entry_self ?_ (F.args_self _))
  show wpAny _ _ (ret (.ref it)) _ _ s
  exact wpAny_pure ⟨_, rfl, "set_iterator", _, hit.typeIs, F.slot_next.lookup, h⟩
theorem iter_set {Q : Value → Shared → Prop} (ho : s.heap.get? a = some (setObj es ep t)) (B : SBody prog w s.heap es t L)
    (hQ : Q (.ref s.heap.objs.size) { s with heap := s.heap.push { cls := .type "set_iterator", data := .fields #[.int 0 0, .int 0 0, .ref a, .int es.size 0, .int ep 0] } }) : wpAny (model prog w) A (pyIter (.ref a)) Q E s := by
  have hT : s.TypeIs (.ref a) "set" := ⟨_, ho, rfl⟩
  refine wpAny_pyIter_slot hT PySem.F.slot_set_iter (wpAny_call_entry PySem.F.slot_set_iter hT F.entry_iter ?_ (PySem.F.args_set_iter_1 _))
  unfold Builtin.«frozenset.__iter__» Builtin.Frozenset.slot0 Builtin.Frozenset.sizeOf setDrawn
  refine wpAny_bind (wpAny_bind (m := slotArgs _ _ _) (wpAny_pure (wpAny_pure ?_)))
  refine wpAny_bind (wpAny_bind (wpAny_setEntries_of ho rfl B.fits (wpAny_pure ?_)))
  refine wpAny_bind (wpAny_bind (wpAny_setState_of ho rfl B.fits ?_))
  dsimp only
  refine wpAny_bind (byText_ask (wpAny_pure ?_))
  rw [if_neg (by show ¬ ((!byText w && (!t.plain && decide (es.size > 1))) = true); rw [B.pln]; simp)]
  refine wpAny_bind (wpAny_pure ?_)
  refine wpAny_bind (wpAny_setEpoch_of ho rfl B.fits ?_)
  refine wpAny_bind (wpAny_newObj_type (wpAny_pure ⟨_, rfl, "set_iterator", _, ⟨_, Heap.get?_push_size _ rfl, rfl⟩, F.slot_next.lookup, ?_⟩))
  simpa [rawInt] using hQ
theorem walks_set (hh : A.handled = none) (I : Addr) (hne : a ≠ I) (fp : List Addr) (hfp : ∀ z ∈ L, ∀ b, z.1 = .ref b → b ∈ fp ∧ b ≠ I) :
    Walks prog w A I (I :: a :: fp) [I] es.size (fun i v => ((ord w a ep es)[i]?).map (·.2) = some v) (fun i h => IsSetIter h I a (sl w t i) i es.size ep ∧ h.get? a = some (setObj es ep t) ∧ SBody prog w h es t L) where
  sub := fun b hb => by simp at hb; simp [hb]
  frame := fun i h h' st hk => by
    obtain ⟨⟨o, e, r⟩, ho, B⟩ := st
    refine ⟨⟨o, hk I (by simp) o e, r⟩, hk a (by simp) _ ho, ⟨B.el, B.tok, B.pln, B.ld, fun z hz => ?_, B.nd, B.few⟩⟩
    obtain ⟨b, o, t, u, n, e1, e2, e3⟩ := B.sp z hz
    exact ⟨b, o, t, u, n, e1, hk b (by simp [(hfp z hz b e1).1]) o e2, e3⟩
  item := fun i s Q E hi st hQ => by
    obtain ⟨hit, ho, B⟩ := st
    obtain ⟨e, he⟩ : ∃ e, (ord w a ep es)[i]? = some e := ⟨(ord w a ep es)[i]'(by rw [ord_size]; exact hi), by simp [ord_size, hi]⟩
    refine next_item hit ho B he fun h' hit' hs' => ?_
    refine hQ _ h' s.toks (by rw [he]; rfl) ⟨hit', (hs'.2 a hne).trans ho, ⟨B.el, B.tok, B.pln, B.ld, fun z hz => ?_, B.nd, B.few⟩⟩ fun b o hb e => hs'.extBut b o (fun h => hb (by simp [h])) e
    obtain ⟨b, o, t, u, n, e1, e2, e3⟩ := B.sp z hz
    exact ⟨b, o, t, u, n, e1, (hs'.2 b (hfp z hz b e1).2).trans e2, e3⟩
  done := fun s Q E st hQ => by
    obtain ⟨hit, ho, B⟩ := st
    exact next_end hh hit ho B fun h' he' => hQ h' s.toks fun b o hb e => he' b o (fun h => hb (by simp [h])) e
  self := fun _ _ _ _ st hQ => iter_self st.1 hQ
end
end SetX
set_option linter.all false
set_option maxRecDepth 100000
set_option maxHeartbeats 8000000
namespace SetX
open PySem PySem.W PyProof.Rows Hull SortM SetM
section
variable {prog : Program} {w : World} {A : Around} {E : Value → Shared → Prop} {s : Shared} {a it : Addr} {es : Array (Int × Value)} {ep : Nat} {t : SetTable} {L : List VP}
def refs (L : List VP) : List Addr := L.filterMap fun z => match z.1 with | .ref b => some b | _ => none
theorem mem_refs {z : VP} {b : Addr} (hz : z ∈ L) (e : z.1 = .ref b) : b ∈ refs L := List.mem_filterMap.mpr ⟨z, hz, by rw [e]⟩
theorem collect_set {Q : List Value → Shared → Prop} (hh : A.handled = none) (ho : s.heap.get? a = some (setObj es ep t)) (B : SBody prog w s.heap es t L) (hlen : L.length ≤ 12)
    (hQ : ∀ (h' : Heap) (tk : Nat) (L' : List VP), (∀ b o, s.heap.get? b = some o → h'.get? b = some o) → s.heap.objs.size ≤ h'.objs.size → L'.Perm L → Q (L'.map (·.1)) { s with heap := h', toks := tk }) :
    wpAny (model prog w) A (collect (.ref a)) Q E s := by
  have ha : a < s.heap.objs.size := Heap.lt_size ho
  have hsz := B.size
  unfold collect
  refine wpAny_bind (wpAny_runValue (codeAny_builtin PySem.F.entry_proto_collect ?_))
  rw [Around.under_plainId PySem.F.plain_proto_collect _]
  show wpAny _ A.in1 (newList [] >>= fun l => again (.builtin "list.__iadd__" ⟨[l, .ref a], []⟩)) _ _ s
  refine wpAny_bind (wpAny_newObj_type ?_)
  refine wpAny_pure ⟨plainId_quiet PySem.F.plain_list_iadd _, codeAny_builtin PySem.F.entry_list_iadd ?_⟩
  rw [Around.under_plainId PySem.F.plain_list_iadd _]
  have ho1 : (s.heap.push { cls := .type "list", data := .seq ([] : List Value).toArray }).get? a = some (setObj es ep t) := Heap.get?_push_of_some _ ho
  have B1 : SBody prog w (s.heap.push { cls := .type "list", data := .seq ([] : List Value).toArray }) es t L := B.kept fun b o _ e => Heap.get?_push_of_some _ e
  have hT1 : Shared.TypeIs { s with heap := s.heap.push { cls := .type "list", data := .seq ([] : List Value).toArray } } (.ref a) "set" := ⟨_, ho1, rfl⟩
  show wpAny _ A.in1 (Builtin.List.listExtendWith (.ref s.heap.objs.size) (.ref a) (.ref s.heap.objs.size)) _ _ _
  unfold Builtin.List.listExtendWith
  refine wpAny_bind (wpAny_typeOf hT1 ?_)
  have h1 : Builtin.List.listSameRef (.ref s.heap.objs.size) (.ref a) = false := by simp [Builtin.List.listSameRef, Nat.ne_of_gt ha]
  have h2 : (Value.type "set" == Value.type "list") = false := by decide
  have h3 : (Value.type "set" == Value.type "tuple") = false := by decide
  simp only [h1, h2, h3, Bool.or_false, Bool.false_eq_true, if_false]
  refine wpAny_bind (iter_set (s := { s with heap := s.heap.push { cls := .type "list", data := .seq ([] : List Value).toArray } }) ho1 B1 ?_)
  refine wpAny_bind (wpAny_holding ?_)
  generalize hI : (s.heap.push { cls := .type "list", data := .seq ([] : List Value).toArray }).objs.size = I
  have hI' : I = s.heap.objs.size + 1 := by rw [← hI, Heap.size_push]
  have ho2 : ((s.heap.push { cls := .type "list", data := .seq ([] : List Value).toArray }).push { cls := .type "set_iterator", data := .fields #[.int 0 0, .int 0 0, .ref a, .int es.size 0, .int ep 0] }).get? a = some (setObj es ep t) := Heap.get?_push_of_some _ ho1
  have hT2 : Shared.TypeIs { s with heap := ((s.heap.push { cls := .type "list", data := .seq ([] : List Value).toArray }).push { cls := .type "set_iterator", data := .fields #[.int 0 0, .int 0 0, .ref a, .int es.size 0, .int ep 0] }) } (.ref a) "set" := ⟨_, ho2, rfl⟩
  unfold Builtin.List.listLengthHint
  refine wpAny_bind (wpAny_specialOf hT2 PySem.F.slot_set_len.lookup ?_)
  dsimp only
  have hsp : splitId "set.__len__" = some ("set", "__len__") := by decide +kernel
  rw [hsp]
  dsimp only
  refine wpAny_bind (wpAny_isInstance hT2 sub_set_self ?_)
  simp only [Bool.not_true, Bool.false_eq_true, if_false]
  rw [if_pos (by decide +kernel)]
  refine wpAny_bind (wpAny_typeOf hT2 (wpAny_pure ?_))
  rw [if_pos (by decide +kernel)]
  refine wpAny_bind (wpAny_rule ?_)
  have hS₁ : ((s.heap.push { cls := .type "list", data := .seq ([] : List Value).toArray }).push { cls := .type "set_iterator", data := .fields #[.int 0 0, .int 0 0, .ref a, .int es.size 0, .int ep 0] }).get? s.heap.objs.size = some { cls := .type "list", data := .seq ([] : List Value).toArray } := Heap.get?_push_of_some _ (Heap.get?_push_size _ rfl)
  refine wpAny_bind ?_
  show wpAny _ A.in1 (updateSeq s.heap.objs.size (·.push .none) >>= fun _ => updateSeq s.heap.objs.size (·.pop)) _ _ _
  refine wpAny_bind (wpAny_updateSeq hS₁ rfl ?_)
  have hS₂ := Heap.get?_update_self (Obj.mapSeq (·.push Value.none)) hS₁ rfl
  refine wpAny_updateSeq hS₂ rfl ?_
  have hS₃ := Heap.get?_update_self (Obj.mapSeq (·.pop)) hS₂ rfl
  generalize hH : ((((s.heap.push { cls := .type "list", data := .seq ([] : List Value).toArray }).push { cls := .type "set_iterator", data := .fields #[.int 0 0, .int 0 0, .ref a, .int es.size 0, .int ep 0] }).update s.heap.objs.size (Obj.mapSeq (·.push Value.none))).update s.heap.objs.size (Obj.mapSeq (·.pop))) = H at *
  have oth : ∀ b o, b ≠ s.heap.objs.size → ((s.heap.push { cls := .type "list", data := .seq ([] : List Value).toArray }).push { cls := .type "set_iterator", data := .fields #[.int 0 0, .int 0 0, .ref a, .int es.size 0, .int ep 0] }).get? b = some o → H.get? b = some o := fun b o hb e => by
    rw [← hH]; exact (Heap.get?_update_other _ _ (Ne.symm hb)).trans ((Heap.get?_update_other _ _ (Ne.symm hb)).trans e)
  have old : ∀ b o, s.heap.get? b = some o → H.get? b = some o := fun b o e => oth b o (Nat.ne_of_lt (Heap.lt_size e)) (Heap.get?_push_of_some _ (Heap.get?_push_of_some _ e))
  have hIt : H.get? I = some { cls := .type "set_iterator", data := .fields #[.int 0 0, .int 0 0, .ref a, .int es.size 0, .int ep 0] } := oth I _ (by rw [hI']; exact Nat.ne_of_gt (Nat.lt_succ_self _)) (by rw [← hI]; exact Heap.get?_push_size _ rfl)
  have hh1 : A.in1.handled = none := by simp [hh]
  have hneI : a ≠ I := by rw [hI']; exact Nat.ne_of_lt (Nat.lt_succ_of_lt ha)
  have hrl : ∀ z ∈ L, ∀ b, z.1 = .ref b → b < s.heap.objs.size := fun z hz b e => by
    obtain ⟨b', o, _, _, _, e1, e2, _⟩ := B.sp z hz
    rw [e] at e1; cases e1; exact Heap.lt_size e2
  have W := (walks_set (prog := prog) (w := w) (A := A.in1) (es := es) (ep := ep) (t := t) (L := L) hh1 I hneI (refs L) (fun z hz b e => ⟨mem_refs hz e, by rw [hI']; exact Nat.ne_of_lt (Nat.lt_succ_of_lt (hrl z hz b e))⟩)).toS
  have hSf : s.heap.objs.size ∉ I :: a :: refs L := by
    intro hm
    rcases List.mem_cons.mp hm with e | hm
    · rw [hI'] at e; exact Nat.ne_of_lt (Nat.lt_succ_self _) e
    · rcases List.mem_cons.mp hm with e | hm
      · exact Nat.ne_of_gt ha e
      · obtain ⟨z, hz, hz2⟩ := List.mem_filterMap.mp hm
        obtain ⟨b, hb⟩ := SpotAt.ref (B.sp z hz)
        rw [hb] at hz2
        cases hz2
        exact Nat.lt_irrefl _ (hrl z hz _ hb)
  have hst0 : IsSetIter H I a (sl w t 0) 0 es.size ep ∧ H.get? a = some (setObj es ep t) ∧ SBody prog w H es t L := by
    refine ⟨⟨_, hIt, rfl, ?_⟩, old a _ ho, B.kept fun b o _ e => old b o e⟩
    have : sl w t 0 = 0 := by unfold sl; split <;> rfl
    rw [this]; rfl
  refine wpAny_pure ⟨plainId_quiet PySem.F.plain_extend_loop _, codeAny_extend_loopS W (by rw [sizeLine_eq]; omega) _ hSf _ es.size 0 _ _ _ rfl (Nat.zero_le _) hst0 hS₃ (ItemsOf.nil _) fun s' acc' c' hm hS' hacc => ?_⟩
  show wpAny _ A (load s.heap.objs.size >>= _) _ _ s'
  refine wpAny_bind (wpAny_load hS' ?_)
  obtain ⟨h', g', d', tk', os'⟩ := s'
  have eg : g' = s.gens := hm.gens
  have ed : d' = s.drawn := hm.drawn
  have eo : os' = s.os := hm.os
  subst eg; subst ed; subst eo
  obtain ⟨L', p1, p2⟩ := perm_map_inv (f := ent prog w) (ord_perm w a ep es) L B.el
  have hvs : acc'.toList = L'.map (·.1) := by
    have hl' : L'.length = es.size := by rw [p1.length_eq, hsz]
    apply List.ext_getElem?
    intro j
    rcases Nat.lt_or_ge j es.size with g | g
    · have hj : j < acc'.size := by rw [hacc.1]; exact g
      have h1 : ((ord w a ep es)[j]?).map (·.2) = some acc'[j] := hacc.2 j acc'[j] (by simp [hj])
      have h2 : (ord w a ep es)[j]? = (L'.map (ent prog w))[j]? := by rw [← p2]; simp
      rw [h2] at h1
      rw [List.getElem?_map] at h1 ⊢
      have hj2 : j < L'.length := by omega
      rw [List.getElem?_eq_getElem hj2] at h1 ⊢
      simp only [Option.map_some] at h1 ⊢
      have h3 : L'[j].1 = acc'[j] := Option.some.inj h1
      rw [h3]; simp [hj]
    · rw [List.getElem?_eq_none (by rw [Array.length_toList, hacc.1]; exact g), List.getElem?_eq_none (by rw [List.length_map, hl']; exact g)]
  refine wpAny_pure ?_
  show Q acc'.toList _
  rw [hvs]
  refine hQ h' tk' L' (fun b o e => ?_) (Nat.le_of_lt (Heap.lt_size hS')) p1
  refine hm.heap b o ?_ (old b o e)
  have hlt := Heap.lt_size e
  simp only [List.mem_cons, List.mem_singleton, List.not_mem_nil, or_false, not_or]
  exact ⟨Nat.ne_of_lt hlt, by rw [hI']; exact Nat.ne_of_lt (Nat.lt_succ_of_lt hlt)⟩
end
end SetX
set_option linter.all false
set_option maxRecDepth 100000
set_option maxHeartbeats 4000000
namespace SpotC
open PySem PySem.W PyProof.Rows Hull SortM
section
variable {prog : Program} {w : World} {A : Around} {E : Value → Shared → Prop} {s : Shared}
end
end SpotC
set_option linter.all false
set_option maxRecDepth 100000
set_option maxHeartbeats 4000000
namespace SpotC
open PySem PySem.W PyProof.Rows Hull SortM
end SpotC
set_option linter.all false
set_option maxRecDepth 100000
set_option maxHeartbeats 8000000
namespace RevX
open PySem PySem.W PyProof.Rows
namespace F
theorem mro : mroOf (.type "reversed") = pure [.type "reversed", .type "object"] := by rw [mroOf_type]; kernel_rfl
theorem lookup_new : typeLookup (.type "reversed") "__new__" = pure (some (.builtin "reversed.__new__")) := by rw [typeLookup_type, builtinLookup_eq_fast]; kernel_rfl
theorem notType : (Value.type "reversed" == Value.type "type") = false := by decide +kernel
theorem canCreate : ((Manifest.find? "reversed").bind (·.mro.findSome? fun t => (Manifest.find? t).bind fun b => if b.noNew then some true else if b.attrs.any (·.1 == "__new__") then some false else none)).getD false = false := by decide +kernel
theorem made : Bind.madeBy (.type "reversed") = pure (some "reversed.__new__") := madeBy_type mro lookup_new (by decide +kernel)
theorem plain_new : plainId "reversed.__new__" = true := by decide +kernel
theorem sub : isSubtype (.type "reversed") (.type "reversed") = pure true := by rw [isSubtype_type]; kernel_rfl
theorem sub_other : isSubtype (.type "list_reverseiterator") (.type "reversed") = pure false := by rw [isSubtype_type]; kernel_rfl
theorem typeCall (a : Value) : checkTypeCall "reversed" ⟨[a], []⟩ = pure () := by kernel_rfl
theorem newCall (a : Value) : checkBuiltinCall "reversed.__new__" ⟨[.type "reversed", a], []⟩ = pure () := by kernel_rfl
theorem entry_new : entryFor table "reversed.__new__" = some Builtin.«reversed.__new__» := entryFor_of_tree (by kernel_rfl)
end F
def revObj (l : Addr) (i : Int) : Obj := { cls := .type "list_reverseiterator", data := .fields #[.ref l, .int i 0] }
section
variable {prog : Program} {w : World} {A : Around} {E : Value → Shared → Prop} {s : Shared}
theorem rev_new {l : Addr} {items : Array Value} {n : Nat} {Q₁ : Value → Shared → Prop} (hl : s.heap.get? l = some { cls := .type "list", dict := none, data := .seq items n, slots := #[] })
    (h : Q₁ (.ref s.heap.objs.size) { s with heap := s.heap.push (revObj l ((items.size : Int) - 1)) }) :
    codeAny (model prog w) A (.call (.builtin "reversed.__new__") ⟨[.type "reversed", .ref l], []⟩) (wants Q₁ E) s := by
  refine codeAny_of_tree ?_
  show wpAny _ A.in1 (do checkBuiltinCall "reversed.__new__" ⟨[.type "reversed", .ref l], []⟩; again (.builtin "reversed.__new__" ⟨[.type "reversed", .ref l], []⟩)) _ _ s
  refine wpAny_bind (wpAny_of_eq (F.newCall _) (wpAny_pure ⟨plainId_quiet F.plain_new _, codeAny_builtin F.entry_new ?_⟩))
  rw [Around.under_plainId F.plain_new _]
  have hT : s.TypeIs (.ref l) "list" := ⟨_, hl, rfl⟩
  have hsub := F.sub
  unfold Builtin.«reversed.__new__» Builtin.SmallTypes.newClass Builtin.SmallTypes.refuseKeywords
  wp_walk
  refine wpAny_of_eq PySem.F.slot_list_reversed.lookup ?_
  dsimp only
  refine wpAny_bind (wpAny_of_eq (PySem.F.slot_list_reversed.bind (.ref l)) ?_)
  dsimp only
  rw [if_neg (by decide)]
  refine wpAny_bind (wpAny_rule ?_)
  show wpAny _ _ (call (.builtin "list.__reversed__") [.ref l] >>= _) _ _ _
  refine wpAny_bind (call_meets PySem.F.slot_list_reversed hT PySem.F.entry_list_reversed (PySem.F.args_list_reversed_1 _) (AutoListH.list___reversed___list_0 l items n) ⟨hl, ?_⟩)
  exact wpAny_pure h
theorem call_rev {l : Addr} {items : Array Value} {n : Nat} {Q : Value → Shared → Prop} (hl : s.heap.get? l = some { cls := .type "list", dict := none, data := .seq items n, slots := #[] })
    (h : Q (.ref s.heap.objs.size) { s with heap := s.heap.push (revObj l ((items.size : Int) - 1)) }) :
    wpAny (model prog w) A (call (.type "reversed") [.ref l]) Q E s := by
  have hmro := F.mro
  have hmade := F.made
  have hsub := F.sub
  refine wpAny_call (codeAny_of_tree ?_)
  show wpAny _ _ (callAny (.type "reversed") _) _ _ _
  refine wpAny_pure ⟨Code.quiet_builtin _ (by decide +kernel), codeAny_builtin PySem.F.entry_type_call ?_⟩
  rw [Around.under_plain (weight_type_call_type "reversed" [.ref l] []) rfl]
  have h1 := F.notType
  have h2 := F.canCreate
  have hct := F.typeCall (.ref l)
  repeat (any_goals (first | assumption | wp_step))
  refine codeAny_mono (rev_new (E := E) (Q₁ := fun obj s₁ => obj = .ref s.heap.objs.size ∧ s₁ = { s with heap := s.heap.push (revObj l ((items.size : Int) - 1)) }) hl ⟨rfl, rfl⟩) fun r s₁ hr => ?_
  cases r with
  | error e => exact hr
  | ok fl =>
    cases fl with
    | ret obj =>
      obtain ⟨rfl, rfl⟩ := hr
      have hT : Shared.TypeIs { s with heap := s.heap.push (revObj l ((items.size : Int) - 1)) } (.ref s.heap.objs.size) "list_reverseiterator" := ⟨_, Heap.get?_push_size _ rfl, rfl⟩
      have hso := F.sub_other
      repeat (any_goals (first | assumption | wp_step))
    | _ => exact hr.elim
end
end RevX
set_option linter.all false
set_option maxRecDepth 100000
set_option maxHeartbeats 8000000
namespace RevX
open PySem PySem.W PyProof.Rows
namespace F
theorem slot_next : Slot "list_reverseiterator" "__next__" "list_reverseiterator.__next__" :=
  .of (owner := "list_reverseiterator") (n := "__next__") (by rw [typeLookup_type, builtinLookup_eq_fast]; kernel_rfl) (by decide +kernel) (by decide +kernel) (by decide +kernel)
    (by first | exact .inl (by decide +kernel) | exact .inr (by decide +kernel)) (by rw [isSubtype_type]; kernel_rfl)
theorem entry_next : entryFor table "list_reverseiterator.__next__" = some Builtin.«list_reverseiterator.__next__» := entryFor_of_tree (by kernel_rfl)
theorem args_next (a : Value) : argsOk "list_reverseiterator.__next__" ⟨[a], []⟩ := by unfold argsOk; kernel_rfl
theorem slot_self : Slot "list_reverseiterator" "__iter__" "list_reverseiterator.__iter__" :=
  .of (owner := "list_reverseiterator") (n := "__iter__") (by rw [typeLookup_type, builtinLookup_eq_fast]; kernel_rfl) (by decide +kernel) (by decide +kernel) (by decide +kernel)
    (by first | exact .inl (by decide +kernel) | exact .inr (by decide +kernel)) (by rw [isSubtype_type]; kernel_rfl)
theorem args_self (a : Value) : argsOk "list_reverseiterator.__iter__" ⟨[a], []⟩ := by unfold argsOk; kernel_rfl
theorem nolen : typeLookup (.type "list_reverseiterator") "__len__" = pure none := by rw [typeLookup_type, builtinLookup_eq_fast]; kernel_rfl
theorem hint : typeLookup (.type "list_reverseiterator") "__length_hint__" = pure (some (.builtin "list_reverseiterator.__length_hint__")) := by rw [typeLookup_type, builtinLookup_eq_fast]; kernel_rfl
end F
end RevX
set_option linter.all false
set_option maxRecDepth 100000
set_option maxHeartbeats 8000000
namespace RevX
open PySem PySem.W PyProof.Rows
theorem F.entry_self : entryFor table "list_reverseiterator.__iter__" = some Builtin.«dict_keyiterator.__iter__» :=
  entryFor_alias (id' := "dict_keyiterator.__iter__") (by kernel_rfl) rfl (by decide +kernel) (by kernel_rfl)
def IsRev (h : Heap) (it l : Addr) (i : Int) : Prop := ∃ o, h.get? it = some o ∧ o.cls = .type "list_reverseiterator" ∧ o.data = .fields #[.ref l, .int i 0]
section
variable {prog : Program} {w : World} {A : Around} {E : Value → Shared → Prop} {s : Shared} {it l : Addr} {items : Array Value}
theorem IsRev.typeIs {i : Int} (x : IsRev s.heap it l i) : s.TypeIs (.ref it) "list_reverseiterator" := let ⟨o, ho, hc, _⟩ := x; ⟨o, ho, hc⟩
theorem rev_item {i : Nat} {v : Value} {Q : Option Value → Shared → Prop} (hit : IsRev s.heap it l i) (hl : s.heap.IsList l items) (hv : items[i]? = some v)
    (hQ : ∀ h', IsRev h' it l ((i : Int) - 1) → Heap.SameBut it s.heap h' → Q (some v) { s with heap := h' }) : wpAny (model prog w) A (pyNext (.ref it)) Q E s := by
  obtain ⟨o, ho, hc, hd⟩ := id hit
  obtain ⟨ol, hol, hcl, n, hdl⟩ := hl
  unfold pyNext
  refine wpAny_bind (wpAny_attempt (wpAny_callSpecial?_slot (name := Str.ofString "__next__") hit.typeIs F.slot_next (wpAny_call_entry F.slot_next hit.typeIs F.entry_next ?_ (F.args_next _))))
  unfold Builtin.«list_reverseiterator.__next__»
  refine wpAny_bind (m := slotArgs _ _ _) (wpAny_pure ?_)
  refine wpAny_bind (wpAny_field (x := .int i 0) ho hd rfl ?_)
  dsimp only
  rw [if_neg (by omega)]
  refine wpAny_bind (wpAny_field (x := .ref l) ho hd rfl ?_)
  refine wpAny_bind (wpAny_seqItems hol hdl ?_)
  dsimp only
  rw [Int.toNat_natCast, hv]
  dsimp only
  refine wpAny_bind (wpAny_setField ho hd (by simp) ?_)
  refine wpAny_pure ⟨_, rfl, wpAny_pure (hQ _ ⟨_, Heap.get?_update_self _ ho (Obj.isFreed_of_fields (Obj.data_mapFields hd _)), ?_, ?_⟩ (Heap.SameBut.update ..))⟩
  · rw [Obj.cls_mapFields]; exact hc
  · rw [Obj.data_mapFields hd]; simp [rawInt]
theorem rev_end {Q : Option Value → Shared → Prop} (hh : A.handled = none) (hit : IsRev s.heap it l (-1))
    (hQ : ∀ h', Heap.ExtBut it s.heap h' → Q none { s with heap := h' }) : wpAny (model prog w) A (pyNext (.ref it)) Q E s := by
  obtain ⟨o, ho, hc, hd⟩ := id hit
  unfold pyNext
  refine wpAny_bind (wpAny_attempt (wpAny_callSpecial?_slot (name := Str.ofString "__next__") hit.typeIs F.slot_next (wpAny_call_entry F.slot_next hit.typeIs F.entry_next ?_ (F.args_next _))))
  unfold Builtin.«list_reverseiterator.__next__»
  refine wpAny_bind (m := slotArgs _ _ _) (wpAny_pure ?_)
  refine wpAny_bind (wpAny_field (x := .int (-1) 0) ho hd rfl ?_)
  dsimp only
  rw [if_pos (by decide)]
  refine wpAny_bind (wpAny_rule ?_)
  refine wpAny_bind ?_
  unfold Builtin.SmallTypes.stopIteration
  refine wpAny_bind ?_
  simp only [newExc, newTuple]
  refine wpAny_bind (wpAny_newObj_type ?_ (by size_fits))
  refine wpAny_bind (m := firstArgMember _ _) (wpAny_of_eq (a := Value.none) (by first | rfl | (simp only [firstArgMember]; rfl)) ?_)
  refine wpAny_newObj_type ?_ (by size_fits)
  simp only [raiseNew]
  refine wpAny_bind (wpAny_handled ?_)
  rw [show A.in1.handled = none from hh]
  refine wpAny_bind (wpAny_pure (wpAny_throw ?_))
  refine wpAny_bind (wpAny_isInstance (T := "StopIteration") (b := true) ⟨_, Heap.get?_push_size _ rfl, rfl⟩ isSubtype_stop ?_)
  exact wpAny_pure (hQ _ (((Heap.ExtBut.refl _ _).push _).push _))
theorem rev_self {i : Int} {Q : Value → Shared → Prop} (hit : IsRev s.heap it l i) (h : Q (.ref it) s) : wpAny (model prog w) A (pyIter (.ref it)) Q E s := by
  refine wpAny_pyIter_slot hit.typeIs F.slot_self (wpAny_call_entry F.slot_self hit.typeIs F.entry_self ?_ (F.args_self _))
  show wpAny _ _ (ret (.ref it)) _ _ s
  exact wpAny_pure ⟨_, rfl, "list_reverseiterator", _, hit.typeIs, F.slot_next.lookup, h⟩
theorem walks_rev (hh : A.handled = none) (I : Addr) (hne : l ≠ I) :
    Walks prog w A I [I, l] [I] items.size (fun i v => items[items.size - 1 - i]? = some v) (fun i h => IsRev h I l ((items.size : Int) - 1 - i) ∧ h.IsList l items) where
  sub := fun b hb => by simp at hb; simp [hb]
  frame := fun i h h' st hk => by
    obtain ⟨⟨o, e, r⟩, hl⟩ := st
    exact ⟨⟨o, hk I (by simp) o e, r⟩, hl.at fun o e => hk l (by simp) o e⟩
  item := fun i s Q E hi st hQ => by
    obtain ⟨hit, hl⟩ := st
    have e : ((items.size : Int) - 1 - i) = ((items.size - 1 - i : Nat) : Int) := by omega
    rw [e] at hit
    refine rev_item hit hl (v := items[items.size - 1 - i]'(by omega)) (by simp) fun h' hit' hs' => ?_
    have e2 : (((items.size - 1 - i : Nat) : Int) - 1) = (items.size : Int) - 1 - (i + 1 : Nat) := by omega
    rw [e2] at hit'
    exact hQ _ h' s.toks (by simp) ⟨hit', hl.extBut hs'.extBut hne⟩ fun b o hb e => hs'.extBut b o (fun h => hb (by simp [h])) e
  done := fun s Q E st hQ => by
    obtain ⟨hit, hl⟩ := st
    have e : ((items.size : Int) - 1 - (items.size : Nat)) = -1 := by omega
    rw [e] at hit
    exact rev_end hh hit fun h' he' => hQ h' s.toks fun b o hb e => he' b o (fun h => hb (by simp [h])) e
  self := fun _ _ _ _ st hQ => rev_self st.1 hQ
theorem list_rev {Q : Value → Shared → Prop} (hh : A.handled = none) (hit : IsRev s.heap it l ((items.size : Int) - 1)) (hl : s.heap.IsList l items) (hne : l ≠ it) (hsz : items.size ≤ sizeLine)
    (hQ : ∀ h' tk c', (∀ b o', b ≠ it → s.heap.get? b = some o' → h'.get? b = some o') → h'.get? s.heap.objs.size = some { cls := .type "list", dict := none, data := .seq items.reverse c', slots := #[] } → Q (.ref s.heap.objs.size) { s with heap := h', toks := tk }) :
    wpAny (model prog w) A (call (.type "list") [.ref it]) Q E s := by
  have hlt : it < s.heap.objs.size := let ⟨_, ho, _⟩ := hit; Heap.lt_size ho
  have hll : l < s.heap.objs.size := let ⟨_, ho, _⟩ := hl; Heap.lt_size ho
  have hneS : it ≠ s.heap.objs.size := Nat.ne_of_lt hlt
  refine callType_codes (Q₁ := fun obj s₁ => obj = .ref s.heap.objs.size ∧ s₁ = { s with heap := s.heap.push { cls := .type "list", data := .seq #[] } }) PySem.F.called_list (PySem.F.typeCall_list_1 _) PySem.F.entry_list_init
    (code_list_new _ ⟨rfl, rfl⟩) fun obj s₁ h₁ => ?_
  obtain ⟨rfl, rfl⟩ := h₁
  have hS : (s.heap.push { cls := .type "list", data := .seq #[] }).get? s.heap.objs.size = some { cls := .type "list", data := .seq #[] } := Heap.get?_push_size _ rfl
  refine ⟨⟨_, hS, rfl⟩, PySem.F.args_list_init_2 _ _, ?_⟩
  show wpAny _ _ (do let old ← Builtin.List.listItems (.ref s.heap.objs.size); Builtin.List.listUpdate (.ref s.heap.objs.size) (fun _ => #[]); letGo old.toList.reverse; Builtin.List.listExtendWith (.ref s.heap.objs.size) (.ref it) .none) _ _ _
  refine wpAny_bind ?_
  unfold Builtin.List.listItems
  refine wpAny_bind (wpAny_seqItems hS rfl (wpAny_pure ?_))
  show wpAny _ _ (updateSeq s.heap.objs.size (fun _ => #[]) >>= fun _ => letGo (#[] : Array Value).toList.reverse >>= fun _ => Builtin.List.listExtendWith (.ref s.heap.objs.size) (.ref it) .none) _ _ _
  refine wpAny_bind (wpAny_updateSeq hS rfl ?_)
  have hS₂ := Heap.get?_update_self (Obj.mapSeq (fun _ => (#[] : Array Value))) hS rfl
  refine wpAny_bind (wpAny_letGo ?_)
  generalize hH : (s.heap.push { cls := .type "list", data := .seq #[] }).update s.heap.objs.size (Obj.mapSeq (fun _ => (#[] : Array Value))) = H at *
  have old : ∀ b o, s.heap.get? b = some o → H.get? b = some o := fun b o e => by
    rw [← hH]; exact (Heap.get?_update_other _ _ (Ne.symm (Nat.ne_of_lt (Heap.lt_size e)))).trans (Heap.get?_push_of_some _ e)
  have hit1 : IsRev H it l ((items.size : Int) - 1) := let ⟨o, ho, r⟩ := hit; ⟨o, old _ _ ho, r⟩
  have hl1 : H.IsList l items := hl.at fun o e => old _ _ e
  have hT : Shared.TypeIs { s with heap := H } (.ref it) "list_reverseiterator" := IsRev.typeIs (s := { s with heap := H }) hit1
  have h1 : Builtin.List.listSameRef (.ref s.heap.objs.size) (.ref it) = false := by simp [Builtin.List.listSameRef, Ne.symm hneS]
  unfold Builtin.List.listExtendWith
  refine wpAny_bind (wpAny_typeOf hT ?_)
  rw [if_neg (by rw [h1]; decide)]
  refine wpAny_bind (rev_self (s := { s with heap := H }) hit1 ?_)
  refine wpAny_bind (wpAny_holding ?_)
  unfold Builtin.List.listLengthHint
  refine wpAny_bind (wpAny_specialOf hT F.nolen ?_)
  show wpAny _ _ (specialOf (Value.ref it) (Str.ofString "__length_hint__") >>= _) _ _ _
  refine wpAny_bind (wpAny_specialOf hT F.hint ?_)
  generalize hid : ("list_reverseiterator.__length_hint__" : String) = id0
  dsimp only
  rw [show splitId id0 = some ("list_reverseiterator", "__length_hint__") from by subst hid; decide +kernel]
  subst hid
  dsimp only
  refine wpAny_bind (wpAny_isInstance (b := true) hT (by rw [isSubtype_type]; kernel_rfl) ?_)
  refine wpAny_pure ?_
  rw [if_neg (by decide)]
  have hSf : s.heap.objs.size ∉ [it, l] := by
    simp only [List.mem_cons, List.mem_singleton, List.not_mem_nil, or_false, not_or]
    exact ⟨Ne.symm hneS, Nat.ne_of_gt hll⟩
  have hst : IsRev H it l ((items.size : Int) - 1 - (0 : Nat)) ∧ H.IsList l items := ⟨by simpa using hit1, hl1⟩
  refine wpAny_pure ⟨plainId_quiet PySem.F.plain_extend_loop _, codeAny_extend_loopS ((walks_rev (by simp [hh]) it hne).toS) hsz _ hSf _ items.size 0 { s with heap := H } _ _ rfl (Nat.zero_le _) hst hS₂ (ItemsOf.nil _) fun s' acc' c' hm hS' hacc => ?_⟩
  obtain ⟨h', g', d', tk', os'⟩ := s'
  have eg : g' = s.gens := hm.gens
  have ed : d' = s.drawn := hm.drawn
  have eo : os' = s.os := hm.os
  subst eg; subst ed; subst eo
  refine ⟨rfl, hQ h' tk' c' (fun b o hb e => hm.heap b o ?_ (old b o e)) ?_⟩
  · simp only [List.mem_cons, List.mem_singleton, List.not_mem_nil, or_false, not_or]
    exact ⟨Nat.ne_of_lt (Heap.lt_size e), hb⟩
  · have : acc' = items.reverse := by
      apply Array.ext_getElem?
      intro j
      rcases Nat.lt_or_ge j items.size with g | g
      · have hj : j < acc'.size := by rw [hacc.1]; exact g
        have hx : items[items.size - 1 - j]? = some acc'[j] := hacc.2 j acc'[j] (by simp [hj])
        rw [Array.getElem?_reverse g, hx]; simp [hj]
      · rw [Array.getElem?_eq_none (by rw [hacc.1]; exact g), Array.getElem?_eq_none (by simpa using g)]
    rw [← this]; exact hS'
end
end RevX
set_option Elab.async false
set_option linter.all false
set_option maxRecDepth 100000
set_option maxHeartbeats 4000000
namespace L2
open PySem PySem.Spec PyProof.Rows

theorem cells_look : ∀ (names : List (Str × NameKind)) (h : Heap) (acc : List (Str × Addr)) (x : Str) (c : Addr), (cellsFrom h.objs.size names acc).lookup x = some c →
    acc.lookup x = some c ∨ ((pushCells h names).IsCell c none ∧ h.objs.size ≤ c)
  | [], _, _, _, _, e => .inl e
  | (name, kind) :: r, h, acc, x, c, e => by
    unfold cellsFrom at e
    unfold pushCells
    split at e
    · rename_i hk
      rw [if_pos hk]
      have q := cells_look r (h.push { cls := .type "cell", data := .cell none }) ((name, h.objs.size) :: acc) x c (by rw [Heap.size_push]; exact e)
      rcases q with q | ⟨q, z⟩
      · rw [List.lookup_cons] at q
        cases hb : x == name with
        | true =>
          rw [hb] at q; cases q
          exact .inr ⟨⟨_, pushCells_keeps r _ _ _ (Heap.get?_push_size _ rfl), rfl⟩, Nat.le_refl _⟩
        | false => rw [hb] at q; exact .inl q
      · exact .inr ⟨q, by rw [Heap.size_push] at z; omega⟩
    · rename_i hk
      rw [if_neg hk]
      exact cells_look r h acc x c e
theorem cells_inj : ∀ (names : List (Str × NameKind)) (n : Nat) (acc : List (Str × Addr)), (∀ x c, acc.lookup x = some c → c < n) → (∀ x y c, acc.lookup x = some c → acc.lookup y = some c → x = y) →
    ∀ x y c, (cellsFrom n names acc).lookup x = some c → (cellsFrom n names acc).lookup y = some c → x = y
  | [], _, _, _, h => h
  | (name, kind) :: r, n, acc, hl, h => by
    unfold cellsFrom
    split
    · refine cells_inj r (n + 1) ((name, n) :: acc) (fun x c e => ?_) (fun x y c e1 e2 => ?_)
      · rw [List.lookup_cons] at e
        cases hb : x == name with
        | true => rw [hb] at e; cases e; exact Nat.lt_succ_self _
        | false => rw [hb] at e; exact Nat.lt_succ_of_lt (hl x c e)
      · rw [List.lookup_cons] at e1 e2
        cases hb : x == name with
        | true =>
          rw [hb] at e1; cases e1
          cases hb' : y == name with
          | true => rw [beq_iff_eq.mp hb, beq_iff_eq.mp hb']
          | false => rw [hb'] at e2; exact absurd (hl y _ e2) (Nat.lt_irrefl _)
        | false =>
          rw [hb] at e1
          cases hb' : y == name with
          | true => rw [hb'] at e2; cases e2; exact absurd (hl x _ e1) (Nat.lt_irrefl _)
          | false => rw [hb'] at e2; exact h x y c e1 e2
    · exact cells_inj r n acc hl h
theorem cells_own : ∀ (names : List (Str × NameKind)) (n : Nat) (acc : List (Str × Addr)) (x : Str) (c : Addr), (names.lookup x = some .cell ∨ ∀ c, acc.lookup x = some c → n ≤ c) → (cellsFrom n names acc).lookup x = some c → n ≤ c
  | [], _, _, x, c, h, e => by
    rcases h with h | h
    · cases h
    · exact h c e
  | (name, kind) :: r, n, acc, x, c, h, e => by
    unfold cellsFrom at e
    rw [List.lookup_cons] at h
    split at e
    · rename_i hk
      have : n ≤ c := by
        have q := cells_low r (n + 1) ((name, n) :: acc) n x c (by omega) ?_ e
        · exact q
        · cases hb : x == name with
          | true => exact .inr fun c' e' => by rw [List.lookup_cons, hb] at e'; cases e'; exact Nat.le_refl _
          | false =>
            rw [hb] at h
            rcases h with h | h
            · exact .inl h
            · exact .inr fun c' e' => by rw [List.lookup_cons, hb] at e'; exact h c' e'
      exact this
    · rename_i hk
      refine cells_own r n acc x c ?_ e
      cases hb : x == name with
      | true =>
        rw [hb] at h
        rcases h with h | h
        · cases h; exact absurd rfl hk
        · exact .inr h
      | false => rw [hb] at h; exact h
where
  cells_low : ∀ (names : List (Str × NameKind)) (n : Nat) (acc : List (Str × Addr)) (lo : Nat) (x : Str) (c : Addr), lo ≤ n → (names.lookup x = some .cell ∨ ∀ c, acc.lookup x = some c → lo ≤ c) → (cellsFrom n names acc).lookup x = some c → lo ≤ c
  | [], _, _, _, x, c, _, h, e => by
    rcases h with h | h
    · cases h
    · exact h c e
  | (name, kind) :: r, n, acc, lo, x, c, hl, h, e => by
    unfold cellsFrom at e
    rw [List.lookup_cons] at h
    split at e
    · refine cells_low r (n + 1) ((name, n) :: acc) lo x c (by omega) ?_ e
      cases hb : x == name with
      | true => exact .inr fun c' e' => by rw [List.lookup_cons, hb] at e'; cases e'; exact hl
      | false =>
        rw [hb] at h
        rcases h with h | h
        · exact .inl h
        · exact .inr fun c' e' => by rw [List.lookup_cons, hb] at e'; exact h c' e'
    · rename_i hk
      refine cells_low r n acc lo x c hl ?_ e
      cases hb : x == name with
      | true =>
        rw [hb] at h
        rcases h with h | h
        · cases h; exact absurd rfl hk
        · exact .inr h
      | false => rw [hb] at h; exact h
theorem cells_old : ∀ (names : List (Str × NameKind)) (n : Nat) (acc : List (Str × Addr)) (x : Str), (∀ k, (x, k) ∈ names → k ≠ .cell) → (cellsFrom n names acc).lookup x = acc.lookup x
  | [], _, _, _, _ => rfl
  | (name, kind) :: r, n, acc, x, h => by
    unfold cellsFrom
    split
    · rename_i hk
      rw [cells_old r (n + 1) _ x fun k hm => h k (List.mem_cons_of_mem _ hm), List.lookup_cons]
      cases hb : x == name with
      | true => exact absurd (beq_iff_eq.mp hk) (h kind (by rw [beq_iff_eq.mp hb]; exact List.mem_cons_self))
      | false => rfl
    · exact cells_old r n acc x fun k hm => h k (List.mem_cons_of_mem _ hm)

theorem newEnv_comp {M : Model} {A : Around} {E : Value → Shared → Prop} {s : Shared} {scope : Scope} {env : Env} {cl : List (Str × Addr)} {Q : Env → Shared → Prop}
    (hQ : ∀ h', (∀ b o, s.heap.get? b = some o → h'.get? b = some o) → h'.Ns s.heap.objs.size (fun _ => none) →
      (∀ x c, (cellsFrom (s.heap.objs.size + 1) scope.names cl).lookup x = some c → cl.lookup x = some c ∨ (h'.IsCell c none ∧ s.heap.objs.size + 1 ≤ c)) →
      Q (newEnv scope s.heap.objs.size env.globals (cellsFrom (s.heap.objs.size + 1) scope.names cl) env.qual none .none (some env) builtinsNs) { s with heap := h' }) :
    wpAny M A (newFunctionEnv scope env.globals cl [] env.qual none .none (some env)) Q E s := by
  simp only [newFunctionEnv, Option.isSome_some, if_true]
  refine wpAny_bind (wpAny_alloc ?_)
  refine wpAny_bind (wpAny_layCells _ (fun name kind cells => by cases hkc : kind == NameKind.cell <;> simp [hkc]) _ _ _ _ ?_)
  rw [show ({ s with heap := s.heap.push { cls := .type "dict", data := .dict #[] } } : Shared).heap.objs.size = s.heap.objs.size + 1 from Heap.size_push ..]
  refine wpAny_bind (wpAny_pure (wpAny_pure ?_))
  have look := cells_look scope.names (s.heap.push { cls := .type "dict", data := .dict #[] }) cl
  rw [Heap.size_push] at look
  exact hQ _ (fun b o e => pushCells_keeps _ _ b o (Heap.get?_push_of_some _ e)) ((Heap.Ns.new s.heap (.type "dict")).keeps (pushCells_keeps _ _)) look

structure CompSc (env : Env) (scope : Scope) (cl : List (Str × Addr)) : Prop where
  kind : scope.kind = .function
  names : ∀ y ∈ scope.names, y.2 = .local → scope.names.lookup y.1 = some .local
  clos : closureFor scope env = pure cl
  sub : ∀ x c, cl.lookup x = some c → env.cells.lookup x = some c
  has : ∀ x, scope.names.lookup x = some .free → ∃ c, cl.lookup x = some c
  nocell : ∀ x, scope.names.lookup x = some .free → ∀ k, (x, k) ∈ scope.names → k ≠ .cell

def clOf (env : Env) : List (Str × NameKind) → List (Str × Addr) → List (Str × Addr)
  | [], acc => acc
  | (n, k) :: r, acc => if k == .free then clOf env r ((n, (env.cells.lookup n).getD 0) :: acc) else clOf env r acc
def freeB (env : Env) (names : List (Str × NameKind)) : Bool := names.all fun y => !(y.2 == .free) || (env.cells.lookup y.1).isSome
def nameB (names : List (Str × NameKind)) : Bool := names.all fun y => (!(y.2 == .local) || names.lookup y.1 == some .local) && (!(y.2 == .cell) || !(names.lookup y.1 == some .free))
theorem closureFor_go (env : Env) (f : Str × NameKind → List (Str × Addr) → Sem (ForInStep (List (Str × Addr))))
    (hf : ∀ name kind cs, f (name, kind) cs = if kind == .free then (do let c ← cellOf env name; pure (.yield ((name, c) :: cs))) else pure (.yield cs)) : ∀ (names : List (Str × NameKind)) (acc : List (Str × Addr)), freeB env names = true →
    (forIn names acc f : Sem (List (Str × Addr))) = pure (clOf env names acc)
  | [], acc, _ => rfl
  | (n, k) :: r, acc, h => by
    have h' : ((!(k == .free) || (env.cells.lookup n).isSome) && freeB env r) = true := h
    obtain ⟨h1, h2⟩ := Bool.and_eq_true_iff.mp h'
    rw [List.forIn_cons, hf]
    unfold clOf
    by_cases hk : (k == NameKind.free) = true
    · rw [hk, Bool.not_true, Bool.false_or] at h1
      obtain ⟨c, hc⟩ := Option.isSome_iff_exists.mp h1
      have e : cellOf env n = pure c := by unfold cellOf; rw [hc]
      rw [if_pos hk, if_pos hk, e, pure_bind, pure_bind]
      have := closureFor_go env f hf r ((n, c) :: acc) h2
      rw [hc]
      exact this
    · rw [if_neg hk, if_neg hk, pure_bind]
      exact closureFor_go env f hf r acc h2
theorem closureFor_all {env : Env} {scope : Scope} (h : freeB env scope.names = true) : closureFor scope env = pure (clOf env scope.names []) := by
  unfold closureFor
  dsimp only
  rw [closureFor_go env _ (fun name kind cs => by cases hk : kind == NameKind.free <;> simp [hk]) scope.names [] h, pure_bind]
theorem clOf_look (env : Env) : ∀ (names : List (Str × NameKind)) (acc : List (Str × Addr)), freeB env names = true → (∀ x c, acc.lookup x = some c → env.cells.lookup x = some c) → ∀ x c, (clOf env names acc).lookup x = some c → env.cells.lookup x = some c
  | [], _, _, h, x, c, e => h x c e
  | (n, k) :: r, acc, hf, h, x, c, e => by
    have h' : ((!(k == .free) || (env.cells.lookup n).isSome) && freeB env r) = true := hf
    obtain ⟨h1, h2⟩ := Bool.and_eq_true_iff.mp h'
    unfold clOf at e
    split at e
    · rename_i hk
      rw [hk, Bool.not_true, Bool.false_or] at h1
      obtain ⟨c0, hc0⟩ := Option.isSome_iff_exists.mp h1
      refine clOf_look env r _ h2 (fun y d q => ?_) x c e
      rw [List.lookup_cons] at q
      cases hb : y == n with
      | true => rw [hb] at q; rw [beq_iff_eq.mp hb, hc0]; rw [hc0] at q; exact q
      | false => rw [hb] at q; exact h y d q
    · exact clOf_look env r _ h2 h x c e
theorem clOf_has (env : Env) (x : Str) : ∀ (names : List (Str × NameKind)) (acc : List (Str × Addr)), (names.lookup x = some .free ∨ ∃ c, acc.lookup x = some c) → ∃ c, (clOf env names acc).lookup x = some c
  | [], _, h => by
    rcases h with h | h
    · cases h
    · exact h
  | (n, k) :: r, acc, h => by
    unfold clOf
    split
    · refine clOf_has env x r _ ?_
      rw [List.lookup_cons] at h
      cases hb : x == n with
      | true => exact .inr ⟨_, by rw [List.lookup_cons, hb]⟩
      | false =>
        rw [hb] at h
        rcases h with h | ⟨c, h⟩
        · exact .inl h
        · exact .inr ⟨c, by rw [List.lookup_cons, hb]; exact h⟩
    · rename_i hk
      refine clOf_has env x r _ ?_
      rw [List.lookup_cons] at h
      cases hb : x == n with
      | true =>
        rw [hb] at h
        rcases h with h | h
        · cases h; exact absurd rfl hk
        · exact .inr h
      | false => rw [hb] at h; exact h
theorem comp_sc {env : Env} {scope : Scope} (hk : scope.kind = .function) (hn : nameB scope.names = true) (hf : freeB env scope.names = true) : CompSc env scope (clOf env scope.names []) := by
  have hn' : ∀ y ∈ scope.names, ((!(y.2 == .local) || scope.names.lookup y.1 == some .local) && (!(y.2 == .cell) || !(scope.names.lookup y.1 == some .free))) = true := List.all_eq_true.mp hn
  refine ⟨hk, fun y hy e => ?_, closureFor_all hf, clOf_look env scope.names [] hf (fun x c h => by cases h), fun x h => clOf_has env x scope.names [] (.inl h), fun x h k hm e => ?_⟩
  · have := (Bool.and_eq_true_iff.mp (hn' y hy)).1
    rw [e] at this
    simpa using this
  · have := (Bool.and_eq_true_iff.mp (hn' (x, k) hm)).2
    subst e
    rw [h] at this
    simp at this

def cxComp (X : Cx) (Nc : List Str) (scope : Scope) (cl : List (Str × Addr)) (fp : List Addr) (pins : List (Addr × Obj)) (s3 : Shared) (H3 : Hp) : Cx where
  prog := X.prog
  w := X.w
  K := X.K
  mg := X.mg
  base := X.base
  A := X.A
  N := Nc
  s₀ := s3
  H₀ := H3
  env := compEnvC scope (cellsFrom (s3.heap.objs.size + 1) scope.names cl) s3.heap.objs.size X.env
  outer := X.stack
  stack := X.stack
  ex := fp
  calm := X.calm
  fn := fun x => decide (scope.names.lookup x = some .cell)
  pn := X.pn ++ pins
  xe := fun _ _ => False

theorem relabel_look {env : Env} : ∀ {names : List (Str × NameKind)} {x : Str} {k : NameKind}, (names.map fun (n, k) => if (k == NameKind.free && env.scope.kind == .function && env.kindOf n == some .cell) then (n, NameKind.cell) else (n, k)).lookup x = some k →
    names.lookup x = some k ∨ names.lookup x = some .free
  | [], _, _, h => by simp at h
  | (n, j) :: r, x, k, h => by
    have ih := @relabel_look env r x k
    rw [List.map_cons] at h
    by_cases hc : (j == NameKind.free && env.scope.kind == .function && env.kindOf n == some .cell) = true
    · simp only [hc, if_true] at h
      rw [List.lookup_cons] at h ⊢
      cases hx : x == n with
      | true =>
        simp only [Bool.and_eq_true] at hc
        right
        rw [beq_iff_eq.mp hc.1.1]
      | false => rw [hx] at h; exact ih h
    · have hc' : (j == NameKind.free && env.scope.kind == .function && env.kindOf n == some .cell) = false := by simpa using hc
      simp only [hc', Bool.false_eq_true, if_false] at h
      rw [List.lookup_cons] at h ⊢
      cases hx : x == n with
      | true => rw [hx] at h; exact .inl h
      | false => rw [hx] at h; exact ih h

section
variable {X : Cx} {pins : List (Addr × Obj)} {σ : St} {H : Hp} {s : Shared} {scope : Scope} {cl : List (Str × Addr)} {fp : List Addr} {Nc : List Str} {σc : St}

theorem comp_ok (S : CompSc X.env scope cl) (I : Inv X pins σ H s) (hf : ∀ b ∈ fp, FpOk X pins H b) (hfp : ∀ b ∈ fp, b < s.heap.objs.size) : (cxComp X Nc scope cl fp pins s H).Ok := by
  have clt : ∀ x c, cl.lookup x = some c → c < s.heap.objs.size + 1 := fun x c e => by
    obtain ⟨v, q⟩ := I.cell x c (S.sub x c e)
    exact Nat.lt_succ_of_lt q.lt
  refine ⟨I.ok.mod, S.kind, I.ok.glob, I.ok.blt, Nat.le_refl _, ?_, ?_, ?_, I.ok.hd, I.ok.frames, .inl rfl, ?_, I.bs, Nat.le_trans I.ok.bsz I.sz, ?_, ?_, I.stack, I.stkFree⟩
  · exact cells_inj scope.names _ cl clt fun x y c e1 e2 => I.ok.inj x y c (S.sub x c e1) (S.sub y c e2)
  · intro x hx
    have hx' : (relabel scope X.env).names.lookup x = some .cell ∨ (relabel scope X.env).names.lookup x = some .free := hx
    have : scope.names.lookup x = some .cell ∨ scope.names.lookup x = some .free := by
      rcases hx' with h | h
      · exact relabel_look h
      · rcases relabel_look h with h | h <;> exact .inr h
    rcases this with h | h
    · exact Option.isSome_iff_exists.mp (PySem.W.cellsFrom_some scope.names _ cl (.inl h))
    · obtain ⟨c, e⟩ := S.has x h
      exact Option.isSome_iff_exists.mp (PySem.W.cellsFrom_some scope.names _ cl (.inr (by rw [e]; rfl)))
  · intro x c hx e
    have hx' : scope.names.lookup x = some .cell := of_decide_eq_true hx
    have := cells_own scope.names _ cl x c (.inl hx') e
    exact Nat.le_of_succ_le this
  · intro b hb
    obtain ⟨f0, f1, f2, f3, f4, f5⟩ := hf b hb
    refine ⟨Nat.ne_of_lt (hfp b hb), fun x c e => ?_⟩
    have e' : (cellsFrom (s.heap.objs.size + 1) scope.names cl).lookup x = some c := e
    rcases cells_look scope.names (s.heap.push { cls := .type "dict", data := .dict #[] }) cl x c (by rw [Heap.size_push]; exact e') with q | ⟨_, q⟩
    · exact f4 x c (S.sub x c q)
    · rw [Heap.size_push] at q
      exact fun e => absurd (Nat.lt_of_lt_of_le (hfp b hb) (Nat.le_of_succ_le q)) (by rw [e]; exact Nat.lt_irrefl _)
  · intro b o e hb
    obtain ⟨f0, f1, f2, f3, f4, f5⟩ := hf b hb
    rcases f3 with z | z
    · exact I.ok.noex b o e z
    · exact absurd (Nat.lt_of_lt_of_le (Heap.lt_size e) (Nat.le_trans I.ok.bsz z)) (Nat.lt_irrefl _)
  · intro b hb hs
    obtain ⟨f0, f1, f2, f3, f4, f5⟩ := hf b hb
    rcases List.mem_cons.mp (I.stkSub b hs) with z | z
    · exact f1 z
    · exact f2 z

theorem comp_inv (S : CompSc X.env scope cl) (I : Inv X pins σ H s) (hf : ∀ b ∈ fp, FpOk X pins H b) (hfp : ∀ b ∈ fp, b < s.heap.objs.size) (hlen : σc.length = Nc.length)
    (hσ : ∀ (i : Nat) (x : Str) (v : V), Nc[i]? = some x → σc[i]? = some (some v) → scope.names.lookup x = some .free ∧ X.env.kindOf x ≠ some .local ∧ Vis X.env.scope x ∧ ∃ j : Nat, X.N[j]? = some x ∧ σ[j]? = some (some v))
    {h' : Heap} (hk : ∀ b o, s.heap.get? b = some o → h'.get? b = some o) (hns : h'.Ns s.heap.objs.size (fun _ => none))
    (hcl : ∀ x c, (cellsFrom (s.heap.objs.size + 1) scope.names cl).lookup x = some c → cl.lookup x = some c ∨ (h'.IsCell c none ∧ s.heap.objs.size + 1 ≤ c)) :
    Inv (cxComp X Nc scope cl fp pins s H) [] σc H { s with heap := h' } := by
  have cellOf : ∀ x c, cl.lookup x = some c → ∃ v, h'.IsCell c v ∧ H c = none := fun x c e => by
    obtain ⟨v, q⟩ := I.cell x c (S.sub x c e)
    exact ⟨v, q.keeps hk, I.freeC x c (S.sub x c e)⟩
  refine ⟨comp_ok S I hf hfp, rfl, I.bare, Un.kept hk, ⟨_, hns, fun i x v e1 e2 e3 => ?_⟩, fun x c e => ?_, I.hok.fresh (Nat.le_refl _), fun x c e => ?_, fun p hp => ?_, I.hok.kept hk, hlen⟩
  · obtain ⟨hx, hnl, hv, j, j1, j2⟩ := hσ i x v e1 e2
    obtain ⟨m, hn, hl⟩ := I.loc
    obtain ⟨u, r, l⟩ := hl j x v j1 j2 hv
    refine ⟨u, r, ?_⟩
    rcases l with ⟨k, _⟩ | ⟨k, c, ec, q⟩
    · exact absurd k hnl
    · obtain ⟨c', ec'⟩ := S.has x hx
      have := S.sub x c' ec'
      rw [ec] at this; cases this
      refine .inr ⟨?_, c, ?_, q.keeps hk⟩
      · -- its kind: relabelled, or free
        show (relabel scope X.env).names.lookup x = some .cell ∨ (relabel scope X.env).names.lookup x = some .free
        have look : ∀ {names : List (Str × NameKind)}, names.lookup x = some .free → (names.map fun (n, k) => if (k == NameKind.free && X.env.scope.kind == .function && X.env.kindOf n == some .cell) then (n, NameKind.cell) else (n, k)).lookup x = some .cell ∨
            (names.map fun (n, k) => if (k == NameKind.free && X.env.scope.kind == .function && X.env.kindOf n == some .cell) then (n, NameKind.cell) else (n, k)).lookup x = some .free := by
          intro names
          induction names with
          | nil => intro h; cases h
          | cons y r ih =>
            obtain ⟨n, j⟩ := y
            intro h
            rw [List.lookup_cons] at h
            rw [List.map_cons]
            cases hx : x == n with
            | true =>
              rw [hx] at h; cases h
              by_cases hc : (NameKind.free == NameKind.free && X.env.scope.kind == .function && X.env.kindOf n == some .cell) = true
              · simp only [hc, if_true, List.lookup_cons, hx]; exact .inl trivial
              · have hc' : (NameKind.free == NameKind.free && X.env.scope.kind == .function && X.env.kindOf n == some .cell) = false := by simpa using hc
                simp only [hc', Bool.false_eq_true, if_false, List.lookup_cons, hx]; exact .inr trivial
            | false =>
              rw [hx] at h
              have q := ih h
              by_cases hc : (j == NameKind.free && X.env.scope.kind == .function && X.env.kindOf n == some .cell) = true
              · simp only [hc, if_true, List.lookup_cons, hx]; exact q
              · have hc' : (j == NameKind.free && X.env.scope.kind == .function && X.env.kindOf n == some .cell) = false := by simpa using hc
                simp only [hc', Bool.false_eq_true, if_false, List.lookup_cons, hx]; exact q
        exact look hx
      · show (cellsFrom (s.heap.objs.size + 1) scope.names cl).lookup x = some c
        rw [cells_old _ _ _ _ (S.nocell x hx)]; exact ec'
  · rcases hcl x c e with q | q
    · obtain ⟨v, z, _⟩ := cellOf x c q
      exact ⟨v, z⟩
    · exact ⟨none, q.1⟩
  · rcases hcl x c e with q | q
    · obtain ⟨v, _, z⟩ := cellOf x c q
      exact z
    · exact I.hok.fresh (Nat.le_of_succ_le q.2)
  · have hp' : p ∈ X.pn ++ pins := by
      have : p ∈ (X.pn ++ pins) ++ [] := hp
      simpa using this
    obtain ⟨e, n, ne, nf, d⟩ := I.pin p hp'
    refine ⟨hk _ _ e, n, Nat.ne_of_lt (Heap.lt_size e), fun z => ?_, d⟩
    rcases List.mem_cons.mp (I.stkSub p.1 z) with z | z
    · exact ne z
    · exact nf z
end

def PF (X : Cx) (ifs : List Expr) (t : TT) : Prop :=
  ∀ (pins : List (Addr × Obj)) (s : Shared) (σ : St) (H : Hp) (Q : Bool → Hp → Prop), Inv X pins σ H s → t σ H Q →
    wpAny (model X.prog X.w) X.A (forIn ifs true fun c r => if r = true then do let ok ← isTrue c X.env (eval c X.env); pure (ForInStep.yield ok) else pure (ForInStep.yield r)) (TP X pins σ Q) X.xe s
def tYes : TT := fun _ H Q => Q true H
theorem pf_nil {X : Cx} : PF X [] tYes := fun _ _ _ H _ I h => wpAny_pure ⟨H, I, h⟩
theorem pf_one {X : Cx} {c : Expr} {t : TT} (h : PT X c t) : PF X [c] t := by
  intro pins s σ H Q I hq
  simp only [List.forIn_cons, List.forIn_nil, if_true]
  exact wpAny_bind (wpAny_bind (wpAny_mono (h pins s σ H Q I hq) (fun b s' hb => wpAny_pure (wpAny_pure hb)) fun _ _ x => x))

theorem compLoop_gen {prog : Program} {w : World} {A : Around} {R : Result → Shared → Prop} {s : Shared} {elt target iter : Expr} {ifs : List Expr} {scope : Scope} {pos : Pos} {it acc : Value} {env : Env} (I : Nat → Shared → Prop)
    (turn : ∀ n s, I n s → wpAny (model prog w) A (pyNext it) (fun r s₁ => match r with
      | none => R (.ok .next) s₁
      | some v => wpAny (model prog w) A (letOwnedTupleGo target it v) (fun _ s₁' => wpAny (model prog w) A (assign target env v) (fun _ s₂ =>
          wpAny (model prog w) A (forIn ifs true fun c r => if r = true then do let ok ← isTrue c env (eval c env); pure (ForInStep.yield ok) else pure (ForInStep.yield r)) (fun ok s₃ =>
            if ok = true then wpAny (model prog w) A (eval elt env) (fun x s₄ =>
              wpAny (model prog w) A (call (.builtin "list.append") [acc, x]) (fun _ s₅ => ∃ m, m < n ∧ I m s₅) (fun _ _ => False) s₄) (fun _ _ => False) s₃
            else ∃ m, m < n ∧ I m s₃) (fun _ _ => False) s₂) (fun _ _ => False) s₁') (fun _ _ => False) s₁) (fun _ _ => False) s)
    (n : Nat) (h : I n s) :
    codeAny (model prog w) A (.compLoop (.ListComp elt [⟨target, iter, ifs, 0⟩] scope pos) 0 it acc env) R s := by
  refine codeAny_loop rfl I (fun n s hI => ?_) n h
  show wpAny _ A ((compTurn (.ListComp elt [⟨target, iter, ifs, 0⟩] scope pos) 0 it acc env).onRaise (fun x => do noteFrame x env; theTreesLotGoes x)) _ _ s
  refine wpAny_noted ?_
  rw [compTurn_list]
  refine wpAny_bind (wpAny_standAt (wpAny_bind (wpAny_mono (turn n s hI) (fun r s₁ h₁ => ?_) fun _ _ h' => h'.elim)))
  cases r with
  | none => exact wpAny_pure h₁
  | some v =>
    refine wpAny_bind (wpAny_mono h₁ (fun _ s₁' h₁' => ?_) fun _ _ h' => h'.elim)
    refine wpAny_bind (wpAny_mono h₁' (fun _ s₂ h₂ => wpAny_bind (wpAny_mono h₂ (fun ok s₃ h₃ => ?_) fun _ _ h' => h'.elim)) fun _ _ h' => h'.elim)
    cases ok with
    | false => exact wpAny_pure ⟨rfl, h₃⟩
    | true =>
      exact wpAny_bind (wpAny_bind (wpAny_mono h₃ (fun x s₄ h₄ => wpAny_bind (wpAny_mono h₄ (fun _ s₅ h₅ => wpAny_pure (wpAny_pure ⟨rfl, h₅⟩)) fun _ _ h' => h'.elim)) fun _ _ h' => h'.elim))

def compSt (fi : List (Option Nat)) (σ : St) : St := fi.map fun o => match o with
  | none => none
  | some j => (σ[j]?).join
abbrev CT (α : Type) := List Addr → List (Addr × Obj) → Shared → Hp → α
def CompW (J : It) (a : Addr) (σ0 : St) (H1 : Hp) (g : TG) (tc : TT) (te : TE) (Q : VK) : Prop :=
  ∃ W : Nat → Nat → St → Hp → Prop, (∃ m, W 0 m σ0 (upd H1 a (.lst []))) ∧ ∀ i m σc Hc, W i m σc Hc →
    (J.stop i Hc ∧ Q (.ref a) Hc) ∨ (J.go i Hc ∧ ∀ x H', J.yld i Hc x H' → g x σc H' fun σ2 H2 => tc σ2 H2 fun b H3' =>
      if b = true then te σ2 H3' fun y H4 => ∃ ys, H4 a = some (.lst ys) ∧ ys.length < sizeLine ∧ ∃ m', m' < m ∧ W (i + 1) m' σ2 (upd H4 a (.lst (ys ++ [y])))
      else ∃ m', m' < m ∧ W (i + 1) m' σ2 H3')
def tComp (fi : List (Option Nat)) (wi : TI) (g : CT TG) (tc : CT TT) (te : CT TE) : TE := fun σ H Q => wi σ H fun J H1 => ∀ fp pins s3 H3 a, H1 a = none →
  CompW J a (compSt fi σ) H1 (g fp pins s3 H3) (tc fp pins s3 H3) (te fp pins s3 H3) Q
def CompFrom (X : Cx) (scope : Scope) (Nc : List Str) (fi : List (Option Nat)) : Prop :=
  fi.length = Nc.length ∧ ∀ (i : Nat) (x : Str) (j : Nat), Nc[i]? = some x → fi[i]? = some (some j) → scope.names.lookup x = some .free ∧ X.env.kindOf x ≠ some .local ∧ Vis X.env.scope x ∧ X.N[j]? = some x

def cfB (sc : Scope) (env : Env) (N : List Str) : List Str → List (Option Nat) → Bool
  | [], [] => true
  | _ :: xs, none :: os => cfB sc env N xs os
  | x :: xs, some j :: os => (sc.names.lookup x == some .free) && ((env.scope.names.lookup x == some .cell) || (env.scope.names.lookup x == some .free)) && (N[j]? == some x) && cfB sc env N xs os
  | _, _ => false
theorem comp_from_go {X : Cx} {scope : Scope} : ∀ {Nc : List Str} {fi : List (Option Nat)}, cfB scope X.env X.N Nc fi = true → CompFrom X scope Nc fi
  | [], [], _ => ⟨rfl, fun i x j e => by simp at e⟩
  | _ :: xs, none :: os, h => by
    obtain ⟨h1, h2⟩ := comp_from_go (X := X) (scope := scope) (Nc := xs) (fi := os) h
    refine ⟨by rw [List.length_cons, List.length_cons, h1], fun i x j e1 e2 => ?_⟩
    cases i with
    | zero => simp at e2
    | succ i => exact h2 i x j (by simpa using e1) (by simpa using e2)
  | x :: xs, some k :: os, h => by
    have h' : ((scope.names.lookup x == some .free) && ((X.env.scope.names.lookup x == some .cell) || (X.env.scope.names.lookup x == some .free)) && (X.N[k]? == some x) && cfB scope X.env X.N xs os) = true := h
    simp only [Bool.and_eq_true, Bool.or_eq_true, beq_iff_eq] at h'
    obtain ⟨⟨⟨a1, a2⟩, a3⟩, a4⟩ := h'
    obtain ⟨h1, h2⟩ := comp_from_go (X := X) (scope := scope) (Nc := xs) (fi := os) a4
    refine ⟨by rw [List.length_cons, List.length_cons, h1], fun i y j e1 e2 => ?_⟩
    cases i with
    | zero =>
      simp at e1 e2
      subst e1; subst e2
      refine ⟨a1, ?_, ?_, a3⟩
      · show X.env.scope.names.lookup x ≠ some .local
        rcases a2 with a2 | a2 <;> rw [a2] <;> decide
      · rcases a2 with a2 | a2
        · exact .inr (.inl a2)
        · exact .inr (.inr a2)
    | succ i => exact h2 i y j (by simpa using e1) (by simpa using e2)
  | [], _ :: _, h => by cases h
  | _ :: _, [], h => by cases h

section
variable {X : Cx} {elt tg iter : Expr} {ifs : List Expr} {scope : Scope} {pos : Pos} {cl : List (Str × Addr)} {Nc : List Str} {fi : List (Option Nat)} {wi : TI} {g : CT TG} {tc : CT TT} {te : CT TE}

theorem comp_block (S : CompSc X.env scope cl) (hc : X.calm = true) (hfr : CompFrom X scope Nc fi)
    (hb : ∀ fp pins s3 H3, PG (cxComp X Nc scope cl fp pins s3 H3) tg (g fp pins s3 H3) ∧ PF (cxComp X Nc scope cl fp pins s3 H3) ifs (tc fp pins s3 H3) ∧ PE (cxComp X Nc scope cl fp pins s3 H3) elt (te fp pins s3 H3))
    {pins : List (Addr × Obj)} {σ : St} {Q : VK} {itv : Value} {s2 : Shared} {RR : Value → Addr → Result → Shared → Prop}
    (h2 : PIE X pins σ tg (fun J H1 => ∀ fp pins s3 H3 a, H1 a = none → CompW J a (compSt fi σ) H1 (g fp pins s3 H3) (tc fp pins s3 H3) (te fp pins s3 H3) Q) itv s2)
    (hRR : ∀ a C s' H' m, s'.heap.Ns C m → (∀ h', Heap.SameBut C s'.heap h' → Inv X pins σ H' { s' with heap := h' }) → FpOk X pins H' C → Q (.ref a) H' → RR (.ref a) C (.ok .next) s') :
    wpAny (model X.prog X.w) X.A (newList []) (fun acc s₃ => wpAny (model X.prog X.w) X.A (newFunctionEnv scope X.env.globals cl [] X.env.qual none .none (some X.env)) (fun cenv s₄ =>
      codeAny (model X.prog X.w) X.A (.compStart (.ListComp elt [⟨tg, iter, ifs, 0⟩] scope pos) 0 itv acc { cenv with scope := relabel scope X.env }) (RR acc cenv.locals) s₄) X.xe s₃) X.xe s2 := by
  obtain ⟨it, fp, tn, J, H2, e, I2, T, st2, f2, hR⟩ := h2
  subst e
  refine wpAny_newObj_type ?_
  have hfr2 : H2 s2.heap.objs.size = none := I2.hok.fresh (Nat.le_refl _)
  -- the list, tracked
  have I3 : Inv X pins σ (upd H2 s2.heap.objs.size (.lst [])) { s2 with heap := s2.heap.push { cls := .type "list", dict := none, data := .seq ([] : List Value).toArray } } :=
    I2.laid (t' := s2.toks) (fun b u e => Heap.get?_push_of_some _ e) (Nat.le_refl _) ⟨Nat.zero_le _, [], 0, .nil, Heap.get?_push_size _ rfl⟩
  obtain ⟨W, ⟨m0, w0⟩, turn⟩ := hR fp pins { s2 with heap := s2.heap.push { cls := .type "list", dict := none, data := .seq ([] : List Value).toArray } } (upd H2 s2.heap.objs.size (.lst [])) s2.heap.objs.size hfr2
  generalize hH3 : upd H2 s2.heap.objs.size (.lst []) = H3 at I3 w0 turn
  generalize hs3 : ({ s2 with heap := s2.heap.push { cls := .type "list", dict := none, data := .seq ([] : List Value).toArray } } : Shared) = s3 at I3 turn
  have hheap3 : s3.heap = s2.heap.push { cls := .type "list", dict := none, data := .seq ([] : List Value).toArray } := by rw [← hs3]
  have hsz3 : s3.heap.objs.size = s2.heap.objs.size + 1 := by rw [hheap3, Heap.size_push]
  have keep3 : ∀ b o, s2.heap.get? b = some o → s3.heap.get? b = some o := fun b o e => by rw [hheap3]; exact Heap.get?_push_of_some _ e
  have st3 : tn 0 s3.heap := T.keep _ _ _ st2 fun b _ o e => keep3 b o e
  have hfp : ∀ b ∈ fp, b < s2.heap.objs.size := fun b hb => by
    obtain ⟨o, e, _⟩ := T.obj _ _ st2 b hb
    exact Heap.lt_size e
  have f3 : ∀ b ∈ fp, FpOk X pins H3 b := fun b hb => by
    obtain ⟨f0, fr⟩ := f2 b hb
    refine ⟨?_, fr⟩
    rw [← hH3, upd_ne (Nat.ne_of_lt (hfp b hb))]; exact f0
  have hfp3 : ∀ b ∈ fp, b < s3.heap.objs.size := fun b hb => by rw [hsz3]; exact Nat.lt_succ_of_lt (hfp b hb)
  show wpAny _ _ _ _ _ s3
  refine newEnv_comp fun h4 hk4 hns4 hcl4 => ?_
  have hlen : (compSt fi σ).length = Nc.length := by rw [← hfr.1]; simp [compSt]
  have I4 : Inv (cxComp X Nc scope cl fp pins s3 H3) [] (compSt fi σ) H3 { s3 with heap := h4 } := by
    refine comp_inv S I3 f3 hfp3 hlen (fun i x v e1 e2 => ?_) hk4 hns4 hcl4
    unfold compSt at e2
    rw [List.getElem?_map] at e2
    cases ef : fi[i]? with
    | none => rw [ef] at e2; cases e2
    | some o =>
      rw [ef] at e2
      cases o with
      | none => cases e2
      | some j =>
        obtain ⟨q1, q2, q3, q4⟩ := hfr.2 i x j e1 ef
        have e2' : (σ[j]?).join = some v := Option.some.inj e2
        refine ⟨q1, q2, q3, j, q4, ?_⟩
        cases es : σ[j]? with
        | none => rw [es] at e2'; cases e2'
        | some z => rw [es] at e2'; cases z with
          | none => cases e2'
          | some z => cases e2'; rfl
  have st4 : tn 0 h4 := T.keep _ _ _ st3 fun b _ o e => hk4 b o e
  obtain ⟨pg, pf, pe⟩ := hb fp pins s3 H3
  -- the loop
  have loop : codeAny (model X.prog X.w) X.A (.compLoop (.ListComp elt [⟨tg, iter, ifs, 0⟩] scope pos) 0 (.ref it) (.ref s2.heap.objs.size) (cxComp X Nc scope cl fp pins s3 H3).env) (RR (.ref s2.heap.objs.size) s3.heap.objs.size) { s3 with heap := h4 } := by
    have stat : ∀ {H' : Hp}, (∀ b ∈ fp, H' b = none) → ∀ b ∈ fp, FpOk (cxComp X Nc scope cl fp pins s3 H3) [] H' b := fun hn b hb => by
      obtain ⟨f0, f1, f2', f3', f4, f5⟩ := f3 b hb
      have ok := I4.ok
      refine ⟨hn b hb, (ok.exf b hb).1, ok.exfs b hb, .inl hb, (ok.exf b hb).2, fun p hp => ?_⟩
      have : p ∈ X.pn ++ pins := by
        have : p ∈ (X.pn ++ pins) ++ [] := hp
        simpa using this
      exact f5 p this
    refine compLoop_gen (fun n s' => ∃ i σ' H', Inv (cxComp X Nc scope cl fp pins s3 H3) [] σ' H' s' ∧ tn i s'.heap ∧ (∀ b ∈ fp, H' b = none) ∧ W i n σ' H') ?_ m0 ⟨0, _, H3, I4, st4, fun b hb => (f3 b hb).1, w0⟩
    rintro n s5 ⟨i, σ5, H5, I5, st5, fr5, w5⟩
    rcases turn i n σ5 H5 w5 with ⟨stop, q⟩ | ⟨go, step⟩
    · refine thn (T.done (cxComp X Nc scope cl fp pins s3 H3) rfl rfl rfl hc i [] s5 σ5 H5 _ I5 (stat fr5) st5 stop) fun r s6 ⟨hr, I6⟩ => ?_
      subst hr
      obtain ⟨m, hn, _⟩ := id I6.loc
      refine hRR _ _ s6 H5 m hn (fun h' hs' => ?_) (I3.fpOk (Nat.le_refl _) I6.free) q
      · -- back in the body
        have ub : Un (frs X.stack) fp H3 H5 s3.heap s6.heap := I6.base
        have neC : ∀ b o, s3.heap.get? b = some o → b ≠ s3.heap.objs.size := fun b o e => Nat.ne_of_lt (Heap.lt_size e)
        have ub' : Un (frs X.stack) fp H3 H5 s3.heap h' :=
          ⟨fun b o e n hb hx => (hs'.2 b (neC b o e)).trans (ub.keep b o e n hb hx), fun b o e n hb hx => (ub.slot b o e n hb hx).imp fun sl z => (hs'.2 b (neC b o e)).trans z, ub.free, fun b o e hx => (ub.there b o e hx).imp fun o' z => (hs'.2 b (neC b o e)).trans z, ub.tups, ub.frzs, ub.tbls⟩
        have hok' : HOk X.prog X.w H5 h' := fun b ob e => by
          refine (I6.hok b ob e).stay (fun c w' hcc z => (hs'.2 c ?_).trans z) (fun _ _ _ z => z) (fun _ z => z) fun _ _ z => z
          rintro rfl
          have hfree : H5 s3.heap.objs.size = none := I6.free
          rcases hcc with z | z
          · have z' : s3.heap.objs.size = b := z
            rw [← z', hfree] at e; cases e
          · have z' : H5 s3.heap.objs.size = some (.own b) := z
            rw [hfree] at z'; cases z'
        exact I3.call' (s' := { s6 with heap := h' }) (ch := fp) I6.os ub' hok' I6.bare fun b hb => by
          obtain ⟨f0, f1, f2', f3', f4, f5⟩ := f3 b hb
          exact ⟨f3', f1, f4, f5⟩
    · refine thn (T.item (cxComp X Nc scope cl fp pins s3 H3) rfl rfl rfl hc i [] s5 σ5 H5 _ I5 (stat fr5) st5 go) fun r s6 ⟨u, hr, h6⟩ => ?_
      subst hr
      refine thn h6 fun _ s7 ⟨x, H7, I7, r7, y7, st7, fr7⟩ => ?_
      have I7' := I7.pinned (stat fr7) (T.obj _ _ st7)
      refine thn (pg _ s7 σ5 H7 x u _ I7' r7 (step x H7 y7)) fun _ s8 ⟨σ8, H8, I8, q8⟩ => ?_
      refine thn (pf _ s8 σ8 H8 _ I8 q8) fun ok s9 ⟨H9, I9, q9⟩ => ?_
      have again : ∀ {σ' : St} {H' : Hp} {s' : Shared}, Inv (cxComp X Nc scope cl fp pins s3 H3) ([] ++ pinsAt fp s7.heap) σ' H' s' → (∃ m', m' < n ∧ W (i + 1) m' σ' H') →
          ∃ m, m < n ∧ ∃ i σ' H', Inv (cxComp X Nc scope cl fp pins s3 H3) [] σ' H' s' ∧ tn i s'.heap ∧ (∀ b ∈ fp, H' b = none) ∧ W i m σ' H' := fun {σ' H' s'} I' ⟨m', hm, w'⟩ => by
        refine ⟨m', hm, i + 1, σ', H', I'.unpinned, T.keep _ _ _ st7 fun b hb o e => (I'.pin (b, o) (List.mem_append_right _ (List.mem_append_right _ (mem_pinsAt hb e)))).1, fun b hb => ?_, w'⟩
        obtain ⟨o, e, d⟩ := T.obj _ _ st7 b hb
        exact (I'.pin (b, o) (List.mem_append_right _ (List.mem_append_right _ (mem_pinsAt hb e)))).2.1
      cases ok with
      | false => exact again I9 q9
      | true =>
        rw [if_pos rfl]
        refine thn (pe _ s9 σ8 H9 _ I9 q9) fun y s10 ⟨yv, H10, I10, r10, ys, ha, hz, q10⟩ => ?_
        refine thn (mt_append _ s10 σ8 H10 (.ref s2.heap.objs.size) [yv] (.ref s2.heap.objs.size) [y] (fun _ H' => ∃ m', m' < n ∧ W (i + 1) m' σ8 H') I10 rfl (.cons r10 .nil) ⟨_, ys, yv, rfl, rfl, ha, hz, q10⟩) fun _ s11 ⟨_, H11, I11, _, q11⟩ => ?_
        exact again I11 q11
  exact codeAny_compStart_list loop (T.self X.A 0 _ _ _ st4 loop)

theorem pe_comp (S : CompSc X.env scope cl) (hc : X.calm = true) (hfr : CompFrom X scope Nc fi) (hi : PI X tg iter wi)
    (hb : ∀ fp pins s3 H3, PG (cxComp X Nc scope cl fp pins s3 H3) tg (g fp pins s3 H3) ∧ PF (cxComp X Nc scope cl fp pins s3 H3) ifs (tc fp pins s3 H3) ∧ PE (cxComp X Nc scope cl fp pins s3 H3) elt (te fp pins s3 H3))
    (hs : ∀ x, foldedSetIterable iter X.env x = pure x := by intro _; rfl) : PE X (.ListComp elt [⟨tg, iter, ifs, 0⟩] scope pos) (tComp fi wi g tc te) := by
  intro pins s σ H Q I h
  rw [eval_ListComp]
  refine wpAny_comprehension_free (use := none) rfl hs S.clos S.kind S.names (thn (hi pins s σ H _ I h) fun v s1 h1 => thn h1 fun itv s2 h2 => ?_)
  refine comp_block (Q := Q) (RR := fun acc C => compPost (model X.prog X.w) X.A X.xe none (EP X pins σ Q) acc C) S hc hfr hb h2 ?_
  intro a C s' H' m hn hI _ q
  exact ⟨m, hn, fun h' hs' => ⟨.ref a, H', hI h' hs', rfl, q⟩⟩

theorem ps_setComp {i : Nat} {y : Str} {py spos : Pos} (S : CompSc X.env scope cl) (hc : X.calm = true) (hfr : CompFrom X scope Nc fi) (hN : X.N.Nodup) (hiy : X.N[i]? = some y) (hy : X.env.kindOf y = some .local) (hi : PI X tg iter wi)
    (hb : ∀ fp pins s3 H3, PG (cxComp X Nc scope cl fp pins s3 H3) tg (g fp pins s3 H3) ∧ PF (cxComp X Nc scope cl fp pins s3 H3) ifs (tc fp pins s3 H3) ∧ PE (cxComp X Nc scope cl fp pins s3 H3) elt (te fp pins s3 H3))
    (hsw : swapsWith (.ListComp elt [⟨tg, iter, ifs, 0⟩] scope pos) (some (.Name y py)) spos.line X.env = pure true)
    (hs : ∀ x, foldedSetIterable iter X.env x = pure x := by intro _; rfl) : PS X (.Assign [.Name y py] (.ListComp elt [⟨tg, iter, ifs, 0⟩] scope pos) spos) (tAsg (tComp fi wi g tc te) (gName i)) := by
  intro pins s σ H D I h
  rw [exec_Assign_Name_used _ _ _ _ hsw]
  refine wpAny_bind (wpAny_standAt (wpAny_bind ?_))
  show wpAny _ X.A (do let _ ← comprehension (.ListComp elt [⟨tg, iter, ifs, 0⟩] scope pos) scope X.env _ (newList []) false (eval iter X.env) (some (assign (.Name y py) X.env))) _ _ s
  refine wpAny_bind (wpAny_mono (wpAny_comprehension_free (use := some (assign (.Name y py) X.env)) (Q := fun _ s' => SP X pins D .next s') rfl hs S.clos S.kind S.names
    (thn (hi pins s σ H _ I h) fun v s1 h1 => thn h1 fun itv s2 h2 => ?_)) (fun _ s' hq => wpAny_pure (wpAny_pure hq)) fun _ _ e => e)
  refine comp_block (Q := fun v H' => gName i v σ H' D.nx) (RR := fun acc C => compPost (model X.prog X.w) X.A X.xe (some (assign (.Name y py) X.env)) (fun _ s' => SP X pins D .next s') acc C) S hc hfr hb h2 ?_
  intro a C s' H' m hn hI ⟨f0, f1, f2, f3, f4, f5⟩ q
  show wpAny _ X.A (assign (.Name y py) X.env (.ref a)) _ _ _
  have I' : Inv X pins σ H' s' := hI s'.heap (Heap.SameBut.refl ..)
  obtain ⟨mL, hnL, _⟩ := id I'.loc
  refine wpAny_assign_Name (store_ok2 I' hN hiy (.inl hy) (v := .ref a) rfl (fun s'' I'' ⟨b, sb, hbL⟩ => ?_) (.inr hy))
  have hb' : b ≠ C := by
    rcases hbL with z | z
    · rw [z]; exact Ne.symm f1
    · intro e
      exact f4 y b z e
  refine ⟨m, hn.sameBut sb (Ne.symm hb'), fun h3 hs3 => ?_⟩
  refine ⟨σ.set i (some (.ref a)), H', ?_, q⟩
  -- the frame of the comprehension changed behind the store
  have keep : ∀ b o, b ≠ C → s''.heap.get? b = some o → h3.get? b = some o := fun b o hb e => (hs3.2 b hb).trans e
  exact Inv.turned (t' := s''.toks) (it := C) I'' keep f0 f1 f3 f4 f5
end
end L2
set_option Elab.async false
set_option linter.all false
set_option maxRecDepth 100000
set_option maxHeartbeats 4000000
namespace PySem.L3
open PySem
theorem boot_len : bootBuiltins "len" = some (.builtin "len") := by decide +kernel
theorem boot_abs : bootBuiltins "abs" = some (.builtin "abs") := by decide +kernel
theorem boot_all : bootBuiltins "all" = some (.builtin "all") := by decide +kernel
theorem boot_sum : bootBuiltins "sum" = some (.builtin "sum") := by decide +kernel
theorem boot_min : bootBuiltins "min" = some (.builtin "min") := by decide +kernel
theorem boot_max : bootBuiltins "max" = some (.builtin "max") := by decide +kernel
theorem boot_sorted : bootBuiltins "sorted" = some (.builtin "sorted") := by decide +kernel
theorem boot_isinstance : bootBuiltins "isinstance" = some (.builtin "isinstance") := by decide +kernel
theorem boot_tuple : bootBuiltins "tuple" = some (.type "tuple") := by decide +kernel
theorem boot_list : bootBuiltins "list" = some (.type "list") := by decide +kernel
theorem boot_bool : bootBuiltins "bool" = some (.type "bool") := by decide +kernel
theorem boot_int : bootBuiltins "int" = some (.type "int") := by decide +kernel
theorem boot_set : bootBuiltins "set" = some (.type "set") := by decide +kernel
theorem boot_range : bootBuiltins "range" = some (.type "range") := by decide +kernel
theorem boot_reversed : bootBuiltins "reversed" = some (.type "reversed") := by decide +kernel
theorem boot_zip : bootBuiltins "zip" = some (.type "zip") := by decide +kernel
theorem boot_enumerate : bootBuiltins "enumerate" = some (.type "enumerate") := by decide +kernel
end PySem.L3

namespace L2
open PySem PySem.Spec PyProof.Rows

def Cal (P : Program) (w : World) (K : PySem.W.Frag) (mg : Str → Option Value) (base : Heap) (k : Nat) (x : Str) (sp : Sp) : Prop :=
  ∃ f fd ps, FnOk P w K mg base CX0 k f fd ps sp ∧ Binds K fd ps [] ∧ PySem.W.keepIn K (.ref f) = true ∧ mg x = some (.ref f)
def tCl (sp : Sp) (t : TA) : TE := fun σ H Q => t σ H fun vs H1 => sp vs H1 Q E0
section
variable {X : Cx} {k : Nat} {x : Str} {sp : Sp} {p pos : Pos} {e : Expr} {es : List Expr} {t : TA}
theorem pe_c (C : Cal X.prog X.w X.K X.mg X.base k x sp) (hr : Room k X.A) (hg : Gl X x) (ha : PA X (e :: es) t) (hdb : (x == ("__debug__" : Str)) = false := by decide)
    (he : starEach (e :: es) X.env = (false, eval e X.env) :: starEach es X.env := by rfl) (hpl : (backTo pos (starEach es X.env)).any (·.1) = false := by rfl) : PE X (.Call (.Name x p) (e :: es) [] pos) (tCl sp t) := by
  obtain ⟨f, fd, ps, F, hb, hk, hm⟩ := C
  have q := pe_call (dvs := []) (E := E0) (p := p) (pos := pos) F hr hg hm hk hb .nil pass0 ha hdb he hpl
  intro pins s σ H Q I h
  refine q pins s σ H Q I ?_
  show t σ H fun vs H1 => sp (vs ++ []) H1 Q E0
  have e0 : (fun vs H1 => sp (vs ++ []) H1 Q E0) = fun vs H1 => sp vs H1 Q E0 := by funext vs H1; rw [List.append_nil]
  rw [e0]; exact h
end
theorem cal_mk {P : Program} {w : World} {K : PySem.W.Frag} {mg : Str → Option Value} {base : Heap} {k : Nat} {x : Str} {sp : Sp} {f : Addr} {fd : FuncData} {ps : List Str}
    (F : FnOk P w K mg base CX0 k f fd ps sp) (b : Binds K fd ps []) (kp : PySem.W.keepIn K (.ref f) = true) (m : mg x = some (.ref f)) : Cal P w K mg base k x sp := ⟨f, fd, ps, F, b, kp, m⟩

section
variable {X : Cx}
theorem call_isinstance : CallR X (.builtin "isinstance") (fun xs H Q => ∃ x T t b, xs = [x, .ty T] ∧ TyOf X.K H x t ∧ PySem.W.kitOne X.K t (.type T) = some b ∧ Q (.bl b) H) := by
  intro pins s σ H xs us Q I rv h
  obtain ⟨x, T, t, b, rfl, ty, e, q⟩ := h
  obtain ⟨u, u', rfl, rx, rt⟩ := vals2 rv
  cases rt
  exact isinst_ok I rx ty e fun tk => ⟨.bl b, H, I.tok tk, rfl, q⟩

theorem bools_of : ∀ {bs : List Bool} {its : List Value}, Vals (bs.map V.bl) its → its = bs.map Value.bool
  | [], _, r => by cases r; rfl
  | b :: bs, _, r => by
    cases r with
    | cons r1 r2 => cases r1; rw [bools_of r2]; rfl
theorem range_all (bs : List Bool) : (List.range bs.length).all (fun i => bs.getD i false) = bs.all id := by
  induction bs with
  | nil => rfl
  | cons b bs ih =>
    rw [List.length_cons, List.range_succ_eq_map, List.all_cons, List.all_map, List.all_cons]
    simpa [Function.comp_def] using congrArg (b && ·) ih
theorem walk_bools {pins : List (Addr × Obj)} {s : Shared} {σ : St} {H : Hp} {p : Addr} {bs : List Bool} {R : Bool → Bool} {E : Value → Shared → Prop} (hc : X.calm = true) (I : Inv X pins σ H s) (hq : SqL X.K H p (bs.map V.bl))
    {QQ : (Nat → Bool) → Nat → Shared → Prop} (hQ : ∀ h' tk, (∀ b o, s.heap.get? b = some o → h'.get? b = some o) → QQ (fun i => bs.getD i false) bs.length { s with heap := h', toks := tk }) :
    wpAny (model X.prog X.w) X.A.in1 (pyIter (.ref p)) (fun it s₂ => ∃ I fp wr n P St tr, it = .ref I ∧ Walks X.prog X.w X.A.in1 I fp wr n P St ∧ St 0 s₂.heap ∧ TruthOf X.prog X.w X.A.in1 P tr ∧
      ∀ h' tk, (∀ b o, b ∉ wr → s₂.heap.get? b = some o → h'.get? b = some o) → QQ tr n { s₂ with heap := h', toks := tk }) E s := by
  obtain ⟨its, rv, pl, hz⟩ := I.list hq
  have e := bools_of rv
  subst e
  have hl := pl.isList
  have hax : p < s.heap.objs.size := by obtain ⟨_, e, _⟩ := hl; exact Heap.lt_size e
  refine wpAny_pyIter_list hl ?_
  refine ⟨s.heap.objs.size, [s.heap.objs.size, p], [s.heap.objs.size], (bs.map Value.bool).toArray.size, (fun i v => (bs.map Value.bool).toArray[i]? = some v), _, fun i => bs.getD i false, rfl,
    Walks.list (prog := X.prog) (w := X.w) (A := X.A.in1) (I.ok.hd hc) s.heap.objs.size p (Nat.ne_of_lt hax) _, ⟨⟨_, Heap.get?_push_size _ rfl, rfl, rfl⟩, hl.push _⟩, ?_, fun h' tk hk => ?_⟩
  · intro i v s' Q' E' hP hQ'
    have : ∃ b, bs[i]? = some b ∧ v = .bool b := by
      have hP' : (bs.map Value.bool)[i]? = some v := by simpa using hP
      rw [List.getElem?_map] at hP'
      cases hb : bs[i]? with
      | none => rw [hb] at hP'; cases hP'
      | some b => rw [hb] at hP'; exact ⟨b, rfl, (Option.some.inj hP').symm⟩
    obtain ⟨b, hb, rfl⟩ := this
    refine wpAny_truthy_bool ?_
    have : bs.getD i false = b := by rw [List.getD_eq_getElem?_getD, hb]; rfl
    have hQ2 : Q' (bs.getD i false) s' := hQ'
    rw [this] at hQ2; exact hQ2
  · have : (bs.map Value.bool).toArray.size = bs.length := by simp
    rw [this]
    exact hQ h' tk fun b o e => hk b o (by
      intro hm
      have hb : b = s.heap.objs.size := by simpa using hm
      have hlt := Heap.lt_size e
      rw [hb] at hlt
      exact Nat.lt_irrefl _ hlt) (Heap.get?_push_of_some _ e)
theorem call_all (hc : X.calm = true) : CallR X (.builtin "all") (fun xs H Q => ∃ (p : Addr) (bs : List Bool), xs = [.ref p] ∧ SqL X.K H p (bs.map V.bl) ∧ Q (.bl (bs.all id)) H) := by
  intro pins s σ H xs us Q I rv h
  obtain ⟨p, bs, rfl, hq, q⟩ := h
  obtain ⟨u, rfl, rx⟩ := vals1 rv
  cases rx
  refine call_all_walk (walk_bools (R := id) hc I hq (QQ := fun tr n s' => EP X pins σ Q (.bool ((List.range n).all tr)) s') fun h' tk hk => ?_)
  rw [range_all]
  exact ⟨.bl (bs.all id), H, I.kept hk, rfl, q⟩
end

theorem comp_by {J : It} {l : Addr} {σ0 : St} {H1 : Hp} {g : TG} {tc : TT} {te : TE} {Q : VK} (n : Nat) (hn : n ≤ sizeLine) (Pv : Nat → List V → St → Hp → Prop) (h0 : Pv 0 [] σ0 (upd H1 l (.lst [])))
    (hl : ∀ i ys σ H, Pv i ys σ H → H l = some (.lst ys) ∧ ys.length ≤ i)
    (hs : ∀ i ys σ H, i < n → Pv i ys σ H → J.go i H ∧ ∀ x H', J.yld i H x H' → ∀ (Kt : St → V → Hp → Prop) (Kf : St → Hp → Prop),
      (∀ σ2 y H4, H4 l = some (.lst ys) → Pv (i + 1) (ys ++ [y]) σ2 (upd H4 l (.lst (ys ++ [y]))) → Kt σ2 y H4) → (∀ σ2 H3, Pv (i + 1) ys σ2 H3 → Kf σ2 H3) →
      g x σ H' fun σ2 H2 => tc σ2 H2 fun b H3 => if b = true then te σ2 H3 (Kt σ2) else Kf σ2 H3)
    (hd : ∀ ys σ H, Pv n ys σ H → J.stop n H ∧ Q (.ref l) H) :
    CompW J l σ0 H1 g tc te Q := by
  refine ⟨fun i m σ H => m = n - i ∧ i ≤ n ∧ ∃ ys, Pv i ys σ H, ⟨n, by simp, Nat.zero_le _, [], h0⟩, ?_⟩
  rintro i m σ H ⟨rfl, hi, ys, p⟩
  by_cases hlt : i < n
  · obtain ⟨go, step⟩ := hs i ys σ H hlt p
    refine .inr ⟨go, fun x H' y => ?_⟩
    refine step x H' y (fun σ2 y H4 => ∃ ys, H4 l = some (.lst ys) ∧ ys.length < sizeLine ∧ ∃ m', m' < n - i ∧ (m' = n - (i + 1) ∧ i + 1 ≤ n ∧ ∃ zs, Pv (i + 1) zs σ2 (upd H4 l (.lst (ys ++ [y]))))) (fun σ2 H3 => ∃ m', m' < n - i ∧ (m' = n - (i + 1) ∧ i + 1 ≤ n ∧ ∃ zs, Pv (i + 1) zs σ2 H3)) ?_ ?_
    · intro σ2 y H4 e q
      have := (hl i ys σ H p).2
      exact ⟨ys, e, by omega, n - (i + 1), by omega, rfl, hlt, _, q⟩
    · intro σ2 H3 q
      exact ⟨n - (i + 1), by omega, rfl, hlt, _, q⟩
  · have e : i = n := by omega
    subst e
    exact .inl (hd ys σ H p)
end L2
set_option Elab.async false
set_option linter.all false
set_option maxRecDepth 100000
set_option maxHeartbeats 4000000
namespace L2
open PySem PySem.Spec PyProof.Rows
section
variable (K : PySem.W.Frag) (H : Hp)
mutual
def Dn : PyData → V → Prop
  | .none, v => v = .non
  | .bool b, v => v = .bl b
  | .int i, v => v = .int i
  | .str x, v => v = .str x
  | .tuple ds, v => ∃ a xs, v = .ref a ∧ SqT K H a xs ∧ Dns ds xs
  | .list ds, v => ∃ a xs, v = .ref a ∧ SqL K H a xs ∧ Dns ds xs
  | .dict _, _ => False
def Dns : List PyData → List V → Prop
  | [], xs => xs = []
  | d :: ds, xs => ∃ x r, xs = x :: r ∧ Dn d x ∧ Dns ds r
end
end
theorem Same.seqT {K : PySem.W.Frag} {H H' : Hp} {a : Addr} {xs : List V} (e : Same H H') (h : SqT K H a xs) : SqT K H' a xs := by
  rcases h with (h | ⟨o, h⟩) | h
  · exact .inl (.inl (e _ _ h))
  · exact .inl (.inr ⟨o, e _ _ h⟩)
  · exact .inr h
section
variable {K : PySem.W.Frag} {H H' : Hp}
theorem dn_int {i : Int} : Dn K H (.int i) (.int i) := by rw [Dn]
theorem dn_bl {b : Bool} : Dn K H (.bool b) (.bl b) := by rw [Dn]
theorem dn_tup {a : Addr} {xs : List V} {ds : List PyData} (h : SqT K H a xs) (d : Dns K H ds xs) : Dn K H (.tuple ds) (.ref a) := by rw [Dn]; exact ⟨a, xs, rfl, h, d⟩
theorem dn_lst {a : Addr} {xs : List V} {ds : List PyData} (h : SqL K H a xs) (d : Dns K H ds xs) : Dn K H (.list ds) (.ref a) := by rw [Dn]; exact ⟨a, xs, rfl, h, d⟩
theorem dns_nil : Dns K H [] [] := by rw [Dns]
theorem dns_cons {d : PyData} {ds : List PyData} {x : V} {xs : List V} (h1 : Dn K H d x) (h2 : Dns K H ds xs) : Dns K H (d :: ds) (x :: xs) := by rw [Dns]; exact ⟨x, xs, rfl, h1, h2⟩
theorem Dn.int {i : Int} {v : V} (h : Dn K H (.int i) v) : v = .int i := by rw [Dn] at h; exact h
theorem Dn.tup {ds : List PyData} {v : V} (h : Dn K H (.tuple ds) v) : ∃ a xs, v = .ref a ∧ SqT K H a xs ∧ Dns K H ds xs := by rw [Dn] at h; exact h
theorem Dns.nil {xs : List V} (h : Dns K H [] xs) : xs = [] := by rw [Dns] at h; exact h
theorem Dns.cons {d : PyData} {ds : List PyData} {xs : List V} (h : Dns K H (d :: ds) xs) : ∃ x r, xs = x :: r ∧ Dn K H d x ∧ Dns K H ds r := by rw [Dns] at h; exact h
mutual
theorem Same.dn (e : Same H H') : ∀ {d : PyData} {v : V}, Dn K H d v → Dn K H' d v
  | .none, _, h => by rw [Dn] at h ⊢; exact h
  | .bool _, _, h => by rw [Dn] at h ⊢; exact h
  | .int _, _, h => by rw [Dn] at h ⊢; exact h
  | .str _, _, h => by rw [Dn] at h ⊢; exact h
  | .dict _, _, h => by rw [Dn] at h; exact h.elim
  | .tuple ds, _, h => by
    rw [Dn] at h ⊢
    obtain ⟨a, xs, e1, h1, h2⟩ := h
    exact ⟨a, xs, e1, e.seqT h1, Same.dns e h2⟩
  | .list ds, _, h => by
    rw [Dn] at h ⊢
    obtain ⟨a, xs, e1, h1, h2⟩ := h
    exact ⟨a, xs, e1, e.seq h1, Same.dns e h2⟩
theorem Same.dns (e : Same H H') : ∀ {ds : List PyData} {xs : List V}, Dns K H ds xs → Dns K H' ds xs
  | [], _, h => by rw [Dns] at h ⊢; exact h
  | d :: ds, _, h => by
    rw [Dns] at h ⊢
    obtain ⟨x, r, e1, h1, h2⟩ := h
    exact ⟨x, r, e1, Same.dn e h1, Same.dns e h2⟩
end
theorem Dns.length : ∀ {ds : List PyData} {xs : List V}, Dns K H ds xs → xs.length = ds.length
  | [], _, h => by rw [h.nil]; rfl
  | d :: ds, _, h => by
    obtain ⟨x, r, rfl, _, h2⟩ := h.cons
    rw [List.length_cons, List.length_cons, Dns.length h2]
theorem Dns.get : ∀ {ds : List PyData} {xs : List V} {i : Nat} {d : PyData}, Dns K H ds xs → ds[i]? = some d → ∃ x, xs[i]? = some x ∧ Dn K H d x
  | [], _, _, _, _, e => by simp at e
  | d :: ds, _, 0, d', h, e => by
    obtain ⟨x, r, rfl, h1, _⟩ := h.cons
    simp at e; subst e
    exact ⟨x, rfl, h1⟩
  | d :: ds, _, i + 1, d', h, e => by
    obtain ⟨x, r, rfl, _, h2⟩ := h.cons
    obtain ⟨y, h3, h4⟩ := Dns.get (i := i) h2 (by simpa using e)
    exact ⟨y, by simpa using h3, h4⟩
theorem Dns.get' : ∀ {ds : List PyData} {xs : List V} {i : Nat} {x : V}, Dns K H ds xs → xs[i]? = some x → ∃ d, ds[i]? = some d ∧ Dn K H d x := fun {ds xs i x} h e => by
  have hl := h.length
  have hi : i < xs.length := (List.getElem?_eq_some_iff.mp e).1
  obtain ⟨y, h1, h2⟩ := h.get (i := i) (d := ds[i]'(by omega)) (by simp [show i < ds.length by omega])
  rw [e] at h1; cases h1
  exact ⟨_, by simp [show i < ds.length by omega], h2⟩
theorem Dns.append : ∀ {ds es : List PyData} {xs ys : List V}, Dns K H ds xs → Dns K H es ys → Dns K H (ds ++ es) (xs ++ ys)
  | [], _, _, _, h, g => by rw [h.nil]; exact g
  | d :: ds, es, _, ys, h, g => by
    obtain ⟨x, r, rfl, h1, h2⟩ := h.cons
    exact dns_cons h1 (Dns.append h2 g)
theorem Dns.snoc {d : PyData} {x : V} {ds : List PyData} {xs : List V} (h : Dns K H ds xs) (hx : Dn K H d x) : Dns K H (ds ++ [d]) (xs ++ [x]) := h.append (dns_cons hx dns_nil)
theorem Dns.take : ∀ (n : Nat) {ds : List PyData} {xs : List V}, Dns K H ds xs → Dns K H (ds.take n) (xs.take n)
  | 0, _, _, _ => by simp only [List.take_zero]; exact dns_nil
  | _ + 1, [], _, h => by rw [h.nil]; exact dns_nil
  | n + 1, d :: ds, _, h => by
    obtain ⟨x, r, rfl, h1, h2⟩ := h.cons
    exact dns_cons h1 (Dns.take n h2)
theorem Dns.drop : ∀ (n : Nat) {ds : List PyData} {xs : List V}, Dns K H ds xs → Dns K H (ds.drop n) (xs.drop n)
  | 0, _, _, h => h
  | _ + 1, [], _, h => by rw [h.nil]; exact dns_nil
  | n + 1, d :: ds, _, h => by
    obtain ⟨x, r, rfl, h1, h2⟩ := h.cons
    exact Dns.drop n h2
theorem Dns.reverse : ∀ {ds : List PyData} {xs : List V}, Dns K H ds xs → Dns K H ds.reverse xs.reverse
  | [], _, h => by rw [h.nil]; exact dns_nil
  | d :: ds, _, h => by
    obtain ⟨x, r, rfl, h1, h2⟩ := h.cons
    rw [List.reverse_cons, List.reverse_cons]
    exact (Dns.reverse h2).snoc h1
theorem dns_ints : ∀ (ns : List Int), Dns K H (ns.map PyData.int) (ns.map V.int)
  | [] => dns_nil
  | _ :: r => dns_cons dn_int (dns_ints r)
end
section
variable {X : Cx} {pins : List (Addr × Obj)} {s : Shared} {σ : St} {H : Hp}
mutual
theorem dn_reads (I : Inv X pins σ H s) : ∀ {d : PyData} {v : V} {u : Value}, Dn X.K H d v → RelV v u → ∃ as, Reads s.heap u d as
  | .none, _, _, h, r => by rw [Dn] at h; subst h; cases r; exact ⟨_, .none⟩
  | .bool b, _, _, h, r => by rw [Dn] at h; subst h; cases r; exact ⟨_, .bool b⟩
  | .int i, _, _, h, r => by rw [Dn] at h; subst h; obtain ⟨t, rfl⟩ := r; exact ⟨_, .int i t⟩
  | .str i, _, _, h, r => by rw [Dn] at h; subst h; obtain ⟨t, rfl⟩ := r; exact ⟨_, .str i t⟩
  | .dict _, _, _, h, _ => by rw [Dn] at h; exact h.elim
  | .tuple ds, _, _, h, r => by
    rw [Dn] at h
    obtain ⟨a, xs, rfl, h1, h2⟩ := h
    cases r
    obtain ⟨us, rx, p, _⟩ := I.tuple h1
    obtain ⟨as, q⟩ := dns_reads I h2 rx
    obtain ⟨o, ho, hc, n, hd⟩ := p
    exact ⟨_, .tuple ho hc hd (by simpa using q)⟩
  | .list ds, _, _, h, r => by
    rw [Dn] at h
    obtain ⟨a, xs, rfl, h1, h2⟩ := h
    cases r
    obtain ⟨us, rx, p, _⟩ := I.list h1
    obtain ⟨as, q⟩ := dns_reads I h2 rx
    obtain ⟨o, ho, hc, n, hd⟩ := p.isList
    exact ⟨_, .list ho hc hd (by simpa using q)⟩
theorem dns_reads (I : Inv X pins σ H s) : ∀ {ds : List PyData} {xs : List V} {us : List Value}, Dns X.K H ds xs → Vals xs us → ∃ as, ReadsAll s.heap us ds as
  | [], _, _, h, r => by rw [Dns] at h; subst h; cases r; exact ⟨_, .nil⟩
  | d :: ds, _, _, h, r => by
    rw [Dns] at h
    obtain ⟨x, q, rfl, h1, h2⟩ := h
    cases r with
    | cons r1 r2 =>
      obtain ⟨as, p1⟩ := dn_reads I h1 r1
      obtain ⟨bs, p2⟩ := dns_reads I h2 r2
      exact ⟨_, .cons p1 p2⟩
end
inductive rEqD (K : PySem.W.Frag) (neg : Bool) (x : V) (y : V) (H : Hp) (Q : VK) : Prop where
  | mk (d : _) (e : _) (h_0 : Dn K H d x) (h_1 : Dn K H e y) (h_2 : SeqAt.shaped d = true) (h_3 : SeqAt.shaped e = true) (h_4 : Q (.bl (if neg then !PyData.eqv d e else PyData.eqv d e)) H)
theorem op_eqD (hu : X.A.units + 64 < cLine) : OpR X (compareOp .Eq) (rEqD X.K false) := by
  intro pins s σ H x y v u Q I rx ry h
  obtain ⟨d, e, h1, h2, s1, s2, q⟩ := h
  obtain ⟨as, r1⟩ := dn_reads I h1 rx
  obtain ⟨bs, r2⟩ := dn_reads I h2 ry
  exact eq_dataH r1 r2 s1 s2 hu ⟨.bl (PyData.eqv d e), H, I, rfl, q⟩
theorem op_neD (hu : X.A.units + 64 < cLine) : OpR X (compareOp .NotEq) (rEqD X.K true) := by
  intro pins s σ H x y v u Q I rx ry h
  obtain ⟨d, e, h1, h2, s1, s2, q⟩ := h
  obtain ⟨as, r1⟩ := dn_reads I h1 rx
  obtain ⟨bs, r2⟩ := dn_reads I h2 ry
  exact ne_dataH r1 r2 s1 s2 hu ⟨.bl (!PyData.eqv d e), H, I, rfl, q⟩
end

end L2
set_option Elab.async false
set_option linter.all false
set_option maxRecDepth 100000
set_option maxHeartbeats 4000000
namespace L2
open PySem PySem.Spec PyProof.Rows
end L2
namespace L2
open PySem PySem.Spec PyProof.Rows
end L2
set_option Elab.async false
set_option linter.all false
set_option maxRecDepth 100000
set_option maxHeartbeats 4000000
namespace L2
open PySem PySem.Spec PyProof.Rows Hull SortM
def spotD (p : P) : PyData := .tuple [.int p.1, .int p.2]
section
variable {X : Cx} {pins : List (Addr × Obj)} {s : Shared} {σ : St} {H : Hp}
theorem dn_spot {K : PySem.W.Frag} {a : Addr} {p : P} (h : SqT K H a [.int p.1, .int p.2]) : Dn K H (spotD p) (.ref a) := dn_tup h (dns_cons dn_int (dns_cons dn_int dns_nil))
theorem Dn.spot {K : PySem.W.Frag} {v : V} {p : P} (h : Dn K H (spotD p) v) : ∃ a, v = .ref a ∧ SqT K H a [.int p.1, .int p.2] := by
  obtain ⟨a, xs, rfl, h1, h2⟩ := Dn.tup h
  obtain ⟨x, r, rfl, hx, h2⟩ := h2.cons
  obtain ⟨y, r, rfl, hy, h2⟩ := h2.cons
  rw [h2.nil] at h1
  rw [hx.int, hy.int] at h1
  exact ⟨a, rfl, h1⟩
theorem spot_at (I : Inv X pins σ H s) {v : V} {u : Value} {p : P} (h : Dn X.K H (spotD p) v) (r : RelV v u) : SpotAt s.heap u p := by
  obtain ⟨a, rfl, h1⟩ := h.spot
  cases r
  obtain ⟨its, rv, ⟨o, ho, hc, n, hd⟩, _⟩ := I.tuple h1
  cases rv with
  | cons r1 rv =>
    cases rv with
    | cons r2 rv =>
      cases rv
      obtain ⟨t, rfl⟩ := r1
      obtain ⟨t', rfl⟩ := r2
      exact ⟨a, o, t, t', n, rfl, ho, hc, hd⟩
theorem spots_at (I : Inv X pins σ H s) : ∀ {ps : List P} {xs : List V} {us : List Value}, Dns X.K H (ps.map spotD) xs → Vals xs us → Spots s.heap us ps
  | [], _, _, h, r => by
    rw [Dns.nil h] at r; cases r; exact .nil
  | p :: ps, _, _, h, r => by
    obtain ⟨x, q, rfl, h1, h2⟩ := Dns.cons h
    cases r with
    | cons r1 r2 => exact .cons (spot_at I h1 r1) (spots_at I h2 r2)
end
def vIx (xs : List V) (ix : List Nat) : List V := ix.map fun i => xs.getD i .non
theorem vals_ix {xs : List V} {us : List Value} (r : Vals xs us) : ∀ {ix : List Nat}, (∀ i ∈ ix, i < us.length) → Vals (vIx xs ix) (valIx us ix)
  | [], _ => .nil
  | i :: ix, h => by
    have hi : i < us.length := h i (.head _)
    have hx : i < xs.length := by rw [r.length]; exact hi
    obtain ⟨u, h1, h2⟩ := r.get (i := i) (x := xs[i]) (by simp [hx])
    refine .cons ?_ (vals_ix r fun j hj => h j (.tail _ hj))
    have e1 : xs.getD i .non = xs[i] := by simp [hx]
    have e2 : us.getD i .none = u := by rw [List.getD_eq_getElem?_getD, h1]; rfl
    show RelV (xs.getD i .non) (us.getD i .none)
    rw [e1, e2]; exact h2
theorem dns_ix {K : PySem.W.Frag} {H : Hp} {ps : List P} {xs : List V} (h : Dns K H (ps.map spotD) xs) : ∀ {ix : List Nat}, (∀ i ∈ ix, i < ps.length) → Dns K H ((atIx ps ix).map spotD) (vIx xs ix)
  | [], _ => dns_nil
  | i :: ix, g => by
    have hi : i < ps.length := g i (.head _)
    obtain ⟨x, h1, h2⟩ := h.get (i := i) (d := spotD ps[i]) (by simp [hi])
    refine dns_cons ?_ (dns_ix h fun j hj => g j (.tail _ hj))
    have e1 : ps.getD i (0, 0) = ps[i] := by simp [hi]
    have e2 : xs.getD i .non = x := by rw [List.getD_eq_getElem?_getD, h1]; rfl
    show Dn K H (spotD (ps.getD i (0, 0))) (xs.getD i .non)
    rw [e1, e2]; exact h2
theorem mem_ix {ps : List P} {ix : List Nat} (h : ix.Perm (List.range ps.length)) (a : P) : a ∈ atIx ps ix ↔ a ∈ ps := by
  unfold atIx
  constructor
  · intro m
    obtain ⟨i, hi, rfl⟩ := List.mem_map.mp m
    have hi' : i < ps.length := List.mem_range.mp (h.mem_iff.mp hi)
    have e1 : ps.getD i (0, 0) = ps[i] := by simp [hi']
    rw [e1]; exact List.getElem_mem hi'
  · intro m
    obtain ⟨i, hi, rfl⟩ := List.mem_iff_getElem.mp m
    refine List.mem_map.mpr ⟨i, h.mem_iff.mpr (List.mem_range.mpr hi), ?_⟩
    simp [hi]

section
variable {prog : Program} {w : World} {A : Around} {E : Value → Shared → Prop} {s : Shared}
theorem sorted_spots {u : Value} {Q : Value → Shared → Prop}
    (hcol : wpAny (model prog w) A.in1 (collect u) (fun vs s1 => ∃ (ps : List P) (h1 : Heap) (tk : Nat), s1 = { s with heap := h1, toks := tk } ∧ (∀ b o, s.heap.get? b = some o → h1.get? b = some o) ∧ s.heap.objs.size ≤ h1.objs.size ∧ Spots h1 vs ps ∧ ps.Nodup ∧ vs.length < 64 ∧
      ∀ (ix : List Nat) (h' : Heap) (a : Addr) (c : Nat), ix.Perm (List.range vs.length) → (atIx ps ix).Pairwise lt → (∀ b o, s.heap.get? b = some o → h'.get? b = some o) → s.heap.objs.size ≤ a → h'.get? a = some (seqObj "list" (valIx vs ix).toArray c) →
        Q (.ref a) { s with heap := h', toks := tk }) E s) :
    wpAny (model prog w) A (call (.builtin "sorted") [u]) Q E s := by
  refine Calls.call_function_entry kind_sorted plain_sorted entry_sorted (args_sorted1 _) ?_
  unfold Builtin.«sorted»
  refine wpAny_bind (m := checkCount "sorted" 1 1 _) (wpAny_pure ?_)
  refine wpAny_bind (wpAny_mono hcol (fun vs s1 hv => ?_) fun _ _ x => x)
  obtain ⟨ps, h1, tk, rfl, kp, hlt, S, nd, h64, q⟩ := hv
  refine wpAny_bind (wpAny_newList ?_ (by rw [sizeLine_eq]; omega))
  have hoL : (h1.push (seqObj "list" vs.toArray 0)).get? h1.objs.size = some (seqObj "list" vs.toArray 0) := Heap.get?_push_size _ rfl
  show wpAny _ _ _ _ _ { s with heap := h1.push (seqObj "list" vs.toArray 0), toks := tk }
  refine wpAny_bind (wpAny_holding (wpAny_call_entry slot_list_sort ⟨_, hoL, rfl⟩ entry_list_sort
    (list_sort_spots (s := { s with heap := h1.push (seqObj "list" vs.toArray 0), toks := tk }) hoL (S.kept fun b o _ e => Heap.get?_push_of_some _ e) nd h64 fun ix a1 a2 => ⟨_, rfl, ?_⟩) (args_list_sort _)))
  refine wpAny_pure ⟨_, rfl, ?_⟩
  obtain ⟨e1, ho1⟩ : ∃ e1, ((h1.push (seqObj "list" vs.toArray 0)).update h1.objs.size (Obj.mapSeq fun _ => (#[] : Array Value))).get? h1.objs.size = some (seqObj "list" #[] e1) := ⟨_, get?_update_seq hoL (fun _ => #[])⟩
  obtain ⟨c, hc⟩ : ∃ c, (sortedHeap (h1.push (seqObj "list" vs.toArray 0)) h1.objs.size vs (valIx vs ix).toArray).get? h1.objs.size = some (seqObj "list" (valIx vs ix).toArray c) :=
    ⟨_, get?_update_seq (Heap.get?_push_of_some _ (Heap.get?_push_of_some _ ho1)) fun _ => (valIx vs ix).toArray⟩
  refine q ix _ _ c a1 a2 (fun b o e => ?_) hlt hc
  have hb : b ≠ h1.objs.size := Nat.ne_of_lt (Heap.lt_size (kp b o e))
  unfold sortedHeap
  rw [Heap.get?_update_ne _ _ _ _ hb]
  refine Heap.get?_push_of_some _ (Heap.get?_push_of_some _ ?_)
  rw [Heap.get?_update_ne _ _ _ _ hb]
  exact Heap.get?_push_of_some _ (kp b o e)
end
section
variable {X : Cx}
end
end L2
set_option Elab.async false
set_option linter.all false
set_option maxRecDepth 100000
set_option maxHeartbeats 4000000
namespace L2
open PySem PySem.Spec PyProof.Rows Hull SortM SetX
def SetB (prog : Program) (w : World) (es : Array (Int × Value)) (t : SetTable) (L : List VP) : Prop :=
  es.toList = L.map (ent prog w) ∧ (∃ Z, SetM.TOk t es.toList Z) ∧ t.plain = true ∧ t.led = led w ∧ (L.map (·.2)).Nodup ∧ (t.mask = 7 → L.length ≤ 4)
def setO (prog : Program) (w : World) (a : Addr) (L : List VP) : HO := .ext fun h => ∃ es ep t, h.get? a = some (setObj es ep t) ∧ SetB prog w es t L
def Ent (K : PySem.W.Frag) (H : Hp) (L : List VP) : Prop := ∀ z ∈ L, ∃ v, RelV v z.1 ∧ Dn K H (spotD z.2) v
theorem Ent.same {K : PySem.W.Frag} {H H' : Hp} {L : List VP} (e : Same H H') (h : Ent K H L) : Ent K H' L := fun z hz => let ⟨v, a, b⟩ := h z hz; ⟨v, a, e.dn b⟩
theorem Ent.vals {K : PySem.W.Frag} {H : Hp} : ∀ {L : List VP}, Ent K H L → ∃ vs, Vals vs (L.map (·.1)) ∧ Dns K H ((L.map (·.2)).map spotD) vs
  | [], _ => ⟨[], .nil, dns_nil⟩
  | z :: L, h => by
    obtain ⟨v, r, d⟩ := h z (.head _)
    obtain ⟨vs, rs, ds⟩ := Ent.vals (L := L) fun y hy => h y (.tail _ hy)
    exact ⟨v :: vs, .cons r rs, dns_cons d ds⟩
theorem spots_of {h : Heap} : ∀ {L : List VP}, (∀ z ∈ L, SpotAt h z.1 z.2) → Spots h (L.map (·.1)) (L.map (·.2))
  | [], _ => .nil
  | z :: L, h => .cons (h z (.head _)) (spots_of fun y hy => h y (.tail _ hy))
section
variable {X : Cx}
inductive rSetSp (X : Cx) (xs : List V) (H : Hp) (Q : VK) : Prop where
  | mk (p : Addr) (ys : List V) (ps : List P) (h_0 : xs = [.ref p]) (h_1 : SqL X.K H p ys) (h_2 : Dns X.K H (ps.map spotD) ys) (h_3 : ps.length ≤ 12) (h_4 : ∀ (L : List VP) (a : Addr), H a = none → Ent X.K H L → (∀ r, r ∈ L.map (·.2) ↔ r ∈ ps) → L.length ≤ ps.length → Q (.ref a) (upd H a (setO X.prog X.w a L)))
theorem call_setSp (hc : X.calm = true) (hu : X.A.units + 64 < cLine) : CallR X (.type "set") (rSetSp X) := by
  intro pins s σ H xs us Q I r h
  obtain ⟨p, ys, ps, rfl, hq, hd, h12, q⟩ := h
  obtain ⟨u, rfl, rx⟩ := vals1 r
  cases rx
  obtain ⟨its, rv, pl, hz⟩ := I.list hq
  have S := spots_at I hd rv
  have hl := S.length
  refine call_set_spots (I.ok.hd hc) (by omega) pl.isList S (by omega) fun h' tk L SS hm hlen he kp => ?_
  obtain ⟨es, ep, t, ho, B⟩ := SS
  refine ⟨.ref s.heap.objs.size, _, I.laid (t' := tk) (o := setO X.prog X.w s.heap.objs.size L) (fun b o e => kp b o (Heap.lt_size e) e) (Nat.le_refl _) ?_, rfl, q L _ I.fresh (fun z hz => ?_) hm hlen⟩
  · refine ⟨⟨es, ep, t, ho, B.el, B.tok, B.pln, B.ld, B.nd, B.few⟩, ⟨_, ho⟩, fun h1 h2 hφ k => ?_⟩
    obtain ⟨es, ep, t, ho, b⟩ := hφ
    exact ⟨es, ep, t, k _ ho, b⟩
  · obtain ⟨j, hj, rfl⟩ := he z hz
    have hjp : j < ps.length := by omega
    have e1 : ps.getD j (0, 0) = ps[j] := by simp [hjp]
    obtain ⟨x, h1, h2⟩ := hd.get (i := j) (d := spotD ps[j]) (by simp [hjp])
    obtain ⟨u, h3, h4⟩ := rv.get h1
    have e2 : its.getD j .none = u := by rw [List.getD_eq_getElem?_getD, h3]; rfl
    refine ⟨x, ?_, ?_⟩
    · show RelV x (its.getD j .none)
      rw [e2]; exact h4
    · show Dn X.K H (spotD (ps.getD j (0, 0))) x
      rw [e1]; exact h2
inductive rSortSp (X : Cx) (xs : List V) (H : Hp) (Q : VK) : Prop where
  | mk (a : Addr) (L : List VP) (h_0 : xs = [.ref a]) (h_1 : H a = some (setO X.prog X.w a L)) (h_2 : Ent X.K H L) (h_3 : L.length ≤ 12) (h_4 : ∀ (zs : List V) (qs : List P) (l : Addr), H l = none → Dns X.K H (qs.map spotD) zs → qs.Pairwise lt → (∀ r, r ∈ qs ↔ r ∈ L.map (·.2)) → qs.length = L.length → Q (.ref l) (upd H l (.lst zs)))
theorem call_sortSp (hc : X.calm = true) : CallR X (.builtin "sorted") (rSortSp X) := by
  intro pins s σ H xs us Q I r h
  obtain ⟨a, L, rfl, ha, he, h12, q⟩ := h
  obtain ⟨u, rfl, rx⟩ := vals1 r
  cases rx
  obtain ⟨⟨es, ep, t, ho, b1, b2, b3, b4, b5, b6⟩, _, _⟩ := I.hok a _ ha
  have B : SBody X.prog X.w s.heap es t L := ⟨b1, b2, b3, b4, fun z hz => let ⟨v, r, d⟩ := he z hz; spot_at I d r, b5, b6⟩
  refine sorted_spots (collect_set (I.ok.hd hc) ho B h12 fun h' tk L' kp hsz pm => ?_)
  have he' : Ent X.K H L' := fun z hz => he z (pm.mem_iff.mp hz)
  obtain ⟨vs, rs, ds⟩ := he'.vals
  have hlv : (L'.map (·.1)).length = L.length := by rw [List.length_map, pm.length_eq]
  refine ⟨L'.map (·.2), h', tk, rfl, kp, hsz, spots_of fun z hz => (B.sp z (pm.mem_iff.mp hz)).kept fun b o _ e => kp b o e, (pm.map _).nodup_iff.mpr b5, by omega, fun ix h'' l c p1 p2 kp2 hla hol => ?_⟩
  have hix : ∀ i ∈ ix, i < (L'.map (·.1)).length := fun i hi => List.mem_range.mp (p1.mem_iff.mp hi)
  have hix' : ∀ i ∈ ix, i < (L'.map (·.2)).length := fun i hi => by have := hix i hi; simpa using this
  have hlen : ix.length = L.length := by rw [p1.length_eq, List.length_range, hlv]
  refine ⟨.ref l, _, I.laid (t' := tk) (o := .lst (vIx vs ix)) kp2 hla ⟨?_, _, c, vals_ix rs hix, hol⟩, rfl, q _ (atIx (L'.map (·.2)) ix) l (I.hok.fresh hla) (dns_ix ds hix') p2 (fun r => ?_) ?_⟩
  · unfold vIx; rw [List.length_map, sizeLine_eq]; omega
  · rw [mem_ix (by have : (L'.map (·.2)).length = (L'.map (·.1)).length := by simp
                   rw [this]; exact p1), (pm.map (·.2)).mem_iff]
  · unfold atIx; rw [List.length_map]; exact hlen
end
end L2
set_option Elab.async false
set_option linter.all false
set_option maxRecDepth 100000
set_option maxHeartbeats 4000000
namespace L2
open PySem PySem.Spec PyProof.Rows Hull SortM SetX
section
variable {X : Cx}
theorem best_lt (bt : Nat → Nat → Bool) : ∀ n, argBest bt n ≤ n
  | 0 => Nat.le_refl _
  | n + 1 => by
    unfold argBest
    split
    · exact Nat.le_refl _
    · exact Nat.le_succ_of_le (best_lt bt n)
theorem best_min (val : Nat → Int) : ∀ n j, j ≤ n → val (argBest (fun i j => decide (val i < val j)) n) ≤ val j
  | 0, j, h => by have : j = 0 := by omega
                  subst this; exact Int.le_refl _
  | n + 1, j, h => by
    unfold argBest
    have ih := best_min val n
    by_cases hc : val (n + 1) < val (argBest (fun i j => decide (val i < val j)) n)
    · rw [if_pos (decide_eq_true hc)]
      rcases Nat.eq_or_lt_of_le h with e | e
      · subst e; exact Int.le_refl _
      · have := ih j (by omega); omega
    · rw [if_neg (by simpa using hc)]
      rcases Nat.eq_or_lt_of_le h with e | e
      · subst e; omega
      · exact ih j (by omega)
theorem best_max (val : Nat → Int) : ∀ n j, j ≤ n → val j ≤ val (argBest (fun i j => decide (val i > val j)) n)
  | 0, j, h => by have : j = 0 := by omega
                  subst this; exact Int.le_refl _
  | n + 1, j, h => by
    unfold argBest
    have ih := best_max val n
    by_cases hc : val (n + 1) > val (argBest (fun i j => decide (val i > val j)) n)
    · rw [if_pos (decide_eq_true hc)]
      rcases Nat.eq_or_lt_of_le h with e | e
      · subst e; exact Int.le_refl _
      · have := ih j (by omega); omega
    · rw [if_neg (by simpa using hc)]
      rcases Nat.eq_or_lt_of_le h with e | e
      · subst e; omega
      · exact ih j (by omega)
theorem ints_at {ns : List Int} {its : List Value} (r : Vals (ns.map V.int) its) (i : Nat) (v : Value) (h : its.toArray[i]? = some v) : ∃ t, v = .int (ns.getD i 0) t := by
  have hi : i < its.length := by
    have h' : its[i]? = some v := by simpa using h
    exact (List.getElem?_eq_some_iff.mp h').1
  have hl : ns.length = its.length := by have := r.length; simpa using this
  have hn : i < ns.length := by omega
  obtain ⟨u, h1, h2⟩ := r.get (i := i) (x := V.int ns[i]) (by simp [hn])
  have h' : its[i]? = some v := by simpa using h
  rw [h'] at h1; cases h1
  obtain ⟨t, e⟩ := h2
  exact ⟨t, by rw [e]; simp [hn]⟩
inductive rMinL (K : PySem.W.Frag) (xs : List V) (H : Hp) (Q : VK) : Prop where
  | mk (p : Addr) (ns : List Int) (h_0 : xs = [.ref p]) (h_1 : SqL K H p (ns.map V.int)) (h_2 : ns ≠ []) (h_3 : ∀ m, m ∈ ns → (∀ n ∈ ns, m ≤ n) → Q (.int m) H)
theorem call_minL (hc : X.calm = true) : CallR X (.builtin "min") (rMinL X.K) := by
  intro pins s σ H xs us Q I r h
  obtain ⟨p, ns, rfl, hq, hne, q⟩ := h
  obtain ⟨u, rfl, rx⟩ := vals1 r
  cases rx
  obtain ⟨its, rv, pl, hz⟩ := I.list hq
  have hl := pl.isList
  have hlen : ns.length = its.length := by have := rv.length; simpa using this
  have hpos : 0 < ns.length := List.length_pos_iff.mpr hne
  have hax : p < s.heap.objs.size := by obtain ⟨_, e, _⟩ := hl; exact Heap.lt_size e
  refine call_min_walk (wpAny_pyIter_list hl ?_)
  refine ⟨s.heap.objs.size, [s.heap.objs.size, p], [s.heap.objs.size], its.toArray.size, (fun i v => its.toArray[i]? = some v), _, _, rfl,
    Walks.list (prog := X.prog) (w := X.w) (A := X.A.in1) (I.ok.hd hc) s.heap.objs.size p (Nat.ne_of_lt hax) _, ⟨⟨_, Heap.get?_push_size _ rfl, rfl, rfl⟩, hl.push _⟩, ?_, by simp; omega, CmpOf.ints_lt (fun i => ns.getD i 0) (fun i v hv => ints_at rv i v hv), fun v h' tk hP hk => ?_⟩
  · intro b hb
    show b < (s.heap.push _).objs.size
    rw [Heap.size_push]
    simp only [List.mem_cons, List.mem_singleton, List.not_mem_nil, or_false] at hb
    rcases hb with rfl | rfl
    · exact Nat.lt_succ_self _
    · exact Nat.lt_succ_of_lt hax
  · obtain ⟨t, rfl⟩ := ints_at rv _ v hP
    have hsz : its.toArray.size - 1 = ns.length - 1 := by simp [hlen]
    rw [hsz] at hP ⊢
    have hb := best_lt (fun i j => decide (ns.getD i 0 < ns.getD j 0)) (ns.length - 1)
    have hm := best_min (fun i => ns.getD i 0) (ns.length - 1)
    generalize argBest (fun i j => decide (ns.getD i 0 < ns.getD j 0)) (ns.length - 1) = k at *
    have hk' : k < ns.length := by omega
    refine ⟨.int (ns.getD k 0), H, I.kept fun b o e => hk b o ?_ (Heap.get?_push_of_some _ e), ⟨t, rfl⟩, q _ ?_ fun n hn => ?_⟩
    · have := Heap.lt_size e
      simp only [List.mem_cons, List.mem_singleton, List.not_mem_nil, or_false]
      exact Nat.ne_of_lt this
    · have : ns.getD k 0 = ns[k] := by simp [hk']
      rw [this]; exact List.getElem_mem hk'
    · obtain ⟨j, hj, rfl⟩ := List.mem_iff_getElem.mp hn
      have := hm j (by omega)
      have e2 : ns.getD j 0 = ns[j] := by simp [hj]
      rw [e2] at this; exact this
inductive rMaxL (K : PySem.W.Frag) (xs : List V) (H : Hp) (Q : VK) : Prop where
  | mk (p : Addr) (ns : List Int) (h_0 : xs = [.ref p]) (h_1 : SqL K H p (ns.map V.int)) (h_2 : ns ≠ []) (h_3 : ∀ m, m ∈ ns → (∀ n ∈ ns, n ≤ m) → Q (.int m) H)
theorem call_maxL (hc : X.calm = true) : CallR X (.builtin "max") (rMaxL X.K) := by
  intro pins s σ H xs us Q I r h
  obtain ⟨p, ns, rfl, hq, hne, q⟩ := h
  obtain ⟨u, rfl, rx⟩ := vals1 r
  cases rx
  obtain ⟨its, rv, pl, hz⟩ := I.list hq
  have hl := pl.isList
  have hlen : ns.length = its.length := by have := rv.length; simpa using this
  have hpos : 0 < ns.length := List.length_pos_iff.mpr hne
  have hax : p < s.heap.objs.size := by obtain ⟨_, e, _⟩ := hl; exact Heap.lt_size e
  refine call_max_walk (wpAny_pyIter_list hl ?_)
  refine ⟨s.heap.objs.size, [s.heap.objs.size, p], [s.heap.objs.size], its.toArray.size, (fun i v => its.toArray[i]? = some v), _, _, rfl,
    Walks.list (prog := X.prog) (w := X.w) (A := X.A.in1) (I.ok.hd hc) s.heap.objs.size p (Nat.ne_of_lt hax) _, ⟨⟨_, Heap.get?_push_size _ rfl, rfl, rfl⟩, hl.push _⟩, ?_, by simp; omega, CmpOf.ints_gt (fun i => ns.getD i 0) (fun i v hv => ints_at rv i v hv), fun v h' tk hP hk => ?_⟩
  · intro b hb
    show b < (s.heap.push _).objs.size
    rw [Heap.size_push]
    simp only [List.mem_cons, List.mem_singleton, List.not_mem_nil, or_false] at hb
    rcases hb with rfl | rfl
    · exact Nat.lt_succ_self _
    · exact Nat.lt_succ_of_lt hax
  · obtain ⟨t, rfl⟩ := ints_at rv _ v hP
    have hsz : its.toArray.size - 1 = ns.length - 1 := by simp [hlen]
    rw [hsz] at hP ⊢
    have hb := best_lt (fun i j => decide (ns.getD i 0 > ns.getD j 0)) (ns.length - 1)
    have hm := best_max (fun i => ns.getD i 0) (ns.length - 1)
    generalize argBest (fun i j => decide (ns.getD i 0 > ns.getD j 0)) (ns.length - 1) = k at *
    have hk' : k < ns.length := by omega
    refine ⟨.int (ns.getD k 0), H, I.kept fun b o e => hk b o ?_ (Heap.get?_push_of_some _ e), ⟨t, rfl⟩, q _ ?_ fun n hn => ?_⟩
    · have := Heap.lt_size e
      simp only [List.mem_cons, List.mem_singleton, List.not_mem_nil, or_false]
      exact Nat.ne_of_lt this
    · have : ns.getD k 0 = ns[k] := by simp [hk']
      rw [this]; exact List.getElem_mem hk'
    · obtain ⟨j, hj, rfl⟩ := List.mem_iff_getElem.mp hn
      have := hm j (by omega)
      have e2 : ns.getD j 0 = ns[j] := by simp [hj]
      rw [e2] at this; exact this
end
end L2
set_option Elab.async false
set_option linter.all false
set_option maxRecDepth 100000
set_option maxHeartbeats 4000000
namespace L2
open PySem PySem.Spec PyProof.Rows Hull SortM SetX
theorem spot_eqv (p q : P) : PyData.eqv (spotD p) (spotD q) = decide (p = q) := by
  unfold spotD
  rw [PyData.eqv, PyData.eqvAll, PyData.eqvAll, PyData.eqvAll, PyData.eqv, PyData.eqv]
  by_cases h : p = q
  · rw [h]; simp
  · rw [decide_eq_false h]
    have : ¬ (p.1 = q.1 ∧ p.2 = q.2) := fun e => h (Prod.ext e.1 e.2)
    rw [Bool.and_true, ← Bool.not_eq_true, Bool.and_eq_true]
    simpa using this
theorem spots_eqvAll : ∀ ps qs : List P, PyData.eqvAll (ps.map spotD) (qs.map spotD) = decide (ps = qs)
  | [], [] => rfl
  | [], _ :: _ => by simp [PyData.eqvAll]
  | _ :: _, [] => by simp [PyData.eqvAll]
  | p :: ps, q :: qs => by
    rw [List.map_cons, List.map_cons, PyData.eqvAll, spots_eqvAll ps qs, spot_eqv]
    by_cases h : p = q <;> by_cases g : ps = qs <;> simp [h, g]
theorem spots_eqv (ps qs : List P) : PyData.eqv (.list (ps.map spotD)) (.list (qs.map spotD)) = decide (ps = qs) := by rw [PyData.eqv, spots_eqvAll]
theorem spot_can (p : P) : (spotD p).canLay0 = true ∧ (spotD p).depth ≤ 2 := by
  unfold spotD
  constructor
  · simp [PyData.canLay0, PyData.canLayAll0]
  · simp [PyData.depth, PyData.depthAll]
theorem spots_can : ∀ ps : List P, PyData.canLayAll0 (ps.map spotD) = true ∧ PyData.depthAll (ps.map spotD) ≤ 2
  | [] => ⟨rfl, Nat.zero_le _⟩
  | p :: ps => by
    obtain ⟨h1, h2⟩ := spots_can ps
    obtain ⟨g1, g2⟩ := spot_can p
    rw [List.map_cons]
    constructor
    · simp [PyData.canLayAll0, h1, g1]
    · rw [PyData.depthAll]; omega
theorem spot_shaped (p : P) : SeqAt.shaped (spotD p) = true := by
  obtain ⟨g1, g2⟩ := spot_can p
  unfold SeqAt.shaped
  rw [g1, decide_eq_true (by omega)]; rfl
theorem spots_shaped (ps : List P) : SeqAt.shaped (.list (ps.map spotD)) = true := by
  obtain ⟨h1, h2⟩ := spots_can ps
  unfold SeqAt.shaped
  have : (PyData.list (ps.map spotD)).depth ≤ 64 := by rw [PyData.depth]; omega
  rw [decide_eq_true this, PyData.canLay0, h1]; rfl
section
variable {X : Cx}
inductive rNeSp (K : PySem.W.Frag) (x : V) (y : V) (H : Hp) (Q : VK) : Prop where
  | mk (p : _) (q : _) (h_0 : Dn K H (spotD p) x) (h_1 : Dn K H (spotD q) y) (h_2 : Q (.bl (!decide (p = q))) H)
theorem op_neSp (hu : X.A.units + 64 < cLine) : OpR X (compareOp .NotEq) (rNeSp X.K) := by
  intro pins s σ H x y v u Q I rx ry h
  obtain ⟨p, q, h1, h2, k⟩ := h
  refine op_neD hu pins s σ H x y v u Q I rx ry ⟨_, _, h1, h2, spot_shaped p, spot_shaped q, ?_⟩
  rw [spot_eqv]; exact k
inductive rNeSps (K : PySem.W.Frag) (x : V) (y : V) (H : Hp) (Q : VK) : Prop where
  | mk (a : _) (b : _) (xs : _) (ys : _) (ps : _) (qs : _) (h_0 : x = .ref a) (h_1 : y = .ref b) (h_2 : SqL K H a xs) (h_3 : SqL K H b ys) (h_4 : Dns K H (List.map spotD ps) xs) (h_5 : Dns K H (List.map spotD qs) ys) (h_6 : Q (.bl (!decide (ps = qs))) H)
theorem op_neSps (hu : X.A.units + 64 < cLine) : OpR X (compareOp .NotEq) (rNeSps X.K) := by
  intro pins s σ H x y v u Q I rx ry h
  obtain ⟨a, b, xs, ys, ps, qs, rfl, rfl, h1, h2, d1, d2, k⟩ := h
  refine op_neD hu pins s σ H _ _ v u Q I rx ry ⟨_, _, dn_lst h1 d1, dn_lst h2 d2, spots_shaped ps, spots_shaped qs, ?_⟩
  rw [spots_eqv]; exact k
end
end L2
set_option Elab.async false
set_option linter.all false
set_option maxRecDepth 100000
set_option maxHeartbeats 4000000
namespace L2
open PySem PySem.Spec PyProof.Rows Hull SortM SetX
def revO (X : Cx) (a l : Addr) (n : Nat) : HO := .ext fun h => h.get? a = some (RevX.revObj l ((n : Int) - 1)) ∧ X.s₀.heap.objs.size ≤ a
def del (H : Hp) (a : Addr) : Hp := fun b => if b = a then none else H b
theorem del_ne {H : Hp} {a b : Addr} (h : b ≠ a) : del H a b = H b := by unfold del; rw [if_neg h]
theorem del_same {H : Hp} {a : Addr} : del H a a = none := by unfold del; rw [if_pos rfl]
theorem del_upd {H : Hp} {a : Addr} {o : HO} (h : H a = none) : del (upd H a o) a = H := by
  funext b; unfold del upd
  by_cases e : b = a
  · rw [if_pos e, e, h]
  · rw [if_neg e, if_neg e]
theorem Vals.rev : ∀ {xs : List V} {us : List Value}, Vals xs us → Vals xs.reverse us.reverse
  | _, _, .nil => .nil
  | _, _, .cons r t => by
    rw [List.reverse_cons, List.reverse_cons]
    exact (Vals.rev t).append (.cons r .nil)
section
variable {X : Cx} {pins : List (Addr × Obj)} {σ : St} {H : Hp} {s : Shared}
theorem Inv.forget {a : Addr} {φ : Heap → Prop} (I : Inv X pins σ H s) (h : H a = some (.ext φ)) : Inv X pins σ (del H a) s := by
  have no : ∀ b u, H b = some u → u ≠ .ext φ → b ≠ a := fun b u e d z => by subst z; rw [h] at e; cases e; exact d rfl
  refine I.un (t' := s.toks) (h' := s.heap) ⟨fun b o e _ _ _ => e, fun b o e _ _ _ => ⟨o.slots, e⟩, fun b o e n _ => ?_, fun b o e _ => ⟨o, e⟩, fun b xs e => ?_, fun b o u e => ?_, fun b ps e => ?_⟩ fun b u e => ?_
  · have : b ≠ a := fun z => by subst z; rw [h] at n; cases n
    rw [del_ne this]; exact n
  · rw [del_ne (no b _ e (fun q => by cases q))]; exact e
  · rw [del_ne (no b _ e (fun q => by cases q))]; exact e
  · exact ⟨#[], by rw [del_ne (no b _ e (fun q => by cases q)), Array.append_empty]; exact e⟩
  · have hb : b ≠ a := fun z => by subst z; rw [del_same] at e; cases e
    rw [del_ne hb] at e
    exact (I.hok b u e).stay (fun c v _ q => q) (fun c _ _ q => by rw [del_ne (no c _ q (fun z => by cases z))]; exact q) (fun c q => by rw [del_ne (no c _ q (fun z => by cases z))]; exact q) fun c xs q => by rw [del_ne (no c _ q (fun z => by cases z))]; exact q
inductive rRev (X : Cx) (xs : List V) (H : Hp) (Q : VK) : Prop where
  | mk (l : Addr) (ys : List V) (h_0 : xs = [.ref l]) (h_1 : H l = some (.lst ys)) (h_2 : ∀ a, H a = none → Q (.ref a) (upd H a (revO X a l ys.length)))
theorem call_rev : CallR X (.type "reversed") (rRev X) := by
  intro pins s σ H xs us Q I r h
  obtain ⟨l, ys, rfl, hH, q⟩ := h
  obtain ⟨u, rfl, rx⟩ := vals1 r
  cases rx
  obtain ⟨z, its, n, rv, hl, e⟩ := I.lstM hH
  refine RevX.call_rev e ?_
  have hsz : ((its.toArray.size : Int) - 1) = ((ys.length : Nat) : Int) - 1 := by rw [List.size_toArray, hl]
  rw [hsz]
  refine ⟨.ref s.heap.objs.size, _, I.laid (t' := s.toks) (o := revO X s.heap.objs.size l ys.length) (fun b o e => Heap.get?_push_of_some _ e) (Nat.le_refl _) ?_, rfl, q _ I.fresh⟩
  exact ⟨⟨Heap.get?_push_size _ rfl, I.sz⟩, ⟨_, Heap.get?_push_size _ rfl⟩, fun h1 h2 hφ k => ⟨k _ hφ.1, hφ.2⟩⟩
inductive rListRev (X : Cx) (xs : List V) (H : Hp) (Q : VK) : Prop where
  | mk (a l : Addr) (ys : List V) (h_0 : xs = [.ref a]) (h_1 : H a = some (revO X a l ys.length)) (h_2 : H l = some (.lst ys)) (h_3 : ∀ p, H p = none → Q (.ref p) (upd (del H a) p (.lst ys.reverse)))
theorem call_listRev (hc : X.calm = true) : CallR X (.type "list") (rListRev X) := by
  intro pins s σ H xs us Q I r h
  obtain ⟨a, l, ys, rfl, hA, hH, q⟩ := h
  obtain ⟨u, rfl, rx⟩ := vals1 r
  cases rx
  obtain ⟨z, its, n, rv, hl, e⟩ := I.lstM hH
  obtain ⟨⟨ha, hs0⟩, _, _⟩ := I.hok a _ hA
  have hne : l ≠ a := by rintro rfl; rw [hA] at hH; cases hH
  have hsz : ((ys.length : Nat) : Int) - 1 = ((its.toArray.size : Nat) : Int) - 1 := by rw [List.size_toArray, hl]
  rw [hsz] at ha
  have halt := Heap.lt_size ha
  refine RevX.list_rev (items := its.toArray) (I.ok.hd hc) ⟨_, ha, rfl, rfl⟩ ⟨_, e, rfl, n, rfl⟩ hne (by rw [List.size_toArray]; omega) fun h' tk c' kp ho => ?_
  have I1 := I.forget hA
  have hp : del H a s.heap.objs.size = none := by rw [del_ne (Nat.ne_of_gt halt)]; exact I.fresh
  have hna : ∀ b u, del H a b = some u → b ≠ a := fun b u e z => by rw [z, del_same] at e; cases e
  have hnp : ∀ b u, del H a b = some u → b ≠ s.heap.objs.size := fun b u e z => by rw [z, hp] at e; cases e
  have hL : X.env.locals ≠ a := fun z => by have := I.free; rw [z, hA] at this; cases this
  have I2 : Inv X pins σ (upd (del H a) s.heap.objs.size (.lst ys.reverse)) { s with heap := h', gens := s.gens, drawn := s.drawn, toks := tk } := by
    refine I1.step (ch := [a]) (fun b hb => ?_) (fun b o _ _ hb e _ => kp b o (by simpa using hb) e) (fun b o _ _ hb e _ => ⟨o.slots, kp b o (by simpa using hb) e⟩) (fun b o hb e n => ?_) (fun b o hb e => ⟨o, kp b o (by simpa using hb) e⟩)
      (fun b xs e => ?_) (fun b o u e => ?_) (fun b ps e => ?_) (fun m hm => ?_) (fun b u e => ?_) I.bare
    · have hb' : b = a := by simpa using hb
      subst hb'
      exact ⟨.inr hs0, fun z => hL z.symm, fun x c ec z => (by have := I.freeC x c ec; rw [z, hA] at this; cases this), fun p hp z => (by have := (I.pin p hp).2.1; rw [z, hA] at this; cases this)⟩
    · rw [upd_ne (Nat.ne_of_lt (Heap.lt_size e))]; exact n
    · rw [upd_ne (hnp b _ e)]; exact e
    · rw [upd_ne (hnp b _ e)]; exact e
    · exact ⟨#[], by rw [upd_ne (hnp b _ e), Array.append_empty]; exact e⟩
    · exact hm.at' fun o e => kp _ o hL e
    · by_cases hb : b = s.heap.objs.size
      · subst hb
        rw [upd_same] at e; cases e
        exact ⟨by rw [List.length_reverse]; exact z, its.reverse, c', Vals.rev rv, by rw [ho]; simp⟩
      · rw [upd_ne hb] at e
        refine (I1.hok b u e).stay (fun c v hc' q' => kp c v ?_ q') (fun c _ _ q' => by rw [upd_ne (hnp c _ q')]; exact q') (fun c q' => ?_) fun c xs q' => ?_
        · rcases hc' with rfl | hc'
          · exact hna _ _ e
          · exact hna _ _ hc'
        · rw [upd_ne (hnp c _ q')]; exact q'
        · rw [upd_ne (hnp c _ q')]; exact q'
  exact ⟨.ref s.heap.objs.size, _, I2, rfl, q _ I.fresh⟩
end
end L2
set_option Elab.async false
set_option linter.all false
set_option maxRecDepth 100000
set_option maxHeartbeats 4000000
namespace L2
open PySem PySem.Spec PyProof.Rows
section
variable {X : Cx}
inductive rIsSeq (K : PySem.W.Frag) (xs : List V) (H : Hp) (Q : VK) : Prop where
  | mk (a : Addr) (ys : List V) (T : String) (b : Bool) (h_0 : xs = [.ref a, .ty T]) (h_1 : ((SqT K H a ys ∧ PySem.W.kitOne K (.type "tuple") (.type T) = some b) ∨ (SqL K H a ys ∧ PySem.W.kitOne K (.type "list") (.type T) = some b))) (h_2 : Q (.bl b) H)
theorem call_isSeq : CallR X (.builtin "isinstance") (rIsSeq X.K) := by
  intro pins s σ H xs us Q I rv h
  obtain ⟨a, ys, T, b, rfl, ty, q⟩ := h
  obtain ⟨u, u', rfl, rx, rt⟩ := vals2 rv
  cases rt
  cases rx
  rcases ty with ⟨h1, e⟩ | ⟨h1, e⟩
  · obtain ⟨_, _, ⟨o, h2, h3, _⟩, _⟩ := I.tuple h1
    exact PySem.W.kia_one PySem.W.kitx_tuple I.kIn ⟨o, h2, h3⟩ e (fun z => nomatch z) fun tk => ⟨.bl b, H, I.tok tk, rfl, q⟩
  · obtain ⟨_, _, p, _⟩ := I.list h1
    obtain ⟨o, h2, h3, _⟩ := p.isList
    exact PySem.W.kia_one PySem.W.kitx_list I.kIn ⟨o, h2, h3⟩ e (fun z => nomatch z) fun tk => ⟨.bl b, H, I.tok tk, rfl, q⟩
end
end L2
set_option linter.all false
set_option maxRecDepth 100000
set_option maxHeartbeats 8000000
namespace ZipX
open PySem
abbrev IsZ2 (h : Heap) (z TI TO T0 : Addr) (b : Bool) : Prop :=
  h.get? z = some { cls := .type "zip", dict := none, data := .fields #[rawInt T0, .bool b, .bool false, .ref TI, .ref TO], slots := #[] }
section
variable {prog : Program} {w : World} {A : Around} {E : Value → Shared → Prop} {s : Shared}
theorem wpAny_alive {M : Model} {a : Addr} {Q : Option Obj → Shared → Prop} (h : Q (s.heap.get? a) s) : wpAny M A (loadIfAlive a) Q E s := by
  intro Γ p _
  unfold loadIfAlive
  simp only [Sem.wp_loadIfAlive, Sem.wp_pure]
  exact h
theorem SameBut.refl' {a : Addr} {h : Heap} : Heap.SameBut a h h := ⟨rfl, fun _ _ => rfl⟩
theorem busy {z TI TO T0 : Addr} {bb : Bool} {o0 : Obj} (hz : IsZ2 s.heap z TI TO T0 bb) (ho0 : s.heap.get? T0 = some o0) :
    wpAny (model prog w) A (Builtin.SmallTypes.ownedTupleIsFree (.ref z)) (fun r s' => r = false ∧ ∃ h₁, s' = { s with heap := h₁ } ∧ IsZ2 h₁ z TI TO T0 true ∧ Heap.SameBut z s.heap h₁) E s := by
  unfold Builtin.SmallTypes.ownedTupleIsFree
  refine wpAny_bind (wpAny_field hz rfl (x := rawInt T0) rfl ?_)
  show wpAny _ _ (loadIfAlive (Int.toNat (T0 : Nat)) >>= _) _ _ _
  rw [Int.toNat_natCast]
  refine wpAny_bind (wpAny_alive ?_)
  rw [ho0]
  show wpAny _ _ (field (.ref z) 1 >>= _) _ _ _
  cases bb with
  | true =>
    refine wpAny_bind (wpAny_field hz rfl (x := .bool true) rfl ?_)
    exact wpAny_pure ⟨rfl, s.heap, rfl, hz, SameBut.refl'⟩
  | false =>
    refine wpAny_bind (wpAny_field hz rfl (x := .bool false) rfl ?_)
    show wpAny _ _ (setField (.ref z) 1 (.bool true) >>= _) _ _ _
    refine wpAny_bind (wpAny_setField_rec hz (by simp) fun h' hz' hs' => ?_)
    exact wpAny_pure ⟨rfl, h', rfl, hz', hs'⟩
theorem zip_item2 {z TI TO T0 i1 i2 l1 l2 : Addr} {bb : Bool} {o0 : Obj} {k1 k2 : Nat} {xs ys : Array Value} {x y : Value} {Q : Value → Shared → Prop} (D : ZipApart z TI TO i1 i2 l1 l2)
    (hz : IsZ2 s.heap z TI TO T0 bb) (ho0 : s.heap.get? T0 = some o0) (hTI : IsPair s.heap TI (.ref i1) (.ref i2))
    (h1 : s.heap.IsListIter i1 l1 k1) (h2 : s.heap.IsListIter i2 l2 k2) (hl1 : s.heap.IsList l1 xs) (hl2 : s.heap.IsList l2 ys) (hx : xs[k1]? = some x) (hy : ys[k2]? = some y)
    (hQ : ∀ h', IsZ2 h' z TI TO T0 true → h'.IsListIter i1 l1 (k1 + 1) → h'.IsListIter i2 l2 (k2 + 1) → IsPair h' s.heap.objs.size x y → h'.objs.size = s.heap.objs.size + 1 →
      (∀ c o, c ≠ z → c ≠ i1 → c ≠ i2 → s.heap.get? c = some o → h'.get? c = some o) → Q (.ref s.heap.objs.size) { s with heap := h' }) :
    wpAny (model prog w) A (Builtin.«zip.__next__» ⟨[.ref z], []⟩) (fun fin s' => ∃ v, fin = .done (.ret v) ∧ Q v s') E s := by
  show wpAny _ _ (field (.ref z) 2 >>= _) _ _ _
  refine wpAny_bind (wpAny_field hz rfl (x := .bool false) rfl ?_)
  show wpAny _ _ (field (.ref z) 3 >>= _) _ _ _
  refine wpAny_bind (wpAny_field hz rfl (x := .ref TI) rfl ?_)
  refine wpAny_bind (wpAny_seqItems hTI rfl ?_)
  show wpAny _ _ (Builtin.SmallTypes.ownedTupleIsFree (.ref z) >>= _) _ _ _
  refine wpAny_bind (wpAny_mono (busy hz ho0) (fun r s' hr => ?_) fun _ _ e => e)
  obtain ⟨rfl, h₁, rfl, hz₁, hs₁⟩ := hr
  rw [if_neg (by decide)]
  show wpAny _ _ (forIn (#[Value.ref i1, Value.ref i2] : Array Value) _ _ >>= _) _ _ _
  rw [← Array.forIn_toList]
  simp only [List.forIn_cons, List.forIn_nil]
  refine wpAny_bind (wpAny_bind (wpAny_bind (wpAny_holding ?_)))
  show wpAny _ _ (Builtin.SmallTypes.nextOf (.ref i1) >>= _) _ _ _
  refine wpAny_bind (wpAny_nextOf_list_item (s := { s with heap := h₁ }) (h1.extBut hs₁.extBut D.i1z) (hl1.extBut hs₁.extBut D.l1z) hx fun h₂ h1₂ hs₂ => wpAny_pure (wpAny_pure ?_))
  replace hs₂ : Heap.SameBut i1 h₁ h₂ := hs₂
  refine wpAny_bind (wpAny_bind (wpAny_holding ?_))
  show wpAny _ _ (Builtin.SmallTypes.nextOf (.ref i2) >>= _) _ _ _
  refine wpAny_bind (wpAny_nextOf_list_item (s := { s with heap := h₂ }) ((h2.extBut hs₁.extBut D.i2z).extBut hs₂.extBut D.i12.symm) ((hl2.extBut hs₁.extBut D.l2z).extBut hs₂.extBut D.l2i1) hy fun h₃ h2₃ hs₃ => wpAny_pure (wpAny_pure (wpAny_pure ?_)))
  replace hs₃ : Heap.SameBut i2 h₂ h₃ := hs₃
  show wpAny _ _ (newTuple [x, y] >>= _) _ _ _
  refine wpAny_bind (wpAny_newTuple ?_)
  have hsz : h₃.objs.size = s.heap.objs.size := by rw [hs₃.1, hs₂.1, hs₁.1]
  have hz₃ : IsZ2 h₃ z TI TO T0 true := hs₃.extBut _ _ D.i2z.symm (hs₂.extBut _ _ D.i1z.symm hz₁)
  have h1₃ : h₃.IsListIter i1 l1 (k1 + 1) := h1₂.extBut hs₃.extBut D.i12
  refine wpAny_pure ⟨_, rfl, ?_⟩
  show Q (.ref h₃.objs.size) _
  rw [hsz]
  refine hQ _ (Heap.get?_push_of_some _ hz₃) (h1₃.at fun o e => Heap.get?_push_of_some _ e) (h2₃.at fun o e => Heap.get?_push_of_some _ e) ?_ (by rw [Heap.size_push, hsz]) fun c o c1 c2 c3 e => Heap.get?_push_of_some _ (hs₃.extBut _ _ c3 (hs₂.extBut _ _ c2 (hs₁.extBut _ _ c1 e)))
  show Heap.get? _ _ = _
  rw [← hsz]
  exact Heap.get?_push_size _ rfl
theorem zip_end2 {z TI TO T0 i1 i2 l1 l2 : Addr} {bb : Bool} {o0 : Obj} {k1 k2 : Nat} {xs ys : Array Value} {Q : Fin → Shared → Prop} (hh : A.handled = none) (D : ZipApart z TI TO i1 i2 l1 l2)
    (hz : IsZ2 s.heap z TI TO T0 bb) (ho0 : s.heap.get? T0 = some o0) (hTI : IsPair s.heap TI (.ref i1) (.ref i2))
    (h1 : s.heap.IsListIter i1 l1 k1) (hl1 : s.heap.IsList l1 xs) (hx : xs[k1]? = none)
    (hE : ∀ h' e, (∀ c o, c ≠ z → c ≠ i1 → s.heap.get? c = some o → h'.get? c = some o) → (∃ o, h'.get? e = some o ∧ o.cls = .type "StopIteration") → E (.ref e) { s with heap := h' }) :
    wpAny (model prog w) A (Builtin.«zip.__next__» ⟨[.ref z], []⟩) Q E s := by
  show wpAny _ _ (field (.ref z) 2 >>= _) _ _ _
  refine wpAny_bind (wpAny_field hz rfl (x := .bool false) rfl ?_)
  show wpAny _ _ (field (.ref z) 3 >>= _) _ _ _
  refine wpAny_bind (wpAny_field hz rfl (x := .ref TI) rfl ?_)
  refine wpAny_bind (wpAny_seqItems hTI rfl ?_)
  show wpAny _ _ (Builtin.SmallTypes.ownedTupleIsFree (.ref z) >>= _) _ _ _
  refine wpAny_bind (wpAny_mono (busy hz ho0) (fun r s' hr => ?_) fun _ _ e => e)
  obtain ⟨rfl, h₁, rfl, hz₁, hs₁⟩ := hr
  rw [if_neg (by decide)]
  show wpAny _ _ (forIn (#[Value.ref i1, Value.ref i2] : Array Value) _ _ >>= _) _ _ _
  rw [← Array.forIn_toList]
  simp only [List.forIn_cons, List.forIn_nil]
  refine wpAny_bind (wpAny_bind (wpAny_bind (wpAny_holding ?_)))
  show wpAny _ _ (Builtin.SmallTypes.nextOf (.ref i1) >>= _) _ _ _
  refine wpAny_bind (wpAny_nextOf_list_end (s := { s with heap := h₁ }) hh (h1.extBut hs₁.extBut D.i1z) (hl1.extBut hs₁.extBut D.l1z) hx fun h₂ e hs₂ he => ?_)
  exact hE h₂ e (fun c o c1 c2 q => hs₂ c o c2 (hs₁.extBut _ _ c1 q)) he
theorem next2 {z TI TO T0 i1 i2 l1 l2 : Addr} {bb : Bool} {o0 : Obj} {k1 k2 : Nat} {xs ys : Array Value} {x y : Value} {Q : Option Value → Shared → Prop} (D : ZipApart z TI TO i1 i2 l1 l2)
    (hz : IsZ2 s.heap z TI TO T0 bb) (ho0 : s.heap.get? T0 = some o0) (hTI : IsPair s.heap TI (.ref i1) (.ref i2))
    (h1 : s.heap.IsListIter i1 l1 k1) (h2 : s.heap.IsListIter i2 l2 k2) (hl1 : s.heap.IsList l1 xs) (hl2 : s.heap.IsList l2 ys) (hx : xs[k1]? = some x) (hy : ys[k2]? = some y)
    (hQ : ∀ h', IsZ2 h' z TI TO T0 true → h'.IsListIter i1 l1 (k1 + 1) → h'.IsListIter i2 l2 (k2 + 1) → IsPair h' s.heap.objs.size x y → h'.objs.size = s.heap.objs.size + 1 →
      (∀ c o, c ≠ z → c ≠ i1 → c ≠ i2 → s.heap.get? c = some o → h'.get? c = some o) → Q (some (.ref s.heap.objs.size)) { s with heap := h' }) :
    wpAny (model prog w) A (pyNext (.ref z)) Q E s := by
  have hT : s.TypeIs (.ref z) "zip" := ⟨_, hz, rfl⟩
  unfold pyNext
  exact wpAny_bind (wpAny_attempt (wpAny_callSpecial?_slot (name := Str.ofString "__next__") hT F.slot_zip_next
    (wpAny_call_entry F.slot_zip_next hT F.entry_zip_next
      (zip_item2 D hz ho0 hTI h1 h2 hl1 hl2 hx hy fun h' a1 a2 a3 a4 a5 a6 => wpAny_pure (hQ h' a1 a2 a3 a4 a5 a6)) (F.args_zip_next_1 _))))
theorem end2 {z TI TO T0 i1 i2 l1 l2 : Addr} {bb : Bool} {o0 : Obj} {k1 : Nat} {xs : Array Value} {Q : Option Value → Shared → Prop} (hh : A.handled = none) (D : ZipApart z TI TO i1 i2 l1 l2)
    (hz : IsZ2 s.heap z TI TO T0 bb) (ho0 : s.heap.get? T0 = some o0) (hTI : IsPair s.heap TI (.ref i1) (.ref i2))
    (h1 : s.heap.IsListIter i1 l1 k1) (hl1 : s.heap.IsList l1 xs) (hx : xs[k1]? = none)
    (hQ : ∀ h', (∀ c o, c ≠ z → c ≠ i1 → s.heap.get? c = some o → h'.get? c = some o) → Q none { s with heap := h' }) : wpAny (model prog w) A (pyNext (.ref z)) Q E s := by
  have hT : s.TypeIs (.ref z) "zip" := ⟨_, hz, rfl⟩
  unfold pyNext
  refine wpAny_bind (wpAny_attempt (wpAny_callSpecial?_slot (name := Str.ofString "__next__") hT F.slot_zip_next
    (wpAny_call_entry F.slot_zip_next hT F.entry_zip_next (zip_end2 (k2 := 0) (ys := #[]) hh D hz ho0 hTI h1 hl1 hx fun h' e hk he => ?_) (F.args_zip_next_1 _))))
  obtain ⟨o, ho, hc⟩ := he
  refine wpAny_bind (wpAny_isInstance (T := "StopIteration") (b := true) ⟨o, ho, hc⟩ isSubtype_stop ?_)
  exact wpAny_pure (hQ _ hk)
end
end ZipX
set_option Elab.async false
set_option linter.all false
set_option maxRecDepth 100000
set_option maxHeartbeats 4000000
namespace L2
open PySem PySem.Spec PyProof.Rows
section
variable {X : Cx} {pins : List (Addr × Obj)} {σ : St} {H : Hp} {s : Shared} {h' : Heap}
inductive rSumL (K : PySem.W.Frag) (xs : List V) (H : Hp) (Q : VK) : Prop where
  | mk (p : Addr) (ns : List Int) (h_0 : xs = [.ref p]) (h_1 : SqL K H p (ns.map V.int)) (h_2 : Q (.int ns.sum) H)
theorem pre_sum (ns : List Int) : preSum (fun i => ns.getD i 0) ns.length = ns.sum := by
  have key : ∀ n, n ≤ ns.length → preSum (fun i => ns.getD i 0) n = (ns.take n).sum := by
    intro n
    induction n with
    | zero => intro _; simp [preSum]
    | succ n ih =>
      intro h
      rw [preSum, ih (by omega), List.take_add_one]
      have : ns[n]? = some ns[n] := List.getElem?_eq_getElem (by omega)
      rw [this, List.sum_append]
      simp [List.getD, this]
  rw [key _ (Nat.le_refl _), List.take_length]
theorem call_sumL (hc : X.calm = true) : CallR X (.builtin "sum") (rSumL X.K) := by
  intro pins s σ H xs us Q I r h
  obtain ⟨p, ns, rfl, hq, q⟩ := h
  obtain ⟨u, rfl, rx⟩ := vals1 r
  cases rx
  obtain ⟨its, rv, pl, hz⟩ := I.list hq
  have hl := pl.isList
  have hlen : ns.length = its.length := by have := rv.length; simpa using this
  have hax : p < s.heap.objs.size := by obtain ⟨_, e, _⟩ := hl; exact Heap.lt_size e
  refine call_sum_walkG (wpAny_pyIter_list hl ?_)
  refine ⟨s.heap.objs.size, [s.heap.objs.size, p], [s.heap.objs.size], its.toArray.size, (fun i v => its.toArray[i]? = some v), _, (fun i => ns.getD i 0), rfl,
    Walks.list (prog := X.prog) (w := X.w) (A := X.A.in1) (I.ok.hd hc) s.heap.objs.size p (Nat.ne_of_lt hax) _, ⟨⟨_, Heap.get?_push_size _ rfl, rfl, rfl⟩, hl.push _⟩, ?_, fun i v hv => ints_at rv i v hv, fun h' tk t' hk => ?_⟩
  · intro b hb
    show b < (s.heap.push _).objs.size
    rw [Heap.size_push]
    simp only [List.mem_cons, List.mem_singleton, List.not_mem_nil, or_false] at hb
    rcases hb with rfl | rfl
    · exact Nat.lt_succ_self _
    · exact Nat.lt_succ_of_lt hax
  · have hsz : its.toArray.size = ns.length := by simp [hlen]
    rw [hsz, pre_sum]
    refine ⟨.int ns.sum, H, I.kept fun b o e => hk b o ?_ (Heap.get?_push_of_some _ e), ⟨t', rfl⟩, q⟩
    have := Heap.lt_size e
    simp only [List.mem_cons, List.mem_singleton, List.not_mem_nil, or_false]
    exact Nat.ne_of_lt this
theorem Inv.turnedL {t' : Nat} {fp : List Addr} (I : Inv X pins σ H s) (k : ∀ b o, b ∉ fp → s.heap.get? b = some o → h'.get? b = some o) (hf : ∀ b ∈ fp, FpOk X pins H b) : Inv X pins σ H { s with heap := h', toks := t' } := by
  have nit : ∀ b u, H b = some u → b ∉ fp := fun b u e z => by rw [(hf b z).1] at e; cases e
  refine I.step (g' := s.gens) (d' := s.drawn) (ch := fp) (fun b hb => ?_) (fun b o _ _ hc e _ => k b o hc e) (fun b o _ _ hc e _ => ⟨o.slots, k b o hc e⟩) (fun _ _ _ _ n => n)
    (fun b o hc e => ⟨o, k b o hc e⟩) (fun _ _ e => e) (fun _ _ _ e => e) (fun b ps e => ⟨#[], by rw [e]; simp⟩) (fun m hm => ?_) (fun b u e => ?_) I.bare
  · obtain ⟨f0, f1, f2, f3, f4, f5⟩ := hf b hb
    exact ⟨f3, f1, f4, f5⟩
  · obtain ⟨o, es, ep, ho, r⟩ := hm
    exact ⟨o, es, ep, k _ o (fun z => (hf _ z).2.1 rfl) ho, r⟩
  · refine (I.hok b u e).stay (fun c v hc q => k c v ?_ q) (fun _ _ _ z => z) (fun _ q => q) fun _ _ q => q
    rcases hc with z | z
    · rw [z]; exact nit b u e
    · exact nit c _ z
theorem Inv.turnedNew {t' : Nat} {fp : List Addr} {a : Addr} {o : HO} (I : Inv X pins σ H s) (k : ∀ b u, b ∉ fp → s.heap.get? b = some u → h'.get? b = some u) (hf : ∀ b ∈ fp, FpOk X pins H b) (hp : s.heap.objs.size ≤ a)
    (new : ObjOk X.prog X.w (upd H a o) h' a o) : Inv X pins σ (upd H a o) { s with heap := h', toks := t' } := by
  have ha : H a = none := I.hok.fresh hp
  have nit : ∀ b u, H b = some u → b ∉ fp := fun b u e z => by rw [(hf b z).1] at e; cases e
  have na : ∀ b u, H b = some u → b ≠ a := fun b u e z => by rw [z, ha] at e; cases e
  refine I.step (g' := s.gens) (d' := s.drawn) (ch := fp) (fun b hb => ?_) (fun b o _ _ hc e _ => k b o hc e) (fun b o _ _ hc e _ => ⟨o.slots, k b o hc e⟩) (fun b u _ e n => ?_)
    (fun b o hc e => ⟨o, k b o hc e⟩) (fun b xs e => by rw [upd_ne (na b _ e)]; exact e) (fun b o u e => by rw [upd_ne (na b _ e)]; exact e) (fun b ps e => ⟨#[], by rw [upd_ne (na b _ e), e]; simp⟩) (fun m hm => ?_) (fun b u e => ?_) I.bare
  · obtain ⟨f0, f1, f2, f3, f4, f5⟩ := hf b hb
    exact ⟨f3, f1, f4, f5⟩
  · rw [upd_ne (Nat.ne_of_lt (Nat.lt_of_lt_of_le (Heap.lt_size e) hp))]; exact n
  · obtain ⟨o, es, ep, ho, r⟩ := hm
    exact ⟨o, es, ep, k _ o (fun z => (hf _ z).2.1 rfl) ho, r⟩
  · by_cases hb : b = a
    · subst hb
      rw [upd_same] at e; cases e
      exact new
    · rw [upd_ne hb] at e
      refine (I.hok b u e).stay (fun c v hc q => k c v ?_ q) (fun c _ _ q => by rw [upd_ne (na c _ q)]; exact q) (fun c q => by rw [upd_ne (na c _ q)]; exact q) fun c xs q => by rw [upd_ne (na c _ q)]; exact q
      rcases hc with z | z
      · rw [z]; exact nit b u e
      · exact nit c _ z
end
def Ite (K : PySem.W.Frag) (a : Addr) : It :=
  ⟨fun i H => ∃ xs x, SqL K H a xs ∧ xs[i]? = some x, fun i H v H' => ∃ T x, v = .ref T ∧ H T = none ∧ H' = upd H T (.tup [.int i, x]) ∧ ∀ xs, SqL K H a xs → xs[i]? = some x, fun i H => ∃ xs, SqL K H a xs ∧ xs.length ≤ i⟩
theorem turn_enum {P : Program} {w : World} {K : PySem.W.Frag} {elts : List Expr} {kt : Nat} {pos : Pos} (a e it : Addr) (hne : e ≠ it) : Turn P w K (.Tuple elts kt pos) (Ite K a) [e, it] e (fun i h => (∃ old, IsEnum h e it (i : Nat) old) ∧ h.IsListIter it a i) where
  mem := by simp
  obj := fun i h st b hb => by
    obtain ⟨⟨old, h1⟩, o, h2, c, d⟩ := st
    have hb' : b = e ∨ b = it := by simpa using hb
    rcases hb' with rfl | rfl
    · exact ⟨_, h1, fun v z => by cases (show Data.fields _ = Data.cell v from z)⟩
    · exact ⟨o, h2, fun v z => by rw [d] at z; cases z⟩
  keep := fun i h h' st k => ⟨let ⟨old, q⟩ := st.1; ⟨old, k e (by simp) _ q⟩, st.2.at fun o q => k it (by simp) o q⟩
  item := by
    intro X hP hw hK hc i pins s σ H E I hf st hg
    subst hP hw hK
    obtain ⟨xs, x, hq, hx⟩ := hg
    obtain ⟨its, rv, p, hz⟩ := I.list hq
    obtain ⟨u, hu, ru⟩ := rv.get hx
    obtain ⟨⟨old, st1⟩, st2⟩ := st
    refine wpAny_pyNext_enum_item st1 st2 p.isList (x := u) (by simpa using hu) hne fun h1 o1 l1 t1 z1 k1 => ?_
    refine ⟨_, rfl, wpAny_letOwnedTupleGo_enum (s := { s with heap := h1, toks := s.toks + 1 }) o1 fun h2 e2 sb => ?_⟩
    have hT : h2.get? s.heap.objs.size = some { cls := .type "tuple", data := .seq #[.int i s.toks, u] } := by
      have hne2 : s.heap.objs.size ≠ e := Nat.ne_of_gt (Heap.lt_size st1)
      exact sb.extBut _ _ hne2 t1
    have kk : ∀ b o, b ∉ [e, it] → s.heap.get? b = some o → h2.get? b = some o := fun b o hb q => by
      have hb' : b ≠ e ∧ b ≠ it := by simpa using hb
      exact sb.extBut _ _ hb'.1 (k1 b o hb'.1 hb'.2 q)
    refine ⟨.ref s.heap.objs.size, upd H s.heap.objs.size (.tup [.int i, x]), I.turnedNew (t' := s.toks + 1) kk hf (Nat.le_refl _) ⟨by show 2 ≤ sizeLine; decide, [.int i s.toks, u], .cons ⟨_, rfl⟩ (.cons ru .nil), ⟨_, hT, rfl, _, rfl⟩⟩, rfl,
      ⟨_, x, rfl, I.fresh, rfl, fun ys hy => by rw [I.list_inj hy hq]; exact hx⟩, ⟨⟨_, e2⟩, ?_⟩, fun b hb => ?_⟩
    · exact l1.extBut sb.extBut (Ne.symm hne)
    · have := (hf b hb).1
      have hb' : b < s.heap.objs.size := by
        have hb2 : b = e ∨ b = it := by simpa using hb
        rcases hb2 with rfl | rfl
        · exact Heap.lt_size st1
        · obtain ⟨o, q, _⟩ := st2; exact Heap.lt_size q
      rw [upd_ne (Nat.ne_of_lt hb')]; exact this
  done := by
    intro X hP hw hK hc i pins s σ H E I hf st hg
    subst hP hw hK
    obtain ⟨xs, hq, hx⟩ := hg
    obtain ⟨its, rv, p, hz⟩ := I.list hq
    obtain ⟨⟨old, st1⟩, st2⟩ := st
    have hl := rv.length
    exact wpAny_pyNext_enum_end (I.ok.hd hc) st1 st2 p.isList (by simp; omega) fun h' eb => ⟨rfl, I.turnedL (t' := s.toks) (fun b o hb q => eb b o (fun z => hb (by simp [z])) q) hf⟩
  self := fun _ _ _ _ _ st h => let ⟨old, q⟩ := st.1; wpAny_pyIter_enum q h
section
variable {X : Cx}
def iEnum (K : PySem.W.Frag) (ta : TA) : TI := fun σ H R => ta σ H fun vs H1 => ∃ a, vs = [.ref a] ∧ (∃ xs, SqL K H1 a xs) ∧ R (Ite K a) H1
theorem pi_enum {a : Expr} {ta : TA} {p pos ptg : Pos} {elts : List Expr} {kt : Nat} (hg : Gl X "enumerate") (hm : X.mg "enumerate" = none) (ha : PA X [a] ta) (hs : starEach [a] X.env = [(false, eval a X.env)] := by rfl) : PI X (.Tuple elts kt ptg) (.Call (.Name "enumerate" p) [a] [] pos) (iEnum X.K ta) := by
  intro pins s σ H R I h
  refine Call_ (ld_blt I hg hm PySem.L3.boot_enumerate (PyProof.Rows.callWith_type1 (thn (ha pos pins s σ H _ I h) fun us s1 ⟨vs, H1, I1, r1, q1⟩ => ?_) hs rfl))
  obtain ⟨l, e, ⟨xs, hq⟩, q⟩ := q1
  subst e
  cases r1 with
  | cons r rr =>
    cases rr
    cases r
    obtain ⟨its, rv, pl, hz⟩ := I1.list hq
    refine call_enumerate_list pl.isList fun h' he hi hsz hk => ?_
    refine wpAny_pyIter_enum he ?_
    have I2 : Inv X pins σ H1 { s1 with heap := h' } := I1.kept (t' := s1.toks) hk
    refine ⟨s1.heap.objs.size + 1, [s1.heap.objs.size + 1, s1.heap.objs.size], _, _, H1, rfl, I2, turn_enum l _ _ (Nat.succ_ne_self _), ⟨⟨_, he⟩, hi⟩, fun b hb => ?_, q⟩
    have hb' : b = s1.heap.objs.size + 1 ∨ b = s1.heap.objs.size := by simpa using hb
    rcases hb' with rfl | rfl
    · exact I1.fpOk (Nat.le_succ _) (I1.hok.fresh (Nat.le_succ _))
    · exact I1.fpOk (Nat.le_refl _) (I1.hok.fresh (Nat.le_refl _))
end
def Itz (K : PySem.W.Frag) (a b : Addr) : It :=
  ⟨fun i H => ∃ xs ys x y, SqL K H a xs ∧ SqL K H b ys ∧ xs[i]? = some x ∧ ys[i]? = some y,
   fun i H v H' => ∃ T x y, v = .ref T ∧ H T = none ∧ H' = upd H T (.tup [x, y]) ∧ (∀ xs, SqL K H a xs → xs[i]? = some x) ∧ ∀ ys, SqL K H b ys → ys[i]? = some y,
   fun i H => ∃ xs ys, SqL K H a xs ∧ SqL K H b ys ∧ (xs.length ≤ i ∨ ys.length ≤ i)⟩
def ZipTn (z TI TO i1 i2 l1 l2 : Addr) : Nat → Heap → Prop := fun i h => IsZip h z TI TO .none ∧ IsPair h TI (.ref i1) (.ref i2) ∧ (∃ a b, IsPair h TO a b) ∧ h.IsListIter i1 l1 i ∧ h.IsListIter i2 l2 i
theorem turn_zip {P : Program} {w : World} {K : PySem.W.Frag} {elts : List Expr} {kt : Nat} {pos : Pos} {z TI TO i1 i2 l1 l2 : Addr} (D : ZipApart z TI TO i1 i2 l1 l2) :
    Turn P w K (.Tuple elts kt pos) (Itz K l1 l2) [z, TI, TO, i1, i2] z (ZipTn z TI TO i1 i2 l1 l2) where
  mem := by simp
  obj := fun i h st b hb => by
    obtain ⟨hz, hTI, ⟨x, y, hTO⟩, ⟨o1, e1, c1, d1⟩, o2, e2, c2, d2⟩ := st
    have hb' : b = z ∨ b = TI ∨ b = TO ∨ b = i1 ∨ b = i2 := by simpa using hb
    rcases hb' with rfl | rfl | rfl | rfl | rfl
    · exact ⟨_, hz, fun v q => by cases (show Data.fields _ = Data.cell v from q)⟩
    · exact ⟨_, hTI, fun v q => by cases (show Data.seq _ _ = Data.cell v from q)⟩
    · exact ⟨_, hTO, fun v q => by cases (show Data.seq _ _ = Data.cell v from q)⟩
    · exact ⟨o1, e1, fun v q => by rw [d1] at q; cases q⟩
    · exact ⟨o2, e2, fun v q => by rw [d2] at q; cases q⟩
  keep := fun i h h' st k => by
    obtain ⟨hz, hTI, ⟨x, y, hTO⟩, h1, h2⟩ := st
    exact ⟨k z (by simp) _ hz, k TI (by simp) _ hTI, ⟨x, y, k TO (by simp) _ hTO⟩, h1.at fun o q => k i1 (by simp) o q, h2.at fun o q => k i2 (by simp) o q⟩
  item := by
    intro X hP hw hK hc i pins s σ H E I hf st hg
    subst hP hw hK
    obtain ⟨xs, ys, x, y, hq1, hq2, hx, hy⟩ := hg
    obtain ⟨its1, rv1, p1, hz1⟩ := I.list hq1
    obtain ⟨its2, rv2, p2, hz2⟩ := I.list hq2
    obtain ⟨u, hu, ru⟩ := rv1.get hx
    obtain ⟨v, hv, rv⟩ := rv2.get hy
    obtain ⟨hz, hTI, ⟨x0, y0, hTO⟩, h1, h2⟩ := st
    refine wpAny_pyNext_zip_item D hz hTI hTO h1 h2 p1.isList p2.isList (x := u) (y := v) (by simpa using hu) (by simpa using hv) fun h' a1 a2 a3 a4 a5 a6 hk => ?_
    refine ⟨_, rfl, wpAny_letOwnedTupleGo_zip (s := { s with heap := h' }) a1 fun h2' e2 sb => ?_⟩
    have lz := Heap.lt_size hz
    have hT : IsPair h2' s.heap.objs.size u v := sb.extBut _ _ (Nat.ne_of_gt lz) a5
    have kk : ∀ b o, b ∉ [z, TI, TO, i1, i2] → s.heap.get? b = some o → h2'.get? b = some o := fun b o hb q => by
      have hb' : b ≠ z ∧ b ≠ TI ∧ b ≠ TO ∧ b ≠ i1 ∧ b ≠ i2 := by simpa using hb
      exact sb.extBut _ _ hb'.1 (hk b o hb'.1 hb'.2.2.1 hb'.2.2.2.1 hb'.2.2.2.2 q)
    refine ⟨.ref s.heap.objs.size, upd H s.heap.objs.size (.tup [x, y]), I.turnedNew (t' := s.toks) kk hf (Nat.le_refl _) ⟨by show 2 ≤ sizeLine; decide, [u, v], .cons ru (.cons rv .nil), ⟨_, hT, rfl, _, rfl⟩⟩, rfl,
      ⟨_, x, y, rfl, I.fresh, rfl, fun ws hw => by rw [I.list_inj hw hq1]; exact hx, fun ws hw => by rw [I.list_inj hw hq2]; exact hy⟩, ?_, fun b hb => ?_⟩
    · exact ⟨e2, sb.extBut _ _ D.TIz (hk _ _ D.TIz D.TITO D.TIi1 D.TIi2 hTI), ⟨_, _, sb.extBut _ _ D.TOz a2⟩, a3.extBut sb.extBut D.i1z, a4.extBut sb.extBut D.i2z⟩
    · have := (hf b hb).1
      have hb' : b < s.heap.objs.size := by
        have hb2 : b = z ∨ b = TI ∨ b = TO ∨ b = i1 ∨ b = i2 := by simpa using hb
        rcases hb2 with rfl | rfl | rfl | rfl | rfl
        · exact lz
        · exact Heap.lt_size hTI
        · exact Heap.lt_size hTO
        · obtain ⟨o, q, _⟩ := h1; exact Heap.lt_size q
        · obtain ⟨o, q, _⟩ := h2; exact Heap.lt_size q
      rw [upd_ne (Nat.ne_of_lt hb')]; exact this
  done := by
    intro X hP hw hK hc i pins s σ H E I hf st hg
    subst hP hw hK
    obtain ⟨xs, ys, hq1, hq2, hx⟩ := hg
    obtain ⟨its1, rv1, p1, hz1⟩ := I.list hq1
    obtain ⟨its2, rv2, p2, hz2⟩ := I.list hq2
    obtain ⟨hz, hTI, ⟨x0, y0, hTO⟩, h1, h2⟩ := st
    have l1' := rv1.length
    have l2' := rv2.length
    refine wpAny_pyNext_zip_end (I.ok.hd hc) D hz hTI hTO h1 h2 p1.isList p2.isList (by rcases hx with q | q; exact .inl (by simp; omega); exact .inr (by simp; omega)) fun h' eb => ⟨rfl, I.turnedL (t' := s.toks) (fun b o hb q => ?_) hf⟩
    have hb' : b ≠ z ∧ b ≠ TI ∧ b ≠ TO ∧ b ≠ i1 ∧ b ≠ i2 := by simpa using hb
    exact eb b o hb'.1 hb'.2.2.1 hb'.2.2.2.1 hb'.2.2.2.2 q
  self := fun _ _ _ _ _ st h => wpAny_pyIter_zip st.1 h
section
variable {X : Cx}
def iZip (K : PySem.W.Frag) (ta : TA) : TI := fun σ H R => ta σ H fun vs H1 => ∃ a b, vs = [.ref a, .ref b] ∧ (∃ xs, SqL K H1 a xs) ∧ (∃ ys, SqL K H1 b ys) ∧ R (Itz K a b) H1
theorem pi_zip {a b : Expr} {ta : TA} {p pos ptg : Pos} {elts : List Expr} {kt : Nat} (hg : Gl X "zip") (hm : X.mg "zip" = none) (ha : PA X [a, b] ta) (hs : starEach [a, b] X.env = [(false, eval a X.env), (false, eval b X.env)] := by rfl) (hs2 : starEach [b] X.env = [(false, eval b X.env)] := by rfl) :
    PI X (.Tuple elts kt ptg) (.Call (.Name "zip" p) [a, b] [] pos) (iZip X.K ta) := by
  intro pins s σ H R I h
  refine Call_ (ld_blt I hg hm PySem.L3.boot_zip (PyProof.Rows.callWith_type1 (thn (ha pos pins s σ H _ I h) fun us s1 ⟨vs, H1, I1, r1, q1⟩ => ?_) (by rw [hs, hs2]) (by rw [hs2]; rfl)))
  obtain ⟨l1, l2, e, ⟨xs, hq1⟩, ⟨ys, hq2⟩, q⟩ := q1
  subst e
  cases r1 with
  | cons r rr =>
    cases rr with
    | cons r' rr =>
      cases rr
      cases r
      cases r'
      obtain ⟨its1, rv1, p1, hz1⟩ := I1.list hq1
      obtain ⟨its2, rv2, p2, hz2⟩ := I1.list hq2
      have hl1 : l1 < s1.heap.objs.size := by obtain ⟨_, e, _⟩ := p1.isList; exact Heap.lt_size e
      have hl2 : l2 < s1.heap.objs.size := by obtain ⟨_, e, _⟩ := p2.isList; exact Heap.lt_size e
      refine call_zip_2 p1.isList p2.isList fun h' hz hTI hTO hi1 hi2 hsz hk => ?_
      refine wpAny_pyIter_zip hz ?_
      have I2 : Inv X pins σ H1 { s1 with heap := h' } := I1.kept (t' := s1.toks) hk
      refine ⟨s1.heap.objs.size + 4, [s1.heap.objs.size + 4, s1.heap.objs.size + 2, s1.heap.objs.size + 3, s1.heap.objs.size, s1.heap.objs.size + 1], _, _, H1, rfl, I2, turn_zip (zipApart_new hl1 hl2), ⟨hz, hTI, ⟨_, _, hTO⟩, hi1, hi2⟩, fun b hb => ?_, q⟩
      have hb' : s1.heap.objs.size ≤ b := by
        have hb2 : b = s1.heap.objs.size + 4 ∨ b = s1.heap.objs.size + 2 ∨ b = s1.heap.objs.size + 3 ∨ b = s1.heap.objs.size ∨ b = s1.heap.objs.size + 1 := by simpa using hb
        rcases hb2 with rfl | rfl | rfl | rfl | rfl
        · exact Nat.le_add_right _ _
        · exact Nat.le_add_right _ _
        · exact Nat.le_add_right _ _
        · exact Nat.le_refl _
        · exact Nat.le_add_right _ _
      exact I1.fpOk hb' (I1.hok.fresh hb')
end
end L2
set_option Elab.async false
set_option linter.all false
set_option maxRecDepth 100000
set_option maxHeartbeats 4000000
namespace L2
open PySem PySem.Spec PyProof.Rows
namespace ZF
theorem nolen : typeLookup (.type "zip") "__len__" = pure none := by rw [typeLookup_type, builtinLookup_eq_fast]; kernel_rfl
theorem nohint : typeLookup (.type "zip") "__length_hint__" = pure none := by rw [typeLookup_type, builtinLookup_eq_fast]; kernel_rfl
end ZF
def ZGo (h : Heap) (H : Hp) (z TI TO : Addr) : Prop := IsZip h z TI TO .none ∨ ∃ T0 b xs, ZipX.IsZ2 h z TI TO T0 b ∧ H T0 = some (.tup xs)
section
variable {X : Cx} {pins : List (Addr × Obj)} {σ : St}
theorem Inv.adopt {H : Hp} {s : Shared} {a : Addr} {o : HO} (I : Inv X pins σ H s) (hf : FpOk X pins H a) (new : ObjOk X.prog X.w (upd H a o) s.heap a o) : Inv X pins σ (upd H a o) s := by
  have na : ∀ b u, H b = some u → b ≠ a := fun b u e z => by rw [z, hf.1] at e; cases e
  obtain ⟨f0, f1, f2, f3, f4, f5⟩ := hf
  have := I.step (h' := s.heap) (H' := upd H a o) (g' := s.gens) (d' := s.drawn) (t' := s.toks) (ch := [a]) (fun b hb => ?_) (fun b o _ _ hc e _ => e) (fun b o _ _ hc e _ => ⟨o.slots, e⟩) (fun b u hc e n => ?_)
    (fun b o hc e => ⟨o, e⟩) (fun b xs e => by rw [upd_ne (na b _ e)]; exact e) (fun b o u e => by rw [upd_ne (na b _ e)]; exact e) (fun b ps e => ⟨#[], by rw [upd_ne (na b _ e), e]; simp⟩) (fun m hm => hm) (fun b u e => ?_) I.bare
  · exact this
  · have e : b = a := by simpa using hb
    subst e
    exact ⟨f3, f1, f4, f5⟩
  · rw [upd_ne (fun z => hc (by simp [z]))]; exact n
  · by_cases hb : b = a
    · subst hb
      rw [upd_same] at e; cases e
      exact new
    · rw [upd_ne hb] at e
      exact (I.hok b u e).stay (fun c v hc q => q) (fun c _ _ q => by rw [upd_ne (na c _ q)]; exact q) (fun c q => by rw [upd_ne (na c _ q)]; exact q) fun c xs q => by rw [upd_ne (na c _ q)]; exact q
theorem same_newL {H : Hp} {p : Addr} (h : H p = none) (o : HO) : Same H (upd H p o) := fun b u q => by rw [upd_ne (ne_of_none q h)]; exact q
theorem FpOk.upd {H : Hp} {b a : Addr} {o : HO} (h : FpOk X pins H b) (hb : b ≠ a) : FpOk X pins (upd H a o) b := ⟨by rw [upd_ne hb]; exact h.1, h.2⟩
theorem loop_zip {A : Around} {R : Result → Shared → Prop} {res : Value} (hh : A.handled = none) {z TI TO i1 i2 l1 l2 S : Addr} (D : ZipApart z TI TO i1 i2 l1 l2) (hS1 : S ≠ z) (hS2 : S ≠ TI) (hS3 : S ≠ TO) (hS4 : S ≠ i1) (hS5 : S ≠ i2) {xs ys : List V} (hn : xs.length = ys.length) (hz24 : xs.length ≤ sizeLine) :
    ∀ (k i : Nat) (s : Shared) (H : Hp) (its : List Value) (c : Nat) (zs : List V), xs.length - i = k → i ≤ xs.length → Inv X pins σ H s → (∀ b ∈ [S, z, TI, TO, i1, i2], FpOk X pins H b) → SqL X.K H l1 xs → SqL X.K H l2 ys → ZGo s.heap H z TI TO →
    IsPair s.heap TI (.ref i1) (.ref i2) → (∃ a b, IsPair s.heap TO a b) → s.heap.IsListIter i1 l1 i → s.heap.IsListIter i2 l2 i →
    s.heap.get? S = some { cls := .type "list", dict := none, data := .seq its.toArray c, slots := #[] } → Vals zs its → zs.length = i →
    (∀ (j : Nat) (x y : V), j < i → xs[j]? = some x → ys[j]? = some y → ∃ T, zs[j]? = some (V.ref T) ∧ H T = some (.tup [x, y])) →
    (∀ s' H' its' c' zs', Same H H' → Inv X pins σ H' s' → FpOk X pins H' S → s'.heap.get? S = some { cls := .type "list", dict := none, data := .seq its'.toArray c', slots := #[] } → Vals zs' its' → zs'.length = xs.length →
      (∀ (j : Nat) (x y : V), xs[j]? = some x → ys[j]? = some y → ∃ T, zs'[j]? = some (V.ref T) ∧ H' T = some (.tup [x, y])) → R (.ok (.ret res)) s') →
    codeAny (model X.prog X.w) A (.builtin "list.extend.loop" ⟨[.ref S, .ref z, res], []⟩) R s := by
  intro k
  induction k with
  | zero =>
    intro i s H its c zs hk hi I hf q1 q2 hz hTI hTO t1 t2 hS rz lz hzs hR
    have hin : i = xs.length := by omega
    subst hin
    obtain ⟨a0, b0, hTO'⟩ := hTO
    obtain ⟨v1, r1, p1, _⟩ := I.list q1
    obtain ⟨v2, r2, p2, _⟩ := I.list q2
    have m1 := r1.length
    have m2 := r2.length
    refine codeAny_builtin F.entry_extend_loop ?_
    rw [Around.under_plainId F.plain_extend_loop _]
    show wpAny _ A.in1 (pyNext (.ref z) >>= _) _ _ s
    have fin : ∀ h', (∀ c o, c ≠ z → c ≠ TO → c ≠ i1 → c ≠ i2 → s.heap.get? c = some o → h'.get? c = some o) → R (.ok (.ret res)) { s with heap := h' } := fun h' hk' => by
      refine hR { s with heap := h' } H its c zs (Same.refl _) (I.turnedL (t' := s.toks) (fp := [S, z, TI, TO, i1, i2]) (fun b o hb q => ?_) hf) (hf S (by simp)) (hk' _ _ hS1 hS3 hS4 hS5 hS) rz lz fun j x y h1 h2 => hzs j x y (List.getElem?_eq_some_iff.mp h1).1 h1 h2
      have hb' : b ≠ S ∧ b ≠ z ∧ b ≠ TI ∧ b ≠ TO ∧ b ≠ i1 ∧ b ≠ i2 := by simpa using hb
      exact hk' b o hb'.2.1 hb'.2.2.2.1 hb'.2.2.2.2.1 hb'.2.2.2.2.2 q
    rcases hz with hz | ⟨T0, bb, us, hz, hT0⟩
    · exact wpAny_bind (wpAny_pyNext_zip_end hh D hz hTI hTO' t1 t2 p1.isList p2.isList (.inl (by simp; omega)) fun h' hk' => wpAny_pure (fin h' hk'))
    · obtain ⟨_, _, _, o0, ho0, _⟩ := I.hok T0 _ hT0
      exact wpAny_bind (ZipX.end2 hh D hz ho0 hTI t1 p1.isList (by simp; omega) fun h' hk' => wpAny_pure (fin h' fun c o c1 c2 c3 c4 e => hk' c o c1 c3 e))
  | succ k ih =>
    intro i s H its c zs hk hi I hf q1 q2 hz hTI hTO t1 t2 hS rz lz hzs hR
    have hlt : i < xs.length := by omega
    obtain ⟨a0, b0, hTO'⟩ := hTO
    obtain ⟨v1, r1, p1, _⟩ := I.list q1
    obtain ⟨v2, r2, p2, _⟩ := I.list q2
    obtain ⟨u, hu, ru⟩ := r1.get (List.getElem?_eq_getElem hlt)
    obtain ⟨v, hv, rv⟩ := r2.get (List.getElem?_eq_getElem (show i < ys.length by omega))
    have litz := rz.length
    refine codeAny_builtin F.entry_extend_loop ?_
    rw [Around.under_plainId F.plain_extend_loop _]
    show wpAny _ A.in1 (pyNext (.ref z) >>= _) _ _ s
    have nz : ∀ b ∈ [S, z, TI, TO, i1, i2], b ≠ s.heap.objs.size := fun b hb => by
      have hb' : b = S ∨ b = z ∨ b = TI ∨ b = TO ∨ b = i1 ∨ b = i2 := by simpa using hb
      rcases hb' with rfl | rfl | rfl | rfl | rfl | rfl
      · exact Nat.ne_of_lt (Heap.lt_size hS)
      · rcases hz with hz | ⟨T0, bb, us, hz, hT0⟩
        · exact Nat.ne_of_lt (Heap.lt_size hz)
        · exact Nat.ne_of_lt (Heap.lt_size hz)
      · exact Nat.ne_of_lt (Heap.lt_size hTI)
      · exact Nat.ne_of_lt (Heap.lt_size hTO')
      · obtain ⟨o, q, _⟩ := t1; exact Nat.ne_of_lt (Heap.lt_size q)
      · obtain ⟨o, q, _⟩ := t2; exact Nat.ne_of_lt (Heap.lt_size q)
    -- behind the next pair
    have fin : ∀ h', ZGo h' (upd H s.heap.objs.size (.tup [xs[i], ys[i]])) z TI TO → (∃ a b, IsPair h' TO a b) → h'.IsListIter i1 l1 (i + 1) → h'.IsListIter i2 l2 (i + 1) → IsPair h' s.heap.objs.size u v →
        (∀ c o, c ≠ z → c ≠ TO → c ≠ i1 → c ≠ i2 → s.heap.get? c = some o → h'.get? c = some o) →
        codeAny (model X.prog X.w) A (.builtin "list.extend.loop" ⟨[.ref S, .ref z, res], []⟩) R { s with heap := h'.update S (Obj.mapSeq (·.push (.ref s.heap.objs.size))) } := by
      intro h' hz' hTO2 t1' t2' hT hk'
      have hS' := hk' _ _ hS1 hS3 hS4 hS5 hS
      have oth : ∀ b o, b ≠ S → h'.get? b = some o → (h'.update S (Obj.mapSeq (·.push (.ref s.heap.objs.size)))).get? b = some o := fun b o hb q => (Heap.get?_update_other _ _ (Ne.symm hb)).trans q
      have hfr := I.fresh
      have eN := same_newL hfr (HO.tup [xs[i], ys[i]])
      have TS : s.heap.objs.size ≠ S := Ne.symm (nz S (by simp))
      have I2 : Inv X pins σ (upd H s.heap.objs.size (.tup [xs[i], ys[i]])) { s with heap := h'.update S (Obj.mapSeq (·.push (.ref s.heap.objs.size))) } :=
        I.turnedNew (t' := s.toks) (fp := [S, z, TI, TO, i1, i2]) (fun b o hb q => by
          have hb' : b ≠ S ∧ b ≠ z ∧ b ≠ TI ∧ b ≠ TO ∧ b ≠ i1 ∧ b ≠ i2 := by simpa using hb
          exact oth b o hb'.1 (hk' b o hb'.2.1 hb'.2.2.2.1 hb'.2.2.2.2.1 hb'.2.2.2.2.2 q)) hf (Nat.le_refl _) ⟨by show 2 ≤ sizeLine; decide, [u, v], .cons ru (.cons rv .nil), ⟨_, oth _ _ TS hT, rfl, _, rfl⟩⟩
      obtain ⟨c', hS2'⟩ : ∃ c', (h'.update S (Obj.mapSeq (·.push (.ref s.heap.objs.size)))).get? S = some { cls := .type "list", dict := none, data := .seq (its ++ [Value.ref s.heap.objs.size]).toArray c', slots := #[] } := by
        rw [show (its ++ [Value.ref s.heap.objs.size]).toArray = its.toArray.push (.ref s.heap.objs.size) by simp]
        exact ⟨_, Heap.get?_update_self _ hS' rfl⟩
      refine ih (i + 1) _ (upd H s.heap.objs.size (.tup [xs[i], ys[i]])) (its ++ [.ref s.heap.objs.size]) c' (zs ++ [.ref s.heap.objs.size]) (by omega) hlt I2 (fun b hb => (hf b hb).upd (nz b hb)) (eN.seq q1) (eN.seq q2) ?_ ?_ ?_ ?_ ?_ ?_ ?_ ?_ ?_ ?_
      · rcases hz' with hz' | ⟨T0, bb, us, hz', hT0⟩
        · exact .inl (oth _ _ (Ne.symm hS1) hz')
        · exact .inr ⟨T0, bb, us, oth _ _ (Ne.symm hS1) hz', hT0⟩
      · exact oth _ _ (Ne.symm hS2) (hk' _ _ D.TIz D.TITO D.TIi1 D.TIi2 hTI)
      · obtain ⟨a, b, q⟩ := hTO2; exact ⟨a, b, oth _ _ (Ne.symm hS3) q⟩
      · exact t1'.at fun o q => oth _ _ (Ne.symm hS4) q
      · exact t2'.at fun o q => oth _ _ (Ne.symm hS5) q
      · exact hS2'
      · exact rz.append (.cons rfl .nil)
      · rw [List.length_append, lz]; rfl
      · intro j x y hj h1 h2
        rcases Nat.lt_or_ge j i with g | g
        · obtain ⟨T, k1, k2⟩ := hzs j x y g h1 h2
          exact ⟨T, by rw [List.getElem?_append_left (by omega)]; exact k1, eN _ _ k2⟩
        · have ej : j = i := by omega
          subst ej
          rw [List.getElem?_eq_getElem hlt] at h1
          rw [List.getElem?_eq_getElem (by omega)] at h2
          cases h1; cases h2
          exact ⟨s.heap.objs.size, by rw [List.getElem?_append_right (by omega), lz, Nat.sub_self]; rfl, upd_same⟩
      · intro s' H' its' c' zs' sm
        exact hR s' H' its' c' zs' (eN.trans sm)
    have small : its.toArray.size + 1 ≤ sizeLine := by rw [List.size_toArray]; omega
    rcases hz with hz | ⟨T0, bb, us, hz, hT0⟩
    · refine wpAny_bind (wpAny_pyNext_zip_item D hz hTI hTO' t1 t2 p1.isList p2.isList (x := u) (y := v) (by simpa using hu) (by simpa using hv) fun h' a1 a2 a3 a4 a5 a6 hk' => ?_)
      show wpAny _ A.in1 (updateSeq S (·.push (.ref s.heap.objs.size)) >>= _) _ _ _
      have hS' := hk' _ _ hS1 hS3 hS4 hS5 hS
      refine wpAny_bind (wpAny_updateSeq hS' rfl (wpAny_pure ⟨plainId_quiet F.plain_extend_loop _, fin h' (.inr ⟨_, _, _, a1, upd_same⟩) ⟨_, _, a2⟩ a3 a4 a5 hk'⟩) (by omega) (by show (its.toArray.push _).size ≤ sizeLine + 1; rw [Array.size_push]; omega))
    · obtain ⟨_, _, _, o0, ho0, _⟩ := I.hok T0 _ hT0
      refine wpAny_bind (ZipX.next2 D hz ho0 hTI t1 t2 p1.isList p2.isList (x := u) (y := v) (by simpa using hu) (by simpa using hv) fun h' a1 a3 a4 a5 a6 hk' => ?_)
      show wpAny _ A.in1 (updateSeq S (·.push (.ref s.heap.objs.size)) >>= _) _ _ _
      have hS' := hk' _ _ hS1 hS4 hS5 hS
      have hTO3 : IsPair h' TO a0 b0 := hk' _ _ D.TOz D.TOi1 D.TOi2 hTO'
      have hne : T0 ≠ s.heap.objs.size := Nat.ne_of_lt (Heap.lt_size ho0)
      refine wpAny_bind (wpAny_updateSeq hS' rfl (wpAny_pure ⟨plainId_quiet F.plain_extend_loop _, fin h' (.inr ⟨_, _, _, a1, by rw [upd_ne hne]; exact hT0⟩) ⟨_, _, hTO3⟩ a3 a4 a5 fun c o c1 c2 c3 c4 e => hk' c o c1 c3 c4 e⟩) (by omega) (by show (its.toArray.push _).size ≤ sizeLine + 1; rw [Array.size_push]; omega))
def tListZip (K : PySem.W.Frag) (ta : TA) : TE := fun σ H Q => ta σ H fun vs H1 => ∃ a b xs ys, vs = [.ref a, .ref b] ∧ SqL K H1 a xs ∧ SqL K H1 b ys ∧ xs.length = ys.length ∧
  ∀ l zs H2, Same H1 H2 → H1 l = none → H2 l = some (.lst zs) → zs.length = xs.length → (∀ (j : Nat) (x y : V), xs[j]? = some x → ys[j]? = some y → ∃ T, zs[j]? = some (V.ref T) ∧ H2 T = some (.tup [x, y])) → Q (.ref l) H2
theorem pe_listZip {a b : Expr} {ta : TA} {p p2 pos pos2 : Pos} (hg : Gl X "list") (hm : X.mg "list" = none) (hg2 : Gl X "zip") (hm2 : X.mg "zip" = none) (hc : X.calm = true) (ha : PA X [a, b] ta)
    (h0 : starEach [.Call (.Name "zip" p2) [a, b] [] pos2] X.env = [(false, eval (.Call (.Name "zip" p2) [a, b] [] pos2) X.env)] := by rfl)
    (hs : starEach [a, b] X.env = [(false, eval a X.env), (false, eval b X.env)] := by rfl) (hs2 : starEach [b] X.env = [(false, eval b X.env)] := by rfl) :
    PE X (.Call (.Name "list" p) [.Call (.Name "zip" p2) [a, b] [] pos2] [] pos) (tListZip X.K ta) := by
  intro pins s σ H Q I h
  refine Call_ (ld_blt I hg hm PySem.L3.boot_list (PyProof.Rows.callWith_type1 ?_ (by rw [h0]; rfl) rfl))
  rw [h0]
  show wpAny _ _ (spliced [(false, eval (.Call (.Name "zip" p2) [a, b] [] pos2) X.env)]) _ _ s
  refine Calls.spliced_cons ?_
  refine Call_ (ld_blt I hg2 hm2 PySem.L3.boot_zip (PyProof.Rows.callWith_type1 (thn (ha pos2 pins s σ H _ I h) fun us s1 ⟨vs, H1, I1, r1, q1⟩ => ?_) (by rw [hs, hs2]) (by rw [hs2]; rfl)))
  obtain ⟨l1, l2, xs, ys, e, hq1, hq2, hlen, q⟩ := q1
  subst e
  cases r1 with
  | cons r rr =>
    cases rr with
    | cons r' rr =>
      cases rr
      cases r
      cases r'
      obtain ⟨its1, rv1, p1, hz1⟩ := I1.list hq1
      obtain ⟨its2, rv2, p2', hz2⟩ := I1.list hq2
      have hl1 : l1 < s1.heap.objs.size := by obtain ⟨_, e, _⟩ := p1.isList; exact Heap.lt_size e
      have hl2 : l2 < s1.heap.objs.size := by obtain ⟨_, e, _⟩ := p2'.isList; exact Heap.lt_size e
      refine call_zip_2 p1.isList p2'.isList fun h' hz hTI hTO hi1 hi2 hsz hk => ?_
      refine Calls.spliced_nil ?_
      have D := zipApart_new hl1 hl2
      have I2 : Inv X pins σ H1 { s1 with heap := h' } := I1.kept (t' := s1.toks) hk
      have hT : Shared.TypeIs { s1 with heap := h' } (.ref (s1.heap.objs.size + 4)) "zip" := ⟨_, hz, rfl⟩
      -- the list
      refine callType_codes (Q₁ := fun obj s₁ => obj = .ref h'.objs.size ∧ s₁ = { s1 with heap := h'.push { cls := .type "list", data := .seq #[] } }) PySem.F.called_list (PySem.F.typeCall_list_1 _) PySem.F.entry_list_init
        (code_list_new _ ⟨rfl, rfl⟩) fun obj s₁ h₁ => ?_
      obtain ⟨rfl, rfl⟩ := h₁
      have hS : (h'.push { cls := .type "list", data := .seq #[] }).get? h'.objs.size = some { cls := .type "list", data := .seq #[] } := Heap.get?_push_size _ rfl
      refine ⟨⟨_, hS, rfl⟩, PySem.F.args_list_init_2 _ _, ?_⟩
      show wpAny _ _ (do let old ← Builtin.List.listItems (.ref h'.objs.size); Builtin.List.listUpdate (.ref h'.objs.size) (fun _ => #[]); letGo old.toList.reverse; Builtin.List.listExtendWith (.ref h'.objs.size) (.ref (s1.heap.objs.size + 4)) .none) _ _ _
      refine wpAny_bind ?_
      unfold Builtin.List.listItems
      refine wpAny_bind (wpAny_seqItems hS rfl (wpAny_pure ?_))
      show wpAny _ _ (updateSeq h'.objs.size (fun _ => #[]) >>= fun _ => letGo (#[] : Array Value).toList.reverse >>= fun _ => Builtin.List.listExtendWith (.ref h'.objs.size) (.ref (s1.heap.objs.size + 4)) .none) _ _ _
      refine wpAny_bind (wpAny_updateSeq hS rfl ?_)
      have hS₂ := Heap.get?_update_self (Obj.mapSeq (fun _ => (#[] : Array Value))) hS rfl
      refine wpAny_bind (wpAny_letGo ?_)
      generalize hH : (h'.push { cls := .type "list", data := .seq #[] }).update h'.objs.size (Obj.mapSeq (fun _ => (#[] : Array Value))) = h2 at *
      have old : ∀ b o, h'.get? b = some o → h2.get? b = some o := fun b o e => by
        rw [← hH]; exact (Heap.get?_update_other _ _ (Ne.symm (Nat.ne_of_lt (Heap.lt_size e)))).trans (Heap.get?_push_of_some _ e)
      have hT2 : Shared.TypeIs { s1 with heap := h2 } (.ref (s1.heap.objs.size + 4)) "zip" := ⟨_, old _ _ hz, rfl⟩
      have hne : h'.objs.size ≠ s1.heap.objs.size + 4 := by rw [hsz]; exact Nat.succ_ne_self _
      have h1 : Builtin.List.listSameRef (.ref h'.objs.size) (.ref (s1.heap.objs.size + 4)) = false := by simp [Builtin.List.listSameRef, hne]
      unfold Builtin.List.listExtendWith
      refine wpAny_bind (wpAny_typeOf hT2 ?_)
      rw [if_neg (by rw [h1]; decide)]
      refine wpAny_bind (wpAny_pyIter_zip (s := { s1 with heap := h2 }) (old _ _ hz) ?_)
      refine wpAny_bind (wpAny_holding ?_)
      unfold Builtin.List.listLengthHint
      refine wpAny_bind (wpAny_specialOf hT2 ZF.nolen ?_)
      show wpAny _ _ (specialOf (Value.ref (s1.heap.objs.size + 4)) (Str.ofString "__length_hint__") >>= _) _ _ _
      refine wpAny_bind (wpAny_specialOf hT2 ZF.nohint ?_)
      refine wpAny_pure ?_
      show wpAny _ _ (rule "list.extend.makes-room" >>= fun _ => Builtin.List.listTouch (.ref h'.objs.size) >>= fun _ => again (.builtin "list.extend.loop" ⟨[.ref h'.objs.size, .ref (s1.heap.objs.size + 4), .none], []⟩)) _ _ _
      refine wpAny_bind (wpAny_rule ?_)
      refine wpAny_bind ?_
      show wpAny _ _ (updateSeq h'.objs.size (·.push .none) >>= fun _ => updateSeq h'.objs.size (·.pop)) _ _ _
      refine wpAny_bind (wpAny_updateSeq hS₂ rfl ?_)
      have hS₃ := Heap.get?_update_self (Obj.mapSeq (·.push Value.none)) hS₂ rfl
      refine wpAny_updateSeq hS₃ rfl ?_
      have hS₄ := Heap.get?_update_self (Obj.mapSeq (·.pop)) hS₃ rfl
      have old3 : ∀ b o, h'.get? b = some o → ((h2.update h'.objs.size (Obj.mapSeq (·.push Value.none))).update h'.objs.size (Obj.mapSeq (·.pop))).get? b = some o := fun b o e =>
        (Heap.get?_update_other _ _ (Ne.symm (Nat.ne_of_lt (Heap.lt_size e)))).trans ((Heap.get?_update_other _ _ (Ne.symm (Nat.ne_of_lt (Heap.lt_size e)))).trans (old b o e))
      obtain ⟨c4, hS₅⟩ : ∃ c4, ((h2.update h'.objs.size (Obj.mapSeq (·.push Value.none))).update h'.objs.size (Obj.mapSeq (·.pop))).get? h'.objs.size = some { cls := .type "list", dict := none, data := .seq ([] : List Value).toArray c4, slots := #[] } := ⟨_, hS₄⟩
      generalize (h2.update h'.objs.size (Obj.mapSeq (·.push Value.none))).update h'.objs.size (Obj.mapSeq (·.pop)) = h3 at *
      have I3 : Inv X pins σ H1 { s1 with heap := h3 } := I2.kept (t' := s1.toks) old3
      have ge : ∀ b ∈ [h'.objs.size, s1.heap.objs.size + 4, s1.heap.objs.size + 2, s1.heap.objs.size + 3, s1.heap.objs.size, s1.heap.objs.size + 1], s1.heap.objs.size ≤ b := fun b hb => by
        have hb2 : b = h'.objs.size ∨ b = s1.heap.objs.size + 4 ∨ b = s1.heap.objs.size + 2 ∨ b = s1.heap.objs.size + 3 ∨ b = s1.heap.objs.size ∨ b = s1.heap.objs.size + 1 := by simpa using hb
        rcases hb2 with rfl | rfl | rfl | rfl | rfl | rfl
        · rw [hsz]; exact Nat.le_add_right _ _
        · exact Nat.le_add_right _ _
        · exact Nat.le_add_right _ _
        · exact Nat.le_add_right _ _
        · exact Nat.le_refl _
        · exact Nat.le_add_right _ _
      have hne2 : h'.objs.size ≠ s1.heap.objs.size + 2 := by rw [hsz]; simp
      have hne3 : h'.objs.size ≠ s1.heap.objs.size + 3 := by rw [hsz]; simp
      have hne4 : h'.objs.size ≠ s1.heap.objs.size := by rw [hsz]; simp
      have hne5 : h'.objs.size ≠ s1.heap.objs.size + 1 := by rw [hsz]; simp
      refine wpAny_pure ⟨plainId_quiet F.plain_extend_loop _, loop_zip (X := X) (pins := pins) (σ := σ) (A := X.A.in1) (I1.ok.hd hc) D hne hne2 hne3 hne4 hne5 hlen hz1 xs.length 0 { s1 with heap := h3 } H1 [] c4 [] (by omega) (Nat.zero_le _) I3
        (fun b hb => I1.fpOk (ge b hb) (I1.hok.fresh (ge b hb))) hq1 hq2 (.inl (old3 _ _ hz)) (old3 _ _ hTI) ⟨_, _, old3 _ _ hTO⟩ (hi1.at fun o e => old3 _ _ e) (hi2.at fun o e => old3 _ _ e) hS₅ .nil rfl (fun j x y hj => absurd hj (Nat.not_lt_zero _)) fun s' H' its' c' zs' sm I' hf' hS' rz lz hzs => ?_⟩
      have I4 := I'.adopt (o := .lst zs') hf' ⟨by rw [lz]; exact hz1, its', c', rz, hS'⟩
      have hfr : H1 h'.objs.size = none := I1.hok.fresh (ge _ (by simp))
      have e5 := same_newL hf'.1 (HO.lst zs')
      refine ⟨rfl, .ref h'.objs.size, _, I4, rfl, q _ zs' _ (sm.trans e5) hfr upd_same lz fun j x y h1 h2 => ?_⟩
      obtain ⟨T, k1, k2⟩ := hzs j x y h1 h2
      exact ⟨T, k1, e5 _ _ k2⟩
end
end L2
set_option Elab.async false
set_option linter.all false
set_option maxRecDepth 100000
set_option maxHeartbeats 4000000
namespace L2
open PySem PySem.Spec PyProof.Rows
open Hull (P)
section
variable {X : Cx}
theorem Vals.of_get : ∀ {xs : List V} {us : List Value}, xs.length = us.length → (∀ (i : Nat) (x : V) (u : Value), xs[i]? = some x → us[i]? = some u → RelV x u) → Vals xs us
  | [], [], _, _ => .nil
  | [], _ :: _, h, _ => by simp at h
  | _ :: _, [], h, _ => by simp at h
  | x :: xs, u :: us, h, g => .cons (g 0 x u rfl rfl) (Vals.of_get (by simpa using h) fun i y v a b => g (i + 1) y v (by simpa using a) (by simpa using b))
inductive rEqSp (K : PySem.W.Frag) (x : V) (y : V) (H : Hp) (Q : VK) : Prop where
  | mk (p : _) (q : _) (h_0 : Dn K H (spotD p) x) (h_1 : Dn K H (spotD q) y) (h_2 : Q (.bl (decide (p = q))) H)
theorem op_eqSp (hu : X.A.units + 64 < cLine) : OpR X (compareOp .Eq) (rEqSp X.K) := by
  intro pins s σ H x y v u Q I rx ry h
  obtain ⟨p, q, h1, h2, k⟩ := h
  refine op_eqD hu pins s σ H x y v u Q I rx ry ⟨_, _, h1, h2, spot_shaped p, spot_shaped q, ?_⟩
  rw [spot_eqv]; exact k
theorem ints_eqvAll : ∀ ps qs : List Int, PyData.eqvAll (ps.map PyData.int) (qs.map PyData.int) = decide (ps = qs)
  | [], [] => rfl
  | [], _ :: _ => rfl
  | _ :: _, [] => rfl
  | p :: ps, q :: qs => by
    rw [List.map_cons, List.map_cons, PyData.eqvAll, ints_eqvAll ps qs]
    have : PyData.eqv (.int p) (.int q) = decide (p = q) := by rw [PyData.eqv]; rfl
    rw [this]
    by_cases h : p = q
    · subst h; by_cases g : ps = qs <;> simp [g]
    · simp [h]
theorem ints_can : ∀ ps : List Int, PyData.canLayAll0 (ps.map PyData.int) = true ∧ PyData.depthAll (ps.map PyData.int) ≤ 1
  | [] => ⟨rfl, by rw [List.map_nil, PyData.depthAll]; exact Nat.zero_le _⟩
  | p :: ps => by
    obtain ⟨h1, h2⟩ := ints_can ps
    rw [List.map_cons, PyData.canLayAll0, PyData.depthAll, h1]
    refine ⟨rfl, Nat.max_le.mpr ⟨?_, h2⟩⟩
    rw [PyData.depth]; exact Nat.zero_le _
theorem ints_shaped (ps : List Int) : SeqAt.shaped (.list (ps.map PyData.int)) = true := by
  obtain ⟨h1, h2⟩ := ints_can ps
  unfold SeqAt.shaped
  have : (PyData.list (ps.map PyData.int)).depth ≤ 64 := by rw [PyData.depth]; omega
  rw [decide_eq_true this, PyData.canLay0, h1]; rfl
inductive rEqIs (K : PySem.W.Frag) (neg : Bool) (x : V) (y : V) (H : Hp) (Q : VK) : Prop where
  | mk (a : _) (b : _) (ps : _) (qs : _) (h_0 : x = .ref a) (h_1 : y = .ref b) (h_2 : SqL K H a (List.map V.int ps)) (h_3 : SqL K H b (List.map V.int qs)) (h_4 : Q (.bl (if neg then !decide (ps = qs) else decide (ps = qs))) H)
theorem op_eqIs (hu : X.A.units + 64 < cLine) : OpR X (compareOp .Eq) (rEqIs X.K false) := by
  intro pins s σ H x y v u Q I rx ry h
  obtain ⟨a, b, ps, qs, rfl, rfl, h1, h2, k⟩ := h
  refine op_eqD hu pins s σ H _ _ v u Q I rx ry ⟨_, _, dn_lst h1 (dns_ints ps), dn_lst h2 (dns_ints qs), ints_shaped ps, ints_shaped qs, ?_⟩
  rw [PyData.eqv, ints_eqvAll]; exact k
def tListRng (ta : TA) : TE := fun σ H Q => ta σ H fun vs H1 => ∃ n : Nat, vs = [.int n] ∧ n ≤ 16777216 ∧ ∀ l, H1 l = none → Q (.ref l) (upd H1 l (.lst ((List.range n).map fun (j : Nat) => V.int (j : Int))))
theorem pe_listRng {a : Expr} {ta : TA} {p p2 pos pos2 : Pos} (hg : Gl X "list") (hm : X.mg "list" = none) (hg2 : Gl X "range") (hm2 : X.mg "range" = none) (hc : X.calm = true) (ha : PA X [a] ta)
    (h0 : starEach [.Call (.Name "range" p2) [a] [] pos2] X.env = [(false, eval (.Call (.Name "range" p2) [a] [] pos2) X.env)] := by rfl)
    (hs : starEach [a] X.env = [(false, eval a X.env)] := by rfl) :
    PE X (.Call (.Name "list" p) [.Call (.Name "range" p2) [a] [] pos2] [] pos) (tListRng ta) := by
  intro pins s σ H Q I h
  refine Call_ (ld_blt I hg hm PySem.L3.boot_list (PyProof.Rows.callWith_type1 ?_ (by rw [h0]; rfl) rfl))
  rw [h0]
  show wpAny _ _ (spliced [(false, eval (.Call (.Name "range" p2) [a] [] pos2) X.env)]) _ _ s
  refine Calls.spliced_cons ?_
  refine Call_ (ld_blt I hg2 hm2 PySem.L3.boot_range (PyProof.Rows.callWith_type1 (thn (ha pos2 pins s σ H _ I h) fun us s1 ⟨vs, H1, I1, r1, q1⟩ => ?_) hs rfl))
  obtain ⟨n, e, h24, q⟩ := q1
  subst e
  cases r1 with
  | cons r rr =>
    cases rr
    obtain ⟨t, rfl⟩ := r
    refine call_range_1 ?_
    refine Calls.spliced_nil ?_
    have I2 : Inv X pins σ H1 { s1 with heap := s1.heap.push { cls := .type "range", data := .fields #[.int 0 s1.toks, .int n t, .int 1 (s1.toks + 1)] }, toks := s1.toks + 1 + 1 } := I1.kept fun b o e => Heap.get?_push_of_some _ e
    refine call_list_range (n := n) (I1.ok.hd hc) (IsRange.new ..) (small_one (by omega) (by omega) (by omega) (by omega)) (by rw [rangeSize_one]; split <;> omega) (by omega) fun h' tk acc' c' hk hS' hacc => ?_
    have hsz : acc'.size = n := hacc.1
    refine ⟨.ref (s1.heap.push { cls := .type "range", data := .fields #[.int 0 s1.toks, .int n t, .int 1 (s1.toks + 1)] }).objs.size, _, I2.laid (t' := tk) (o := .lst ((List.range n).map fun (j : Nat) => V.int (j : Int))) hk (Nat.le_refl _) ⟨by rw [List.length_map, List.length_range, sizeLine_eq]; omega, acc'.toList, c', ?_, by simpa using hS'⟩, rfl, q _ I2.fresh⟩
    refine Vals.of_get (by simp [hsz]) fun i x u hx hu => ?_
    have hu' : acc'[i]? = some u := by simpa using hu
    obtain ⟨t', rfl⟩ := hacc.2 i u hu'
    have hi : i < n := by
      have := (Array.getElem?_eq_some_iff.mp hu').1
      omega
    have : x = V.int i := by
      rw [List.getElem?_map, List.getElem?_range hi] at hx
      exact (Option.some.inj hx).symm
    subst this
    exact ⟨t', by rw [Int.mul_one, Int.zero_add]⟩
end
end L2
set_option Elab.async false
set_option linter.all false
set_option maxRecDepth 100000
set_option maxHeartbeats 4000000
namespace L2
open PySem PySem.Spec PyProof.Rows
section
variable {X : Cx}
def CDivB (i j : Int) : Prop := 0 < j ∧ j < 2 ^ 200
theorem noPylongB {x y : Int} (h1 : 0 < y) (h : y < 2 ^ 200) : Builtin.divisionGoesByPylong x y = false := by
  refine PyProof.noPylong_of_log2 ?_
  have h0 : y.natAbs ≠ 0 := by omega
  have h3 : y.natAbs < 2 ^ 200 := by omega
  have h30 : y.natAbs.log2 < 200 := (Nat.log2_lt h0).mpr h3
  omega
theorem op_fdivB : OpR X (binaryOp .FloorDiv) (rI CDivB fun i j => .int (i / j)) := opI fun i j _ _ _ _ _ hc q => by
  have e : i / j = i.fdiv j := (Int.fdiv_eq_ediv_of_nonneg _ (Int.le_of_lt hc.1)).symm
  rw [e] at q
  exact floordiv_int (by have := hc.1; omega) q (.inl (noPylongB hc.1 hc.2))
inductive rNil (K : PySem.W.Frag) (neg : Bool) (x : V) (y : V) (H : Hp) (Q : VK) : Prop where
  | mk (d : _) (a : _) (ds : _) (h_0 : Dn K H (.list ds) x) (h_1 : d = PyData.list ds) (h_2 : y = .ref a) (h_3 : SqL K H a []) (h_4 : SeqAt.shaped (.list ds) = true) (h_5 : Q (.bl (if neg then !ds.isEmpty else ds.isEmpty)) H)
theorem eqv_nil (ds : List PyData) : PyData.eqv (.list ds) (.list []) = ds.isEmpty := by
  rw [PyData.eqv]
  cases ds with
  | nil => rfl
  | cons d ds => rw [PyData.eqvAll]; rfl
theorem op_eqNil (hu : X.A.units + 64 < cLine) : OpR X (compareOp .Eq) (rNil X.K false) := by
  intro pins s σ H x y v u Q I rx ry h
  obtain ⟨d, a, ds, h1, rfl, rfl, h2, h3, k⟩ := h
  refine op_eqD hu pins s σ H _ _ v u Q I rx ry ⟨_, _, h1, dn_lst h2 dns_nil, h3, rfl, ?_⟩
  rw [eqv_nil]; exact k
theorem op_neNil (hu : X.A.units + 64 < cLine) : OpR X (compareOp .NotEq) (rNil X.K true) := by
  intro pins s σ H x y v u Q I rx ry h
  obtain ⟨d, a, ds, h1, rfl, rfl, h2, h3, k⟩ := h
  refine op_neD hu pins s σ H _ _ v u Q I rx ry ⟨_, _, h1, dn_lst h2 dns_nil, h3, rfl, ?_⟩
  rw [eqv_nil]; exact k
end
def Lol (H : Hp) : List (List V) → List V → Prop
  | [], zs => zs = []
  | g :: gs, zs => ∃ a r, zs = .ref a :: r ∧ H a = some (.lst g) ∧ Lol H gs r
theorem Lol.same {H H' : Hp} (e : Same H H') : ∀ {gs : List (List V)} {zs : List V}, Lol H gs zs → Lol H' gs zs
  | [], _, h => h
  | g :: gs, _, h => let ⟨a, r, e1, e2, e3⟩ := h; ⟨a, r, e1, e _ _ e2, Lol.same e e3⟩
theorem Lol.append {H : Hp} : ∀ {gs gs' : List (List V)} {zs zs' : List V}, Lol H gs zs → Lol H gs' zs' → Lol H (gs ++ gs') (zs ++ zs')
  | [], _, zs, _, h, h' => by cases (show zs = [] from h); exact h'
  | g :: gs, _, _, _, h, h' => by
    obtain ⟨a, r, rfl, e2, e3⟩ := h
    exact ⟨a, r ++ _, rfl, e2, Lol.append e3 h'⟩
theorem Lol.one {H : Hp} {a : Addr} {g : List V} (h : H a = some (.lst g)) : Lol H [g] [.ref a] := ⟨a, [], rfl, h, rfl⟩
theorem Lol.length {H : Hp} : ∀ {gs : List (List V)} {zs : List V}, Lol H gs zs → zs.length = gs.length
  | [], zs, h => by cases (show zs = [] from h); rfl
  | g :: gs, _, h => by obtain ⟨a, r, rfl, e2, e3⟩ := h; exact congrArg (· + 1) (Lol.length e3)
theorem Lol.get {H : Hp} : ∀ {gs : List (List V)} {zs : List V} {i : Nat} {g : List V}, Lol H gs zs → gs[i]? = some g → ∃ a, zs[i]? = some (.ref a) ∧ H a = some (.lst g)
  | [], _, i, g, _, h => by simp at h
  | g :: gs, _, 0, g', h, e => by
    obtain ⟨a, r, rfl, e2, e3⟩ := h
    simp at e; subst e
    exact ⟨a, rfl, e2⟩
  | g :: gs, _, i + 1, g', h, e => by
    obtain ⟨a, r, rfl, e2, e3⟩ := h
    obtain ⟨b, h1, h2⟩ := Lol.get (i := i) (g := g') e3 (by simpa using e)
    exact ⟨b, by simpa using h1, h2⟩
end L2
namespace L2
open PySem PySem.Spec PyProof.Rows
end L2
set_option Elab.async false
set_option linter.all false
set_option maxRecDepth 100000
namespace L2
open PySem PySem.Spec PyProof.Rows
section
variable {X : Cx}
end
section
variable {X : Cx}
end
section
variable {X : Cx} {e es : Expr} {te ts : TE} {pos p2 : Pos}
end
def CalK (P : Program) (w : World) (K : PySem.W.Frag) (mg : Str → Option Value) (base : Heap) (k : Nat) (x : Str) (C : Addr) (sp : Sp) : Prop :=
  ∃ f fd ps, FnOk P w K mg base CX0 k f fd ps sp ∧ Binds K fd ps [] ∧ Mk K C f ∧ mg x = some (.ref C)
def tMk (C : Addr) (sp : Sp) (t : TA) : TE := fun σ H Q => t σ H fun vs H1 => ∀ x dx, H1 x = none → H1 dx = none → dx ≠ x →
  sp (.ref x :: vs) (upd (upd H1 dx (.own x)) x (.ins C dx [])) (fun v H2 => v = .non ∧ Q (.ref x) H2) E0
section
variable {X : Cx} {k : Nat} {x m : Str} {sp : Sp} {p pos apos : Pos} {e o : Expr} {es : List Expr} {t : TA} {ta : TE} {C : Addr}
theorem pe_mk (M : CalK X.prog X.w X.K X.mg X.base k x C sp) (hr : Room (k + 1) X.A) (hg : Gl X x) (ha : PA X (e :: es) t) (hdb : (x == ("__debug__" : Str)) = false := by decide)
    (he : starEach (e :: es) X.env = (false, eval e X.env) :: starEach es X.env := by rfl) (hpl : (backTo pos (starEach es X.env)).any (·.1) = false := by rfl) : PE X (.Call (.Name x p) (e :: es) [] pos) (tMk C sp t) := by
  obtain ⟨f, fd, ps, F, hb, hk, hm⟩ := M
  have q := pe_make (dvs := []) (E := E0) (p := p) (pos := pos) hk F hr hg hm hb .nil pass0 ha hdb he hpl
  intro pins s σ H Q I h
  refine q pins s σ H Q I ?_
  unfold tMake
  unfold tMk at h
  simp only [List.append_nil]
  exact h
theorem calK_mk {P : Program} {w : World} {K : PySem.W.Frag} {mg : Str → Option Value} {base : Heap} {f : Addr} {fd : FuncData} {ps : List Str} (F : FnOk P w K mg base CX0 k f fd ps sp) (b : Binds K fd ps []) (M : Mk K C f) (m : mg x = some (.ref C)) : CalK P w K mg base k x C sp := ⟨f, fd, ps, F, b, M, m⟩
end
end L2
set_option linter.all false
namespace L2
open PySem PySem.Spec PyProof.Rows
variable {K : PySem.W.Frag}
theorem Fun.binds1 {x qual : Str} {st : Stmt} {f : Addr} {fd : FuncData} {ps : List Str} (F : Fun K x qual st f fd) (hp : ps.length = 1)
    (h : ∀ (kV doc pm : Value) (an : Option Addr) (cdv ct : Value), ∀ a : Value, bindArgs (PySem.W.fnOf x qual (defArgs st) (defBody st) (defScope st) .none kV doc pm an cdv ct) ⟨[a], []⟩ = pure (ps.zip [a])) : Binds K fd ps [] :=
  F.binds fun q1 q2 q3 q4 q5 q6 us hl => by
    rw [hp] at hl
    match us, hl with
    | [a], _ => exact h q1 q2 q3 q4 q5 q6 a
theorem Fun.binds2 {x qual : Str} {st : Stmt} {f : Addr} {fd : FuncData} {ps : List Str} (F : Fun K x qual st f fd) (hp : ps.length = 2)
    (h : ∀ (kV doc pm : Value) (an : Option Addr) (cdv ct : Value), ∀ a b : Value, bindArgs (PySem.W.fnOf x qual (defArgs st) (defBody st) (defScope st) .none kV doc pm an cdv ct) ⟨[a, b], []⟩ = pure (ps.zip [a, b])) : Binds K fd ps [] :=
  F.binds fun q1 q2 q3 q4 q5 q6 us hl => by
    rw [hp] at hl
    match us, hl with
    | [a, b], _ => exact h q1 q2 q3 q4 q5 q6 a b
theorem Fun.binds3 {x qual : Str} {st : Stmt} {f : Addr} {fd : FuncData} {ps : List Str} (F : Fun K x qual st f fd) (hp : ps.length = 3)
    (h : ∀ (kV doc pm : Value) (an : Option Addr) (cdv ct : Value), ∀ a b c : Value, bindArgs (PySem.W.fnOf x qual (defArgs st) (defBody st) (defScope st) .none kV doc pm an cdv ct) ⟨[a, b, c], []⟩ = pure (ps.zip [a, b, c])) : Binds K fd ps [] :=
  F.binds fun q1 q2 q3 q4 q5 q6 us hl => by
    rw [hp] at hl
    match us, hl with
    | [a, b, c], _ => exact h q1 q2 q3 q4 q5 q6 a b c
theorem Fun.binds4 {x qual : Str} {st : Stmt} {f : Addr} {fd : FuncData} {ps : List Str} (F : Fun K x qual st f fd) (hp : ps.length = 4)
    (h : ∀ (kV doc pm : Value) (an : Option Addr) (cdv ct : Value), ∀ a b c d : Value, bindArgs (PySem.W.fnOf x qual (defArgs st) (defBody st) (defScope st) .none kV doc pm an cdv ct) ⟨[a, b, c, d], []⟩ = pure (ps.zip [a, b, c, d])) : Binds K fd ps [] :=
  F.binds fun q1 q2 q3 q4 q5 q6 us hl => by
    rw [hp] at hl
    match us, hl with
    | [a, b, c, d], _ => exact h q1 q2 q3 q4 q5 q6 a b c d
theorem hold {t u : TS} {D : Ends} {σ : St} {H : Hp} (h : ∀ T : TS, (∀ D' σ' H', u D' σ' H' → T D' σ' H') → tSeq t T D σ H) : tSeq t u D σ H := h u fun _ _ _ q => q
end L2
set_option Elab.async false
set_option linter.all false
set_option maxRecDepth 100000
set_option maxHeartbeats 4000000
namespace L2
open PySem PySem.Spec PyProof.Rows
theorem same_updL {H H' : Hp} {l : Addr} {o : HO} (h : H l = none) (e : Same H H') : Same H (upd H' l o) := fun b u q => by rw [upd_ne (ne_of_none q h)]; exact e b u q
section
variable {X : Cx} {pins : List (Addr × Obj)} {σ : St} {H : Hp} {l q It S : Addr} {xs : List V} {E : Value → Shared → Prop}
end
end L2
set_option Elab.async false
set_option linter.all false
set_option maxRecDepth 100000
set_option maxHeartbeats 4000000
namespace L2
open PySem PySem.Spec PyProof.Rows
section
variable {X : Cx} {pins : List (Addr × Obj)} {σ : St} {H : Hp} {s : Shared} {scope : Scope} {cl : List (Str × Addr)} {x0 : Str} {Nc : List Str} {fr : List (Option Nat)} {q : Str} {f : Addr} {cd : Value}
def LamAt (H : Hp) (f : Addr) (q : Str) (params : Arguments) (body : Expr) (scope : Scope) (cl : List (Str × Addr)) (c : Addr) : Prop :=
  ∃ (pm ct : Value) (oc : Obj) (vs : Array Value) (t : Tok), H f = some (.ext fun h => h.get? f = some (PySem.W.kla_obj "<lambda>" q params body scope cl pm c ct)) ∧ H c = some (.frz oc (.own c)) ∧ oc.data = .fields vs ∧ vs[1]? = some (.str q t)
variable {params : Arguments} {body : Expr} {c : Addr} {tb : TE}
def Bmain (mg : Str → Option Value) (base : Heap) : Prop := ∃ bm ob, mg "__builtins__" = some (.ref bm) ∧ bm ≠ builtinsNs ∧ base.get? bm = some ob ∧ ob.cls = .type "module" ∧ ob.dict = some builtinsNs ∧ ob.data = .plain
theorem lam_make {ln col : Int} {P cc : Addr} {firstLine : Nat} {lpos : Pos} {E : Value → Shared → Prop} {Q : Value → Shared → Prop} (S : CompSc X.env scope cl) (hcode : X.env.code = .ref cc) (C : PySem.W.CodeHd X.base cc P) (B : Bmain X.mg X.base) (hln : ln = lpos.line) (hcol : col = lpos.col)
    (I : Inv X pins σ H s) (hP : H P = some (.cod ln col q))
    (h : ∀ f c H' s', Inv X pins σ H' s' → Same H H' → LamAt H' f q params body scope cl c → Q (.ref f) s') :
    wpAny (model X.prog X.w) X.A (makeFunction "<lambda>" q params (.expr body) scope X.env [] [] [] lpos firstLine) Q E s := by
  obtain ⟨ps, eP, hps⟩ := I.hok P _ hP
  obtain ⟨bm, ob, b1, b2, b3, b4, b5, b6⟩ := B
  have hgs := I.ok.mod.glob.keeps I.bk
  have hgP : mainGlobals ≠ P := fun z => by
    obtain ⟨o, es, ep, e, hd, _⟩ := hgs
    rw [z, eP] at e; cases e; cases hd
  have hbP : bm ≠ P := fun z => by
    have e := I.bk _ _ b3
    rw [z, eP] at e; cases e; cases b4
  have hbG : bm ≠ mainGlobals := fun z => by
    obtain ⟨o, es, ep, e, hd, _⟩ := I.ok.mod.glob
    rw [z, e] at b3; cases b3; rw [hd] at b6; cases b6
  rcases hps with rfl | ⟨ln', col', q', u', c', oc, vs, t, hdd, rfl, hc', hd, hv⟩
  · refine PySem.W.kla_makeFunction (mg := X.mg) S.clos I.ok.glob hgs hcode (C.keeps I.bk) eP trivial rfl hgP ⟨bm, ob, b1, b2, hbG, hbP, I.bk _ _ b3, b4, b5, b6⟩ fun c' ctv h' tk hx hge hlt hrec htb => ?_
    obtain ⟨c₂, oc, vs, t, e2, hoc, hd, hv⟩ := hrec
    cases e2
    generalize hf : h'.objs.size = f
    have hlt' : c' < f := by rw [← hf]; exact hlt
    have hsz : s.heap.objs.size < f := Nat.lt_of_le_of_lt hge hlt'
    have hcf : c' ≠ f := Nat.ne_of_lt hlt'
    have lt : ∀ b u, H b = some u → b < s.heap.objs.size := fun b u e => I.hok.lt e
    have nc : ∀ b u, H b = some u → b ≠ c' := fun b u e => Nat.ne_of_lt (Nat.lt_of_lt_of_le (lt b u e) hge)
    have nf : ∀ b u, H b = some u → b ≠ f := fun b u e => Nat.ne_of_lt (Nat.lt_trans (lt b u e) hsz)
    generalize ho : PySem.W.kla_obj "<lambda>" q params body scope cl ((X.mg "__name__").getD .none) c' ctv = fo
    have gf : (h'.push fo).get? f = some fo := by rw [← hf]; exact Heap.get?_push_size _ (by rw [← ho]; rfl)
    have up : ∀ b u, H b = some u → upd (upd H c' (.frz oc (.own c'))) f (.ext fun h => h.get? f = some fo) b = some u := fun b u e => by rw [upd_ne (nf b u e), upd_ne (nc b u e)]; exact e
    have kp : ∀ b o, b ≠ P → s.heap.get? b = some o → (h'.push fo).get? b = some o := fun b o hb e => Heap.get?_push_of_some _ (hx b o hb e)
    have nP : ∀ b, H b = none → b ≠ P := fun b n z => by rw [z, hP] at n; cases n
    have gP : (h'.push fo).get? P = some (PySem.W.tabObj (#[] ++ #[rawInt lpos.line, rawInt lpos.col, .ref c'])) := Heap.get?_push_of_some _ htb
    refine h f c' (upd (upd H c' (.frz oc (.own c'))) f (.ext fun h => h.get? f = some fo)) _ ?_ up ⟨_, ctv, oc, vs, t, by rw [upd_same, ← ho], by rw [upd_ne hcf, upd_same], hd, hv⟩
    refine I.un (t' := tk) ⟨fun b o e n _ _ => kp b o (nP b n) e, fun b o e n _ _ => ⟨o.slots, kp b o (nP b n) e⟩, fun b o e n _ => ?_, fun b o e _ => ?_, fun b xs e => up _ _ e, fun b o u e => up _ _ e, fun b ps e => ⟨#[], by rw [up _ _ e]; simp⟩⟩ fun b u e => ?_
    · have hb := Heap.lt_size e
      rw [upd_ne (Nat.ne_of_lt (Nat.lt_trans hb hsz)), upd_ne (Nat.ne_of_lt (Nat.lt_of_lt_of_le hb hge))]; exact n
    · by_cases hb : b = P
      · subst hb; exact ⟨_, gP⟩
      · exact ⟨o, kp b o hb e⟩
    · by_cases hbf : b = f
      · subst hbf
        rw [upd_same] at e; cases e
        exact ⟨gf, ⟨_, gf⟩, fun h1 h2 z k => k _ z⟩
      · rw [upd_ne hbf] at e
        by_cases hbc : b = c'
        · subst hbc
          rw [upd_same] at e; cases e
          exact ⟨Heap.get?_push_of_some _ hoc, _, Heap.get?_push_of_some _ hoc⟩
        · rw [upd_ne hbc] at e
          by_cases hb : b = P
          · subst hb
            rw [hP] at e; cases e
            exact ⟨_, gP,   .inr ⟨ln, col, q, 0, c', oc, vs, t, rfl, by rw [hln, hcol]; rfl, by rw [upd_ne hcf, upd_same], hd, hv⟩⟩
          · refine (I.hok b u e).stay (fun d v hd' z => kp d v ?_ z) (fun d _ _ z => up _ _ z) (fun d z => up _ _ z) fun d xs z => up _ _ z
            rcases hd' with rfl | hd'
            · exact hb
            · intro z; rw [z, hP] at hd'; cases hd'
  · have hdd' : [rawInt ln, rawInt col, Value.str q 0] = [rawInt ln', rawInt col', Value.str q' u'] := congrArg Array.toList hdd
    injection hdd' with d1 d2
    injection d2 with d2 d3
    injection d3 with d3 _
    have d1' : ln = ln' := by unfold rawInt at d1; injection d1
    have d2' : col = col' := by unfold rawInt at d2; injection d2
    injection d3 with d3 _
    subst d1' d2' d3
    obtain ⟨hoc, _⟩ := I.hok c' _ hc'
    have hfd : codeAmong lpos #[rawInt ln, rawInt col, Value.ref c'].toList = some (.ref c') := by
      rw [hln, hcol]
      show (if ((lpos.line : Int) == lpos.line && (lpos.col : Int) == lpos.col) = true then _ else _) = _
      rw [beq_self_eq_true, beq_self_eq_true]; rfl
    refine PySem.W.kla_makeFunctionHit (mg := X.mg) S.clos I.ok.glob hgs hcode (C.keeps I.bk) eP trivial hfd ⟨bm, ob, b1, b2, hbG, hbP, I.bk _ _ b3, b4, b5, b6⟩ fun ctv h' tk hk hsz => ?_
    generalize hf : h'.objs.size = f
    have hH : H f = none := I.hok.fresh (by rw [← hf]; exact hsz)
    have gf : (h'.push (PySem.W.kla_obj "<lambda>" q params body scope cl ((X.mg "__name__").getD .none) c' ctv)).get? f = some (PySem.W.kla_obj "<lambda>" q params body scope cl ((X.mg "__name__").getD .none) c' ctv) := by rw [← hf]; exact Heap.get?_push_size _ rfl
    have nf : c' ≠ f := ne_of_none hc' hH
    refine h f c' (upd H f (.ext fun h => h.get? f = some (PySem.W.kla_obj "<lambda>" q params body scope cl ((X.mg "__name__").getD .none) c' ctv))) _ ?_ (same_updL hH (Same.refl H)) ⟨_, ctv, oc, vs, t, upd_same, by rw [upd_ne nf]; exact hc', hd, hv⟩
    exact I.laid (t' := tk) (fun b o e => Heap.get?_push_of_some _ (hk b o e)) (by rw [← hf]; exact hsz) ⟨gf, ⟨_, gf⟩, fun h1 h2 z k => k _ z⟩
end
end L2
set_option Elab.async false
set_option linter.all false
set_option maxRecDepth 100000
set_option maxHeartbeats 4000000
namespace L2
open PySem PySem.Spec PyProof.Rows
structure TabAt (x : Str) (mg : Str → Option Value) (h : Heap) (c P : Addr) : Prop where
  hd : PySem.W.CodeHd h c P
  emp : h.get? P = some (PySem.W.tabObj #[])
  fn : ∃ ff o fd, mg x = some (.ref ff) ∧ h.get? ff = some o ∧ o.data = .func fd ∧ fd.code = .ref c
theorem tabAt_of {p : Program} {loose : List Str} {mean : ExcName → Option Value} {mg mb : Str → Option Value} {h : Heap} {x : Str} {d : DefRec} (T : Top p loose mean mg mb h) (hr : (recsOf p).find? (fun e => e.name == x) = some d) : ∃ c P, TabAt x mg h c P := by
  have hn : d.name = x := beq_iff_eq.mp (List.find?_some (p := fun e : DefRec => e.name == x) hr)
  obtain ⟨a, o, fd, c', P', h1, h2, h3, h4, h5, h6⟩ := T.tab d (List.mem_of_find?_eq_some hr)
  rw [hn] at h1
  exact ⟨c', P', PySem.W.CodeHd.of h5 h6, h6.2, a, o, fd, h1, h2, h3, h4⟩
theorem law_callT {P : Program} {w : World} {K : PySem.W.Frag} {mg mb : Str → Option Value} {CX : CXT} {k : Nat} {fa a c T : Addr} {fd : FuncData} {x y : Str} {sp : Sp} {s₁ : Shared} {vs : List Value} {ns : List Int} {ln col : Int} {q : Str}
    (KX : K.In s₁.heap) (hns : s₁.heap.Ns mainGlobals mg) (hb : s₁.heap.Ns builtinsNs mb) (hbb : ∀ x : Str, x ≠ "__name__" → mb x = bootBuiltins x) (hlim : s₁.heap.NoLimit) (hg : s₁.gens = #[]) (hT : TabAt y mg s₁.heap c T) (hB : Bmain mg s₁.heap) (hnt : PySem.W.noTabs K = true)
    (ha : s₁.heap.get? a = some { cls := .type "list", data := .seq vs.toArray }) (hi : IntsAre vs ns) (hl : ns.length ≤ sizeLine) (hr : Room k callerA)
    (F : ∀ base : Heap, K.In base → base.Ns mainGlobals mg → PySem.W.CodeHd base c T → Bmain mg base → FnOk P w K mg base CX k fa fd [x] sp) (hbind : ∀ (s : Shared) (u : Value), BindsTo s fd ⟨[u], []⟩ [(x, u)])
    (hsp : ∀ H : Hp, H T = some (.cod ln col q) → SqL K H a (ns.map V.int) → sp [.ref a] H (fun v _ => v = .bl true) fun _ _ _ => False)
    (hCX : ∀ H e s', CX [] H s₁ (fun _ _ _ => False) e s' → False) :
    codeAny (model P w) callerA (.call (.ref fa) ⟨[.ref a], []⟩) (fun r s' => r = .ok (.ret (.bool true)) ∧ OldK s₁.heap s'.heap ∧ s'.os = s₁.os ∧ AllBare s'.gens) s₁ := by
  have rv := vals_ints hi
  have lenV := hi.length
  have hT0 : K.lookup T = none := by
    cases hk : K.lookup T with
    | none => rfl
    | some o =>
      have e := KX T o hk
      rw [hT.emp] at e; cases e
      exact absurd (show false = true from List.all_eq_true.mp hnt _ (PySem.W.mem_of_lookupK hk)) Bool.false_ne_true
  have naT : a ≠ T := fun z => by rw [z, hT.emp] at ha; cases ha
  have core : ∀ H : Hp, H T = some (.cod ln col q) → SqL K H a (ns.map V.int) → HOk P w H s₁.heap → (∀ b, H b ≠ none → b = a ∨ b = T) → (H a ≠ none → K.lookup a = none ∧ ∃ o xs, H a = some (.frz o (.lst xs))) →
      codeAny (model P w) callerA (.call (.ref fa) ⟨[.ref a], []⟩) (fun r s' => r = .ok (.ret (.bool true)) ∧ OldK s₁.heap s'.heap ∧ s'.os = s₁.os ∧ AllBare s'.gens) s₁ := by
    intro H hHT hS hok hA hK
    have base_of : ∀ {b : Addr} {o : Obj}, s₁.heap.get? b = some o → H b = none → (hidT s₁.heap H).get? b = some o := fun e n => hidT_get e n
    have noA : ∀ {b : Addr} {o : Obj}, s₁.heap.get? b = some o → (∀ z n, o.data ≠ .seq z n) → (∀ z, o ≠ PySem.W.tabObj z) → H b = none := fun {b o} e d1 d2 => by
      cases z : H b with
      | none => rfl
      | some u =>
        rcases hA b (by rw [z]; simp) with rfl | rfl
        · rw [ha] at e; cases e; exact absurd rfl (d1 _ _)
        · rw [hT.emp] at e; cases e; exact absurd rfl (d2 _)
    have nsK : ∀ {b : Addr} {m : Str → Option Value}, s₁.heap.Ns b m → (hidT s₁.heap H).Ns b m := fun {b m} ⟨o, es, ep, e, d, r⟩ => ⟨o, es, ep, base_of e (noA e (fun z n z2 => by rw [d] at z2; cases z2) fun z z2 => by rw [z2] at d; cases d), d, r⟩
    have hKb : K.In (hidT s₁.heap H) := fun b o e => base_of (KX b o e) (by
      cases z : H b with
      | none => rfl
      | some u =>
        rcases hA b (by rw [z]; simp) with rfl | rfl
        · rw [(hK (by rw [z]; simp)).1] at e; cases e
        · rw [hT0] at e; cases e)
    have hM : Mod K mg (hidT s₁.heap H) := ⟨hKb, nsK hns, ⟨mb, nsK hb, hbb⟩, let ⟨mc, h1, h2⟩ := hlim; ⟨mc, nsK h1, h2⟩⟩
    have hC : PySem.W.CodeHd (hidT s₁.heap H) c T := by
      obtain ⟨o, vs, file, tf, flags, tg, inF, text, tt, e1, r1, r2, r3, r4, r5, r6, r7, r8, hne⟩ := hT.hd
      exact ⟨o, vs, file, tf, flags, tg, inF, text, tt, base_of e1 (noA e1 (fun z n z2 => by rw [r2] at z2; cases z2) fun z z2 => by rw [z2] at r1; cases r1), r1, r2, r3, r4, r5, r6, r7, r8, hne⟩
    have hBb : Bmain mg (hidT s₁.heap H) := by
      obtain ⟨bm, ob, b1, b2, b3, b4, b5, b6⟩ := hB
      exact ⟨bm, ob, b1, b2, base_of b3 (noA b3 (fun z n z2 => by rw [b6] at z2; cases z2) fun z z2 => by rw [z2] at b6; cases b6), b4, b5, b6⟩
    have e0 : Env0 P w K mg (hidT s₁.heap H) callerA [] s₁ H := ⟨rfl, hM, fun b o e => of_hidT e, Nat.le_of_eq (hidT_size _ _), trivial, fun b hb => absurd (show b ∈ ([] : List Addr) from hb) (by simp), hok, .of_eq hg⟩
    refine codeAny_mono ((F _ hKb (nsK hns) hC hBb).run callerA [] s₁ H ⟨[.ref a], []⟩ [.ref a] [.ref a] _ _ hr e0 (hbind s₁ (.ref a)) (.cons rfl .nil) (hsp H hHT hS)) fun r s' h => ?_
    cases r with
    | error e => exact (hCX H e s' h).elim
    | ok fl =>
      cases fl with
      | next => exact False.elim h
      | brk => exact False.elim h
      | cont => exact False.elim h
      | ret u =>
        obtain ⟨v, H', os, bare, un, hok', r', z⟩ := h
        have z' : v = .bl true := z
        subst z'
        obtain rfl : u = Value.bool true := r'
        have keep : ∀ b o, b ≠ T → s₁.heap.get? b = some o → s'.heap.get? b = some o := fun b o hbT e => by
          cases z : H b with
          | none => exact un.keep b o e z (by intro z; exact absurd (show b ∈ ([] : List Addr) from z) (by simp)) (by simp)
          | some u =>
            rcases hA b (by rw [z]; simp) with rfl | rfl
            · obtain ⟨_, ob, xs, z1⟩ := hK (by rw [z]; simp)
              have z2 := un.frzs _ ob _ z1
              obtain ⟨e1, _⟩ := hok _ _ z1
              obtain ⟨e2, _⟩ := hok' _ _ z2
              rw [e] at e1; cases e1
              exact e2
            · exact absurd rfl hbT
        obtain ⟨ps, hps⟩ : ∃ ps, s'.heap.get? T = some (PySem.W.tabObj ps) := by
          obtain ⟨more, z⟩ := un.tbls T _ hHT
          obtain ⟨ps, e, _⟩ := hok' T _ z
          exact ⟨ps, e⟩
        refine ⟨rfl, ⟨fun b o e => ?_, fun b o e => ?_⟩, os, bare⟩
        · by_cases hbT : b = T
          · subst hbT
            rw [hT.emp] at e; cases e
            exact .inr (.inl ⟨(hT.hd.tab hT.emp).isCodeTable, rfl, #[], ps, rfl, by rw [Array.empty_append]; exact hps⟩)
          · exact .inl (keep b o hbT e)
        · by_cases hbT : b = T
          · subst hbT; exact ⟨_, hps⟩
          · exact ⟨o, keep b o hbT e⟩
  have tabOk : ∀ H : Hp, ObjOk P w H s₁.heap T (.cod ln col q) := fun H => ⟨#[], hT.emp, .inl rfl⟩
  cases hk : K.lookup a with
  | some o =>
    have e := KX a o hk
    rw [ha] at e
    cases e
    refine core (fun b => if b = T then some (.cod ln col q) else none) (if_pos rfl) (.inr ⟨_, vs.toArray, _, hk, rfl, rfl, rfl, by rw [List.size_toArray, lenV]; exact hl, by simpa using rv⟩) (fun b u z => ?_) (fun b z => ?_) fun z => absurd (if_neg naT) z
    · by_cases hbT : b = T
      · have z' := (if_pos hbT).symm.trans z
        cases z'
        subst hbT
        exact tabOk _
      · have z' := (if_neg hbT).symm.trans z
        cases z'
    · by_cases hbT : b = T
      · exact .inr hbT
      · exact absurd (if_neg hbT) z
  | none =>
    refine core (fun b => if b = T then some (.cod ln col q) else if b = a then some (.frz { cls := .type "list", data := .seq vs.toArray } (.lst (ns.map V.int))) else none) (if_pos rfl) (.inl (.inr ⟨{ cls := .type "list", data := .seq vs.toArray }, (if_neg naT).trans (if_pos rfl)⟩)) (fun b u z => ?_) (fun b z => ?_) fun _ => ⟨hk, _, _, (if_neg naT).trans (if_pos rfl)⟩
    · by_cases hbT : b = T
      · have z' := (if_pos hbT).symm.trans z
        cases z'
        subst hbT
        exact tabOk _
      · have z0 := (if_neg hbT).symm.trans z
        by_cases hba : b = a
        · have z' := (if_pos hba).symm.trans z0
          cases z'
          subst hba
          exact ⟨ha, by rw [List.length_map]; exact hl, vs, _, rv, ha⟩
        · have z' := (if_neg hba).symm.trans z0
          cases z'
    · by_cases hbT : b = T
      · exact .inr hbT
      · by_cases hba : b = a
        · exact .inl hba
        · exact absurd ((if_neg hbT).trans (if_neg hba)) z
theorem walk_ofT {l : PySem.W.OpenLaw} {n k : Nat} {q : Program} {loose : List Str} {XP : (Str → Option Value) → Heap → Prop} {YP : World → Heap → Prop} {d : DefRec} {K : Params → PySem.W.Frag} {CX : World → CXT} {sp : World → Addr → Sp} {x y : Str} {ln col : Int} {qq : Str}
    (hn : l.most = some n) (hn2 : n ≤ sizeLine) (hdf : d.params.defaults = []) (hr : Room k callerA)
    (hY : ∀ (w : World) (h : Heap), YP w h → (K w.params).In h) (hnt : ∀ w : World, PySem.W.noTabs (K w.params) = true) (hrec : ∃ d', (recsOf q).find? (fun e => e.name == y) = some d')
    (F : ∀ (w : World) (mg : Str → Option Value) (fa : Addr) (h : Heap), (K w.params).In h → h.Ns mainGlobals mg → mg d.name = some (.ref fa) → ∀ c P, TabAt y mg h c P →
      ∃ fd : FuncData, (∀ (s : Shared) (u : Value), BindsTo s fd ⟨[u], []⟩ [(x, u)]) ∧
        ∀ base : Heap, (K w.params).In base → base.Ns mainGlobals mg → PySem.W.CodeHd base c P → Bmain mg base → FnOk l.prog w (K w.params) mg base (CX w) k fa fd [x] (sp w P))
    (hsp : ∀ (w : World) (P : Addr) (H : Hp) (a : Addr) (ns : List Int), ns.length ≤ n → H P = some (.cod ln col qq) → SqL (K w.params) H a (ns.map V.int) → sp w P [.ref a] H (fun v _ => v = .bl true) fun _ _ _ => False)
    (hCX : ∀ (w : World) (H : Hp) (s : Shared) (e : Value) (s' : Shared), CX w [] H s (fun _ _ _ => False) e s' → False) :
    PySem.W.WalkO q loose XP YP l.row.toRowW d [] (fun f vs => PySem.call f vs) := by
  refine Att.attach_call hn hdf fun w s₀ s₁ mg mb fa o pm cd doc a vs ns G Y ho hd hcd hmg hobj hints hlen hg => ?_
  have KX := hY w _ Y
  obtain ⟨d', hd'⟩ := hrec
  obtain ⟨c, P, hT⟩ := tabAt_of G.T hd'
  obtain ⟨fd, hb, hF⟩ := F w mg fa _ KX G.T.g hmg c P hT
  exact law_callT (ln := ln) (col := col) (q := qq) KX G.T.g G.T.b G.T.builtins G.T.nolimit hg hT G.T.bmain (hnt w) hobj hints (Nat.le_trans hlen hn2) hr hF hb (fun H hO hS => hsp w P H a ns hlen hO hS) fun H e s' => hCX w H s₁ e s'
section
variable {P : Program} {w : World} {K : PySem.W.Frag} {mg : Str → Option Value} {base : Heap}
theorem Fun.okC {x qual : Str} {st : Stmt} {f : Addr} {fd : FuncData} {N ps : List Str} {k : Nat} {sp : Sp} (F : Fun K x qual st f fd) (S : FnScope N ps (defScope st)) (len : ∀ vs H Q E, sp vs H Q E → vs.length = ps.length)
    (hbody : ∀ (cdv : Value), fd.code = cdv → ∀ (A : Around) (outer : List Env) (s : Shared) (H : Hp) (vs : List V) (Q : VK) (E : XK), Room k (A.deeper (envOfC qual (defScope st) s.heap.objs.size f cdv)) → sp vs H Q E →
      ∃ t, PSs (cxOf CX0 P w K mg base N qual (defScope st) f cdv A outer s H E).nox (defBody st) t ∧ t { nx := fun _ H' => Q .non H', rt := Q } (start N vs) H) : FnOk P w K mg base CX0 (k + 1) f fd ps sp := by
  obtain ⟨oc, od, kV, doc, pm, an, cdv, ct, osl, rfl, lk, hcd⟩ := F.ex
  refine fn_of lk hcd S len fun A outer s H vs Q E hr hsp => ?_
  obtain ⟨t, h, q⟩ := hbody cdv rfl A outer s H vs Q E hr hsp
  exact ⟨t, h.nox, q⟩
theorem tab_code {h : Heap} {x : Str} {c T f : Addr} {oc : Value} {od : Option Addr} {fd : FuncData} {sl : Array (Option Value)} (X : K.In h) (G : h.Ns mainGlobals mg) (t : TabAt x mg h c T) (a : PySem.W.nsIn K mainGlobals x = some (some (.ref f)))
    (l : K.lookup f = some ⟨oc, od, .func fd, sl⟩) : fd.code = .ref c := by
  obtain ⟨ff, o, fd', h1, h2, h3, h4⟩ := t.fn
  have e := PySem.W.mg_of X G a
  rw [h1] at e; cases e
  have e2 := X _ _ l
  rw [h2] at e2; cases e2
  cases h3
  exact h4
end
section
variable {X : Cx} {k1 k2 : Nat} {m : Str} {sp1 sp2 : Sp} {pos apos : Pos} {e o : Expr} {es : List Expr} {t : TA} {ta : TE} {C1 C2 : Addr}
end
end L2
set_option linter.all false
set_option maxRecDepth 100000
namespace PySem
open PySem.Calls
structure Fl (B : Heap) (l : List Env) (e : Addr) (cls fl : Value) (h : Heap) : Prop where
  stays : B.StaysIn h
  new : B.get? e = none
  fr : h.FunFrames B l
  tr : ∃ oe vs T oT ts, h.get? e = some oe ∧ oe.cls = cls ∧ oe.dict = none ∧ oe.data = .fields vs ∧ vs[1]? = some (.ref T) ∧ B.get? T = none ∧ T ≠ e ∧ h.get? T = some oT ∧ oT.data = .fields ts ∧ ts[3]? = some fl
theorem Obj.dict_mapFields (o : Obj) (f : Array Value → Array Value) : (o.mapFields f).dict = o.dict := by
  obtain ⟨c, d, dt, sl⟩ := o
  cases dt <;> rfl
section
variable {M : Model} {A : Around} {E : Value → Shared → Prop} {s : Shared} {B : Heap} {env : Env} {outer l : List Env} {L e : Addr} {cls : Value}
theorem fl_entry {oe : Obj} {vs : Array Value} {head : Value} {hadNext : Bool} {Q : Unit → Shared → Prop} (hfr : A.frames = some (env :: outer)) (hl : s.heap.FunFrames B (env :: outer)) (hf : env.frame = some L)
    (he : s.heap.get? e = some oe) (hkb : B.StaysIn s.heap) (hen : B.get? e = none) (hd : oe.data = .fields vs) (hdi : oe.dict = none) (hsz : 1 < vs.size)
    (h : ∀ h', Fl B (env :: outer) e oe.cls (rawInt L) h' → s.heap.UpToSlots h' → Q () { s with heap := h' }) :
    wpAny M A (do let a ← frameOf env; let pl ← entryPlaceOf L hadNext; let b ← EntryCells.newEntry head a .none (rawInt L) .none pl; setField (.ref e) 1 b) Q E s := by
  have ne : e ∉ (env :: outer).filterMap (·.frame) := fun hm => by
    obtain ⟨_, o, ho, hnf⟩ := hl.mem hm
    rw [he] at ho; cases ho; exact hnf vs hd
  refine wpAny_bind (wpAny_frameOf_fun hfr hl hf fun h₁ sl => ?_)
  refine wpAny_bind (wpAny_entryPlaceOf fun pl hpl => ?_)
  unfold EntryCells.newEntry newFields
  refine wpAny_bind (wpAny_newObj_type ?_ (hpl.sizeOk5 _ _ _ _ _))
  have e1 : h₁.get? e = some oe := (sl.2.1 e ne).trans he
  have k1 : B.StaysIn h₁ := fun b o z => (sl.2.1 b fun hm => by rw [(hl.mem hm).1] at z; cases z).trans (hkb b o z)
  generalize htb : ({ cls := .type "traceback", dict := none, data := .fields ([head, .ref L, .none, rawInt L, .none] ++ (if pl.isEmpty then List.replicate 6 Value.none else pl)).toArray } : Obj) = tb
  have tbd : tb.data = .fields ([head, .ref L, .none, rawInt L, .none] ++ (if pl.isEmpty then List.replicate 6 Value.none else pl)).toArray := by rw [← htb]
  have tbf : tb.isFreed = false := by rw [← htb]; rfl
  have e2 := Heap.get?_push_of_some (h := h₁) tb e1
  refine wpAny_setField e2 hd hsz ?_
  have nT : h₁.objs.size ≠ e := Nat.ne_of_gt (Heap.lt_size e1)
  have d3 := Obj.data_mapFields hd (·.setIfInBounds 1 (Value.ref h₁.objs.size))
  have e3 := Heap.get?_update_self (Obj.mapFields (·.setIfInBounds 1 (Value.ref h₁.objs.size))) e2 (Obj.isFreed_of_fields d3)
  have t3 := (Heap.get?_update_other (h₁.push tb) (Obj.mapFields (·.setIfInBounds 1 (Value.ref h₁.objs.size))) (Ne.symm nT)).trans (Heap.get?_push_size h₁ tbf)
  have keep : ∀ b o, b ≠ e → h₁.get? b = some o → ((h₁.push tb).update e (Obj.mapFields (·.setIfInBounds 1 (Value.ref h₁.objs.size)))).get? b = some o := fun b o nb z =>
    (Heap.get?_update_other _ _ (Ne.symm nb)).trans (Heap.get?_push_of_some _ z)
  have norec : ∀ b o, s.heap.get? b = some o → (∀ vs, o.data ≠ .fields vs) → b ≠ e := fun b o z hnf q => by
    rw [q, he] at z; cases z; exact hnf vs hd
  have up : ∀ b o, s.heap.get? b = some o → (∀ vs, o.data ≠ .fields vs) → ∃ sl', ((h₁.push tb).update e (Obj.mapFields (·.setIfInBounds 1 (Value.ref h₁.objs.size)))).get? b = some { o with slots := sl' } := fun b o z hnf => by
    obtain ⟨s1, z1⟩ := sl.2.2 b o z
    exact ⟨s1, keep b _ (norec b o z hnf) z1⟩
  refine h _ ⟨fun b o z => keep b o (fun q => by rw [q, hen] at z; cases z) (k1 b o z), hen, hl.of_keeps fun b o z hnf => ?_, ?_⟩ up
  · obtain ⟨s1, z1⟩ := up b o z hnf
    exact ⟨_, z1, rfl⟩
  · refine ⟨_, _, h₁.objs.size, tb, _, e3, Obj.cls_mapFields _ _, (Obj.dict_mapFields _ _).trans hdi, d3, by simp [hsz], k1.fresh, nT, t3, tbd, ?_⟩
    first | (simp; done) | (rcases hpl with rfl | ⟨_, _, _, _, _, _, _, rfl⟩ <;> simp)
theorem fl_note {Q : Unit → Shared → Prop} (hfr : A.frames = some (env :: outer)) (hf : env.frame = some L) (F : Fl B (env :: outer) e cls .none s.heap)
    (h : ∀ h', Fl B (env :: outer) e cls (rawInt L) h' → s.heap.UpToSlots h' → Q () { s with heap := h' }) : wpAny M A (noteFrame (.ref e) env) Q E s := by
  obtain ⟨oe, vs, T, oT, ts, he, hc, hdi, hd, h1, nT, hTe, hT, hdT, h3⟩ := F.tr
  subst hc
  unfold noteFrame
  simp only [hf]
  refine wpAny_bind (wpAny_field he hd h1 ?_)
  rw [if_pos (show (Value.ref T != Value.none) = true from by simp)]
  refine wpAny_bind (wpAny_field hT hdT h3 ?_)
  rw [if_neg (show ¬ ((Value.none == rawInt L) = true) from by simp [rawInt])]
  refine wpAny_bind (wpAny_setField hT hdT (Array.getElem?_eq_some_iff.mp h3).1 ?_)
  have other : ∀ b, b ≠ T → (s.heap.update T (Obj.mapFields (·.setIfInBounds 3 Value.none))).get? b = s.heap.get? b := fun b hb => Heap.get?_update_other _ _ (Ne.symm hb)
  have norec : ∀ b o, s.heap.get? b = some o → (∀ vs, o.data ≠ .fields vs) → b ≠ T := fun b o z hnf q => by
    rw [q, hT] at z; cases z; exact hnf ts hdT
  refine fl_entry hfr (F.fr.of_keeps fun b o z hnf => ⟨o, (other b (norec b o z hnf)).trans z, rfl⟩) hf ((other e (Ne.symm hTe)).trans he)
    (fun b o z => (other b fun q => by rw [q, nT] at z; cases z).trans (F.stays b o z)) F.new hd hdi (Array.getElem?_eq_some_iff.mp h1).1 fun h' F' up => h h' F' fun b o z hnf => up b o ((other b (norec b o z hnf)).trans z) hnf
theorem fl_first {oe : Obj} {vs : Array Value} {Q : Unit → Shared → Prop} (hfr : A.frames = some (env :: outer)) (hl : s.heap.FunFrames B (env :: outer)) (hf : env.frame = some L)
    (he : s.heap.get? e = some oe) (hkb : B.StaysIn s.heap) (hen : B.get? e = none) (hd : oe.data = .fields vs) (hdi : oe.dict = none) (h1 : vs[1]? = some .none)
    (h : ∀ h', Fl B (env :: outer) e oe.cls (rawInt L) h' → s.heap.UpToSlots h' → Q () { s with heap := h' }) : wpAny M A (noteFrame (.ref e) env) Q E s := by
  unfold noteFrame
  simp only [hf]
  refine wpAny_bind (wpAny_field he hd h1 ?_)
  rw [if_neg (by decide)]
  exact fl_entry hfr hl hf he hkb hen hd hdi (Array.getElem?_eq_some_iff.mp h1).1 h
theorem fl_land {fl : Value} {Q : Unit → Shared → Prop} (F : Fl B l e cls fl s.heap) (h : ∀ h', Fl B l e cls .none h' → s.heap.UpToSlots h' → Q () { s with heap := h' }) : wpAny M A (setFlight (.ref e) none) Q E s := by
  obtain ⟨oe, vs, T, oT, ts, he, hc, hdi, hd, h1, nT, hTe, hT, hdT, h3⟩ := F.tr
  unfold setFlight
  refine wpAny_bind (wpAny_field he hd h1 ?_)
  rw [if_pos (show (Value.ref T != Value.none) = true from by simp)]
  have sz := (Array.getElem?_eq_some_iff.mp h3).1
  refine wpAny_setField hT hdT sz ?_
  have other : ∀ b, b ≠ T → (s.heap.update T (Obj.mapFields (·.setIfInBounds 3 ((none : Option Addr).elim Value.none fun f => rawInt f)))).get? b = s.heap.get? b := fun b hb => Heap.get?_update_other _ _ (Ne.symm hb)
  have norec : ∀ b o, s.heap.get? b = some o → (∀ vs, o.data ≠ .fields vs) → b ≠ T := fun b o z hnf q => by
    rw [q, hT] at z; cases z; exact hnf ts hdT
  have d3 := Obj.data_mapFields hdT (·.setIfInBounds 3 ((none : Option Addr).elim Value.none fun f => rawInt f))
  refine h _ ⟨fun b o z => (other b fun q => by rw [q, nT] at z; cases z).trans (F.stays b o z), F.new, F.fr.of_keeps fun b o z hnf => ⟨o, (other b (norec b o z hnf)).trans z, rfl⟩, ?_⟩ fun b o z hnf => ⟨o.slots, (other b (norec b o z hnf)).trans z⟩
  exact ⟨oe, vs, T, _, _, (other e (Ne.symm hTe)).trans he, hc, hdi, hd, h1, nT, hTe, Heap.get?_update_self _ hT (Obj.isFreed_of_fields d3), d3, by simp [sz]⟩
theorem Fl.tail {fl : Value} {h : Heap} (F : Fl B (env :: l) e cls fl h) : Fl B l e cls fl h := ⟨F.stays, F.new, F.fr.2.2, F.tr⟩
theorem up_trans {h h1 h2 : Heap} (a : h.UpToSlots h1) (b : h1.UpToSlots h2) : h.UpToSlots h2 := fun x o z hnf => by
  obtain ⟨s1, z1⟩ := a x o z hnf
  obtain ⟨s2, z2⟩ := b x _ z1 hnf
  exact ⟨s2, z2⟩
theorem fl_leave {Q : Unit → Shared → Prop} (hfr : A.frames = some (env :: outer)) (hf : env.frame = some L) (F : Fl B (env :: outer) e cls .none s.heap)
    (h : ∀ h', Fl B outer e cls .none h' → s.heap.UpToSlots h' → Q () { s with heap := h' }) : wpAny M A (leaving env (.ref e)) Q E s := by
  unfold leaving
  exact wpAny_bind (fl_note hfr hf F fun h1 F1 u1 => fl_land F1 fun h2 F2 u2 => h h2 F2.tail (up_trans u1 u2))
theorem fl_made {h0 : Heap} {args : List Value} {Q : Unit → Shared → Prop} (hfr : A.frames = some (env :: outer)) (hf : env.frame = some L) (hkb : B.StaysIn h0) (hl : h0.FunFrames B (env :: outer)) (hx : Heap.MadeExcOf h0 s.heap e cls args)
    (h : ∀ h', Fl B outer e cls .none h' → s.heap.UpToSlots h' → Q () { s with heap := h' }) : wpAny M A (leaving env (.ref e)) Q E s := by
  obtain ⟨t, he, _, _⟩ := hx.there
  have hen : B.get? e = none := by
    cases q : B.get? e with
    | none => rfl
    | some o => have := hkb e o q; rw [hx.new] at this; cases this
  unfold leaving
  exact wpAny_bind (fl_first hfr (hl.of_keeps fun b o z _ => ⟨o, hx.keeps b o z, rfl⟩) hf he (fun b o z => hx.keeps b o (hkb b o z)) hen rfl rfl rfl fun h1 F1 u1 => fl_land F1 fun h2 F2 u2 => h h2 F2.tail (up_trans u1 u2))
end
end PySem
set_option linter.all false
set_option maxRecDepth 100000
namespace L2
open PySem PySem.Spec PyProof.Rows
structure Fly (P : Program) (w : World) (outer : List Env) (H : Hp) (s : Shared) (x : Addr) (cls : Value) (B : Heap) (H' : Hp) (s' : Shared) : Prop where
  os : s'.os = s.os
  bare : AllBare s'.gens
  un : Un [] [] H H' (PySem.W.hideAll s.heap (frs outer)) B
  hok : HOk P w H' B
  fly : Fl B outer x cls .none s'.heap
  slot : ∀ b ∈ frs outer, ∀ o, s.heap.get? b = some o → ∃ sl, s'.heap.get? b = some { o with slots := sl }
  frf : ∀ b ∈ frs outer, H' b = none
def CX1 (P : Program) (w : World) : CXT := fun outer H s E e s' => ∃ x cls B H', e = .ref x ∧ Fly P w outer H s x cls B H' s' ∧ E cls none H'
section
variable {P : Program} {w : World} {outer : List Env} {H H' : Hp} {s s' : Shared} {x : Addr} {cls : Value} {B : Heap}
theorem Fly.whole (F : Fly P w outer H s x cls B H' s') : Un (frs outer) [] H H' s.heap s'.heap where
  keep := fun b o e hn hf _ => F.fly.stays b o (F.un.keep b o (PySem.W.hideAll_get _ e hf) hn (by simp) (by simp))
  slot := fun b o e hn hf _ => F.slot b hf o e
  free := fun b o e hn _ => by
    by_cases hf : b ∈ frs outer
    · exact F.frf b hf
    · exact F.un.free b o (PySem.W.hideAll_get _ e hf) hn (by simp)
  there := fun b o e _ => by
    by_cases hf : b ∈ frs outer
    · obtain ⟨sl, h⟩ := F.slot b hf o e; exact ⟨_, h⟩
    · obtain ⟨o', h⟩ := F.un.there b o (PySem.W.hideAll_get _ e hf) (by simp); exact ⟨o', F.fly.stays _ _ h⟩
  tups := F.un.tups
  frzs := F.un.frzs
  tbls := F.un.tbls
theorem Fly.hok' (F : Fly P w outer H s x cls B H' s') : HOk P w H' s'.heap := F.hok.kept fun b u q => F.fly.stays b u q
end
theorem hide_at {h : Heap} {l : List Addr} {b : Addr} {o : Obj} (e : (PySem.W.hideAll h l).get? b = some o) : h.get? b = some o ∧ b ∉ l :=
  ⟨PySem.W.of_hideAll _ e, fun m => by rw [PySem.W.hideAll_none _ m] at e; cases e⟩
section
variable {X : Cx} {pins : List (Addr × Obj)} {σ : St} {H : Hp} {s : Shared}
theorem Inv.hideUn (I : Inv X pins σ H s) (hex : X.ex = []) : Un [] [] X.H₀ H (PySem.W.hideAll X.s₀.heap (frs X.outer)) (PySem.W.hideAll s.heap (frs X.stack)) := by
  have nex : ∀ b, b ∉ X.ex := fun b => by rw [hex]; simp
  have nst : ∀ b o, X.s₀.heap.get? b = some o → b ∉ frs X.outer → b ∉ frs X.stack := fun b o e hf hb => by
    rcases List.mem_cons.mp (I.stkSub b hb) with z | z
    · exact absurd z (Nat.ne_of_lt (Nat.lt_of_lt_of_le (Heap.lt_size e) I.ok.above))
    · exact hf z
  refine ⟨fun b o e hn _ _ => ?_, fun b o _ _ hb => absurd hb (by simp), fun b o e hn _ => ?_, fun b o e _ => ?_, I.base.tups, I.base.frzs, I.base.tbls⟩
  · obtain ⟨e1, e2⟩ := hide_at e
    exact PySem.W.hideAll_get _ (I.base.keep b o e1 hn e2 (nex b)) (nst b o e1 e2)
  · obtain ⟨e1, e2⟩ := hide_at e
    exact I.base.free b o e1 hn (nex b)
  · obtain ⟨e1, e2⟩ := hide_at e
    obtain ⟨o', h'⟩ := I.base.there b o e1 (nex b)
    exact ⟨o', PySem.W.hideAll_get _ h' (nst b o e1 e2)⟩
theorem Inv.hideHok (I : Inv X pins σ H s) : HOk X.prog X.w H (PySem.W.hideAll s.heap (frs X.stack)) := fun a o e =>
  (I.hok a o e).stay (fun b u hb q => PySem.W.hideAll_get _ q fun m => by
    have z := I.stkFree b m
    rcases hb with rfl | hb
    · rw [e] at z; cases z
    · rw [hb] at z; cases z) (fun _ _ _ q => q) (fun _ q => q) fun _ _ q => q
theorem Inv.slots (I : Inv X pins σ H s) (hex : X.ex = []) {b : Addr} (hb : b ∈ frs X.outer) {o : Obj} (e : X.s₀.heap.get? b = some o) : (∃ sl, s.heap.get? b = some { o with slots := sl }) ∧ ∀ vs, o.data ≠ .fields vs := by
  obtain ⟨_, o', e', hd⟩ := I.ok.funs.mem hb
  rw [e] at e'; cases e'
  exact ⟨I.base.slot b o e (I.ok.frf b hb) hb (by rw [hex]; simp), hd⟩
end
section
variable {P : Program} {w : World} {K : PySem.W.Frag} {mg : Str → Option Value} {base : Heap} {N : List Str} {qual : Str} {scope : Scope} {f : Addr} {cd : Value} {A : Around} {outer : List Env} {s : Shared} {H : Hp} {E : XK}
  {pins : List (Addr × Obj)} {σ : St} {H1 : Hp} {s1 : Shared}
theorem mem_stack {env : Env} {outer : List Env} {b : Addr} (hb : b ∈ frs outer) : b ∈ frs (env :: outer) := by
  unfold frs at hb ⊢
  obtain ⟨e, he, hf⟩ := List.mem_filterMap.mp hb
  exact List.mem_filterMap.mpr ⟨e, List.mem_cons_of_mem _ he, hf⟩
theorem leave_new {h' : Heap} {e : Addr} {cls : Value} {vs : List Value} (I : Inv (cxOf (CX1 P w) P w K mg base N qual scope f cd A outer s H E) pins σ H1 s1) (hx : Heap.MadeExcOf s1.heap h' e cls vs) (q : E cls none H1) :
    (cxOf (CX1 P w) P w K mg base N qual scope f cd A outer s H E).xe (.ref e) { s1 with heap := h' } := by
  have fr : (cxOf (CX1 P w) P w K mg base N qual scope f cd A outer s H E).A.frames = some (envOfC qual scope s.heap.objs.size f cd :: outer) := I.ok.frames
  have hf := PySem.W.funFrames_hide (as := frs (envOfC qual scope s.heap.objs.size f cd :: outer)) I.stack fun env he a ha => List.mem_filterMap.mpr ⟨env, he, ha⟩
  refine fl_made (B := PySem.W.hideAll s1.heap (frs (envOfC qual scope s.heap.objs.size f cd :: outer))) fr rfl (fun b o z => PySem.W.of_hideAll _ z) hf hx fun h2 x1 x4 => ?_
  refine ⟨e, cls, _, H1, rfl, ⟨I.os, I.bare, I.hideUn rfl, I.hideHok, x1, fun b hb o z => ?_, fun b hb => I.stkFree b (mem_stack hb)⟩, q⟩
  obtain ⟨⟨sl, z1⟩, hd⟩ := I.slots rfl hb z
  exact (x4 b _ (hx.keeps b _ z1) hd).imp fun sl' z' => z'
theorem pass1 : Passes (CX1 P w) (cxOf (CX1 P w) P w K mg base N qual scope f cd A outer s H E) E := by
  rintro pins σ H1 s1 e s2 I ⟨x, cls, B, H2, rfl, F, q⟩
  have fr : (cxOf (CX1 P w) P w K mg base N qual scope f cd A outer s H E).A.frames = some (envOfC qual scope s.heap.objs.size f cd :: outer) := I.ok.frames
  refine fl_leave fr rfl F.fly fun h2 fly up => ?_
  refine ⟨x, cls, B, H2, rfl, ⟨F.os.trans I.os, F.bare, (I.hideUn rfl).trans F.un, F.hok, fly, fun b hb o z => ?_, fun b hb => F.frf b (mem_stack hb)⟩, q⟩
  obtain ⟨⟨sl, z1⟩, hd⟩ := I.slots rfl hb z
  obtain ⟨sl2, z2⟩ := F.slot b (mem_stack hb) _ z1
  exact (up b _ z2 hd).imp fun sl' z' => z'
end
end L2
set_option linter.all false
set_option maxRecDepth 100000
namespace L2
open PySem PySem.Spec PyProof.Rows PySem.Calls
def tRaise (cls : Value) (E : XK) (te : TE) : TS := fun _ σ H => te σ H fun _ H1 => E cls none H1
section
variable {P : Program} {w : World} {K : PySem.W.Frag} {mg : Str → Option Value} {base : Heap} {N : List Str} {qual : Str} {scope : Scope} {f : Addr} {cd : Value} {A : Around} {outer : List Env} {s : Shared} {H : Hp} {E : XK}
theorem ps_raise {x : Str} {C : Addr} {bm : List Value} {newId initId Bn : String} {e : Expr} {te : TE} {np cpos pos : Pos} (O : OwnCls x C bm newId mg base) (FB : ExcBaseFacts Bn newId initId bm)
    (hg : Gl (cxOf (CX1 P w) P w K mg base N qual scope f cd A outer s H E) x) (he : PE (cxOf (CX1 P w) P w K mg base N qual scope f cd A outer s H E) e te) (hd : (x == ("__debug__" : Str)) = false := by decide)
    (hst : starEach [e] (cxOf (CX1 P w) P w K mg base N qual scope f cd A outer s H E).env = [(false, eval e (cxOf (CX1 P w) P w K mg base N qual scope f cd A outer s H E).env)] := by rfl)
    (hb : backTo cpos [(false, eval e (cxOf (CX1 P w) P w K mg base N qual scope f cd A outer s H E).env)] = [(false, eval e (cxOf (CX1 P w) P w K mg base N qual scope f cd A outer s H E).env)] := by rfl) :
    PS (cxOf (CX1 P w) P w K mg base N qual scope f cd A outer s H E) (.Raise (some (.Call (.Name x np) [e] [] cpos)) none pos) (tRaise (.ref C) E te) := by
  intro pins s1 σ H1 D I h
  obtain ⟨tl, Na, nm, q, bs, hdct, sn, sub, ab, col, dd, k0, k1, k2, k3, k5, mN, hC, hN, hni, T⟩ := O.obj
  refine wpAny_Raise_call_subT (C := C) (nm := nm) (q := q) (N := Na) (bs := bs) (bm := tl) (hdct := hdct) (sn := sn) (sub := sub) (ab := ab) (col := col) (dd := dd) (k0 := k0) (k1 := k1) (k2 := k2) (k3 := k3) (k5 := k5)
    FB (mN := mN) (T.hasType FB.hasBase) (I.ok.hd rfl) (by rw [hst, hb]; rfl) hni (ld_glob I hg O.bound ⟨rfl, ?_⟩ hd)
  rw [hst, hb]
  refine Calls.evalArgs_plain (Calls.spliced_cons (thn (he pins s1 σ H1 _ I h) fun v s2 ⟨vv, H2, I2, r, q2⟩ => Calls.spliced_nil ?_))
  exact ⟨rfl, by show 1 ≤ sizeLine; decide, I2.bk _ _ hC, hN.keeps I2.bk, T.keeps I2.bk, fun h' e' hm => leave_new I2 hm q2⟩
theorem pss_first {X : Cx} {st : Stmt} {rest : List Stmt} {t : TS} (h1 : PS X st t) : PSs X (st :: rest) (fun D σ H => t { D with nx := fun _ _ => False } σ H) := by
  intro pins s σ H D I h
  refine wpAny_execs_cons (thn (h1 pins s σ H { D with nx := fun _ _ => False } I h) fun f s1 q => ?_)
  cases f with
  | next => obtain ⟨_, _, _, z⟩ := q; exact z.elim
  | brk => exact q
  | cont => exact q
  | ret u => exact q
def Cal1 (P : Program) (w : World) (K : PySem.W.Frag) (mg : Str → Option Value) (base : Heap) (k : Nat) (x : Str) (sp : Sp) : Prop :=
  ∃ f fd ps, FnOk P w K mg base (CX1 P w) k f fd ps sp ∧ Binds K fd ps [] ∧ PySem.W.keepIn K (.ref f) = true ∧ mg x = some (.ref f)
def tCl1 (sp : Sp) (E : XK) (t : TA) : TE := fun σ H Q => t σ H fun vs H1 => sp vs H1 Q E
theorem pe_c1 {k : Nat} {x : Str} {sp : Sp} {p pos : Pos} {e : Expr} {es : List Expr} {t : TA} (C : Cal1 P w K mg base k x sp) (hr : Room k (cxOf (CX1 P w) P w K mg base N qual scope f cd A outer s H E).A) (hg : Gl (cxOf (CX1 P w) P w K mg base N qual scope f cd A outer s H E) x)
    (ha : PA (cxOf (CX1 P w) P w K mg base N qual scope f cd A outer s H E) (e :: es) t) (hdb : (x == ("__debug__" : Str)) = false := by decide)
    (he : starEach (e :: es) (cxOf (CX1 P w) P w K mg base N qual scope f cd A outer s H E).env = (false, eval e (cxOf (CX1 P w) P w K mg base N qual scope f cd A outer s H E).env) :: starEach es (cxOf (CX1 P w) P w K mg base N qual scope f cd A outer s H E).env := by rfl)
    (hpl : (backTo pos (starEach es (cxOf (CX1 P w) P w K mg base N qual scope f cd A outer s H E).env)).any (·.1) = false := by rfl) :
    PE (cxOf (CX1 P w) P w K mg base N qual scope f cd A outer s H E) (.Call (.Name x p) (e :: es) [] pos) (tCl1 sp E t) := by
  obtain ⟨fa, fd, ps, F, b, kp, m⟩ := C
  intro pins s1 σ H1 Q I h
  refine pe_call (dvs := []) (ds := []) F hr hg m kp b .nil pass1 ha hdb he hpl pins s1 σ H1 Q I ?_
  unfold tCall
  simp only [List.append_nil]
  exact h
theorem Fun.ok1 {x qual : Str} {st : Stmt} {f : Addr} {fd : FuncData} {N ps : List Str} {k : Nat} {sp : Sp} (F : Fun K x qual st f fd) (S : FnScope N ps (defScope st)) (len : ∀ vs H Q E, sp vs H Q E → vs.length = ps.length)
    (hbody : ∀ (cdv : Value) (A : Around) (outer : List Env) (s : Shared) (H : Hp) (vs : List V) (Q : VK) (E : XK), Room k (A.deeper (envOfC qual (defScope st) s.heap.objs.size f cdv)) → sp vs H Q E →
      ∃ t, PSs (cxOf (CX1 P w) P w K mg base N qual (defScope st) f cdv A outer s H E) (defBody st) t ∧ t { nx := fun _ H' => Q .non H', rt := Q } (start N vs) H) : FnOk P w K mg base (CX1 P w) (k + 1) f fd ps sp := by
  obtain ⟨oc, od, kV, doc, pm, an, cdv, ct, osl, rfl, lk, hcd⟩ := F.ex
  exact fn_of lk hcd S len fun A outer s H vs Q E hr hsp => hbody cdv A outer s H vs Q E hr hsp
end
end L2
set_option linter.all false
set_option maxRecDepth 100000
namespace L2
open PySem PySem.Spec PyProof.Rows PySem.Calls
theorem ObjOk.there {P : Program} {w : World} {H : Hp} {h : Heap} {a : Addr} {o : HO} (x : ObjOk P w H h a o) : ∃ ob, h.get? a = some ob := by
  cases o with
  | lst xs => obtain ⟨_, _, _, _, e⟩ := x; exact ⟨_, e⟩
  | tup xs => obtain ⟨_, _, _, p⟩ := x; obtain ⟨o, e, _⟩ := p; exact ⟨_, e⟩
  | dK kvs => obtain ⟨_, _, _, _, o, _, _, e, _⟩ := x; exact ⟨_, e⟩
  | dT kvs => obtain ⟨_, _, _, _, o, _, _, e, _⟩ := x; exact ⟨_, e⟩
  | set S n => obtain ⟨o, _, _, _, e, _⟩ := x; exact ⟨_, e⟩
  | ins C dx fs => obtain ⟨_, _, _, e, _⟩ := x; exact ⟨_, e⟩
  | own y => exact x
  | xd fs => obtain ⟨_, ⟨_, _, _, e, _⟩, _⟩ := x; exact ⟨_, e⟩
  | rng lo hi => obtain ⟨_, _, _, e⟩ := x; exact ⟨_, e⟩
  | frz ob u => obtain ⟨e, _⟩ := x; exact ⟨_, e⟩
  | tbl ps => obtain ⟨_, e, _⟩ := x; exact ⟨_, e⟩
  | met f y => exact ⟨_, show h.get? a = some _ from x⟩
  | ext φ => obtain ⟨_, e, _⟩ := x; exact e
section
variable {P : Program} {w : World} {outer : List Env} {H H' : Hp} {s s' : Shared} {x : Addr} {cls : Value} {B : Heap}
theorem Fly.next {h2 : Heap} (F : Fly P w outer H s x cls B H' s') (fly : Fl B outer x cls .none h2) (up : s'.heap.UpToSlots h2) (hf : ∀ b ∈ frs outer, ∀ o, s.heap.get? b = some o → ∀ vs, o.data ≠ .fields vs) :
    Fly P w outer H s x cls B H' { s' with heap := h2 } :=
  ⟨F.os, F.bare, F.un, F.hok, fly, fun b hb o e => by
    obtain ⟨sl, z⟩ := F.slot b hb o e
    exact (up b _ z (hf b hb o e)).imp fun sl' z' => z', F.frf⟩
theorem Fly.free (F : Fly P w outer H s x cls B H' s') : H' x = none := by
  cases e : H' x with
  | none => rfl
  | some o =>
    obtain ⟨ob, z⟩ := (F.hok x o e).there
    rw [F.fly.new] at z; cases z
theorem Fly.noframe (F : Fly P w outer H s x cls B H' s') : x ∉ frs outer := fun m => by
  obtain ⟨_, o, ho, hd⟩ := F.fly.fr.mem m
  obtain ⟨oe, vs, _, _, _, he, _, _, hv, _⟩ := F.fly.tr
  rw [ho] at he; cases he
  exact hd vs hv
end
abbrev HO.exc (x : Addr) (cls : Value) : HO := .ext fun h => ∃ o, h.get? x = some o ∧ o.cls = cls ∧ o.dict = none ∧ PySem.W.notCls o = true
section
variable {X : Cx} {pins : List (Addr × Obj)} {σ : St} {H H' : Hp} {s s' : Shared} {x : Addr} {cls : Value} {B : Heap}
theorem Inv.landed (I : Inv X pins σ H s) (F : Fly X.prog X.w X.stack H s x cls B H' s') : Inv X pins σ H' s' := by
  have u := F.whole
  have k := F.hok'
  have b := F.bare
  obtain ⟨hh, g, d, t, os'⟩ := s'
  obtain rfl : os' = s.os := F.os
  exact I.call (h' := hh) (g' := g) (d' := d) (t' := t) (ch := []) u k b fun b z => absurd z (by simp)
theorem Inv.track {o : HO} (I : Inv X pins σ H s) (h0 : X.s₀.heap.get? x = none) (hn : H x = none) (hl : x ≠ X.env.locals) (hc : ∀ y c, X.env.cells.lookup y = some c → c ≠ x) (hp : ∀ p ∈ X.pn ++ pins, p.1 ≠ x)
    (new : ObjOk X.prog X.w (upd H x o) s.heap x o) : Inv X pins σ (upd H x o) s := by
  have na : ∀ b u, H b = some u → b ≠ x := fun b u e z => by rw [z, hn] at e; cases e
  have n0 : ∀ b ob, X.s₀.heap.get? b = some ob → b ≠ x := fun b ob e z => by rw [z, h0] at e; cases e
  refine ⟨I.ok, I.os, I.bare, ⟨I.base.keep, I.base.slot, fun b ob e n hx => ?_, I.base.there, fun b xs e => ?_, fun b ob u e => ?_, fun b ps e => ?_⟩, I.loc, I.cell, ?_, fun y c e => ?_, fun p hp' => ?_, fun b u e => ?_, I.len⟩
  · rw [upd_ne (n0 b ob e)]; exact I.base.free b ob e n hx
  · have z := I.base.tups b xs e; rw [upd_ne (na b _ z)]; exact z
  · have z := I.base.frzs b ob u e; rw [upd_ne (na b _ z)]; exact z
  · obtain ⟨m, z⟩ := I.base.tbls b ps e; exact ⟨m, by rw [upd_ne (na b _ z)]; exact z⟩
  · rw [upd_ne (Ne.symm hl)]; exact I.free
  · rw [upd_ne (hc y c e)]; exact I.freeC y c e
  · obtain ⟨z1, z2, z3, z4, z5⟩ := I.pin p hp'
    exact ⟨z1, by rw [upd_ne (hp p hp')]; exact z2, z3, z4, z5⟩
  · by_cases hb : b = x
    · subst hb; rw [upd_same] at e; cases e; exact new
    · rw [upd_ne hb] at e
      exact (I.hok b u e).stay (fun _ _ _ q => q) (fun c ob v q => by rw [upd_ne (na c _ q)]; exact q) (fun c q => by rw [upd_ne (na c _ q)]; exact q) fun c xs q => by rw [upd_ne (na c _ q)]; exact q
theorem Inv.caught (I : Inv X pins σ H s) (F : Fly X.prog X.w X.stack H s x cls B H' s') (hex : X.ex = []) (hst : X.stack = X.env :: X.outer) (hfr : X.env.frame = some X.env.locals) : Inv X pins σ (upd H' x (HO.exc x cls)) s' := by
  have I' := I.landed F
  have nB : B.get? x = none := F.fly.new
  have nf := F.noframe
  have hl : x ≠ X.env.locals := fun z => nf (by rw [hst, z]; unfold frs; rw [List.filterMap_cons, hfr]; exact List.mem_cons_self ..)
  obtain ⟨oe, vs, _, _, _, he, hcl, hdi, hd, _⟩ := F.fly.tr
  have hno : PySem.W.notCls oe = true := by unfold PySem.W.notCls; rw [hd]
  have inB : ∀ b o, s.heap.get? b = some o → H b = none → b ∉ frs X.stack → b ≠ x := fun b o e n hb z => by
    have := F.un.keep b o (PySem.W.hideAll_get _ e hb) n (by simp) (by simp)
    rw [z, nB] at this; cases this
  refine I'.track ?_ F.free hl (fun y c e z => ?_) (fun p hp z => ?_) ⟨⟨oe, he, hcl, hdi, hno⟩, ⟨oe, he⟩, fun h1 h2 ⟨o, e1, e2⟩ k => ⟨o, k o e1, e2⟩⟩
  · cases e : X.s₀.heap.get? x with
    | none => rfl
    | some o =>
      have hb : x ∉ frs X.outer := fun m => nf (by rw [hst]; exact mem_stack m)
      obtain ⟨o1, e1⟩ := (I.hideUn hex).there x o (PySem.W.hideAll_get _ e hb) (by simp)
      obtain ⟨o2, e2⟩ := F.un.there x o1 e1 (by simp)
      rw [nB] at e2; cases e2
  · obtain ⟨v, o, ho, hdc⟩ := I'.cell y c e
    rw [z, he] at ho; cases ho
    rw [hd] at hdc; cases hdc
  · obtain ⟨z1, z2, z3, z4, z5⟩ := I.pin p hp
    refine inB p.1 p.2 z1 z2 (fun m => ?_) z
    rcases List.mem_cons.mp (I.stkSub _ m) with g | g
    · exact z3 g
    · exact z4 g
abbrev Cx.held (X : Cx) (e : Value) : Cx := { X with A := X.A.mark (some e), calm := false, xe := fun _ _ => False }
theorem Inv.held (I : Inv X pins σ H s) (e : Value) : Inv (X.held e) pins σ H s :=
  ⟨⟨I.ok.mod, I.ok.kind, I.ok.glob, I.ok.blt, I.ok.above, I.ok.inj, I.ok.has, I.ok.cab, fun z => (by cases z), I.ok.frames, I.ok.stk, I.ok.exf, I.ok.bs, I.ok.bsz, I.ok.noex, I.ok.exfs, I.ok.funs, I.ok.frf⟩, I.os, I.bare, I.base, I.loc, I.cell, I.free, I.freeC, I.pin, I.hok, I.len⟩
theorem Inv.unheld {e : Value} (ok : X.Ok) (I : Inv (X.held e) pins σ H s) : Inv X pins σ H s := ⟨ok, I.os, I.bare, I.base, I.loc, I.cell, I.free, I.freeC, I.pin, I.hok, I.len⟩
end
end L2
set_option linter.all false
set_option maxRecDepth 100000
namespace PySem.W
open PySem PySem.Spec PySem.Calls PyProof.Rows
def ExcAt (x D : Addr) (h : Heap) : Prop := ∃ o, h.get? x = some o ∧ o.cls = .ref D ∧ o.dict = none ∧ notCls o = true
theorem ExcAt.inst {x D : Addr} {h : Heap} (e : ExcAt x D h) : ∃ o, InstAt h x o D none := by
  obtain ⟨o, h1, h2, h3, h4⟩ := e
  exact ⟨o, h1, h2, h4, by rw [h3]; trivial⟩
section
variable {K : Frag} {x D : Addr} {prog : Program} {w : World} {A : Around} {E : Value → Shared → Prop} {s : Shared} {ox : Obj}
theorem exc_check {nm : Value} {Q : Unit → Shared → Prop} (X : K.In s.heap) (I : InstAt s.heap x ox D none) (hb : subIn K (.ref D) (.type "BaseException") = some true) (k : Q () s) :
    wpAny (model prog w) A (checkBuiltinCall "BaseException.__getattribute__" ⟨[.ref x, nm], []⟩) Q E s := by
  have L0 := I.type (M := model prog w)
  have L4 := looks_subIn (M := model prog w) X hb
  have k1 : builtinKind "BaseException.__getattribute__" = some .slot := by decide +kernel
  have k2 : splitId "BaseException.__getattribute__" = some ("BaseException", "__getattribute__") := by decide +kernel
  have ha := F.args_bexc_ga (.ref x) nm
  simp only [checkBuiltinCall, k1, k2]
  refine wpAny_bind ?_
  unfold isInstance
  repeat (first | with_reducible refine L0.at ?_ | with_reducible refine L4.at ?_ | wp_step)
  exact k
theorem exc_find {tk : Tok} {Q : Fin → Shared → Prop} (X : K.In s.heap) (I : InstAt s.heap x ox D none)
    (hf : findObj K D none "__class__" = some (.bind (.builtin "getset_descriptor.__get__") (.builtin "object.__class__"))) (hm : mroIn K D (.type "object") = some true) (k : Q (.done (.ret (.ref D))) s) :
    wpAny (model prog w) A (Builtin.«object.__getattribute__» ⟨[.ref x, .str "__class__" tk], []⟩) Q E s := by
  have L0 := I.type (M := model prog w)
  have L3 := looks_find (M := model prog w) X I hf
  unfold Builtin.«object.__getattribute__»
  refine wpAny_bind (wpAny_pure ?_)
  refine wpAny_bind (wpAny_pure ?_)
  refine wpAny_bind (L0.at (wpAny_bind (L3.at ?_)))
  show wpAny _ _ (holding [.builtin "object.__class__"] (call (.builtin "getset_descriptor.__get__") [.builtin "object.__class__", .ref x, .ref D]) >>= ret) _ _ _
  exact wpAny_bind (wpAny_holding (wpAny_call (class_get (ox := ox) (od := none) X I hm (wpAny_pure k))))
theorem exc_class {Q : Option Value → Shared → Prop} (X : K.In s.heap) (I : InstAt s.heap x ox D none)
    (hga : findIn K (.ref D) "__getattribute__" = some (some (.builtin "BaseException.__getattribute__"))) (hgr : findIn K (.ref D) "__getattr__" = some none) (hb : subIn K (.ref D) (.type "BaseException") = some true)
    (hf : findObj K D none "__class__" = some (.bind (.builtin "getset_descriptor.__get__") (.builtin "object.__class__"))) (hm : mroIn K D (.type "object") = some true)
    (k : Q (some (.ref D)) { s with toks := s.toks + 1 }) : wpAny (model prog w) A (getAttr? (.ref x) "__class__") Q E s := by
  obtain ⟨hh, g, d, t, os⟩ := s
  have L0 := I.type (M := model prog w)
  have L1 := looks_findIn (M := model prog w) X hga
  have L2 := looks_findIn (M := model prog w) X hgr
  have fb := F.excAttr_ValueError.ga.bind (.ref x)
  have ne : (Value.builtin "BaseException.__getattribute__" == Value.builtin "object.__getattribute__") = false := by decide +kernel
  have hx1 : (onTheHeap (Value.ref D) && Value.builtin "BaseException.__getattribute__" == Value.builtin "object.__getattribute__") = false := by rw [ne]; rfl
  unfold getAttr? getAttrBy? getAttrBy
  refine wpAny_bind (wpAny_mkText (wpAny_bind (wpAny_attempt (wpAny_holding (wpAny_bind (L0.at (wpAny_bind (L1.at ?_))))))))
  simp only [hx1, Bool.false_eq_true, if_false]
  unfold getAttrByItsOwn hookBefore
  refine wpAny_bind ?_
  show wpAny _ _ (typeLookup (.ref D) "__getattr__") _ _ _
  refine L2.at ?_
  refine wpAny_bind (wpAny_attempt (wpAny_holding ?_))
  show wpAny _ _ (boundAndCalled (.builtin "BaseException.__getattribute__") (.ref x) (.str "__class__" t)) _ _ _
  unfold boundAndCalled
  rw [fb]
  refine wpAny_bind (wpAny_pure ?_)
  show wpAny _ _ (call (.builtin "BaseException.__getattribute__") [.ref x, .str "__class__" t]) _ _ _
  refine wpAny_call (codeAny_call_builtin F.excAttr_ValueError.ga.plain F.entry_bexc_ga (exc_check X I hb (exc_find X I hf hm ?_)))
  exact handed_on rfl (wpAny_pure k)
end
theorem kitx_exc {K : Frag} {x D : Addr} (hga : findIn K (.ref D) "__getattribute__" = some (some (.builtin "BaseException.__getattribute__"))) (hgr : findIn K (.ref D) "__getattr__" = some none) (hb : subIn K (.ref D) (.type "BaseException") = some true) (hc : (clsIn K D).isSome = true) (ha : findIn K (.ref D) "__class__" = some (some (.builtin "object.__class__")))
    (hn : specialIn K (.builtin "object.__class__") "__get__" = some (some (.builtin "getset_descriptor.__get__"))) (htk : takesIn K (.builtin "object.__class__") = some true) (hm : mroIn K D (.type "object") = some true) :
    KitX K (.ref x) (.ref D) (ExcAt x D) where
  ty := fun _ _ _ e => let ⟨_, I⟩ := e.inst; I.type
  it := fun _ _ X _ => by
    obtain ⟨cd, hcd⟩ := Option.isSome_iff_exists.mp hc
    unfold clsIn at hcd
    split at hcd
    · rename_i c' d' cd' sl' ho
      intro A' Q' E' s' k q
      unfold isType loadHead
      exact wpAny_bind (wpAny_loadPart (k _ _ (X _ _ ho)) (wpAny_pure q))
    · cases hcd
  ne := fun h tp dd its n sl X htp => by
    obtain ⟨cd, hcd⟩ := Option.isSome_iff_exists.mp hc
    refine Bool.eq_false_iff.mpr fun q => ?_
    have e : D = tp := Value.ref.inj (beq_iff_eq.mp q)
    subst e
    unfold clsIn at hcd
    split at hcd
    · rename_i c' d' cd' sl' ho
      cases (X _ _ ho).symm.trans htp
    · cases hcd
  ca := fun {prog w A E Q s} X e k => by
    obtain ⟨ox, I⟩ := e.inst
    have hf : findObj K D none "__class__" = some (.bind (.builtin "getset_descriptor.__get__") (.builtin "object.__class__")) := by
      obtain ⟨cd, hcd⟩ := Option.isSome_iff_exists.mp hc
      unfold findObj
      rw [hcd, Option.bind_some, ha, Option.bind_some]
      simp [hn, htk]
    exact exc_class X I hga hgr hb hf hm k
end PySem.W
namespace L2
open PySem PySem.Spec PyProof.Rows PySem.Calls
structure ExcCls (K : PySem.W.Frag) (D : Addr) : Prop where
  hga : PySem.W.findIn K (.ref D) "__getattribute__" = some (some (.builtin "BaseException.__getattribute__"))
  hgr : PySem.W.findIn K (.ref D) "__getattr__" = some none
  hb : PySem.W.subIn K (.ref D) (.type "BaseException") = some true
  hc : (PySem.W.clsIn K D).isSome = true
  ha : PySem.W.findIn K (.ref D) "__class__" = some (some (.builtin "object.__class__"))
  hn : PySem.W.specialIn K (.builtin "object.__class__") "__get__" = some (some (.builtin "getset_descriptor.__get__"))
  htk : PySem.W.takesIn K (.builtin "object.__class__") = some true
  hm : PySem.W.mroIn K D (.type "object") = some true
section
variable {X : Cx}
theorem call_isExc : CallR X (.builtin "isinstance") (fun xs H Q => ∃ x D C b, xs = [.ref x, .ref C] ∧ H x = some (HO.exc x (.ref D)) ∧ ExcCls X.K D ∧ PySem.W.kitOne X.K (.ref D) (.ref C) = some b ∧ Q (.bl b) H) := by
  intro pins s σ H xs us Q I rv h
  obtain ⟨x, D, C, b, rfl, hx, c, e, q⟩ := h
  obtain ⟨u, u', rfl, rx, rt⟩ := vals2 rv
  cases rt
  cases (show u = Value.ref x from rx)
  obtain ⟨p, _, _⟩ := (show ObjOk X.prog X.w H s.heap x (HO.exc x (.ref D)) from I.hok x _ hx)
  exact PySem.W.kia_one (PySem.W.kitx_exc c.hga c.hgr c.hb c.hc c.ha c.hn c.htk c.hm) I.kIn p e (fun z => nomatch z) fun tk => ⟨.bl b, H, I.tok tk, rfl, q⟩
theorem call_isExcT : CallR X (.builtin "isinstance") (fun xs H Q => ∃ x D T b, xs = [.ref x, .ty T] ∧ H x = some (HO.exc x (.ref D)) ∧ ExcCls X.K D ∧ PySem.W.kitOne X.K (.ref D) (.type T) = some b ∧ Q (.bl b) H) := by
  intro pins s σ H xs us Q I rv h
  obtain ⟨x, D, T, b, rfl, hx, c, e, q⟩ := h
  obtain ⟨u, u', rfl, rx, rt⟩ := vals2 rv
  cases rt
  cases (show u = Value.ref x from rx)
  obtain ⟨p, _, _⟩ := (show ObjOk X.prog X.w H s.heap x (HO.exc x (.ref D)) from I.hok x _ hx)
  exact PySem.W.kia_one (PySem.W.kitx_exc c.hga c.hgr c.hb c.hc c.ha c.hn c.htk c.hm) I.kIn p e (fun z => nomatch z) fun tk => ⟨.bl b, H, I.tok tk, rfl, q⟩
end
end L2
set_option linter.all false
set_option maxRecDepth 100000
namespace L2
open PySem PySem.Spec PyProof.Rows PySem.Calls
structure RoomH (k : Nat) (A : Around) : Prop where
  dp : A.depth + 3 * k + 5 < recursionLimit
  un : A.units + 16 * k + 200 < cLine
theorem Room.held {k : Nat} {A : Around} (r : Room k A) (e : Value) : RoomH k (A.mark (some e)) := ⟨r.dp, r.un⟩
abbrev cxH (P : Program) (w : World) (K : PySem.W.Frag) (mg : Str → Option Value) (base : Heap) (N : List Str) (qual : Str) (scope : Scope) (f : Addr) (cd : Value) (A : Around) (outer : List Env) (s : Shared) (H : Hp) : Cx :=
  { cxOf CX0 P w K mg base N qual scope f cd A outer s H E0 with calm := false, xe := fun _ _ => False }
structure FnH (P : Program) (w : World) (K : PySem.W.Frag) (mg : Str → Option Value) (base : Heap) (k : Nat) (f : Addr) (fd : FuncData) (ps : List Str) (sp : Sp) : Prop where
  len : ∀ vs H Q, sp vs H Q E0 → vs.length = ps.length
  run : ∀ (A : Around) (outer : List Env) (s : Shared) (H : Hp) (args : Args) (us : List Value) (vs : List V) (Q : VK), RoomH k A → Env0 P w K mg base A outer s H → BindsTo s fd args (ps.zip us) → Vals vs us → sp vs H Q E0 →
    codeAny (model P w) A (.call (.ref f) args) (CR CX0 outer P w H s Q E0) s
section
variable {P : Program} {w : World} {K : PySem.W.Frag} {mg : Str → Option Value} {base : Heap}
theorem Fun.okH {x qual : Str} {st : Stmt} {f : Addr} {fd : FuncData} {N ps : List Str} {k : Nat} {sp : Sp} (F : Fun K x qual st f fd) (S : FnScope N ps (defScope st)) (len : ∀ vs H Q, sp vs H Q E0 → vs.length = ps.length)
    (hbody : ∀ (cdv : Value) (A : Around) (outer : List Env) (s : Shared) (H : Hp) (vs : List V) (Q : VK), (A.deeper (envOfC qual (defScope st) s.heap.objs.size f cdv)).units + 64 < cLine → sp vs H Q E0 →
      ∃ t, PSs (cxH P w K mg base N qual (defScope st) f cdv A outer s H) (defBody st) t ∧ t { nx := fun _ H' => Q .non H', rt := Q } (start N vs) H) : FnH P w K mg base (k + 1) f fd ps sp := by
  obtain ⟨oc, od, kV, doc, pm, an, cdv, ct, osl, rfl, lk, hcd⟩ := F.ex
  refine ⟨len, fun A outer s H args us vs Q hr e0 hb r hsp => ?_⟩
  have hl := len _ _ _ hsp
  have KX : K.In s.heap := e0.mod.kin.keeps fun b o e => (e0.bs b o e).1
  have lim : s.heap.NoLimit := e0.mod.nolimit.keeps fun b o e => (e0.bs b o e).1
  have hkind : ∀ y ∈ ps.zip us, (defScope st).names.lookup y.1 = some .local ∨ ((defScope st).names.lookup y.1 = some .cell ∧ ((cellsFrom (s.heap.objs.size + 1) (defScope st).names []).lookup y.1).isSome = true) := fun ⟨n, v⟩ hy => by
    rcases S.par n (List.of_mem_zip hy).1 with q | q
    · exact .inl q
    · exact .inr ⟨q, PySem.W.cellsFrom_some _ _ _ (.inl q)⟩
  refine codeAny_call_function (by have := hr.dp; omega) (KX _ _ lk) rfl S.co S.gen rfl (PySem.W.codeRec_of KX hcd) (hb _ _ _ _ ?_)
  refine wpAny_newFunctionEnv_cells S.kind hkind fun env he s1 x => ?_
  subst he
  refine ⟨lim.keeps x.toInCall.keep, codeAny_func ?_⟩
  obtain ⟨t, ht, hq⟩ := hbody cdv A outer s H vs Q (by show A.units + 3 + 64 < cLine; have := hr.un; omega) hsp
  have e1 : Env0 P w K mg base { A with handled := none } outer s H := ⟨e0.frames, e0.mod, e0.bs, e0.bsz, e0.funs, e0.frf, e0.hok, e0.bare⟩
  have I0 : Inv (cxOf CX0 P w K mg base N qual (defScope st) f cdv { A with handled := none } outer s H E0) [] (start N vs) H s1 := inv_start S rfl e1 hl r x
  have I : Inv (cxH P w K mg base N qual (defScope st) f cdv A outer s H) [] (start N vs) H s1 :=
    ⟨⟨I0.ok.mod, I0.ok.kind, I0.ok.glob, I0.ok.blt, I0.ok.above, I0.ok.inj, I0.ok.has, I0.ok.cab, fun z => (by cases z), Around.frames_deeper e0.frames, I0.ok.stk, I0.ok.exf, I0.ok.bs, I0.ok.bsz, I0.ok.noex, I0.ok.exfs, I0.ok.funs, I0.ok.frf⟩, I0.os, I0.bare, I0.base, I0.loc, I0.cell, I0.free, I0.freeC, I0.pin, I0.hok, I0.len⟩
  refine wpAny_mono (ht [] s1 (start N vs) H _ I hq) (fun fl s' hs => ?_) fun e s' hs => False.elim hs
  have fin : ∀ {σ' : St} {H' : Hp} {v : V} {u : Value}, Inv (cxH P w K mg base N qual (defScope st) f cdv A outer s H) [] σ' H' s' → RelV v u → Q v H' → CE outer P w H s Q u s' :=
    fun {σ' H' v u} J rv q => ⟨v, H', J.os, J.bare, J.base, J.hok, rv, q⟩
  cases fl with
  | ret u => obtain ⟨v, σ', H', J, rv, q⟩ := hs; exact fin J rv q
  | next => obtain ⟨σ', H', J, q⟩ := hs; exact fin (v := V.non) (u := Value.none) J rfl q
  | brk => obtain ⟨_, _, _, q⟩ := hs; exact False.elim q
  | cont => obtain ⟨_, _, _, q⟩ := hs; exact False.elim q
def CalH (P : Program) (w : World) (K : PySem.W.Frag) (mg : Str → Option Value) (base : Heap) (k : Nat) (x : Str) (sp : Sp) : Prop :=
  ∃ f fd ps, FnH P w K mg base k f fd ps sp ∧ Binds K fd ps [] ∧ PySem.W.keepIn K (.ref f) = true ∧ mg x = some (.ref f)
theorem pe_cH {X : Cx} {k : Nat} {x : Str} {sp : Sp} {p pos : Pos} {e : Expr} {es : List Expr} {t : TA} (C : CalH X.prog X.w X.K X.mg X.base k x sp) (hr : RoomH k X.A) (hg : Gl X x) (ha : PA X (e :: es) t) (hdb : (x == ("__debug__" : Str)) = false := by decide)
    (he : starEach (e :: es) X.env = (false, eval e X.env) :: starEach es X.env := by rfl) (hpl : (backTo pos (starEach es X.env)).any (·.1) = false := by rfl) : PE X (.Call (.Name x p) (e :: es) [] pos) (tCl sp t) := by
  obtain ⟨f, fd, ps, F, hb, hk, hm⟩ := C
  intro pins s σ H Q I h
  refine wpAny_Call_Name_kw (ld_glob I hg hm ?_ hdb)
  refine PySem.W.callWith_K (h₀ := X.base) I.ok.mod.kin hk (thn (ha pos pins s σ H _ I h) fun us s1 ⟨vs, H1, I1, r, q⟩ => ⟨I1.kIn, ?_⟩) he hpl
  have hl : us.length = ps.length := by rw [← r.length]; exact F.len _ _ _ q
  have hb' := hb s1 us I1.kIn (by rw [List.append_nil]; exact hl)
  rw [List.append_nil] at hb'
  refine wpAny_call (codeAny_mono (F.run X.A X.stack s1 H1 ⟨us, []⟩ us vs Q hr I1.env0 hb' r q) fun r s' hq => ?_)
  cases r with
  | error e => exact False.elim hq
  | ok fl =>
    cases fl with
    | ret u => exact I1.after hq
    | next => exact False.elim hq
    | brk => exact False.elim hq
    | cont => exact False.elim hq
end
end L2
set_option linter.all false
set_option maxRecDepth 100000
namespace PySem.W
open PySem PySem.Spec PySem.Calls PyProof.Rows
theorem exc_match {K : Frag} {prog : Program} {w : World} {A : Around} {E : Value → Shared → Prop} {s : Shared} {x D C : Addr} {b : Bool} {Q : Bool → Shared → Prop} (X : K.In s.heap) (e : ExcAt x D s.heap)
    (hk : kitCls K (.ref C) (.ref C) ≠ none) (hb : subIn K (.ref C) (.type "BaseException") = some true) (hs : kitCls K (.ref D) (.ref C) = some b) (h : Q b s) : wpAny (model prog w) A (excMatches (.ref x) (.ref C)) Q E s := by
  obtain ⟨ox, I⟩ := e.inst
  have L0 := I.type (M := model prog w)
  obtain ⟨L1, L2, L3⟩ := kit_cls (M := model prog w) X hs
  have L4 := looks_subIn (M := model prog w) X hb
  have f := tc_notTuple
  unfold excMatches isInstance isExcClass
  refine wpAny_bind (wpAny_bind (L1.at ?_))
  rw [f]
  refine wpAny_pure ?_
  simp only [Bool.false_eq_true, if_false]
  refine wpAny_bind (wpAny_pure ?_)
  cases b <;> repeat (first | with_reducible exact h | with_reducible refine L2.at ?_ | with_reducible refine L4.at ?_ | with_reducible refine L0.at ?_ | with_reducible refine L3.at ?_ | wp_step)
end PySem.W
set_option linter.all false
set_option maxRecDepth 100000
namespace L2
open PySem PySem.Spec PyProof.Rows PySem.Calls
section
variable {X : Cx} {pins : List (Addr × Obj)} {σ : St} {H : Hp} {s : Shared}
theorem unbind_ok {M : Model} {A : Around} {E : Value → Shared → Prop} {i : Nat} {x : Str} {v : V} {Q : Unit → Shared → Prop} (I : Inv X pins σ H s) (hN : X.N.Nodup) (hi : X.N[i]? = some x) (hk : X.env.scope.names.lookup x = some .local) (hσ : σ[i]? = some (some v))
    (h : ∀ s', Inv X pins (σ.set i none) H s' → Q () s') : wpAny M A (unbindName X.env x) Q E s := by
  obtain ⟨m, hn, hl⟩ := id I.loc
  have hcls : (X.env.scope.kind == .class || (X.env.scope.kind == .module && X.env.locals != X.env.globals)) = false := by rw [I.ok.kind]; rfl
  have hiσ : i < σ.length := by rw [I.len]; exact (List.getElem?_eq_some_iff.mp hi).1
  obtain ⟨u0, _, look⟩ := hl i x v hi hσ (.inl hk)
  have hv : m x = some u0 := by
    rcases look with ⟨_, z⟩ | ⟨k, _⟩
    · exact z
    · rcases k with k | k
      · rw [show X.env.kindOf x = some .local from hk] at k; cases k
      · rw [show X.env.kindOf x = some .local from hk] at k; cases k
  have nL : ∀ b o, X.s₀.heap.get? b = some o → b ≠ X.env.locals := fun b o e => Nat.ne_of_lt (Nat.lt_of_lt_of_le (Heap.lt_size e) I.ok.above)
  refine wpAny_unbindName_local hk hn hv hcls fun h' u hn' hs => ?_
  refine h _ ⟨I.ok, I.os, I.bare, ⟨fun b o e n hb hx => (hs.2 b (nL b o e)).trans (I.base.keep b o e n hb hx), fun b o e n hb hx => ?_, I.base.free, fun b o e hx => ?_, I.base.tups, I.base.frzs, I.base.tbls⟩, ⟨_, hn', fun j y v' e1 e2 e3 => ?_⟩, fun y c e => ?_, I.free, I.freeC, fun p hp => ?_, fun b ob e => ?_, by simpa using I.len⟩
  · obtain ⟨sl, e1⟩ := I.base.slot b o e n hb hx
    exact ⟨sl, (hs.2 b (nL b o e)).trans e1⟩
  · obtain ⟨o', e1⟩ := I.base.there b o e hx
    exact ⟨o', (hs.2 b (nL b o e)).trans e1⟩
  · by_cases hj : j = i
    · subst hj
      rw [List.getElem?_set_self hiσ] at e2
      cases e2
    · rw [List.getElem?_set_ne (Ne.symm hj)] at e2
      obtain ⟨u', r', q⟩ := hl j y v' e1 e2 e3
      refine ⟨u', r', ?_⟩
      rcases q with ⟨k, e⟩ | ⟨k, c, e, z⟩
      · refine .inl ⟨k, ?_⟩
        have : y ≠ x := fun e => hj (nodup_ix hN e1 (e ▸ hi))
        simp [this, e]
      · exact .inr ⟨k, c, e, z.sameBut hs (I.cne y c e)⟩
  · obtain ⟨w', z⟩ := I.cell y c e
    exact ⟨w', z.sameBut hs (I.cne y c e)⟩
  · obtain ⟨e, n, ne, nf, d⟩ := I.pin p hp
    exact ⟨(hs.2 p.1 ne).trans e, n, ne, nf, d⟩
  · refine (I.hok b ob e).stay (fun c w' hc q => (hs.2 c ?_).trans q) (fun _ _ _ q => q) (fun _ q => q) fun _ _ q => q
    rintro rfl
    rcases hc with rfl | hc
    · have z := I.free; rw [e] at z; cases z
    · have z := I.free; rw [hc] at z; cases z
end
end L2
set_option linter.all false
set_option maxRecDepth 100000
namespace L2
open PySem PySem.Spec PyProof.Rows PySem.Calls
section
variable {X : Cx} {pins : List (Addr × Obj)} {σ : St} {H H' : Hp} {s s' : Shared} {x D C0 : Addr} {B : Heap} {c n : Str} {np hp : Pos} {i : Nat} {b₀ : Stmt} {suite : List Stmt} {D' : Ends} {ts : TS}
theorem try_land (I : Inv X pins σ H s) (F : Fly X.prog X.w X.stack H s x (.ref D) B H' s') (hex : X.ex = []) (hst : X.stack = X.env :: X.outer) (hfr : X.env.frame = some X.env.locals)
    (hg : Gl X c) (hm : X.mg c = some (.ref C0)) (hb : PySem.W.subIn X.K (.ref C0) (.type "BaseException") = some true) (hk0 : PySem.W.kitCls X.K (.ref C0) (.ref C0) ≠ none) (hs : PySem.W.kitCls X.K (.ref D) (.ref C0) = some true) (hd : (c == ("__debug__" : Str)) = false)
    (hN : X.N.Nodup) (hi : X.N[i]? = some n) (hk : X.env.scope.names.lookup n = some .local) (hsu : PSs (X.held (.ref x)) (b₀ :: suite) ts)
    (ht : ts { nx := fun _ _ => False, rt := D'.rt } (σ.set i (some (.ref x))) (upd H' x (HO.exc x (.ref D)))) :
    wpAny (model X.prog X.w) X.A (noteFrame (.ref x) X.env) (fun _ s₂ => wpAny (model X.prog X.w) X.A (setFlight (.ref x) none) (fun _ s₃ =>
      wpAny (model X.prog X.w) X.A (handleBy (.ref x) X.env [.ExceptHandler (some (.Name c np)) (some n) (b₀ :: suite) hp]) (SP X pins D') X.xe s₃) X.xe s₂) X.xe s' := by
  have hfn : ∀ b ∈ frs X.stack, ∀ o, s.heap.get? b = some o → ∀ vs, o.data ≠ .fields vs := fun b hb o e => by
    obtain ⟨_, o', e', z⟩ := I.stack.mem hb
    rw [e] at e'; cases e'; exact z
  have fr : X.A.frames = some (X.env :: X.outer) := by rw [I.ok.frames, hst]
  have F0 : Fl B (X.env :: X.outer) x (.ref D) .none s'.heap := by rw [← hst]; exact F.fly
  refine fl_note fr hfr F0 fun h1 F1 u1 => ?_
  refine fl_land F1 fun h2 F2 u2 => ?_
  have Fn := F.next (h2 := h2) (by rw [hst]; exact F2) (up_trans u1 u2) hfn
  have Ic := I.caught Fn hex hst hfr
  obtain ⟨p, _, _⟩ := (show ObjOk X.prog X.w (upd H' x (HO.exc x (.ref D))) h2 x (HO.exc x (.ref D)) from Ic.hok x _ upd_same)
  refine wpAny_handleBy_cons (codeAny_handlers_test ?_) (by intro q; cases q)
  refine wpAny_mono (ld_glob (Q := fun c' s₁ => c' = .ref C0 ∧ s₁ = { s' with heap := h2 }) (Ic.held (.ref x)) hg hm ⟨rfl, rfl⟩ hd) (fun c' s₁ z => ?_) fun _ _ z => False.elim z
  obtain ⟨rfl, rfl⟩ := z
  refine PySem.W.exc_match (b := true) Ic.kIn p hk0 hb hs ?_
  refine codeAny_handlers_suite_as ?_
  refine fl_land F2 fun h3 F3 u3 => ?_
  have Fm := Fn.next (h2 := h3) (by rw [hst]; exact F3) u3 hfn
  have Im := I.caught Fm hex hst hfr
  refine store_ok Im hN hi (.inl hk) (v := .ref x) rfl (fun s4 I4 => ?_) (.inr hk)
  refine wpAny_mono (hsu pins s4 _ _ _ (I4.held _) ht) (fun f s5 z => ?_) fun _ _ z => False.elim z
  cases f with
  | next => obtain ⟨_, _, _, q⟩ := z; exact q.elim
  | brk => obtain ⟨_, _, _, q⟩ := z; exact q.elim
  | cont => obtain ⟨_, _, _, q⟩ := z; exact q.elim
  | ret u =>
    obtain ⟨v, σ', H2, I5, r, q⟩ := z
    have J := I5.unheld I.ok
    refine wpAny_bind (wpAny_bindName (store_ok J hN hi (.inl hk) (v := .non) rfl (fun s6 I6 => ?_) (.inr hk)))
    unfold unbindBehindTheSuite
    refine wpAny_onRaise (unbind_ok I6 hN hi hk (v := .non) ?_ fun s7 I7 => ?_)
    · rw [List.getElem?_set_self (by rw [J.len]; exact (List.getElem?_eq_some_iff.mp hi).1)]
    · exact ⟨v, _, H2, I7, r, q⟩
end
end L2
set_option linter.all false
set_option maxRecDepth 100000
namespace L2
open PySem PySem.Spec PyProof.Rows PySem.Calls
def CalV (P : Program) (w : World) (K : PySem.W.Frag) (mg : Str → Option Value) (base : Heap) (k : Nat) (fa : Addr) (sp : Sp) : Prop :=
  ∃ fd ps, FnOk P w K mg base (CX1 P w) k fa fd ps sp ∧ Binds K fd ps [] ∧ PySem.W.keepIn K (.ref fa) = true
def xSuite (K : PySem.W.Frag) (C0 : Addr) (j : Nat) (ts : TS) (D : Ends) (σ : St) : XK := fun cls _ H2 => ∃ D0, cls = .ref D0 ∧ PySem.W.kitCls K (.ref D0) (.ref C0) = some true ∧ ∀ x, H2 x = none → ts { nx := fun _ _ => False, rt := D.rt } (σ.set j (some (.ref x))) (upd H2 x (HO.exc x (.ref D0)))
end L2
set_option linter.all false
set_option maxRecDepth 100000
namespace L2
open PySem PySem.Spec PyProof.Rows PySem.Calls
structure AskV (P : Program) (w : World) (K : PySem.W.Frag) (mg : Str → Option Value) (base : Heap) (k : Nat) (fa : Addr) (sp : Sp) (H : Hp) : Prop where
  head : PySem.W.keepIn K (.ref fa) = true ∨ ∃ oc od fd sl, H fa = some (.ext fun h => h.get? fa = some ⟨oc, od, .func fd, sl⟩)
  run : ∀ (A : Around) (outer : List Env) (s : Shared) (H' : Hp) (us : List Value) (vs : List V) (Q : VK) (E : XK), Same H H' → Room k A → Env0 P w K mg base A outer s H' → Vals vs us → sp vs H' Q E →
    codeAny (model P w) A (.call (.ref fa) ⟨us, []⟩) (CR (CX1 P w) outer P w H' s Q E) s
section
variable {P : Program} {w : World} {K : PySem.W.Frag} {mg : Str → Option Value} {base : Heap} {k : Nat} {fa : Addr} {sp : Sp} {H H' : Hp}
theorem AskV.same (a : AskV P w K mg base k fa sp H) (e : Same H H') : AskV P w K mg base k fa sp H' :=
  ⟨a.head.imp id fun ⟨oc, od, fd, sl, h⟩ => ⟨oc, od, fd, sl, e _ _ h⟩, fun A outer s H2 us vs Q E e2 => a.run A outer s H2 us vs Q E (e.trans e2)⟩
theorem AskV.of (c : CalV P w K mg base k fa sp) : AskV P w K mg base k fa sp H := by
  obtain ⟨fd, ps, F, hbd, hkp⟩ := c
  refine ⟨.inl hkp, fun A outer s H2 us vs Q E _ hr e0 r q => ?_⟩
  have KX : K.In s.heap := e0.mod.kin.keeps fun b o e => (e0.bs b o e).1
  have hl : us.length = ps.length := by rw [← r.length]; exact F.len _ _ _ _ q
  have hb' := hbd s us KX (by rw [List.append_nil]; exact hl)
  rw [List.append_nil] at hb'
  exact F.run A outer s H2 ⟨us, []⟩ us vs Q E hr e0 hb' r q
theorem AskV.lam {N : List Str} {q : Str} {params : Arguments} {body : Expr} {scope : Scope} {c : Addr} (L : LamAt H fa q params body scope [] c) (S : FnScope N N scope)
    (hbind : ∀ (pm cdv ct : Value) (us : List Value), us.length = N.length → bindArgs (PySem.W.kla_fn "<lambda>" q params body scope [] pm cdv ct) ⟨us, []⟩ = pure (N.zip us)) (len : ∀ vs H Q E, sp vs H Q E → vs.length = N.length)
    (hbody : ∀ (A : Around) (outer : List Env) (s : Shared) (H : Hp) (vs : List V) (Q : VK) (E : XK), Room k (A.deeper (envOfC q scope s.heap.objs.size fa (.ref c))) → sp vs H Q E →
      ∃ t, PE (cxOf (CX1 P w) P w K mg base N q scope fa (.ref c) A outer s H E) body t ∧ t (start N vs) H Q) : AskV P w K mg base (k + 1) fa sp H := by
  obtain ⟨pm, ct, oc, vs0, t0, h1, h2, h3, h4⟩ := L
  refine ⟨.inr ⟨_, _, _, _, h1⟩, fun A outer s H2 us vs Q E e hr e0 r hsp => ?_⟩
  have hl := len _ _ _ _ hsp
  have lim : s.heap.NoLimit := e0.mod.nolimit.keeps fun b o e => (e0.bs b o e).1
  obtain ⟨ho, _⟩ := e0.hok fa _ (e _ _ h1)
  obtain ⟨hoc, _⟩ := e0.hok c _ (e _ _ h2)
  have hkind : ∀ y ∈ N.zip us, scope.names.lookup y.1 = some .local ∨ (scope.names.lookup y.1 = some .cell ∧ ((cellsFrom (s.heap.objs.size + 1) scope.names []).lookup y.1).isSome = true) := fun ⟨n, v⟩ hy => by
    rcases S.par n (List.of_mem_zip hy).1 with q | q
    · exact .inl q
    · exact .inr ⟨q, PySem.W.cellsFrom_some _ _ _ (.inl q)⟩
  refine PySem.W.kla_callFunE hr.depth ho rfl S.co S.gen rfl ⟨c, oc, vs0, t0, rfl, hoc, h3, h4⟩ ?_
  rw [hbind _ _ _ us (by rw [← r.length]; exact hl)]
  refine wpAny_pure (wpAny_newFunctionEnv_cells S.kind hkind fun env he s1 x => ?_)
  subst he
  refine ⟨lim.keeps x.toInCall.keep, PySem.W.kla_codeExpr ?_⟩
  obtain ⟨t, ht, hq⟩ := hbody A outer s H2 vs Q E (hr.deeper _) hsp
  have I : Inv (cxOf (CX1 P w) P w K mg base N q scope fa (.ref c) A outer s H2 E) [] (start N vs) H2 s1 := inv_start S hr.hd e0 hl r x
  exact wpAny_mono (ht [] s1 (start N vs) H2 _ I hq) (fun u s' ⟨v, H', J, rv, q'⟩ => ⟨v, H', J.os, J.bare, J.base, J.hok, rv, q'⟩) fun e s' hs => hs
end
def tLam (P : Addr) (ln col : Int) (q : Str) (params : Arguments) (body : Expr) (scope : Scope) : TE := fun _ H Q => H P = some (.cod ln col q) ∧ ∀ f c H', Same H H' → LamAt H' f q params body scope [] c → Q (.ref f) H'
theorem pe_lam {X : Cx} {params : Arguments} {body : Expr} {scope : Scope} {lpos : Pos} {ln col : Int} {P cc : Addr} {q : Str} (S : CompSc X.env scope []) (hcode : X.env.code = .ref cc) (C : PySem.W.CodeHd X.base cc P) (B : Bmain X.mg X.base) (hln : ln = lpos.line) (hcol : col = lpos.col)
    (hq : X.env.qual ++ "<lambda>" = q) (hdef : defaultsOf params X.env = ([], [])) : PE X (.Lambda params body scope lpos) (tLam P ln col q params body scope) := by
  intro pins s σ H Q I h
  refine PySem.W.kla_eval hdef ?_
  rw [hq]
  exact lam_make S hcode C B hln hcol I h.1 fun f c H2 s2 I2 e2 L => ⟨.ref f, H2, I2, rfl, h.2 f c H2 e2 L⟩
def tDict0 : TE := fun _ H Q => ∀ p, H p = none → Q (.ref p) (upd H p (.dK []))
theorem pe_dict0 {X : Cx} {pos : Pos} : PE X (.Dict [] [] pos) tDict0 := by
  intro pins s σ H Q I h
  have hb : sysModules < s.heap.objs.size := Nat.lt_trans (by decide) (I.ok.mod.glob.keeps I.bk).lt
  refine wpAny_Dict_empty ⟨.ref s.heap.objs.size, _, I.laid (a := s.heap.objs.size) (o := .dK []) (t' := s.toks) (fun _ _ q => Heap.get?_push_of_some _ q) (Nat.le_refl _) ?_, rfl, h _ (I.hok.fresh (Nat.le_refl _))⟩
  exact ⟨Nat.zero_le _, beq_eq_false_iff_ne.mpr (Ne.symm (Nat.ne_of_lt hb)), [], .nil, Heap.DictOf.new _⟩
inductive tTryA (X : Cx) (k i j : Nat) (C0 : Addr) (t : TA) (ts : TS) (D : Ends) (σ : St) (H : Hp) : Prop where
  | mk (fa : Addr) (sp : Sp) (h_0 : σ[i]? = some (some (.ref fa))) (h_1 : AskV X.prog X.w X.K X.mg X.base k fa sp H) (h_2 : t σ H fun vs H1 => Same H H1 ∧ sp vs H1 (fun _ H2 => D.nx σ H2) (xSuite X.K C0 j ts D σ))
theorem ps_tryA {X : Cx} {k i j : Nat} {C0 : Addr} {a c n : Str} {p cpos epos np hp tpos : Pos} {e : Expr} {es : List Expr} {b₀ : Stmt} {suite : List Stmt} {t : TA} {ts : TS} (hex : X.ex = []) (hst : X.stack = X.env :: X.outer) (hfr : X.env.frame = some X.env.locals) (hr : Room k X.A)
    (hi : X.N[i]? = some a) (hv : Vis X.env.scope a) (hda : (a == ("__debug__" : Str)) = false) (hca : (a == ("__classdict__" : Str)) = false) (ha : ∀ E, PA (X.wish E) (e :: es) t)
    (hg : Gl X c) (hm : X.mg c = some (.ref C0)) (hb : PySem.W.subIn X.K (.ref C0) (.type "BaseException") = some true) (hk0 : PySem.W.kitCls X.K (.ref C0) (.ref C0) ≠ none) (hd : (c == ("__debug__" : Str)) = false)
    (hN : X.N.Nodup) (hj : X.N[j]? = some n) (hk : X.env.scope.names.lookup n = some .local) (hsu : ∀ x, PSs (X.held x) (b₀ :: suite) ts)
    (he : starEach (e :: es) X.env = (false, eval e X.env) :: starEach es X.env := by rfl) (hpl : (backTo cpos (starEach es X.env)).any (·.1) = false := by rfl) (hs : swapsWith (.Call (.Name a p) (e :: es) [] cpos) none epos.line X.env = pure false := by rfl) :
    PS X (.Try [.Expr (.Call (.Name a p) (e :: es) [] cpos) epos] [.ExceptHandler (some (.Name c np)) (some n) (b₀ :: suite) hp] [] [] tpos) (tTryA X k i j C0 t ts) := by
  intro pins s σ H D I h
  obtain ⟨fa, sp, hf, K0, h⟩ := h
  refine wpAny_Try_except ?_
  generalize hEX : (fun (ev : Value) (s₁ : Shared) => wpAny (model X.prog X.w) X.A (noteFrame ev X.env) (fun _ s₂ => wpAny (model X.prog X.w) X.A (setFlight ev none) (fun _ s₃ => wpAny (model X.prog X.w) X.A (handleBy ev X.env [.ExceptHandler (some (.Name c np)) (some n) (b₀ :: suite) hp]) (SP X pins D) X.xe s₃) X.xe s₂) X.xe s₁) = EX
  have I' := I.wish EX
  have call : wpAny (model X.prog X.w) X.A (eval (.Call (.Name a p) (e :: es) [] cpos) X.env) (EP (X.wish EX) pins σ fun _ H2 => D.nx σ H2) EX s := by
    refine wpAny_Call_Name_kw (thn ((pe_var hi hv hda hca : PE (X.wish EX) (.Name a p) (tVar i)) pins s σ H (fun v H1 => v = .ref fa ∧ H1 = H) I' ⟨_, hf, rfl, rfl⟩) fun u s1 ⟨v, H1, I1, r, q⟩ => ?_)
    obtain ⟨rfl, rfl⟩ := q
    cases (show u = Value.ref fa from r)
    have fin : ∀ {us : List Value} {s2 : Shared} {vs : List V} {H2 : Hp}, Inv (X.wish EX) pins σ H2 s2 → Vals vs us → Same H1 H2 → sp vs H2 (fun _ H2 => D.nx σ H2) (xSuite X.K C0 j ts D σ) →
        wpAny (model X.prog X.w) X.A (PySem.call (.ref fa) us) (EP (X.wish EX) pins σ fun _ H2 => D.nx σ H2) EX s2 := by
      intro us s2 vs H2 I2 r2 e2 q2
      refine wpAny_call (codeAny_mono (K0.run X.A X.stack s2 H2 us vs _ _ e2 hr I2.env0 r2 q2) fun r s' hq => ?_)
      cases r with
      | error ev =>
        obtain ⟨x, cls, B, H3, rfl, Fy, D0, rfl, hkc, hts⟩ := hq
        rw [← hEX]
        exact try_land I2.unwish Fy hex hst hfr hg hm hb hk0 hkc hd hN hj hk (hsu _) (hts x Fy.free)
      | ok fl =>
        cases fl with
        | ret u => exact I2.after hq
        | next => exact False.elim hq
        | brk => exact False.elim hq
        | cont => exact False.elim hq
    rcases K0.head with hkp | ⟨oc, od, fd, sl, hfa⟩
    · exact PySem.W.callWith_K (h₀ := X.base) I.ok.mod.kin hkp (thn (ha EX cpos pins s1 σ H1 _ I1 h) fun us s2 ⟨vs, H2, I2, r2, e2, q2⟩ => ⟨I2.kIn, fin I2 r2 e2 q2⟩) he hpl
    · have at_ : ∀ {H2 : Hp} {s2 : Shared}, Inv (X.wish EX) pins σ H2 s2 → Same H1 H2 → PySem.W.FnAt fa s2.heap := fun I2 e2 => by
        obtain ⟨z, _⟩ := I2.hok fa _ (e2 _ _ hfa)
        exact ⟨oc, od, fd, sl, z⟩
      exact PySem.W.callWith_F (at_ I1 (Same.refl _)) (thn (ha EX cpos pins s1 σ H1 _ I1 h) fun us s2 ⟨vs, H2, I2, r2, e2, q2⟩ => ⟨at_ I2 e2, fin I2 r2 e2 q2⟩) he hpl
  refine wpAny_execs_cons (wpAny_Expr_any (thn call fun v s1 ⟨y, H1, I1, r1, q1⟩ => ?_) I.quiet hs)
  refine wpAny_execs_nil ?_
  exact wpAny_execs_nil ⟨σ, H1, I1.unwish, q1⟩
section
variable {P : Program} {w : World} {K : PySem.W.Frag} {mg : Str → Option Value} {base : Heap}
theorem cal1_mk {k : Nat} {x : Str} {sp : Sp} {f : Addr} {fd : FuncData} {ps : List Str} (F : FnOk P w K mg base (CX1 P w) k f fd ps sp) (b : Binds K fd ps []) (kp : PySem.W.keepIn K (.ref f) = true) (m : mg x = some (.ref f)) : Cal1 P w K mg base k x sp := ⟨f, fd, ps, F, b, kp, m⟩
theorem calH_mk {k : Nat} {x : Str} {sp : Sp} {f : Addr} {fd : FuncData} {ps : List Str} (F : FnH P w K mg base k f fd ps sp) (b : Binds K fd ps []) (kp : PySem.W.keepIn K (.ref f) = true) (m : mg x = some (.ref f)) : CalH P w K mg base k x sp := ⟨f, fd, ps, F, b, kp, m⟩
theorem calV_mk {k : Nat} {sp : Sp} {f : Addr} {fd : FuncData} {ps : List Str} (F : FnOk P w K mg base (CX1 P w) k f fd ps sp) (b : Binds K fd ps []) (kp : PySem.W.keepIn K (.ref f) = true) : CalV P w K mg base k f sp := ⟨fd, ps, F, b, kp⟩
end
end L2
namespace L2
open PySem PySem.Spec PyProof.Rows PySem.Calls
theorem AskV.mono {P : Program} {w : World} {K : PySem.W.Frag} {mg : Str → Option Value} {base : Heap} {j k : Nat} {fa : Addr} {sp : Sp} {H : Hp} (a : AskV P w K mg base j fa sp H) (h : j ≤ k) : AskV P w K mg base k fa sp H :=
  ⟨a.head, fun A outer s H2 us vs Q E e2 hr => a.run A outer s H2 us vs Q E e2 (hr.mono h)⟩
end L2
namespace PySem.L3
open PySem
theorem boot_ValueError : bootBuiltins "ValueError" = some (.type "ValueError") := by decide +kernel
end PySem.L3
set_option linter.all false
namespace K9
def g (a b : Int) : Int := (Int.gcd a b : Nat)
def mk (a b : Int) : Int × Int := (a / g a b, b / g a b)
theorem g_pos {a b : Int} (h : 0 < b) : 0 < g a b := by
  have : 0 < Int.gcd a b := Int.gcd_pos_of_ne_zero_right a (by omega)
  unfold g; omega
theorem g_le {a b : Int} (h : 0 < b) : g a b ≤ b := Int.le_of_dvd h (Int.gcd_dvd_right a b)
theorem g_step {x y : Int} (hx : 0 ≤ x) (hy : 0 < y) : g y (x % y) = g x y := by
  unfold g
  have e : Int.gcd y (x % y) = Int.gcd x y := by
    have h1 := Int.gcd_sub_mul_left_right y x (x / y)
    rw [show x - y * (x / y) = x % y by rw [Int.emod_def]] at h1
    rw [h1, Int.gcd_comm]
  rw [e]
theorem g_zero {x : Int} (hx : 0 ≤ x) : g x 0 = x := by unfold g; simp; omega
theorem g_abs (a b : Int) : g (if a < 0 then -a else a) (if b < 0 then -b else b) = g a b := by
  unfold g
  split <;> split <;> simp
end K9
set_option linter.all false
namespace Pick
open Hull
def cross (p q : P) : Int := p.1 * q.2 - p.2 * q.1
def gc (p q : P) : Int := (Int.gcd (q.1 - p.1) (q.2 - p.2) : Nat)
def pathSum (f : P → P → Int) : List P → Int
  | a :: b :: r => f a b + pathSum f (b :: r)
  | _ => 0
def cdiv (a w : Int) : Int := -((-a) / w)
def ceilAt (p q : P) (x : Int) : Int := p.2 + cdiv ((q.2 - p.2) * (x - p.1)) (q.1 - p.1)
end Pick
set_option linter.all false
namespace Pick
open Hull
def ew (p q : P) : Int := cross p q + gc p q
def cl : List P → Int → Int
  | p :: q :: r, x => if p.1 = q.1 then p.2 else if x < q.1 then ceilAt p q x else cl (q :: r) x
  | [p], _ => p.2
  | [], _ => 0
end Pick
set_option linter.all false
namespace Pick
open Hull
end Pick
set_option linter.all false
namespace Pick
open Hull
def Sm (row : List P) : Prop := ∀ x ∈ row, (-9 ≤ x.1 ∧ x.1 ≤ 9) ∧ -9 ≤ x.2 ∧ x.2 ≤ 9
def ring (h : List P) : List P := h ++ h.take 1
end Pick
set_option linter.all false
namespace Pick
open Hull
def ab (a : Int) : Int := if a < 0 then -a else a
def far (p q : P) : Int := ab (q.1 - p.1) + ab (q.2 - p.2)
def nextStep (s f x : P) : P := if f = s ∨ turn s f x < 0 then x else if turn s f x = 0 ∧ far s f < far s x then x else f
def nextOf (row : List P) (s : P) : P := row.foldl (nextStep s) s
section
variable {row : List P} (hrow : row.Pairwise lt)
include hrow
end
theorem zip_sum (f : P → P → Int) : ∀ (h : List P) (a : P), (List.zipWith f h (h.drop 1 ++ [a])).sum = pathSum f (h ++ [a])
  | [], a => rfl
  | [x], a => by simp [pathSum]
  | x :: y :: h, a => by
    have := zip_sum f (y :: h) a
    show f x y + (List.zipWith f (y :: h) ((y :: h).drop 1 ++ [a])).sum = f x y + pathSum f (y :: h ++ [a])
    rw [this]
theorem zip_ring (f : P → P → Int) (h : List P) : (List.zipWith f h (h.drop 1 ++ h.take 1)).sum = pathSum f (ring h) := by
  cases h with
  | nil => rfl
  | cons a h => exact zip_sum f (a :: h) a
end Pick
namespace Pick
open Hull
theorem zip_take (g : P → P → Int) : ∀ {ps L : List P} {i : Nat} {p q : P}, ps[i]? = some p → L[i]? = some q → List.zipWith g (ps.take (i + 1)) L = List.zipWith g (ps.take i) L ++ [g p q]
  | [], _, _, _, _, h, _ => by simp at h
  | _ :: _, [], _, _, _, _, h => by simp at h
  | a :: ps, b :: L, 0, p, q, h1, h2 => by
    simp at h1 h2; subst h1 h2; simp
  | a :: ps, b :: L, i + 1, p, q, h1, h2 => by
    have := zip_take g (ps := ps) (L := L) (i := i) (p := p) (q := q) (by simpa using h1) (by simpa using h2)
    simp [this]
end Pick
namespace Pick
open Hull
end Pick
set_option linter.all false
namespace Pick
open Hull
end Pick
set_option linter.all false
namespace SepM
open Hull Pick
def dot (w x : P) : Int := w.1 * x.1 + w.2 * x.2
end SepM
set_option linter.all false
namespace Mix
open K9 Hull
end Mix
set_option linter.all false
namespace Cut
open Hull SepM
def Sgn (am : List Int) : Prop := (∀ a ∈ am, 0 < a) ∨ ∀ a ∈ am, a < 0
def lineAm (a b s : P) : List Int := if turn a b s ≠ 0 then [0, 0] else [dot (sb b a) b - dot (sb b a) s, dot (sb b a) s - dot (sb b a) a]
def amts : List P → P → List Int
  | [a], s => [if a = s then 1 else 0]
  | [a, b], s => lineAm a b s
  | [a, b, c], s => [turn b c s, turn c a s, turn a b s]
  | _, _ => []
def ones (n : Nat) : List (List Nat) := (List.range n).map fun i => [i]
def grow1 (n : Nat) (g : List Nat) : List (List Nat) := (List.range (n - (g.getLastD 0 + 1))).map fun i => g ++ [g.getLastD 0 + 1 + i]
def grown (gs : List (List Nat)) (n : Nat) : List (List Nat) := gs.flatMap (grow1 n)
def twos (n : Nat) : List (List Nat) := grown (ones n) n
def threes (n : Nat) : List (List Nat) := grown (twos n) n
theorem mem_ones {n : Nat} {g : List Nat} : g ∈ ones n ↔ ∃ i, i < n ∧ g = [i] := by
  unfold ones; rw [List.mem_map]
  constructor
  · rintro ⟨i, h, rfl⟩; exact ⟨i, List.mem_range.mp h, rfl⟩
  · rintro ⟨i, h, rfl⟩; exact ⟨i, List.mem_range.mpr h, rfl⟩
theorem mem_twos {n : Nat} {g : List Nat} : g ∈ twos n ↔ ∃ i j, i < j ∧ j < n ∧ g = [i, j] := by
  unfold twos grown; rw [List.mem_flatMap]
  constructor
  · rintro ⟨x, hx, hg⟩
    obtain ⟨i, hi, rfl⟩ := mem_ones.mp hx
    unfold grow1 at hg
    obtain ⟨k, hk, rfl⟩ := List.mem_map.mp hg
    have := List.mem_range.mp hk
    have e : ([i] : List Nat).getLastD 0 = i := rfl
    rw [e] at this ⊢
    exact ⟨i, i + 1 + k, by omega, by omega, rfl⟩
  · rintro ⟨i, j, h1, h2, rfl⟩
    refine ⟨[i], mem_ones.mpr ⟨i, by omega, rfl⟩, ?_⟩
    unfold grow1
    refine List.mem_map.mpr ⟨j - (i + 1), List.mem_range.mpr ?_, ?_⟩
    · show j - (i + 1) < n - (i + 1); omega
    · show [i] ++ [i + 1 + (j - (i + 1))] = [i, j]
      rw [show i + 1 + (j - (i + 1)) = j by omega]; rfl
theorem mem_threes {n : Nat} {g : List Nat} : g ∈ threes n ↔ ∃ i j k, i < j ∧ j < k ∧ k < n ∧ g = [i, j, k] := by
  unfold threes; unfold grown; rw [List.mem_flatMap]
  constructor
  · rintro ⟨x, hx, hg⟩
    obtain ⟨i, j, h1, h2, rfl⟩ := mem_twos.mp hx
    unfold grow1 at hg
    obtain ⟨k, hk, rfl⟩ := List.mem_map.mp hg
    have := List.mem_range.mp hk
    have e : ([i, j] : List Nat).getLastD 0 = j := rfl
    rw [e] at this ⊢
    exact ⟨i, j, j + 1 + k, h1, by omega, by omega, rfl⟩
  · rintro ⟨i, j, k, h1, h2, h3, rfl⟩
    refine ⟨[i, j], mem_twos.mpr ⟨i, j, h1, by omega, rfl⟩, ?_⟩
    unfold grow1
    refine List.mem_map.mpr ⟨k - (j + 1), List.mem_range.mpr ?_, ?_⟩
    · show k - (j + 1) < n - (j + 1); omega
    · show [i, j] ++ [j + 1 + (k - (j + 1))] = [i, j, k]
      rw [show j + 1 + (k - (j + 1)) = k by omega]; rfl
def groups (n : Nat) : List (List Nat) := ones n ++ twos n ++ threes n
def at_ (h : List P) (n : Nat) : P := h.getD n (0, 0)
abbrev Part := Nat × (Int × Int)
def parts (L : List (Nat × Int)) (W : Int) : List Part := L.map fun x => (x.1, K9.mk x.2 W)
def ab (a : Int) : Int := if a < 0 then -a else a
def wgL (places : List Nat) (am : List Int) : List (Nat × Int) := (places.zip am).map fun x => (x.1, ab x.2)
def wgW (am : List Int) : Int := ab am.sum
theorem abs_sum : ∀ {am : List Int}, Sgn am → (am.map ab).sum = ab am.sum := by
  intro am h
  rcases h with h | h
  · have e : am.map ab = am := by
      have : ∀ a ∈ am, ab a = a := fun a ha => by unfold ab; rw [if_neg (by have := h a ha; omega)]
      exact (List.map_congr_left this).trans (List.map_id am)
    have : 0 ≤ am.sum := by
      clear e
      induction am with
      | nil => exact Int.le_refl _
      | cons a am ih =>
        rw [List.sum_cons]
        have := h a (by simp)
        have := ih fun b hb => h b (by simp [hb])
        omega
    rw [e]; unfold ab; rw [if_neg (by omega)]
  · have e : am.map ab = am.map (fun a => -a) := List.map_congr_left fun a ha => by unfold ab; rw [if_pos (h a ha)]
    have s : ∀ l : List Int, (l.map fun a => -a).sum = -l.sum := by
      intro l; induction l with
      | nil => rfl
      | cons a l ih => rw [List.map_cons, List.sum_cons, List.sum_cons, ih]; omega
    have : am.sum ≤ 0 := by
      clear e
      induction am with
      | nil => exact Int.le_refl _
      | cons a am ih =>
        rw [List.sum_cons]
        have := h a (by simp)
        have := ih fun b hb => h b (by simp [hb])
        omega
    rw [e, s]; unfold ab; split <;> omega
theorem sgn_ab {a : Int} {am : List Int} (h : Sgn am) (ha : a ∈ am) : 0 < ab a := by
  rcases h with g | g
  · have := g a ha; unfold ab; rw [if_neg (by omega)]; exact this
  · have := g a ha; unfold ab; rw [if_pos this]; omega
def Bd (p : P) : Prop := (-1000 ≤ p.1 ∧ p.1 ≤ 1000) ∧ -1000 ≤ p.2 ∧ p.2 ≤ 1000
theorem mul_bd {a b A B : Int} (h1 : -A ≤ a) (h2 : a ≤ A) (h3 : -B ≤ b) (h4 : b ≤ B) : -(A * B) ≤ a * b ∧ a * b ≤ A * B := by
  have hA : 0 ≤ A := by omega
  have hB : 0 ≤ B := by omega
  have e1 : ab a ≤ A := by unfold ab; split <;> omega
  have e2 : ab b ≤ B := by unfold ab; split <;> omega
  have n1 : 0 ≤ ab a := by unfold ab; split <;> omega
  have n2 : 0 ≤ ab b := by unfold ab; split <;> omega
  have k : ab a * ab b ≤ A * B := Int.mul_le_mul e1 e2 n2 hA
  have e : ab a * ab b = ab (a * b) := by
    rcases Int.le_total 0 a with g | g <;> rcases Int.le_total 0 b with g' | g'
    · have := Int.mul_nonneg g g'
      unfold ab; rw [if_neg (by omega), if_neg (by omega), if_neg (by omega)]
    · have t := Int.mul_nonneg g (show 0 ≤ -b by omega)
      rw [Int.mul_neg] at t
      have q1 : ab a = a := by unfold ab; rw [if_neg (by omega)]
      have q2 : ab b = -b := by unfold ab; split <;> omega
      have q3 : ab (a * b) = -(a * b) := by unfold ab; split <;> omega
      rw [q1, q2, q3, Int.mul_neg]
    · have t := Int.mul_nonneg (show 0 ≤ -a by omega) g'
      rw [Int.neg_mul] at t
      have q1 : ab a = -a := by unfold ab; split <;> omega
      have q2 : ab b = b := by unfold ab; rw [if_neg (by omega)]
      have q3 : ab (a * b) = -(a * b) := by unfold ab; split <;> omega
      rw [q1, q2, q3, Int.neg_mul]
    · have t := Int.mul_nonneg (show 0 ≤ -a by omega) (show 0 ≤ -b by omega)
      rw [Int.neg_mul_neg] at t
      have q1 : ab a = -a := by unfold ab; split <;> omega
      have q2 : ab b = -b := by unfold ab; split <;> omega
      have q3 : ab (a * b) = a * b := by unfold ab; rw [if_neg (by omega)]
      rw [q1, q2, q3, Int.neg_mul_neg]
  rw [e] at k
  unfold ab at k
  split at k <;> omega
theorem turn_bd {a b c : P} (ha : Bd a) (hb : Bd b) (hc : Bd c) : -8000000 ≤ turn a b c ∧ turn a b c ≤ 8000000 := by
  unfold Bd at *
  unfold turn
  have h1 := mul_bd (a := b.1 - a.1) (A := 2000) (b := c.2 - a.2) (B := 2000) (by omega) (by omega) (by omega) (by omega)
  have h2 := mul_bd (a := b.2 - a.2) (A := 2000) (b := c.1 - a.1) (B := 2000) (by omega) (by omega) (by omega) (by omega)
  omega
theorem dot_bd {a b c : P} (ha : Bd a) (hb : Bd b) (hc : Bd c) : -4000000 ≤ dot (sb b a) c ∧ dot (sb b a) c ≤ 4000000 := by
  unfold Bd at *
  unfold dot sb
  dsimp only
  have h1 := mul_bd (a := b.1 - a.1) (A := 2000) (b := c.1) (B := 1000) (by omega) (by omega) (by omega) (by omega)
  have h2 := mul_bd (a := b.2 - a.2) (A := 2000) (b := c.2) (B := 1000) (by omega) (by omega) (by omega) (by omega)
  omega
end Cut
set_option linter.all false
namespace Cut
open Hull SepM
end Cut
set_option linter.all false
namespace Cut
open Hull SepM
def NoMix (h : List P) (s : P) : Prop := ∀ g ∈ groups h.length, ¬ Sgn (amts (g.map (at_ h)) s)
end Cut
set_option linter.all false
namespace Cut
open Hull SepM
end Cut
set_option linter.all false
namespace Cut
open Hull
end Cut
set_option Elab.async false
set_option linter.all false
set_option maxRecDepth 100000
set_option maxHeartbeats 4000000

namespace K8a
open PySem L2 Hull SortM Pick SepM
seal L2.PE L2.PT L2.PW L2.PA L2.PS L2.PSs L2.PG L2.PGs L2.PF L2.PI L2.PO
def top (i : Nat) : Stmt := PySem.Challenge.pw_herdline_k08_refused.main.body.getD i (.Pass ⟨0, 0, 0, 0⟩)
abbrev s_common_divisor : Stmt := top 9
abbrev s_made : Stmt := top 10
abbrev s_is_number : Stmt := top 14
abbrev s_is_pair : Stmt := top 15
abbrev s_is_herd : Stmt := top 16
abbrev s_check_herd : Stmt := top 17
abbrev s_check_spot : Stmt := top 18
abbrev s_check_way : Stmt := top 19
abbrev s_leftness : Stmt := top 21
abbrev s_reach : Stmt := top 22
abbrev s_left_chain : Stmt := top 23
abbrev s_corners : Stmt := top 24
abbrev s_sides : Stmt := top 25
abbrev s_twice_area : Stmt := top 26
abbrev s_steps_round : Stmt := top 27
abbrev s_land : Stmt := top 28
abbrev s_spots : Stmt := top 29
abbrev s_farthest : Stmt := top 30
abbrev s_Mixed___init__ : Stmt := inClass (top 33) 0
abbrev s_ones : Stmt := top 39
abbrev s_grown : Stmt := top 40
abbrev s_twos : Stmt := top 41
abbrev s_threes : Stmt := top 42
abbrev s_step : Stmt := top 43
abbrev s_weighed : Stmt := top 44
abbrev s_line_amounts : Stmt := top 45
abbrev s_amounts_at : Stmt := top 46
abbrev s_mixture_at : Stmt := top 47
abbrev s_within : Stmt := top 56
abbrev s_between : Stmt := top 57
abbrev s_cut : Stmt := top 60
abbrev s_written : Stmt := top 62
abbrev s__law_cell_at : Stmt := top 64
abbrev s__law_kinds : Stmt := top 65
abbrev s__law_told : Stmt := top 66
abbrev s__law_with_herd : Stmt := top 67
abbrev s__law_with_thing : Stmt := top 68
abbrev s__law_all : Stmt := top 69
abbrev s_law : Stmt := top 70
theorem sc_common_divisor : FnScope ["a", "b", "one", "other", "rest"] ["a", "b"] (defScope s_common_divisor) := ⟨rfl, rfl, rfl, by decide +kernel, rfl, by decide +kernel, by decide +kernel⟩
theorem sc_made : FnScope ["a", "b", "divisor"] ["a", "b"] (defScope s_made) := ⟨rfl, rfl, rfl, by decide +kernel, rfl, by decide +kernel, by decide +kernel⟩
theorem sc_is_number : FnScope ["value"] ["value"] (defScope s_is_number) := ⟨rfl, rfl, rfl, by decide +kernel, rfl, by decide +kernel, by decide +kernel⟩
theorem sc_is_pair : FnScope ["value"] ["value"] (defScope s_is_pair) := ⟨rfl, rfl, rfl, by decide +kernel, rfl, by decide +kernel, by decide +kernel⟩
theorem sc_is_herd : FnScope ["value"] ["value"] (defScope s_is_herd) := ⟨rfl, rfl, rfl, by decide +kernel, rfl, by decide +kernel, by decide +kernel⟩
theorem sc_check_herd : FnScope ["herd"] ["herd"] (defScope s_check_herd) := ⟨rfl, rfl, rfl, by decide +kernel, rfl, by decide +kernel, by decide +kernel⟩
theorem sc_check_spot : FnScope ["spot"] ["spot"] (defScope s_check_spot) := ⟨rfl, rfl, rfl, by decide +kernel, rfl, by decide +kernel, by decide +kernel⟩
theorem sc_check_way : FnScope ["way"] ["way"] (defScope s_check_way) := ⟨rfl, rfl, rfl, by decide +kernel, rfl, by decide +kernel, by decide +kernel⟩
theorem sc_leftness : FnScope ["start", "end", "spot", "along", "across"] ["start", "end", "spot"] (defScope s_leftness) := ⟨rfl, rfl, rfl, by decide +kernel, rfl, by decide +kernel, by decide +kernel⟩
theorem sc_reach : FnScope ["way", "spot"] ["way", "spot"] (defScope s_reach) := ⟨rfl, rfl, rfl, by decide +kernel, rfl, by decide +kernel, by decide +kernel⟩
theorem sc_left_chain : FnScope ["row", "chain", "spot"] ["row"] (defScope s_left_chain) := ⟨rfl, rfl, rfl, by decide +kernel, rfl, by decide +kernel, by decide +kernel⟩
theorem sc_corners : FnScope ["herd", "row", "below", "above"] ["herd"] (defScope s_corners) := ⟨rfl, rfl, rfl, by decide +kernel, rfl, by decide +kernel, by decide +kernel⟩
theorem sc_sides : FnScope ["around"] ["around"] (defScope s_sides) := ⟨rfl, rfl, rfl, by decide +kernel, rfl, by decide +kernel, by decide +kernel⟩
theorem sc_twice_area : FnScope ["around"] ["around"] (defScope s_twice_area) := ⟨rfl, rfl, rfl, by decide +kernel, rfl, by decide +kernel, by decide +kernel⟩
theorem sc_steps_round : FnScope ["around"] ["around"] (defScope s_steps_round) := ⟨rfl, rfl, rfl, by decide +kernel, rfl, by decide +kernel, by decide +kernel⟩
theorem sc_land : FnScope ["herd"] ["herd"] (defScope s_land) := ⟨rfl, rfl, rfl, by decide +kernel, rfl, by decide +kernel, by decide +kernel⟩
theorem sc_spots : FnScope ["herd", "around", "steps", "held"] ["herd"] (defScope s_spots) := ⟨rfl, rfl, rfl, by decide +kernel, rfl, by decide +kernel, by decide +kernel⟩
theorem sc_farthest : FnScope ["herd", "way", "reaches", "greatest"] ["herd", "way"] (defScope s_farthest) := ⟨rfl, rfl, rfl, by decide +kernel, rfl, by decide +kernel, by decide +kernel⟩
theorem sc_Mixed___init__ : FnScope ["self", "parts"] ["self", "parts"] (defScope s_Mixed___init__) := ⟨rfl, rfl, rfl, by decide +kernel, rfl, by decide +kernel, by decide +kernel⟩
theorem sc_ones : FnScope ["count"] ["count"] (defScope s_ones) := ⟨rfl, rfl, rfl, by decide +kernel, rfl, by decide +kernel, by decide +kernel⟩
theorem sc_grown : FnScope ["groups", "count", "longer", "group"] ["groups", "count"] (defScope s_grown) := ⟨rfl, rfl, rfl, by decide +kernel, rfl, by decide +kernel, by decide +kernel⟩
theorem sc_twos : FnScope ["count"] ["count"] (defScope s_twos) := ⟨rfl, rfl, rfl, by decide +kernel, rfl, by decide +kernel, by decide +kernel⟩
theorem sc_threes : FnScope ["count"] ["count"] (defScope s_threes) := ⟨rfl, rfl, rfl, by decide +kernel, rfl, by decide +kernel, by decide +kernel⟩
theorem sc_step : FnScope ["start", "end"] ["start", "end"] (defScope s_step) := ⟨rfl, rfl, rfl, by decide +kernel, rfl, by decide +kernel, by decide +kernel⟩
theorem sc_weighed : FnScope ["places", "amounts", "whole"] ["places", "amounts"] (defScope s_weighed) := ⟨rfl, rfl, rfl, by decide +kernel, rfl, by decide +kernel, by decide +kernel⟩
theorem sc_line_amounts : FnScope ["start", "end", "spot", "way"] ["start", "end", "spot"] (defScope s_line_amounts) := ⟨rfl, rfl, rfl, by decide +kernel, rfl, by decide +kernel, by decide +kernel⟩
theorem sc_amounts_at : FnScope ["row", "spot"] ["row", "spot"] (defScope s_amounts_at) := ⟨rfl, rfl, rfl, by decide +kernel, rfl, by decide +kernel, by decide +kernel⟩
theorem sc_mixture_at : FnScope ["herd", "spot", "count", "places", "parts"] ["herd", "spot"] (defScope s_mixture_at) := ⟨rfl, rfl, rfl, by decide +kernel, rfl, by decide +kernel, by decide +kernel⟩
theorem sc_within : FnScope ["herd", "spot", "parts"] ["herd", "spot"] (defScope s_within) := ⟨rfl, rfl, rfl, by decide +kernel, rfl, by decide +kernel, by decide +kernel⟩
theorem sc_between : FnScope ["one", "other", "found"] ["one", "other"] (defScope s_between) := ⟨rfl, rfl, rfl, by decide +kernel, rfl, by decide +kernel, by decide +kernel⟩
theorem sc_cut : FnScope ["herd", "tried", "found"] ["herd"] (defScope s_cut) := ⟨rfl, rfl, rfl, by decide +kernel, rfl, by decide +kernel, by decide +kernel⟩
theorem sc_written : FnScope ["herd"] ["herd"] (defScope s_written) := ⟨rfl, rfl, rfl, by decide +kernel, rfl, by decide +kernel, by decide +kernel⟩
theorem sc__law_cell_at : FnScope ["_law_script", "_law_k"] ["_law_script", "_law_k"] (defScope s__law_cell_at) := ⟨rfl, rfl, rfl, by decide +kernel, rfl, by decide +kernel, by decide +kernel⟩
theorem sc__law_kinds : FnScope ["_law_error", "_law_found"] ["_law_error"] (defScope s__law_kinds) := ⟨rfl, rfl, rfl, by decide +kernel, rfl, by decide +kernel, by decide +kernel⟩
theorem sc__law_told : FnScope ["_law_ask", "_law_one", "_law_other", "_law_error"] ["_law_ask", "_law_one", "_law_other"] (defScope s__law_told) := ⟨rfl, rfl, rfl, by decide +kernel, rfl, by decide +kernel, by decide +kernel⟩
theorem sc__law_with_herd : FnScope ["_law_door", "_law_herd"] ["_law_door", "_law_herd"] (defScope s__law_with_herd) := ⟨rfl, rfl, rfl, by decide +kernel, rfl, by decide +kernel, by decide +kernel⟩
theorem sc__law_with_thing : FnScope ["_law_door", "_law_thing"] ["_law_door", "_law_thing"] (defScope s__law_with_thing) := ⟨rfl, rfl, rfl, by decide +kernel, rfl, by decide +kernel, by decide +kernel⟩
theorem sc__law_all : FnScope ["_law_ask", "_law_doors", "_law_things", "_law_due", "_law_door", "_law_thing"] ["_law_ask", "_law_doors", "_law_things", "_law_due"] (defScope s__law_all) := ⟨rfl, rfl, rfl, by decide +kernel, rfl, by decide +kernel, by decide +kernel⟩
theorem sc_law : FnScope ["_law_script", "_law_far", "_law_due", "_law_k", "_law_spot", "_law_herds", "_law_many", "_law_great"] ["_law_script"] (defScope s_law) := ⟨rfl, rfl, rfl, by decide +kernel, rfl, by decide +kernel, by decide +kernel⟩
structure Bl (mg : Str → Option Value) : Prop where
  len : mg "len" = none
  all : mg "all" = none
  any : mg "any" = none
  abs : mg "abs" = none
  sum : mg "sum" = none
  isinstance : mg "isinstance" = none
  tuple : mg "tuple" = none
  list : mg "list" = none
  bool : mg "bool" = none
  int : mg "int" = none
  set : mg "set" = none
  range : mg "range" = none
  reversed : mg "reversed" = none
  sorted : mg "sorted" = none
  min : mg "min" = none
  max : mg "max" = none
  zip : mg "zip" = none
  enumerate : mg "enumerate" = none
  ValueError : mg "ValueError" = none
  g_BOUND : ∃ t, mg "BOUND" = some (.int 1000 t)
  g_MOST_SPOTS : ∃ t, mg "MOST_SPOTS" = some (.int 8 t)
  g_FEWEST_TO_CUT : ∃ t, mg "FEWEST_TO_CUT" = some (.int 4 t)
abbrev Bd := Cut.Bd
def Sp (K : PySem.W.Frag) (H : Hp) (v : V) (p : P) : Prop := Dn K H (spotD p) v ∧ Bd p
theorem Sp.same {K : PySem.W.Frag} {H H' : Hp} {v : V} {p : P} (e : Same H H') (h : Sp K H v p) : Sp K H' v p := ⟨e.dn h.1, h.2⟩
theorem same_new {H : Hp} {p : Addr} (h : H p = none) (o : HO) : Same H (upd H p o) := fun b u q => by rw [upd_ne (ne_of_none q h)]; exact q
inductive sp_cell (K : PySem.W.Frag) (vs : List V) (H : Hp) (Q : VK) (x_3 : XK) : Prop where
  | mk (a : Addr) (ns : List Int) (k : Nat) (h_0 : vs = [.ref a, .int k]) (h_1 : SqL K H a (ns.map V.int)) (h_2 : ∀ c : Int, Q (.int c) H)
inductive sp_num (vs : List V) (H : Hp) (Q : VK) (x_3 : XK) : Prop where
  | mk (i : Int) (h_0 : vs = [.int i]) (h_1 : Q (.bl true) H)
inductive sp_pair (K : PySem.W.Frag) (vs : List V) (H : Hp) (Q : VK) (x_3 : XK) : Prop where
  | mk (x : _) (p : _) (h_0 : vs = [x]) (h_1 : Sp K H x p) (h_2 : ∀ H', Same H H' → Q (.bl true) H')
inductive sp_isherd (K : PySem.W.Frag) (vs : List V) (H : Hp) (Q : VK) (x_3 : XK) : Prop where
  | mk (o : Addr) (ys : List V) (ps : List P) (h_0 : vs = [.ref o]) (h_1 : SqL K H o ys) (h_2 : Dns K H (ps.map spotD) ys) (h_3 : (∀ p ∈ ps, Bd p)) (h_4 : 1 ≤ ps.length) (h_5 : ps.length ≤ 8) (h_6 : ∀ H', Same H H' → Q (.bl true) H')
inductive sp_check (K : PySem.W.Frag) (vs : List V) (H : Hp) (Q : VK) (x_3 : XK) : Prop where
  | mk (o : Addr) (ys : List V) (ps : List P) (h_0 : vs = [.ref o]) (h_1 : SqL K H o ys) (h_2 : Dns K H (ps.map spotD) ys) (h_3 : (∀ p ∈ ps, Bd p)) (h_4 : 1 ≤ ps.length) (h_5 : ps.length ≤ 8) (h_6 : ∀ H', Same H H' → Q .non H')
inductive sp_left (K : PySem.W.Frag) (vs : List V) (H : Hp) (Q : VK) (x_3 : XK) : Prop where
  | mk (x : _) (y : _) (z : _) (a : _) (b : _) (c : _) (h_0 : vs = [x, y, z]) (h_1 : Sp K H x a) (h_2 : Sp K H y b) (h_3 : Sp K H z c) (h_4 : Q (.int (turn a b c)) H)
def sp_chain (K : PySem.W.Frag) : L2.Sp := fun vs H Q _ => ∃ (r : Addr) (xs : List V) (row : List P), vs = [.ref r] ∧ SqL K H r xs ∧ Dns K H (row.map spotD) xs ∧ (∀ p ∈ row, Bd p) ∧ row.length ≤ 8 ∧
  ∀ l zs, H l = none → Dns K H ((chainR row).reverse.map spotD) zs → Q (.ref l) (upd H l (.lst zs))
def sp_corners (K : PySem.W.Frag) : L2.Sp := fun vs H Q _ => ∃ (o : Addr) (ys : List V) (ps : List P), vs = [.ref o] ∧ SqL K H o ys ∧ Dns K H (ps.map spotD) ys ∧ (∀ p ∈ ps, Bd p) ∧ 1 ≤ ps.length ∧ ps.length ≤ 8 ∧
  ∀ l zs row H', Same H H' → H l = none → H' l = some (.lst zs) → row.Pairwise lt → (∀ p, p ∈ row ↔ p ∈ ps) → Dns K H' ((hull row).map spotD) zs → Q (.ref l) H'
section
variable {P : Program} {w : World} {K : PySem.W.Frag} {mg : Str → Option Value} {base : Heap} {f : Addr} {fd : FuncData}
theorem ok_left (F : Fun K "leftness" "leftness" s_leftness f fd) : FnOk P w K mg base CX0 1 f fd ["start", "end", "spot"] (sp_left K) := by
  refine F.ok sc_leftness (fun vs H Q E h => ?_) (fun cdv A outer s H vs Q E hr h => ?_)
  · obtain ⟨x, y, z, a, b, c, rfl, _⟩ := h
    rfl
  obtain ⟨x, y, z, a, b, c, rfl, ⟨ha, ha1, ha2⟩, ⟨hb, hb1, hb2⟩, ⟨hc, hc1, hc2⟩, q⟩ := h
  obtain ⟨x, rfl, ta⟩ := ha.spot
  obtain ⟨y, rfl, tb⟩ := hb.spot
  obtain ⟨z, rfl, tc⟩ := hc.spot
  refine ⟨_, (pss_cons (ps_set (i := 3) sc_leftness.nd rfl (Or.inl rfl) (pe_op op_mul (pe_op op_sub (pe_ix ix_tup (pv 1) pe_int (fun _ _ => rfl)) (pe_ix ix_tup (pv 0) pe_int (fun _ _ => rfl))) (pe_op op_sub (pe_ix ix_tup (pv 2) pe_int (fun _ _ => rfl)) (pe_ix ix_tup (pv 0) pe_int (fun _ _ => rfl)))))
    (pss_cons (ps_set (i := 4) sc_leftness.nd rfl (Or.inl rfl) (pe_op op_mul (pe_op op_sub (pe_ix ix_tup (pv 1) pe_int (fun _ _ => rfl)) (pe_ix ix_tup (pv 0) pe_int (fun _ _ => rfl))) (pe_op op_sub (pe_ix ix_tup (pv 2) pe_int (fun _ _ => rfl)) (pe_ix ix_tup (pv 0) pe_int (fun _ _ => rfl)))))
    (pss_one (ps_ret (pe_op op_sub (pv 3) (pv 4)))))), ?_⟩
  refine ⟨_, rfl, y, _, _, _, rfl, rfl, tb, rfl, _, rfl, x, _, _, _, rfl, rfl, ta, rfl, _, _, rfl, rfl, _, rfl, z, _, _, _, rfl, rfl, tc, rfl, _, rfl, x, _, _, _, rfl, rfl, ta, rfl, _, _, rfl, rfl, _, _, rfl, rfl, .inr ⟨by omega, by omega⟩, ?_⟩
  refine ⟨_, rfl, y, _, _, _, rfl, rfl, tb, rfl, _, rfl, x, _, _, _, rfl, rfl, ta, rfl, _, _, rfl, rfl, _, rfl, z, _, _, _, rfl, rfl, tc, rfl, _, rfl, x, _, _, _, rfl, rfl, ta, rfl, _, _, rfl, rfl, _, _, rfl, rfl, .inr ⟨by omega, by omega⟩, ?_⟩
  exact ⟨_, rfl, _, rfl, _, _, rfl, rfl, q⟩
theorem ok_cell (B : Bl mg) (F : Fun K "_law_cell_at" "_law_cell_at" s__law_cell_at f fd) : FnOk P w K mg base CX0 1 f fd ["_law_script", "_law_k"] (sp_cell K) := by
  refine F.ok sc__law_cell_at (fun vs H Q E h => ?_) (fun cdv A outer s H vs Q E hr h => ?_)
  · obtain ⟨a, ns, k, rfl, _⟩ := h
    rfl
  obtain ⟨a, ns, k, rfl, hS, q⟩ := h
  refine ⟨_, (pss_cons (ps_if (pt_cmpR op_lt (pv 1) (pe_callB call_len_seq (by rfl) B.len PySem.L3.boot_len (pa_cons (pv 0) pa_nil)) (nomark _)) (pss_one (ps_ret (pe_ix ix_list (pv 0) (pv 1) (fun _ _ => rfl)))) pss_nil)
    (pss_one (ps_ret pe_int))), ?_⟩
  refine ⟨_, rfl, _, rfl, a, _, rfl, .inl hS, _, _, rfl, rfl, _, rfl, ite2 (fun c => ?_) (fun c => ?_)⟩
  · have c' : (k : Int) < (((ns.map V.int).length : Nat) : Int) := of_decide_eq_true c
    have hk : k < ns.length := by rw [List.length_map] at c'; omega
    exact ⟨_, rfl, _, rfl, a, _, _, _, rfl, rfl, hS, atI_nat (v := .int ns[k]) (by rw [List.getElem?_map, List.getElem?_eq_getElem hk]; rfl), q _⟩
  · exact q _
theorem Dns.split {K : PySem.W.Frag} {H : Hp} : ∀ {ds es : List PyData} {zs : List V}, Dns K H (ds ++ es) zs → ∃ ys ws, zs = ys ++ ws ∧ Dns K H ds ys ∧ Dns K H es ws
  | [], es, zs, h => ⟨[], zs, rfl, dns_nil, h⟩
  | d :: ds, es, zs, h => by
    obtain ⟨x, r, rfl, h1, h2⟩ := L2.Dns.cons h
    obtain ⟨ys, ws, rfl, h3, h4⟩ := Dns.split h2
    exact ⟨x :: ys, ws, rfl, dns_cons h1 h3, h4⟩
theorem spot_upd {H : Hp} {l : Addr} {zs : List V} {o : HO} (hl : H l = some (.lst zs)) {p : Hull.P} {v : V} (h : Dn K H (spotD p) v) : Dn K (upd H l o) (spotD p) v := by
  obtain ⟨a, rfl, h1⟩ := h.spot
  refine dn_spot ?_
  rcases h1 with (h1 | ⟨ob, h1⟩) | h1
  · exact .inl (.inl (by rw [upd_ne (by rintro rfl; rw [hl] at h1; cases h1)]; exact h1))
  · exact .inl (.inr ⟨ob, by rw [upd_ne (by rintro rfl; rw [hl] at h1; cases h1)]; exact h1⟩)
  · exact .inr h1
theorem spots_upd {H : Hp} {l : Addr} {zs : List V} {o : HO} (hl : H l = some (.lst zs)) : ∀ {ps : List Hull.P} {ys : List V}, Dns K H (ps.map spotD) ys → Dns K (upd H l o) (ps.map spotD) ys
  | [], _, h => by rw [L2.Dns.nil h]; exact dns_nil
  | p :: ps, _, h => by
    obtain ⟨x, r, rfl, h1, h2⟩ := L2.Dns.cons h
    exact dns_cons (spot_upd hl h1) (spots_upd hl h2)
theorem same_upd {H H' : Hp} {l : Addr} {o : HO} (h : H l = none) (e : Same H H') : Same H (upd H' l o) := fun b u q => by
  rw [upd_ne (ne_of_none q h)]; exact e b u q
theorem ok_num (B : Bl mg) (F : Fun K "is_number" "is_number" s_is_number f fd) : FnOk P w K mg base CX0 1 f fd ["value"] sp_num := by
  refine F.ok sc_is_number (fun vs H Q E h => ?_) (fun cdv A outer s H vs Q E hr h => ?_)
  · obtain ⟨i, rfl, _⟩ := h
    rfl
  obtain ⟨i, rfl, q⟩ := h
  refine ⟨_, (pss_one (ps_ret (pe_and (pe_callB call_isinstance (by rfl) B.isinstance PySem.L3.boot_isinstance (pa_cons (pv 0) (pa_cons (pe_bltn (v := .ty "int") (by rfl) B.int PySem.L3.boot_int rfl) pa_nil))) (pe_one (pe_not (pe_callB call_isinstance (by rfl) B.isinstance PySem.L3.boot_isinstance (pa_cons (pv 0) (pa_cons (pe_bltn (v := .ty "bool") (by rfl) B.bool PySem.L3.boot_bool rfl) pa_nil)))))))), ?_⟩
  refine ⟨_, rfl, _, "int", _, true, rfl, .int i, rfl, ?_⟩
  refine ⟨true, rfl, ?_⟩
  refine ite2 (fun _ => ?_) (fun h => absurd rfl h)
  exact ⟨_, rfl, _, "bool", _, false, rfl, .int i, rfl, _, rfl, q⟩
theorem ok_check (C_is_herd : Cal P w K mg base 3 "is_herd" (sp_isherd K)) (F : Fun K "check_herd" "check_herd" s_check_herd f fd) : FnOk P w K mg base CX0 4 f fd ["herd"] (sp_check K) := by
  refine F.ok sc_check_herd (fun vs H Q E h => ?_) (fun cdv A outer s H vs Q E hr h => ?_)
  · obtain ⟨o, ys, ps, rfl, _⟩ := h
    rfl
  obtain ⟨o, ys, ps, rfl, h1, h2, h3, h4, h5, q⟩ := h
  refine ⟨_, (pss_one (ps_if (pt_not (pt_val (pe_c C_is_herd (hr.mono (by decide)) (by rfl) (pa_cons (pv 0) pa_nil)))) (pss_one ps_never) pss_nil)), ?_⟩
  refine ⟨_, rfl, o, ys, ps, rfl, h1, h2, h3, h4, h5, fun H' e => ?_⟩
  exact ⟨_, rfl, ite2 (fun c => by cases c) fun _ => q _ e⟩
theorem ok_pair (B : Bl mg) (C_is_number : Cal P w K mg base 1 "is_number" sp_num) (F : Fun K "is_pair" "is_pair" s_is_pair f fd) : FnOk P w K mg base CX0 2 f fd ["value"] (sp_pair K) := by
  refine F.ok sc_is_pair (fun vs H Q E h => ?_) (fun cdv A outer s H vs Q E hr h => ?_)
  · obtain ⟨x, p, rfl, _⟩ := h
    rfl
  obtain ⟨x, p, rfl, ⟨hx, ⟨b1, b2⟩, b3, b4⟩, q⟩ := h
  obtain ⟨t, rfl, ht⟩ := hx.spot
  refine ⟨_, (pss_cons (ps_if (PW.pt (pw_or (pt_not (pt_val (pe_callB call_isSeq (by rfl) B.isinstance PySem.L3.boot_isinstance (pa_cons (pv 0) (pa_cons (pe_bltn (v := .ty "tuple") (by rfl) B.tuple PySem.L3.boot_tuple rfl) pa_nil))))) (pw_or1 (pt_cmpR op_ne (pe_callB call_len_seq (by rfl) B.len PySem.L3.boot_len (pa_cons (pv 0) pa_nil)) pe_int (nomark _))))) (pss_one (ps_ret pe_bl)) pss_nil)
    (pss_one (ps_ret (pe_callB (call_all rfl) (by rfl) B.all PySem.L3.boot_all (pa_cons (pe_comp (Nc := ["part"]) (fi := [none]) (comp_sc rfl rfl rfl) rfl (comp_from_go rfl) (pi_tup (pv 0)) (fun _ _ _ _ => ⟨(pg_name (i := 0) (show (["part"] : List Str).Nodup by decide +kernel) rfl (Or.inl rfl)), pf_nil, (pe_and (pe_c C_is_number (hr.mono (by decide)) (by rfl) (pa_cons (pv 0) pa_nil)) (pe_one (pe_chain op_le op_le (pe_un un_neg (pe_glob (v := .int 1000) (by rfl) B.g_BOUND.choose_spec ⟨_, rfl⟩)) (pv 0) (pe_glob (v := .int 1000) (by rfl) B.g_BOUND.choose_spec ⟨_, rfl⟩))))⟩)) pa_nil))))), ?_⟩
  refine ⟨_, rfl, t, _, "tuple", true, rfl, .inl ⟨ht, rfl⟩, _, rfl, ?_⟩
  refine iteF ⟨_, rfl, t, _, rfl, .inr ht, rfl, _, rfl, ?_⟩
  refine iteF ?_
  refine ⟨_, rfl, t, rfl, ⟨_, ht⟩, fun _ _ _ _ l hl => ?_⟩
  refine comp_by 2 (by show 2 ≤ sizeLine; decide) (fun i ys σ' Hc => Same H Hc ∧ Hc l = some (.lst ys) ∧ ys = List.replicate i (V.bl true) ∧ σ'.length = 1) ?_ (fun i ys σ' Hc ⟨_, e, y, _⟩ => ⟨e, by rw [y]; simp⟩) ?_ ?_
  · exact ⟨same_new hl _, upd_same, rfl, rfl⟩
  · rintro i ys σ' Hc hi ⟨e, el, rfl, hσ⟩
    have ht' := e.seqT ht
    refine ⟨⟨_, if i = 0 then .int p.1 else .int p.2, ht', by match i, hi with | 0, _ => rfl | 1, _ => rfl⟩, fun x H' y Kt Kf k1 _ => ?_⟩
    obtain ⟨rfl, hx⟩ := y
    have hx' := hx _ ht'
    obtain ⟨z, rfl, z1, z2⟩ : ∃ z : Int, x = .int z ∧ -1000 ≤ z ∧ z ≤ 1000 := by
      match i, hi, hx' with
      | 0, _, h => exact ⟨p.1, (Option.some.inj h).symm, b1, b2⟩
      | 1, _, h => exact ⟨p.2, (Option.some.inj h).symm, b3, b4⟩
    match σ', hσ with
    | [o], _ =>
      simp only [gName, tYes, ↓reduceIte]
      refine ⟨_, rfl, z, rfl, true, rfl, iteT ?_⟩
      refine ⟨_, rfl, _, rfl, _, _, rfl, rfl, _, rfl, ite2 (fun _ => ?_) (fun h => absurd (decide_eq_true (show (-1000 : Int) ≤ z by omega)) h)⟩
      refine ⟨_, _, rfl, rfl, ?_⟩
      have hz : decide (z ≤ 1000) = true := decide_eq_true z2
      show Kt _ (.bl (decide (z ≤ 1000))) _
      rw [hz]
      refine k1 _ _ _ el ⟨fun b o h => ?_, upd_same, by rw [List.replicate_succ'], rfl⟩
      rw [upd_ne (ne_of_none h hl)]; exact e _ _ h
  · rintro ys σ' Hc ⟨e, el, rfl, _⟩
    exact ⟨⟨_, e.seqT ht, Nat.le_refl _⟩, l, [true, true], rfl, SqL.of el, q _ e⟩
theorem ok_isherd (B : Bl mg) (C_is_pair : Cal P w K mg base 2 "is_pair" (sp_pair K)) (F : Fun K "is_herd" "is_herd" s_is_herd f fd) : FnOk P w K mg base CX0 3 f fd ["value"] (sp_isherd K) := by
  refine F.ok sc_is_herd (fun vs H Q E h => ?_) (fun cdv A outer s H vs Q E hr h => ?_)
  · obtain ⟨o, ys, ps, rfl, _⟩ := h
    rfl
  obtain ⟨o, ys, ps, rfl, ho, hd, hb, l1, l2, q⟩ := h
  have hz : ys.length = ps.length := by have := hd.length; rwa [List.length_map] at this
  refine ⟨_, (pss_cons (ps_if (PW.pt (pw_or (pt_not (pt_val (pe_callB call_isSeq (by rfl) B.isinstance PySem.L3.boot_isinstance (pa_cons (pv 0) (pa_cons (pe_bltn (v := .ty "list") (by rfl) B.list PySem.L3.boot_list rfl) pa_nil))))) (pw_or1 (pt_not (pt_chain op_le op_le pe_int (pe_callB call_len_seq (by rfl) B.len PySem.L3.boot_len (pa_cons (pv 0) pa_nil)) (pe_glob (v := .int 8) (by rfl) B.g_MOST_SPOTS.choose_spec ⟨_, rfl⟩)))))) (pss_one (ps_ret pe_bl)) pss_nil)
    (pss_one (ps_ret (pe_callB (call_all rfl) (by rfl) B.all PySem.L3.boot_all (pa_cons (pe_comp (Nc := ["spot"]) (fi := [none]) (comp_sc rfl rfl rfl) rfl (comp_from_go rfl) (pi_list (pv 0)) (fun _ _ _ _ => ⟨(pg_name (i := 0) (show (["spot"] : List Str).Nodup by decide +kernel) rfl (Or.inl rfl)), pf_nil, (pe_c C_is_pair (hr.mono (by decide)) (by rfl) (pa_cons (pv 0) pa_nil))⟩)) pa_nil))))), ?_⟩
  refine ⟨_, rfl, o, _, "list", true, rfl, .inr ⟨ho, rfl⟩, _, rfl, ?_⟩
  refine iteF ?_
  refine ⟨_, rfl, o, ys, rfl, .inl ho, _, _, rfl, rfl, _, rfl, ite2 (fun _ => ?_) (fun h => absurd (decide_eq_true (show (1 : Int) ≤ (ys.length : Nat) by omega)) h)⟩
  refine ⟨_, _, rfl, rfl, _, rfl, ?_⟩
  have h8 : decide (((ys.length : Nat) : Int) ≤ 8) = true := decide_eq_true (by omega)
  refine ite2 (fun h => ?_) (fun _ => ?_)
  · exfalso
    have h' : (!decide (((ys.length : Nat) : Int) ≤ 8)) = true := h
    rw [h8] at h'; cases h'
  refine ⟨_, rfl, o, rfl, ⟨_, ho⟩, fun _ _ _ _ l hl => ?_⟩
  refine comp_by ys.length (by rw [sizeLine_eq]; omega) (fun i zs σ' Hc => Same H Hc ∧ Hc l = some (.lst zs) ∧ zs = List.replicate i (V.bl true) ∧ σ'.length = 1) ?_ (fun i zs σ' Hc ⟨_, e, y, _⟩ => ⟨e, by rw [y]; simp⟩) ?_ ?_
  · exact ⟨same_new hl _, upd_same, rfl, rfl⟩
  · rintro i zs σ' Hc hi ⟨e, el, rfl, hσ⟩
    refine ⟨⟨_, ys[i], e.seq ho, by simp [hi]⟩, fun x H' y Kt Kf k1 _ => ?_⟩
    obtain ⟨rfl, hx⟩ := y
    have hx' := hx _ (e.seq ho)
    obtain ⟨d, hd1, hd2⟩ := hd.get' hx'
    rw [List.getElem?_map] at hd1
    obtain ⟨p, hp, rfl⟩ := Option.map_eq_some_iff.mp hd1
    match σ', hσ with
    | [c], _ =>
      simp only [gName, tYes, ↓reduceIte]
      refine ⟨_, rfl, x, p, rfl, ⟨e.dn hd2, hb p (List.mem_of_getElem? hp)⟩, fun H2 e2 => ?_⟩
      refine k1 _ _ _ (e2 _ _ el) ⟨fun b o h => ?_, upd_same, by rw [List.replicate_succ'], rfl⟩
      rw [upd_ne (ne_of_none h hl)]; exact e2 _ _ (e _ _ h)
  · rintro zs σ' Hc ⟨e, el, rfl, _⟩
    refine ⟨⟨_, e.seq ho, Nat.le_refl _⟩, l, List.replicate ys.length true, rfl, SqL.of (by rw [List.map_replicate]; exact el), ?_⟩
    have : (List.replicate ys.length true).all id = true := by simp
    rw [this]; exact q _ e
end
end K8a
set_option Elab.async false
set_option linter.all false
set_option maxRecDepth 100000
set_option maxHeartbeats 4000000
namespace K8a
open PySem L2 Hull SortM Pick SepM
seal L2.PE L2.PT L2.PW L2.PA L2.PS L2.PSs L2.PG L2.PGs L2.PF L2.PI L2.PO
section
variable {P : Program} {w : World} {K : PySem.W.Frag} {mg : Str → Option Value} {base : Heap} {f : Addr} {fd : FuncData}
theorem fold_mem : ∀ (row st : List Hull.P) (p : Hull.P), p ∈ row.foldl push st → p ∈ st ∨ p ∈ row
  | [], st, p, h => .inl h
  | t :: row, st, p, h => by
    rcases fold_mem row (push st t) p h with g | g
    · unfold push at g
      rcases List.mem_cons.mp g with e | e
      · exact .inr (e ▸ List.mem_cons_self)
      · obtain ⟨l, hl⟩ := pops_suffix t st
        exact .inl (by rw [hl]; exact List.mem_append_right _ e)
    · exact .inr (List.mem_cons_of_mem _ g)
theorem fold_len : ∀ (row st : List Hull.P), (row.foldl push st).length ≤ st.length + row.length
  | [], st => Nat.le_refl _
  | t :: row, st => by
    have h1 := fold_len row (push st t)
    have h2 : (push st t).length ≤ st.length + 1 := by
      obtain ⟨l, hl⟩ := pops_suffix t st
      have := congrArg List.length hl
      rw [List.length_append] at this
      show (pops t st).length + 1 ≤ _
      omega
    show (row.foldl push (push st t)).length ≤ st.length + (row.length + 1)
    omega
theorem atI_last2 {α : Type} (xs : List α) (u v : α) : atI (xs ++ [u] ++ [v]) (-2) = some u := by
  have hl : (xs ++ [u] ++ [v]).length = xs.length + 2 := by simp
  have e : ixN (xs ++ [u] ++ [v]).length (-2) = some xs.length := by
    unfold ixN
    rw [hl]
    rw [if_neg (by omega), if_pos (by omega)]
    congr 1; omega
  unfold atI
  rw [e]
  simp
theorem ok_chain (B : Bl mg) (C_leftness : Cal P w K mg base 1 "leftness" (sp_left K)) (F : Fun K "left_chain" "left_chain" s_left_chain f fd) : FnOk P w K mg base CX0 2 f fd ["row"] (sp_chain K) := by
  refine F.ok sc_left_chain (fun vs H Q E h => ?_) (fun cdv A outer s H vs Q E hr h => ?_)
  · obtain ⟨r, xs, row, rfl, _⟩ := h
    rfl
  obtain ⟨r, xs, row, rfl, hr1, hd, hb, h8, q⟩ := h
  refine ⟨_, (pss_cons (ps_set (i := 1) sc_left_chain.nd rfl (Or.inl rfl) (pe_lst pa_nil))
    (pss_cons (ps_for PassesOwn.never rfl (pi_list (pv 0)) (pg_name (i := 2) sc_left_chain.nd rfl (Or.inl rfl)) (pss_cons (ps_while PassesOwn.never (PW.pt (pw_and (pt_cmpR op_gt (pe_callB call_len_seq (by rfl) B.len PySem.L3.boot_len (pa_cons (pv 1) pa_nil)) pe_int (nomark _)) (pw_and1 (pt_cmpR op_le (pe_c C_leftness (hr.mono (by decide)) (by rfl) (pa_cons (pe_ix ix_list (pv 1) (pe_un un_neg pe_int) (fun _ _ => rfl)) (pa_cons (pe_ix ix_list (pv 1) (pe_un un_neg pe_int) (fun _ _ => rfl)) (pa_cons (pv 2) pa_nil)))) pe_int (nomark _))))) (pss_one (ps_expr (pe_bm0 PySem.F.plainAttrs_list PySem.F.slot_list_pop PySem.F.type_list_pop mt_pop (pv 1)))))
    (pss_one (ps_expr (pe_bm PySem.F.plainAttrs_list PySem.F.slot_list_append PySem.F.type_list_append mt_append (pv 1) (pa_cons (pv 2) pa_nil))))))
    (pss_one (ps_ret (pv 1))))), ?_⟩
  refine ⟨Nat.zero_le _, fun l hl => ?_⟩
  have hrl : SqL K (upd H l (.lst [])) r xs := (same_new hl _).seq hr1
  refine ⟨_, rfl, r, rfl, ⟨xs, hrl⟩, ?_⟩
  refine for_list (xs := xs) (fun i σ' H' => ∃ zs o, σ' = [some (.ref r), some (.ref l), o] ∧ H' = upd H l (.lst zs) ∧ Dns K H (((row.take i).foldl push []).reverse.map spotD) zs) ⟨[], _, rfl, rfl, dns_nil⟩ (fun i σ' H' _ p => ?_) ?_ ?_
  · obtain ⟨zs, o, rfl, rfl, _⟩ := p
    exact (same_new hl _).seq hr1
  · rintro i x σ' H' hx ⟨zs0, o, rfl, rfl, dz0⟩
    obtain ⟨d, hd1, hd2⟩ := hd.get' hx
    rw [List.getElem?_map] at hd1
    obtain ⟨t, ht, rfl⟩ := Option.map_eq_some_iff.mp hd1
    have htr : t ∈ row := List.mem_of_getElem? ht
    have hi : i < row.length := (List.getElem?_eq_some_iff.mp ht).1
    refine ⟨fun m σ' H' => ∃ zs st, σ' = [some (.ref r), some (.ref l), some x] ∧ H' = upd H l (.lst zs) ∧ Dns K H (st.reverse.map spotD) zs ∧ pops t st = pops t ((row.take i).foldl push []) ∧ (∀ p ∈ st, p ∈ row) ∧ st.length ≤ 8 ∧ m = st.length,
      ⟨_, zs0, (row.take i).foldl push [], rfl, rfl, dz0, rfl, fun p hp => ?_, ?_, rfl⟩, ?_⟩
    · rcases fold_mem _ _ p hp with g | g
      · cases g
      · exact List.mem_of_mem_take g
    · have h1 := fold_len (row.take i) []
      rw [List.length_take] at h1
      simp only [List.length_nil] at h1
      omega
    · rintro m σ' H' ⟨zs, st, rfl, rfl, dz, hpp, hmem, hs8, rfl⟩
      have hlen : zs.length = st.length := by have := dz.length; simpa using this
      -- the end of the while: t is put on top
      have fin : pops t st = st → zs.length < sizeLine ∧ ∃ zs' o', [some (V.ref r), some (V.ref l), some x] = [some (.ref r), some (.ref l), o'] ∧ upd (upd H l (.lst zs)) l (.lst (zs ++ [x])) = upd H l (.lst zs') ∧ Dns K H (((row.take (i + 1)).foldl push []).reverse.map spotD) zs' := fun e => by
        refine ⟨by rw [sizeLine_eq]; omega, zs ++ [x], _, rfl, upd_upd, ?_⟩
        have e1 : (row.take (i + 1)).foldl push [] = t :: st := by
          rw [List.take_add_one, ht, List.foldl_append]
          show t :: pops t ((row.take i).foldl push []) = _
          rw [← hpp, e]
        rw [e1, List.reverse_cons, List.map_append]
        exact dz.append (dns_cons hd2 dns_nil)
      refine ⟨_, rfl, l, zs, rfl, .inl (SqL.of upd_same), _, _, rfl, rfl, _, rfl, ite2 (fun c0 => ?_) (fun c0 => ?_)⟩
      · have c1 : (1 : Int) < ((zs.length : Nat) : Int) := of_decide_eq_true c0
        obtain ⟨b, a, r', rfl⟩ : ∃ b a r', st = b :: a :: r' := by
          match st, hlen with
          | [], hlen => rw [hlen] at c1; simp at c1
          | [_], hlen => rw [hlen] at c1; simp at c1
          | b :: a :: r', _ => exact ⟨b, a, r', rfl⟩
        have er : (b :: a :: r').reverse.map spotD = (r'.reverse.map spotD ++ [spotD a]) ++ [spotD b] := by simp
        rw [er] at dz
        obtain ⟨ys, wb, rfl, d1, d2⟩ := Dns.split dz
        obtain ⟨vb, w1, rfl, db, d3⟩ := L2.Dns.cons d2
        obtain rfl := d3.nil
        obtain ⟨ys', wa, rfl, d4, d5⟩ := Dns.split d1
        obtain ⟨va, w2, rfl, da, d6⟩ := L2.Dns.cons d5
        obtain rfl := d6.nil
        have sm := same_new hl (HO.lst (ys' ++ [va] ++ [vb]))
        refine ⟨_, rfl, _, rfl, l, _, _, va, rfl, rfl, SqL.of upd_same, atI_last2 ys' va vb, _, rfl, _, rfl, l, _, _, vb, rfl, rfl, SqL.of upd_same, atI_last (ys' ++ [va]) vb, _, rfl, va, vb, x, a, b, t, rfl, ⟨sm.dn da, hb a (hmem a (by simp))⟩, ⟨sm.dn db, hb b (hmem b (by simp))⟩, ⟨sm.dn hd2, hb t htr⟩, _, _, rfl, rfl, _, rfl, ite2 (fun c2 => ?_) (fun c2 => ?_)⟩
        · have c3 : turn a b t ≤ 0 := of_decide_eq_true c2
          refine ⟨fun σ' H' => σ' = [some (.ref r), some (.ref l), some x] ∧ H' = upd H l (.lst (ys' ++ [va])), ?_, ?_⟩
          · rintro σ'' H'' ⟨rfl, rfl⟩
            refine ⟨(a :: r').length, by simp, ys' ++ [va], a :: r', rfl, rfl, ?_, ?_, fun p hp => hmem p (List.mem_cons_of_mem _ hp), by simp at hs8 ⊢; omega, rfl⟩
            · have : (a :: r').reverse.map spotD = r'.reverse.map spotD ++ [spotD a] := by simp
              rw [this]; exact d4.append (dns_cons da dns_nil)
            · rw [← hpp]
              conv => rhs; unfold pops
              rw [if_pos c3]
          · refine ⟨_, rfl, .inl ⟨rfl, _, SqL.of upd_same⟩, l, _, vb, rfl, rfl, upd_same, by simp, ?_⟩
            exact ⟨rfl, by rw [upd_upd, List.dropLast_concat]⟩
        · have c3 : ¬ turn a b t ≤ 0 := of_decide_eq_false (Bool.eq_false_iff.mpr c2)
          obtain ⟨z1, z2⟩ := fin (by unfold pops; rw [if_neg c3])
          exact ⟨_, rfl, .inl ⟨rfl, _, SqL.of upd_same⟩, _, rfl, l, _, x, rfl, rfl, upd_same, z1, z2⟩
      · have c1 : ¬ (1 : Int) < ((zs.length : Nat) : Int) := of_decide_eq_false (Bool.eq_false_iff.mpr c0)
        obtain ⟨z1, z2⟩ := fin (by
          match st, hlen with
          | [], _ => rfl
          | [_], _ => rfl
          | b :: a :: r', hlen => rw [hlen] at c1; simp at c1; omega)
        exact ⟨_, rfl, .inl ⟨rfl, _, SqL.of upd_same⟩, _, rfl, l, _, x, rfl, rfl, upd_same, z1, z2⟩
  · rintro σ' H' ⟨zs, o, rfl, rfl, dz⟩
    have hxl : xs.length = row.length := by have := hd.length; simpa using this
    rw [hxl, List.take_length] at dz
    exact ⟨_, rfl, q l zs hl dz⟩
theorem ok_corners (B : Bl mg) (C_check_herd : Cal P w K mg base 4 "check_herd" (sp_check K)) (C_left_chain : Cal P w K mg base 2 "left_chain" (sp_chain K)) (F : Fun K "corners" "corners" s_corners f fd) : FnOk P w K mg base CX0 5 f fd ["herd"] (sp_corners K) := by
  refine F.ok sc_corners (fun vs H Q E h => ?_) (fun cdv A outer s H vs Q E hr h => ?_)
  · obtain ⟨o, ys, ps, rfl, _⟩ := h
    rfl
  obtain ⟨o, ys, ps, rfl, ho, hd, hb, l1, l2, q⟩ := h
  have hz : ys.length = ps.length := by have := hd.length; rwa [List.length_map] at this
  have hu := hr.units
  refine ⟨_, (pss_cons (ps_expr (pe_c C_check_herd (hr.mono (by decide)) (by rfl) (pa_cons (pv 0) pa_nil)))
    (pss_cons (ps_set (i := 1) sc_corners.nd rfl (Or.inl rfl) (pe_callB (call_sortSp rfl) (by rfl) B.sorted PySem.L3.boot_sorted (pa_cons (pe_callTy (call_setSp rfl hu) (by rfl) B.set PySem.L3.boot_set (pa_cons (pe_comp (Nc := ["spot"]) (fi := [none]) (comp_sc rfl rfl rfl) rfl (comp_from_go rfl) (pi_list (pv 0)) (fun _ _ _ _ => ⟨(pg_name (i := 0) (show (["spot"] : List Str).Nodup by decide +kernel) rfl (Or.inl rfl)), pf_nil, (pe_tup (pa_cons (pe_ix ix_tup (pv 0) pe_int (fun _ _ => rfl)) (pa_cons (pe_ix ix_tup (pv 0) pe_int (fun _ _ => rfl)) pa_nil)))⟩)) pa_nil)) pa_nil)))
    (pss_cons (ps_if (pt_cmpR op_eq (pe_callB call_len_seq (by rfl) B.len PySem.L3.boot_len (pa_cons (pv 1) pa_nil)) pe_int (nomark _)) (pss_one (ps_ret (pv 1))) pss_nil)
    (pss_cons (ps_set (i := 2) sc_corners.nd rfl (Or.inl rfl) (pe_c C_left_chain (hr.mono (by decide)) (by rfl) (pa_cons (pv 1) pa_nil)))
    (pss_cons (ps_set (i := 3) sc_corners.nd rfl (Or.inl rfl) (pe_c C_left_chain (hr.mono (by decide)) (by rfl) (pa_cons (pe_callTy (call_listRev rfl) (by rfl) B.list PySem.L3.boot_list (pa_cons (pe_callTy call_rev (by rfl) B.reversed PySem.L3.boot_reversed (pa_cons (pv 1) pa_nil)) pa_nil)) pa_nil)))
    (pss_one (ps_ret (pe_op op_cat (pe_slice sl_list (pv 2) po_none (po_some (pe_un un_neg pe_int))) (pe_slice sl_list (pv 3) po_none (po_some (pe_un un_neg pe_int))))))))))), ?_⟩
  refine ⟨_, rfl, o, ys, ps, rfl, ho, hd, hb, l1, l2, fun H1 e1 => ?_⟩
  refine ⟨_, rfl, o, rfl, ⟨_, e1.seq ho⟩, fun _ _ _ _ l hl => ?_⟩
  refine comp_by ys.length (by rw [sizeLine_eq]; omega) (fun i zs σ' Hc => Same H1 Hc ∧ Hc l = some (.lst zs) ∧ Dns K Hc ((ps.take i).map spotD) zs ∧ zs.length = i ∧ σ'.length = 1) ?_ (fun i zs σ' Hc ⟨_, e, _, y, _⟩ => ⟨e, by rw [y]; exact Nat.le_refl _⟩) ?_ ?_
  · exact ⟨same_new hl _, upd_same, dns_nil, rfl, rfl⟩
  · rintro i zs σ' Hc hi ⟨e, el, dz, lz, hσ⟩
    have eo := (e1.trans e).seq ho
    refine ⟨⟨_, ys[i], eo, by simp [hi]⟩, fun x H' y Kt Kf k1 _ => ?_⟩
    obtain ⟨rfl, hx⟩ := y
    have hx' := hx _ eo
    obtain ⟨d, hd1, hd2⟩ := hd.get' hx'
    rw [List.getElem?_map] at hd1
    obtain ⟨p, hp, rfl⟩ := Option.map_eq_some_iff.mp hd1
    obtain ⟨t, rfl, ht⟩ := ((e1.trans e).dn hd2).spot
    match σ', hσ with
    | [c], _ =>
      simp only [gName, tYes, ↓reduceIte]
      refine ⟨_, rfl, t, _, _, _, rfl, rfl, ht, rfl, _, rfl, t, _, _, _, rfl, rfl, ht, rfl, (by show 2 ≤ sizeLine; decide), fun u hu' => ?_⟩
      have eu := same_new hu' (HO.tup [V.int p.1, V.int p.2])
      refine k1 _ _ _ (eu _ _ el) ⟨same_upd hl (e.trans eu), upd_same, ?_, by rw [List.length_append, lz]; rfl, rfl⟩
      rw [List.take_add_one, hp, List.map_append]
      exact (spots_upd (eu _ _ el) (eu.dns dz)).append (dns_cons (spot_upd (eu _ _ el) (dn_spot (SqT.of upd_same))) dns_nil)
  · rintro zs σ' H2 ⟨e2, el, dz, lz, _⟩
    rw [hz, List.take_length] at dz
    refine ⟨⟨_, (e1.trans e2).seq ho, Nat.le_refl _⟩, ?_⟩
    refine ⟨l, zs, ps, rfl, SqL.of el, dz, by omega, fun L a ha he hm hlL => ?_⟩
    refine ⟨a, L, rfl, upd_same, he.same (same_new ha _), by omega, fun rs row r hr' dr sr mr lr => ?_⟩
    have h3 : upd (upd H2 a (setO P w a L)) r (.lst rs) r = some (.lst rs) := upd_same
    have e3 : Same H (upd (upd H2 a (setO P w a L)) r (.lst rs)) := (e1.trans e2).trans ((same_new ha _).trans (same_new hr' _))
    have d3 : Dns K (upd (upd H2 a (setO P w a L)) r (.lst rs)) (row.map spotD) rs := (same_new hr' _).dns dr
    have hr0 : H r = none := ((e1.trans e2).trans (same_new ha _)).free hr'
    show gName 1 (V.ref r) _ (upd (upd H2 a (setO P w a L)) r (.lst rs)) _
    generalize upd (upd H2 a (setO P w a L)) r (.lst rs) = H3 at *
    have lrs : rs.length = row.length := by have := d3.length; rwa [List.length_map] at this
    have mem : ∀ p, p ∈ row ↔ p ∈ ps := fun p => (mr p).trans (hm p)
    have brow : ∀ p ∈ row, Bd p := fun p hp => hb p ((mem p).mp hp)
    refine ⟨_, rfl, r, rs, rfl, .inl (SqL.of h3), rfl, _, rfl, ite2 (fun c0 => ?_) (fun c0 => ?_)⟩
    · have c1 : row.length = 1 := by
        have : ((rs.length : Nat) : Int) = 1 := by simpa using c0
        omega
      refine ⟨_, rfl, q r rs row H3 e3 hr0 h3 sr mem ?_⟩
      unfold hull; rw [if_pos c1]; exact d3
    · have c1 : row.length ≠ 1 := by
        have : ¬ ((rs.length : Nat) : Int) = 1 := by simpa using c0
        omega
      refine ⟨_, rfl, r, rs, row, rfl, SqL.of h3, d3, brow, by omega, fun b zb hb0 db => ?_⟩
      have e4 := same_new hb0 (HO.lst zb)
      refine ⟨_, rfl, r, rs, rfl, e4 _ _ h3, fun a2 ha2 => ?_⟩
      refine ⟨a2, r, rs, rfl, upd_same, (same_new ha2 _) _ _ (e4 _ _ h3), fun p hp => ?_⟩
      rw [del_upd ha2]
      have hp' : upd H3 b (.lst zb) p = none := (same_new ha2 _).free hp
      have e5 := same_new hp' (HO.lst rs.reverse)
      refine ⟨p, rs.reverse, row.reverse, rfl, SqL.of upd_same, ?_, fun x hx => brow x (List.mem_reverse.mp hx), by rw [List.length_reverse]; omega, fun c zc hc0 dc => ?_⟩
      · rw [List.map_reverse]; exact (e5.dns (e4.dns d3)).reverse
      have e6 := same_new hc0 (HO.lst zc)
      have hb6 : upd (upd (upd H3 b (.lst zb)) p (.lst rs.reverse)) c (.lst zc) b = some (.lst zb) := e6 _ _ (e5 _ _ upd_same)
      have s6 : Same H3 (upd (upd (upd H3 b (.lst zb)) p (.lst rs.reverse)) c (.lst zc)) := e4.trans (e5.trans e6)
      have hcut : ∀ zs : List V, cutV zs none (some (-1)) = zs.dropLast := fun zs => by
        unfold cutV HT.sIx
        rw [List.dropLast_eq_take]
        simp
        congr 1
        omega
      have lb : zb.length ≤ 8 := by
        have h1 := db.length
        have h2 := fold_len row []
        have h3' : (chainR row).length = (row.foldl push []).length := rfl
        simp only [List.length_map, List.length_reverse, List.length_nil] at h1 h2
        omega
      have lc : zc.length ≤ 8 := by
        have h1 := dc.length
        have h2 := fold_len row.reverse []
        have h3' : (chainR row.reverse).length = (row.reverse.foldl push []).length := rfl
        simp only [List.length_map, List.length_reverse, List.length_nil] at h1 h2
        omega
      have dl : ∀ {H' : Hp} {qs : List Hull.P} {zs : List V}, Dns K H' (qs.map spotD) zs → Dns K H' (qs.dropLast.map spotD) zs.dropLast := fun {H' qs zs} d => by
        have hq : zs.length = qs.length := by have := d.length; rwa [List.length_map] at this
        have := d.take (qs.length - 1)
        rw [List.dropLast_eq_take, List.dropLast_eq_take, hq, List.map_take]
        exact this
      refine ⟨_, rfl, _, rfl, _, rfl, b, zb, rfl, SqL.of hb6, fun s1 hs1 => ?_⟩
      have e7 := same_new hs1 (HO.lst (cutV zb none (some (-1))))
      refine ⟨_, rfl, _, rfl, _, rfl, c, zc, rfl, SqL.of (e7 _ _ upd_same), fun s2 hs2 => ?_⟩
      have e8 := same_new hs2 (HO.lst (cutV zc none (some (-1))))
      refine ⟨s1, s2, _, _, rfl, rfl, e8 _ _ upd_same, upd_same, ?_, fun l hl2 => ?_⟩
      · rw [hcut, hcut, List.length_dropLast, List.length_dropLast, sizeLine_eq]; omega
      · have e9 := same_new hl2 (HO.lst (cutV zb none (some (-1)) ++ cutV zc none (some (-1))))
        refine q l _ row _ (e3.trans (s6.trans (e7.trans (e8.trans e9)))) ((e3.trans (s6.trans (e7.trans e8))).free hl2) upd_same sr mem ?_
        have fin := ((s6.trans (e7.trans (e8.trans e9))).dns (dl db)).append ((e6.trans (e7.trans (e8.trans e9))).dns (dl dc))
        have eh : (hull row).map spotD = (chainR row).reverse.dropLast.map spotD ++ (chainR row.reverse).reverse.dropLast.map spotD := by unfold hull; rw [if_neg c1, List.map_append]
        rw [eh]
        have ez : cutV zb none (some (-1)) ++ cutV zc none (some (-1)) = zb.dropLast ++ zc.dropLast := by rw [hcut, hcut]
        rw [← ez] at fin
        exact fin
end
end K8a
set_option Elab.async false
set_option linter.all false
set_option maxRecDepth 100000
set_option maxHeartbeats 4000000
namespace K8a
open PySem L2 Hull SortM Pick SepM
seal L2.PE L2.PT L2.PW L2.PA L2.PS L2.PSs L2.PG L2.PGs L2.PF L2.PI L2.PO
section
variable {P : Program} {w : World} {K : PySem.W.Frag} {mg : Str → Option Value} {base : Heap} {f : Addr} {fd : FuncData}
inductive sp_cd (vs : List V) (H : Hp) (Q : VK) (x_3 : XK) : Prop where
  | mk (a b : Int) (h_0 : vs = [.int a, .int b]) (h_1 : Q (.int (K9.g a b)) H)
theorem ok_cd (B : Bl mg) (F : Fun K "common_divisor" "common_divisor" s_common_divisor f fd) : FnOk P w K mg base CX0 1 f fd ["a", "b"] sp_cd := by
  refine F.ok sc_common_divisor (fun vs H Q E h => ?_) (fun cdv A outer s H vs Q E hr h => ?_)
  · obtain ⟨a, b, rfl, _⟩ := h
    rfl
  obtain ⟨a, b, rfl, q⟩ := h
  refine ⟨_, (pss_cons (ps_set (i := 2) sc_common_divisor.nd rfl (Or.inl rfl) (pe_callB call_abs (by rfl) B.abs PySem.L3.boot_abs (pa_cons (pv 0) pa_nil)))
    (pss_cons (ps_set (i := 3) sc_common_divisor.nd rfl (Or.inl rfl) (pe_callB call_abs (by rfl) B.abs PySem.L3.boot_abs (pa_cons (pv 1) pa_nil)))
    (pss_cons (ps_while PassesOwn.never (pt_cmpR op_gt (pv 3) pe_int (nomark _)) (pss_cons (ps_set (i := 4) sc_common_divisor.nd rfl (Or.inl rfl) (pe_op op_mod (pv 2) (pv 3)))
    (pss_cons (ps_set (i := 2) sc_common_divisor.nd rfl (Or.inl rfl) (pv 3))
    (pss_one (ps_set (i := 3) sc_common_divisor.nd rfl (Or.inl rfl) (pv 4))))))
    (pss_one (ps_ret (pv 2)))))), ?_⟩
  refine ⟨_, rfl, a, rfl, _, rfl, b, rfl, ?_⟩
  refine ⟨fun m σ' H' => H' = H ∧ ∃ (x y : Int) (r : Option V), σ' = [some (.int a), some (.int b), some (.int x), some (.int y), r] ∧ 0 ≤ x ∧ 0 ≤ y ∧ K9.g x y = K9.g a b ∧ m = y.toNat, ⟨_, rfl, _, _, _, rfl, by split <;> omega, by split <;> omega, K9.g_abs a b, rfl⟩, ?_⟩
  rintro m σ' H' ⟨rfl, x, y, r, rfl, hx, hy, hg, rfl⟩
  refine ⟨_, rfl, _, _, rfl, rfl, _, rfl, ite2 (fun c => ?_) (fun c => ?_)⟩
  · have c' : 0 < y := of_decide_eq_true c
    refine ⟨fun σ' H'' => H'' = H' ∧ σ' = [some (.int a), some (.int b), some (.int y), some (.int (x % y)), some (.int (x % y))], ?_, ?_⟩
    · rintro σ'' H'' ⟨rfl, rfl⟩
      have h1 := Int.emod_nonneg x (show y ≠ 0 by omega)
      have h2 := Int.emod_lt_of_pos x c'
      exact ⟨(x % y).toNat, by omega, rfl, y, x % y, _, rfl, by omega, h1, by rw [K9.g_step hx c', hg], rfl⟩
    · exact ⟨_, rfl, _, rfl, _, _, rfl, rfl, c', _, rfl, _, rfl, rfl, rfl⟩
  · have c' : ¬ 0 < y := of_decide_eq_false (Bool.eq_false_iff.mpr c)
    have hy0 : y = 0 := by omega
    subst hy0
    rw [K9.g_zero hx] at hg
    refine ⟨_, rfl, ?_⟩
    show Q (.int x) _
    rw [hg]; exact q
inductive sp_made (K : PySem.W.Frag) (vs : List V) (H : Hp) (Q : VK) (x_3 : XK) : Prop where
  | mk (a b : Int) (h_0 : vs = [.int a, .int b]) (h_1 : 0 < b) (h_2 : b < 2 ^ 190) (h_3 : ∀ v H', Same H H' → Dn K H' (spotD (K9.mk a b)) v → Q v H')
theorem ok_made (C_common_divisor : Cal P w K mg base 1 "common_divisor" sp_cd) (F : Fun K "made" "made" s_made f fd) : FnOk P w K mg base CX0 2 f fd ["a", "b"] (sp_made K) := by
  refine F.ok sc_made (fun vs H Q E h => ?_) (fun cdv A outer s H vs Q E hr h => ?_)
  · obtain ⟨a, b, rfl, _⟩ := h
    rfl
  obtain ⟨a, b, rfl, hb, hb2, q⟩ := h
  have h1 := K9.g_pos (a := a) hb
  have h2 := K9.g_le (a := a) hb
  refine ⟨_, (pss_cons (ps_set (i := 2) sc_made.nd rfl (Or.inl rfl) (pe_c C_common_divisor (hr.mono (by decide)) (by rfl) (pa_cons (pv 0) (pa_cons (pv 1) pa_nil))))
    (pss_one (ps_ret (pe_tup (pa_cons (pe_op op_fdivB (pv 0) (pv 2)) (pa_cons (pe_op op_fdivB (pv 1) (pv 2)) pa_nil)))))), ?_⟩
  refine ⟨_, rfl, _, rfl, a, b, rfl, ?_⟩
  have h3 : K9.g a b < 2 ^ 200 := by omega
  refine ⟨_, rfl, _, rfl, _, _, rfl, rfl, ⟨h1, h3⟩, _, rfl, _, rfl, _, _, rfl, rfl, ⟨h1, h3⟩, (by show 2 ≤ sizeLine; decide), fun p hp => ?_⟩
  exact q _ _ (same_new hp _) (dn_spot (SqT.of upd_same))
inductive sp_reach (K : PySem.W.Frag) (vs : List V) (H : Hp) (Q : VK) (x_3 : XK) : Prop where
  | mk (x : _) (y : _) (a : _) (b : _) (h_0 : vs = [x, y]) (h_1 : Dn K H (spotD a) x) (h_2 : Sp K H y b) (h_3 : Q (.int (dot a b)) H)
theorem ok_reach (F : Fun K "reach" "reach" s_reach f fd) : FnOk P w K mg base CX0 1 f fd ["way", "spot"] (sp_reach K) := by
  refine F.ok sc_reach (fun vs H Q E h => ?_) (fun cdv A outer s H vs Q E hr h => ?_)
  · obtain ⟨x, y, a, b, rfl, _⟩ := h
    rfl
  obtain ⟨x, y, a, b, rfl, ha, ⟨hb, hb1, hb2⟩, q⟩ := h
  obtain ⟨x, rfl, ta⟩ := ha.spot
  obtain ⟨y, rfl, tb⟩ := hb.spot
  refine ⟨_, (pss_one (ps_ret (pe_op op_add (pe_op op_mul (pe_ix ix_tup (pv 0) pe_int (fun _ _ => rfl)) (pe_ix ix_tup (pv 1) pe_int (fun _ _ => rfl))) (pe_op op_mul (pe_ix ix_tup (pv 0) pe_int (fun _ _ => rfl)) (pe_ix ix_tup (pv 1) pe_int (fun _ _ => rfl)))))), ?_⟩
  refine ⟨_, rfl, x, _, _, _, rfl, rfl, ta, rfl, _, rfl, y, _, _, _, rfl, rfl, tb, rfl, _, _, rfl, rfl, .inr ⟨by omega, by omega⟩, ?_⟩
  exact ⟨_, rfl, x, _, _, _, rfl, rfl, ta, rfl, _, rfl, y, _, _, _, rfl, rfl, tb, rfl, _, _, rfl, rfl, .inr ⟨by omega, by omega⟩, _, _, rfl, rfl, q⟩
inductive sp_step (K : PySem.W.Frag) (vs : List V) (H : Hp) (Q : VK) (x_3 : XK) : Prop where
  | mk (x : _) (y : _) (a : _) (b : _) (h_0 : vs = [x, y]) (h_1 : Dn K H (spotD a) x) (h_2 : Dn K H (spotD b) y) (h_3 : ∀ v H', Same H H' → Dn K H' (spotD (sb b a)) v → Q v H')
theorem ok_step (F : Fun K "step" "step" s_step f fd) : FnOk P w K mg base CX0 1 f fd ["start", "end"] (sp_step K) := by
  refine F.ok sc_step (fun vs H Q E h => ?_) (fun cdv A outer s H vs Q E hr h => ?_)
  · obtain ⟨x, y, a, b, rfl, _⟩ := h
    rfl
  obtain ⟨x, y, a, b, rfl, ha, hb, q⟩ := h
  obtain ⟨x, rfl, ta⟩ := ha.spot
  obtain ⟨y, rfl, tb⟩ := hb.spot
  refine ⟨_, (pss_one (ps_ret (pe_tup (pa_cons (pe_op op_sub (pe_ix ix_tup (pv 1) pe_int (fun _ _ => rfl)) (pe_ix ix_tup (pv 0) pe_int (fun _ _ => rfl))) (pa_cons (pe_op op_sub (pe_ix ix_tup (pv 1) pe_int (fun _ _ => rfl)) (pe_ix ix_tup (pv 0) pe_int (fun _ _ => rfl))) pa_nil))))), ?_⟩
  refine ⟨_, rfl, y, _, _, _, rfl, rfl, tb, rfl, _, rfl, x, _, _, _, rfl, rfl, ta, rfl, _, _, rfl, rfl, ?_⟩
  refine ⟨_, rfl, y, _, _, _, rfl, rfl, tb, rfl, _, rfl, x, _, _, _, rfl, rfl, ta, rfl, _, _, rfl, rfl, (by show 2 ≤ sizeLine; decide), fun t ht => ?_⟩
  exact q _ _ (same_new ht _) (dn_spot (SqT.of upd_same))
def natV (g : List Nat) : List V := g.map fun (i : Nat) => V.int (i : Int)
theorem del_upd2 {H : Hp} {a : Addr} {o : HO} : del (upd H a o) a = del H a := by
  funext b
  by_cases h : b = a
  · subst h; rw [del_same, del_same]
  · rw [del_ne h, del_ne h, upd_ne h]
theorem same_del {H H' : Hp} (e : Same H H') (l : Addr) : Same (del H l) (del H' l) := fun b u q => by
  by_cases h : b = l
  · subst h; rw [del_same] at q; cases q
  · rw [del_ne h] at q ⊢; exact e b u q
theorem same_of_del {H : Hp} {l : Addr} : Same (del H l) H := fun b u q => by
  by_cases h : b = l
  · subst h; rw [del_same] at q; cases q
  · rw [del_ne h] at q; exact q
theorem del_new {H : Hp} {t l : Addr} {o : HO} (ht : H t = none) (hl : H l ≠ none) : del (upd H t o) l t = some o := by
  rw [del_ne (fun e => hl (by rw [← e]; exact ht)), upd_same]
inductive sp_ones (K : PySem.W.Frag) (vs : List V) (H : Hp) (Q : VK) (x_3 : XK) : Prop where
  | mk (n : Nat) (h_0 : vs = [.int n]) (h_1 : n ≤ 8) (h_2 : ∀ l zs H', Same H H' → H l = none → H' l = some (.lst zs) → Lol H' ((Cut.ones n).map natV) zs → Q (.ref l) H')
theorem ok_ones (B : Bl mg) (F : Fun K "ones" "ones" s_ones f fd) : FnOk P w K mg base CX0 1 f fd ["count"] (sp_ones K) := by
  refine F.ok sc_ones (fun vs H Q E h => ?_) (fun cdv A outer s H vs Q E hr h => ?_)
  · obtain ⟨n, rfl, _⟩ := h
    rfl
  obtain ⟨n, rfl, h8, q⟩ := h
  refine ⟨_, (pss_one (ps_ret (pe_comp (Nc := ["place"]) (fi := [none]) (comp_sc rfl rfl rfl) rfl (comp_from_go rfl) (pi_range1 (by rfl) B.range (pa_cons (pv 0) pa_nil)) (fun _ _ _ _ => ⟨(pg_name (i := 0) (show (["place"] : List Str).Nodup by decide +kernel) rfl (Or.inl rfl)), pf_nil, (pe_lst (pa_cons (pv 0) pa_nil))⟩)))), ?_⟩
  refine ⟨_, rfl, _, rfl, by omega, by omega, fun _ _ _ _ l hl => ?_⟩
  refine comp_by n (by rw [sizeLine_eq]; omega) (fun i zs σ' Hc => Same H Hc ∧ Hc l = some (.lst zs) ∧ Lol (del Hc l) ((Cut.ones i).map natV) zs ∧ zs.length = i ∧ σ'.length = 1) ?_ (fun i zs σ' Hc ⟨_, e, _, y, _⟩ => ⟨e, by rw [y]; exact Nat.le_refl _⟩) ?_ ?_
  · exact ⟨same_new hl _, upd_same, rfl, rfl, rfl⟩
  · rintro i zs σ' Hc hi ⟨e, el, dz, lz, hσ⟩
    refine ⟨by show i < _; omega, fun x H' y Kt Kf k1 _ => ?_⟩
    obtain ⟨rfl, rfl⟩ := y
    match σ', hσ with
    | [o1], _ =>
      simp only [gName, tYes, ↓reduceIte]
      refine ⟨_, rfl, (by show 1 ≤ sizeLine; decide), fun t ht => ?_⟩
      have et := same_new ht (HO.lst [V.int (0 + i)])
      refine k1 _ _ _ (et _ _ el) ⟨same_upd hl (e.trans et), upd_same, ?_, by rw [List.length_append, lz]; rfl, rfl⟩
      have e1 : Cut.ones (i + 1) = Cut.ones i ++ [[i]] := by unfold Cut.ones; rw [List.range_succ, List.map_append]; rfl
      rw [e1, List.map_append, del_upd2]
      refine (dz.same (same_del et l)).append (Lol.one ?_)
      rw [Int.zero_add] at *
      exact del_new ht (by rw [el]; simp)
  · rintro zs σ' H2 ⟨e, el, dz, lz, _⟩
    exact ⟨by show _ ≤ n; omega, q l zs H2 e hl el (dz.same same_of_del)⟩
end
end K8a
set_option Elab.async false
set_option linter.all false
set_option maxRecDepth 100000
set_option maxHeartbeats 4000000
namespace K8a
open PySem L2 Hull SortM Pick SepM
seal L2.PE L2.PT L2.PW L2.PA L2.PS L2.PSs L2.PG L2.PGs L2.PF L2.PI L2.PO
section
variable {P : Program} {w : World} {K : PySem.W.Frag} {mg : Str → Option Value} {base : Heap} {f : Addr} {fd : FuncData}
def sp_way (K : PySem.W.Frag) : L2.Sp := fun vs H Q _ => ∃ x p, vs = [x] ∧ Sp K H x p ∧ ∀ H', Same H H' → Q .non H'
theorem ok_way (C_is_pair : Cal P w K mg base 2 "is_pair" (sp_pair K)) (F : Fun K "check_way" "check_way" s_check_way f fd) : FnOk P w K mg base CX0 3 f fd ["way"] (sp_way K) := by
  refine F.ok sc_check_way (fun vs H Q E h => ?_) (fun cdv A outer s H vs Q E hr h => ?_)
  · obtain ⟨x, p, rfl, _⟩ := h
    rfl
  obtain ⟨x, p, rfl, h1, q⟩ := h
  refine ⟨_, (pss_one (ps_if (pt_not (pt_val (pe_c C_is_pair (hr.mono (by decide)) (by rfl) (pa_cons (pv 0) pa_nil)))) (pss_one ps_never) pss_nil)), ?_⟩
  refine ⟨_, rfl, x, p, rfl, h1, fun H' e => ?_⟩
  exact ⟨_, rfl, ite2 (fun c => by cases c) fun _ => q _ e⟩
def Prs (K : PySem.W.Frag) (H : Hp) (zs : List V) (ps : List Hull.P) : Prop := zs.length = ps.length ∧ ∀ (j : Nat) (p q : Hull.P), ps[j]? = some p → (ps.drop 1 ++ ps.take 1)[j]? = some q → ∃ T x y, zs[j]? = some (V.ref T) ∧ H T = some (.tup [x, y]) ∧ Dn K H (spotD p) x ∧ Dn K H (spotD q) y
def sp_sides (K : PySem.W.Frag) : L2.Sp := fun vs H Q _ => ∃ (o : Addr) (ys : List V) (ps : List Hull.P), vs = [.ref o] ∧ SqL K H o ys ∧ Dns K H (ps.map spotD) ys ∧ ps.length ≤ 8 ∧ ∀ l zs H', Same H H' → H l = none → H' l = some (.lst zs) → Prs K H' zs ps → Q (.ref l) H'
theorem ok_sides (B : Bl mg) (F : Fun K "sides" "sides" s_sides f fd) : FnOk P w K mg base CX0 1 f fd ["around"] (sp_sides K) := by
  refine F.ok sc_sides (fun vs H Q E h => ?_) (fun cdv A outer s H vs Q E hr h => ?_)
  · obtain ⟨o, ys, ps, rfl, _⟩ := h
    rfl
  obtain ⟨o, ys, ps, rfl, ho, hd, h8, q⟩ := h
  have hz : ys.length = ps.length := by have := hd.length; rwa [List.length_map] at this
  refine ⟨_, (pss_one (ps_ret (pe_listZip (by rfl) B.list (by rfl) B.zip rfl (pa_cons (pv 0) (pa_cons (pe_op op_cat (pe_slice sl_list (pv 0) (po_some pe_int) po_none) (pe_slice sl_list (pv 0) po_none (po_some pe_int))) pa_nil))))), ?_⟩
  have c1 : cutV ys (some 1) none = ys.drop 1 := by
    unfold cutV HT.sIx
    match ys with
    | [] => rfl
    | a :: r => simp
  have c2 : cutV ys none (some 1) = ys.take 1 := by
    unfold cutV HT.sIx
    match ys with
    | [] => rfl
    | a :: r => simp
  refine ⟨_, rfl, _, rfl, _, rfl, o, ys, rfl, ho, fun a ha => ?_⟩
  have e1 := same_new ha (HO.lst (cutV ys (some 1) none))
  refine ⟨_, rfl, _, rfl, o, ys, rfl, e1.seq ho, fun b hb => ?_⟩
  have e2 := same_new hb (HO.lst (cutV ys none (some 1)))
  refine ⟨a, b, _, _, rfl, rfl, e2 _ _ upd_same, upd_same, ?_, fun c hc => ?_⟩
  · rw [c1, c2, List.length_drop, List.length_take, sizeLine_eq]; omega
  have e3 := same_new hc (HO.lst (cutV ys (some 1) none ++ cutV ys none (some 1)))
  have e13 := e1.trans (e2.trans e3)
  refine ⟨o, c, ys, _, rfl, e13.seq ho, SqL.of upd_same, ?_, fun l zs H' e hl hl' lz hzs => ?_⟩
  · rw [c1, c2, List.length_append, List.length_drop, List.length_take]; omega
  refine q l zs H' (e13.trans e) (e13.free hl) hl' ⟨by omega, fun j p r hp hr' => ?_⟩
  have hd' : Dns K H ((ps.drop 1 ++ ps.take 1).map spotD) (ys.drop 1 ++ ys.take 1) := by
    rw [List.map_append, List.map_drop, List.map_take]; exact (hd.drop 1).append (hd.take 1)
  obtain ⟨x, x1, x2⟩ := hd.get (i := j) (d := spotD p) (by rw [List.getElem?_map, hp]; rfl)
  obtain ⟨y, y1, y2⟩ := hd'.get (i := j) (d := spotD r) (by rw [List.getElem?_map, hr']; rfl)
  obtain ⟨T, t1, t2⟩ := hzs j x y x1 (by rw [c1, c2]; exact y1)
  exact ⟨T, x, y, t1, t2, (e13.trans e).dn x2, (e13.trans e).dn y2⟩
theorem next_is {ps : List Hull.P} {j : Nat} (hj : j < ps.length) : ∃ q, (ps.drop 1 ++ ps.take 1)[j]? = some q ∧ q ∈ ps := by
  have hl : (ps.drop 1 ++ ps.take 1).length = ps.length := by rw [List.length_append, List.length_drop, List.length_take]; omega
  have hj' : j < (ps.drop 1 ++ ps.take 1).length := by omega
  refine ⟨_, List.getElem?_eq_getElem hj', ?_⟩
  have := List.getElem_mem hj'
  rcases List.mem_append.mp this with g | g
  · exact List.mem_of_mem_drop g
  · exact List.mem_of_mem_take g
def sp_sumr (K : PySem.W.Frag) (g : Hull.P → Hull.P → Int) : L2.Sp := fun vs H Q _ => ∃ (o : Addr) (ys : List V) (ps : List Hull.P), vs = [.ref o] ∧ SqL K H o ys ∧ Dns K H (ps.map spotD) ys ∧ (∀ p ∈ ps, Bd p) ∧ ps.length ≤ 8 ∧ ∀ H', Same H H' → Q (.int (pathSum g (ring ps))) H'
theorem ok_area (B : Bl mg) (C_sides : Cal P w K mg base 1 "sides" (sp_sides K)) (F : Fun K "twice_area" "twice_area" s_twice_area f fd) : FnOk P w K mg base CX0 2 f fd ["around"] (sp_sumr K cross) := by
  refine F.ok sc_twice_area (fun vs H Q E h => ?_) (fun cdv A outer s H vs Q E hr h => ?_)
  · obtain ⟨o, ys, ps, rfl, _⟩ := h
    rfl
  obtain ⟨o, ys, ps, rfl, ho, hd, hb, h8, q⟩ := h
  refine ⟨_, (pss_one (ps_ret (pe_callB (call_sumL rfl) (by rfl) B.sum PySem.L3.boot_sum (pa_cons (pe_comp (Nc := ["start", "end"]) (fi := [none, none]) (comp_sc rfl rfl rfl) rfl (comp_from_go rfl) (pi_list (pe_c C_sides (hr.mono (by decide)) (by rfl) (pa_cons (pv 0) pa_nil))) (fun _ _ _ _ => ⟨(pg_tup rfl (pgs_cons (pg_name (i := 0) (show (["start", "end"] : List Str).Nodup by decide +kernel) rfl (Or.inl rfl)) (pgs_cons (pg_name (i := 1) (show (["start", "end"] : List Str).Nodup by decide +kernel) rfl (Or.inl rfl)) pgs_nil))), pf_nil, (pe_op op_sub (pe_op op_mul (pe_ix ix_tup (pv 0) pe_int (fun _ _ => rfl)) (pe_ix ix_tup (pv 1) pe_int (fun _ _ => rfl))) (pe_op op_mul (pe_ix ix_tup (pv 0) pe_int (fun _ _ => rfl)) (pe_ix ix_tup (pv 1) pe_int (fun _ _ => rfl))))⟩)) pa_nil)))), ?_⟩
  refine ⟨_, rfl, o, ys, ps, rfl, ho, hd, h8, fun lz zs H1 e1 hlz0 hlz hz => ?_⟩
  refine ⟨lz, rfl, ⟨_, SqL.of hlz⟩, fun _ _ _ _ l hl => ?_⟩
  refine comp_by zs.length (by rw [sizeLine_eq, hz.1]; omega) (fun i vs σ' Hc => Same H1 Hc ∧ Hc l = some (.lst vs) ∧ vs = (List.zipWith cross (ps.take i) (ps.drop 1 ++ ps.take 1)).map V.int ∧ i ≤ ps.length ∧ σ'.length = 2) ?_ (fun i vs σ' Hc ⟨_, e, y, hi, _⟩ => ⟨e, by rw [y]; simp; omega⟩) ?_ ?_
  · exact ⟨same_new hl _, upd_same, rfl, Nat.zero_le _, rfl⟩
  · rintro i vs σ' Hc hi ⟨e, el, rfl, hi', hσ⟩
    have hip : i < ps.length := by rw [← hz.1]; exact hi
    obtain ⟨r, hr1, hr2⟩ := next_is hip
    have hp : ps[i]? = some ps[i] := List.getElem?_eq_getElem hip
    obtain ⟨T, x, y, t1, t2, dx, dy⟩ := hz.2 i ps[i] r hp hr1
    refine ⟨⟨_, .ref T, e.seq (SqL.of hlz), t1⟩, fun v H' y' Kt Kf k1 _ => ?_⟩
    obtain ⟨rfl, hv⟩ := y'
    have hv' := hv _ (e.seq (SqL.of hlz))
    rw [t1] at hv'; cases hv'
    obtain ⟨xa, rfl, ta⟩ := (e.dn dx).spot
    obtain ⟨ya, rfl, tb⟩ := (e.dn dy).spot
    have b1 := hb _ (List.getElem_mem hip)
    have b2 := hb r hr2
    unfold Bd Cut.Bd at b1 b2
    match σ', hσ with
    | [o1, o2], _ =>
      refine ⟨T, _, rfl, SqT.of (e _ _ t2), rfl, _, _, rfl, _, _, rfl, rfl, ?_⟩
      simp only [tYes, ↓reduceIte]
      refine ⟨_, rfl, xa, _, _, _, rfl, rfl, ta, rfl, _, rfl, ya, _, _, _, rfl, rfl, tb, rfl, _, _, rfl, rfl, .inr ⟨by omega, by omega⟩, ?_⟩
      refine ⟨_, rfl, xa, _, _, _, rfl, rfl, ta, rfl, _, rfl, ya, _, _, _, rfl, rfl, tb, rfl, _, _, rfl, rfl, .inr ⟨by omega, by omega⟩, _, _, rfl, rfl, ?_⟩
      refine k1 _ _ _ el ⟨same_upd hl e, upd_same, ?_, by omega, rfl⟩
      rw [zip_take cross hp hr1, List.map_append]; rfl
  · rintro vs σ' H2 ⟨e, el, rfl, hi', _⟩
    refine ⟨⟨_, e.seq (SqL.of hlz), Nat.le_refl _⟩, l, _, rfl, SqL.of el, ?_⟩
    have := q _ (e1.trans e)
    rw [← zip_ring] at this
    rw [hz.1, List.take_length]
    exact this
theorem ok_steps (B : Bl mg) (C_sides : Cal P w K mg base 1 "sides" (sp_sides K)) (C_common_divisor : Cal P w K mg base 1 "common_divisor" sp_cd) (F : Fun K "steps_round" "steps_round" s_steps_round f fd) : FnOk P w K mg base CX0 2 f fd ["around"] (sp_sumr K gc) := by
  refine F.ok sc_steps_round (fun vs H Q E h => ?_) (fun cdv A outer s H vs Q E hr h => ?_)
  · obtain ⟨o, ys, ps, rfl, _⟩ := h
    rfl
  obtain ⟨o, ys, ps, rfl, ho, hd, hb, h8, q⟩ := h
  refine ⟨_, (pss_one (ps_ret (pe_callB (call_sumL rfl) (by rfl) B.sum PySem.L3.boot_sum (pa_cons (pe_comp (Nc := ["start", "end"]) (fi := [none, none]) (comp_sc rfl rfl rfl) rfl (comp_from_go rfl) (pi_list (pe_c C_sides (hr.mono (by decide)) (by rfl) (pa_cons (pv 0) pa_nil))) (fun _ _ _ _ => ⟨(pg_tup rfl (pgs_cons (pg_name (i := 0) (show (["start", "end"] : List Str).Nodup by decide +kernel) rfl (Or.inl rfl)) (pgs_cons (pg_name (i := 1) (show (["start", "end"] : List Str).Nodup by decide +kernel) rfl (Or.inl rfl)) pgs_nil))), pf_nil, (pe_c C_common_divisor (hr.mono (by decide)) (by rfl) (pa_cons (pe_op op_sub (pe_ix ix_tup (pv 1) pe_int (fun _ _ => rfl)) (pe_ix ix_tup (pv 0) pe_int (fun _ _ => rfl))) (pa_cons (pe_op op_sub (pe_ix ix_tup (pv 1) pe_int (fun _ _ => rfl)) (pe_ix ix_tup (pv 0) pe_int (fun _ _ => rfl))) pa_nil)))⟩)) pa_nil)))), ?_⟩
  refine ⟨_, rfl, o, ys, ps, rfl, ho, hd, h8, fun lz zs H1 e1 hlz0 hlz hz => ?_⟩
  refine ⟨lz, rfl, ⟨_, SqL.of hlz⟩, fun _ _ _ _ l hl => ?_⟩
  refine comp_by zs.length (by rw [sizeLine_eq, hz.1]; omega) (fun i vs σ' Hc => Same H1 Hc ∧ Hc l = some (.lst vs) ∧ vs = (List.zipWith gc (ps.take i) (ps.drop 1 ++ ps.take 1)).map V.int ∧ i ≤ ps.length ∧ σ'.length = 2) ?_ (fun i vs σ' Hc ⟨_, e, y, hi, _⟩ => ⟨e, by rw [y]; simp; omega⟩) ?_ ?_
  · exact ⟨same_new hl _, upd_same, rfl, Nat.zero_le _, rfl⟩
  · rintro i vs σ' Hc hi ⟨e, el, rfl, hi', hσ⟩
    have hip : i < ps.length := by rw [← hz.1]; exact hi
    obtain ⟨r, hr1, hr2⟩ := next_is hip
    have hp : ps[i]? = some ps[i] := List.getElem?_eq_getElem hip
    obtain ⟨T, x, y, t1, t2, dx, dy⟩ := hz.2 i ps[i] r hp hr1
    refine ⟨⟨_, .ref T, e.seq (SqL.of hlz), t1⟩, fun v H' y' Kt Kf k1 _ => ?_⟩
    obtain ⟨rfl, hv⟩ := y'
    have hv' := hv _ (e.seq (SqL.of hlz))
    rw [t1] at hv'; cases hv'
    obtain ⟨xa, rfl, ta⟩ := (e.dn dx).spot
    obtain ⟨ya, rfl, tb⟩ := (e.dn dy).spot
    match σ', hσ with
    | [o1, o2], _ =>
      refine ⟨T, _, rfl, SqT.of (e _ _ t2), rfl, _, _, rfl, _, _, rfl, rfl, ?_⟩
      simp only [tYes, ↓reduceIte]
      refine ⟨_, rfl, ya, _, _, _, rfl, rfl, tb, rfl, _, rfl, xa, _, _, _, rfl, rfl, ta, rfl, _, _, rfl, rfl, ?_⟩
      refine ⟨_, rfl, ya, _, _, _, rfl, rfl, tb, rfl, _, rfl, xa, _, _, _, rfl, rfl, ta, rfl, _, _, rfl, rfl, ?_⟩
      refine ⟨_, _, rfl, ?_⟩
      refine k1 _ _ _ el ⟨same_upd hl e, upd_same, ?_, by omega, rfl⟩
      rw [zip_take gc hp hr1, List.map_append]; rfl
  · rintro vs σ' H2 ⟨e, el, rfl, hi', _⟩
    refine ⟨⟨_, e.seq (SqL.of hlz), Nat.le_refl _⟩, l, _, rfl, SqL.of el, ?_⟩
    have := q _ (e1.trans e)
    rw [← zip_ring] at this
    rw [hz.1, List.take_length]
    exact this
end
end K8a
set_option Elab.async false
set_option linter.all false
set_option maxRecDepth 100000
set_option maxHeartbeats 4000000
namespace K8a
open PySem L2 Hull SortM Pick SepM
seal L2.PE L2.PT L2.PW L2.PA L2.PS L2.PSs L2.PG L2.PGs L2.PF L2.PI L2.PO
section
variable {P : Program} {w : World} {K : PySem.W.Frag} {mg : Str → Option Value} {base : Heap} {f : Addr} {fd : FuncData}
def Of (row ps : List Hull.P) : Prop := row.Pairwise lt ∧ ∀ p, p ∈ row ↔ p ∈ ps
def sp_land (K : PySem.W.Frag) : L2.Sp := fun vs H Q _ => ∃ (o : Addr) (ys : List V) (ps : List Hull.P), vs = [.ref o] ∧ SqL K H o ys ∧ Dns K H (ps.map spotD) ys ∧ (∀ p ∈ ps, Bd p) ∧ 1 ≤ ps.length ∧ ps.length ≤ 8 ∧
  ∀ row H', Same H H' → Of row ps → Q (.int (pathSum cross (ring (hull row)))) H'
theorem hull_bd {row ps : List Hull.P} (h : Of row ps) (hb : ∀ p ∈ ps, Bd p) : ∀ p ∈ hull row, Bd p := fun p hp => hb p ((h.2 p).mp (hull_held h.1 hp).1)
theorem sorted_len : ∀ {row ps : List Hull.P}, row.Nodup → (∀ p ∈ row, p ∈ ps) → row.length ≤ ps.length
  | [], _, _, _ => Nat.zero_le _
  | a :: row, ps, nd, h => by
    have ha : a ∈ ps := h a (by simp)
    have ih := sorted_len (row := row) (ps := ps.erase a) (List.nodup_cons.mp nd).2 fun p hp => (List.mem_erase_of_ne (fun e => (List.nodup_cons.mp nd).1 (by rw [← e]; exact hp))).mpr (h p (by simp [hp]))
    rw [List.length_erase_of_mem ha] at ih
    have := List.length_pos_of_mem ha
    show row.length + 1 ≤ _
    omega
theorem hull_le {row ps : List Hull.P} (h : Of row ps) : (hull row).length ≤ ps.length := sorted_len (hull_nodup h.1) fun p hp => (h.2 p).mp (hull_held h.1 hp).1
theorem ok_land (C_corners : Cal P w K mg base 5 "corners" (sp_corners K)) (C_twice_area : Cal P w K mg base 2 "twice_area" (sp_sumr K cross)) (F : Fun K "land" "land" s_land f fd) : FnOk P w K mg base CX0 6 f fd ["herd"] (sp_land K) := by
  refine F.ok sc_land (fun vs H Q E h => ?_) (fun cdv A outer s H vs Q E hr h => ?_)
  · obtain ⟨o, ys, ps, rfl, _⟩ := h
    rfl
  obtain ⟨o, ys, ps, rfl, ho, hd, hb, l1, l8, q⟩ := h
  refine ⟨_, (pss_one (ps_ret (pe_c C_twice_area (hr.mono (by decide)) (by rfl) (pa_cons (pe_c C_corners (hr.mono (by decide)) (by rfl) (pa_cons (pv 0) pa_nil)) pa_nil)))), ?_⟩
  refine ⟨_, rfl, o, ys, ps, rfl, ho, hd, hb, l1, l8, fun l zs row H' e hl0 hl sr mem dz => ?_⟩
  refine ⟨l, zs, hull row, rfl, SqL.of hl, dz, hull_bd ⟨sr, mem⟩ hb, Nat.le_trans (hull_le ⟨sr, mem⟩) l8, fun H2 e2 => ?_⟩
  exact q row H2 (e.trans e2) ⟨sr, mem⟩
def held2 (h : List Hull.P) : Int := (pathSum cross (ring h) + pathSum gc (ring h)) / 2 + 1
def edge2 (h : List Hull.P) : Int := if h.length < 3 then held2 h else pathSum gc (ring h)
def sp_spots (K : PySem.W.Frag) : L2.Sp := fun vs H Q _ => ∃ (o : Addr) (ys : List V) (ps : List Hull.P), vs = [.ref o] ∧ SqL K H o ys ∧ Dns K H (ps.map spotD) ys ∧ (∀ p ∈ ps, Bd p) ∧ 1 ≤ ps.length ∧ ps.length ≤ 8 ∧
  ∀ row t H', Same H H' → Of row ps → H' t = some (.tup [.int (held2 (hull row)), .int (edge2 (hull row))]) → Q (.ref t) H'
theorem ok_spots (B : Bl mg) (C_corners : Cal P w K mg base 5 "corners" (sp_corners K)) (C_twice_area : Cal P w K mg base 2 "twice_area" (sp_sumr K cross)) (C_steps_round : Cal P w K mg base 2 "steps_round" (sp_sumr K gc)) (F : Fun K "spots" "spots" s_spots f fd) : FnOk P w K mg base CX0 6 f fd ["herd"] (sp_spots K) := by
  refine F.ok sc_spots (fun vs H Q E h => ?_) (fun cdv A outer s H vs Q E hr h => ?_)
  · obtain ⟨o, ys, ps, rfl, _⟩ := h
    rfl
  obtain ⟨o, ys, ps, rfl, ho, hd, hb, l1, l8, q⟩ := h
  refine ⟨_, (pss_cons (ps_set (i := 1) sc_spots.nd rfl (Or.inl rfl) (pe_c C_corners (hr.mono (by decide)) (by rfl) (pa_cons (pv 0) pa_nil)))
    (pss_cons (ps_set (i := 2) sc_spots.nd rfl (Or.inl rfl) (pe_c C_steps_round (hr.mono (by decide)) (by rfl) (pa_cons (pv 1) pa_nil)))
    (pss_cons (ps_set (i := 3) sc_spots.nd rfl (Or.inl rfl) (pe_op op_add (pe_op op_fdiv (pe_op op_add (pe_c C_twice_area (hr.mono (by decide)) (by rfl) (pa_cons (pv 1) pa_nil)) (pv 2)) pe_int) pe_int))
    (pss_cons (ps_if (pt_cmpR op_lt (pe_callB call_len_seq (by rfl) B.len PySem.L3.boot_len (pa_cons (pv 1) pa_nil)) pe_int (nomark _)) (pss_one (ps_ret (pe_tup (pa_cons (pv 3) (pa_cons (pv 3) pa_nil))))) pss_nil)
    (pss_one (ps_ret (pe_tup (pa_cons (pv 3) (pa_cons (pv 2) pa_nil))))))))), ?_⟩
  refine ⟨_, rfl, o, ys, ps, rfl, ho, hd, hb, l1, l8, fun l zs row H1 e1 hl0 hl sr mem dz => ?_⟩
  have hbd := hull_bd ⟨sr, mem⟩ hb
  have hle := Nat.le_trans (hull_le ⟨sr, mem⟩) l8
  have lz : zs.length = (hull row).length := by have := dz.length; rwa [List.length_map] at this
  refine ⟨_, rfl, l, zs, hull row, rfl, SqL.of hl, dz, hbd, hle, fun H2 e2 => ?_⟩
  refine ⟨_, rfl, l, zs, hull row, rfl, e2.seq (SqL.of hl), e2.dns dz, hbd, hle, fun H3 e3 => ?_⟩
  refine ⟨_, rfl, _, _, rfl, rfl, _, _, rfl, rfl, ⟨by decide, by decide⟩, _, _, rfl, rfl, ?_⟩
  refine ⟨_, rfl, l, zs, rfl, .inl ((e2.trans e3).seq (SqL.of hl)), _, _, rfl, rfl, _, rfl, ite2 (fun c => ?_) (fun c => ?_)⟩
  · have c' : ((zs.length : Nat) : Int) < 3 := of_decide_eq_true c
    refine ⟨_, rfl, _, rfl, (by show 2 ≤ sizeLine; decide), fun t ht => ?_⟩
    refine q row t _ (e1.trans (e2.trans (e3.trans (same_new ht _)))) ⟨sr, mem⟩ ?_
    have : edge2 (hull row) = held2 (hull row) := by unfold edge2; rw [if_pos (by omega)]
    rw [this]; exact upd_same
  · have c' : ¬ ((zs.length : Nat) : Int) < 3 := of_decide_eq_false (Bool.eq_false_iff.mpr c)
    refine ⟨_, rfl, _, rfl, (by show 2 ≤ sizeLine; decide), fun t ht => ?_⟩
    refine q row t _ (e1.trans (e2.trans (e3.trans (same_new ht _)))) ⟨sr, mem⟩ ?_
    have : edge2 (hull row) = pathSum gc (ring (hull row)) := by unfold edge2; rw [if_neg (by omega)]
    rw [this]; exact upd_same
end
end K8a
set_option Elab.async false
set_option linter.all false
set_option maxRecDepth 100000
set_option maxHeartbeats 4000000
namespace K8a
open PySem L2 Hull SortM Pick SepM
seal L2.PE L2.PT L2.PW L2.PA L2.PS L2.PSs L2.PG L2.PGs L2.PF L2.PI L2.PO
section
variable {P : Program} {w : World} {K : PySem.W.Frag} {mg : Str → Option Value} {base : Heap} {f : Addr} {fd : FuncData}
def farIx (ns : List Int) (m : Int) : List Nat := (List.range ns.length).filter fun j => decide (ns.getD j 0 = m)
def sp_farthest (K : PySem.W.Frag) : L2.Sp := fun vs H Q _ => ∃ (o : Addr) (x : V) (ys : List V) (ps : List Hull.P) (p : Hull.P), vs = [.ref o, x] ∧ SqL K H o ys ∧ Dns K H (ps.map spotD) ys ∧ (∀ p ∈ ps, Bd p) ∧ 1 ≤ ps.length ∧ ps.length ≤ 8 ∧ Sp K H x p ∧
  ∀ l m H', Same H H' → H l = none → m ∈ ps.map (dot p) → (∀ n ∈ ps.map (dot p), n ≤ m) → H' l = some (.lst ((farIx (ps.map (dot p)) m).map fun (j : Nat) => V.int (j : Int))) → Q (.ref l) H'
theorem range_filter (f : Nat → Bool) (i : Nat) : (List.range (i + 1)).filter f = (List.range i).filter f ++ (if f i = true then [i] else []) := by
  rw [List.range_succ, List.filter_append]
  by_cases h : f i = true
  · rw [if_pos h, List.filter_cons, if_pos h]; rfl
  · rw [if_neg h, List.filter_cons, if_neg h]; rfl
theorem ok_farthest (B : Bl mg) (C_check_herd : Cal P w K mg base 4 "check_herd" (sp_check K)) (C_check_way : Cal P w K mg base 3 "check_way" (sp_way K)) (C_reach : Cal P w K mg base 1 "reach" (sp_reach K)) (F : Fun K "farthest" "farthest" s_farthest f fd) : FnOk P w K mg base CX0 5 f fd ["herd", "way"] (sp_farthest K) := by
  refine F.ok sc_farthest (fun vs H Q E h => ?_) (fun cdv A outer s H vs Q E hr h => ?_)
  · obtain ⟨o, x, ys, ps, p, rfl, _⟩ := h
    rfl
  obtain ⟨o, x, ys, ps, p, rfl, ho, hd, hb, l1, l8, hx, q⟩ := h
  have hz : ys.length = ps.length := by have := hd.length; rwa [List.length_map] at this
  refine ⟨_, (pss_cons (ps_expr (pe_c C_check_herd (hr.mono (by decide)) (by rfl) (pa_cons (pv 0) pa_nil)))
    (pss_cons (ps_expr (pe_c C_check_way (hr.mono (by decide)) (by rfl) (pa_cons (pv 1) pa_nil)))
    (pss_cons (ps_setComp (i := 2) (Nc := ["spot", "way"]) (fi := [none, some 1]) (comp_sc rfl rfl rfl) rfl (comp_from_go rfl) sc_farthest.nd rfl rfl (pi_list (pv 0)) (fun _ _ _ _ => ⟨(pg_name (i := 0) (show (["spot", "way"] : List Str).Nodup by decide +kernel) rfl (Or.inl rfl)), pf_nil, (pe_c C_reach (hr.mono (by decide)) (by rfl) (pa_cons (pv 1) (pa_cons (pv 0) pa_nil)))⟩) rfl)
    (pss_cons (ps_set (i := 3) sc_farthest.nd rfl (Or.inr rfl) (pe_callB (call_maxL rfl) (by rfl) B.max PySem.L3.boot_max (pa_cons (pv 2) pa_nil)))
    (pss_one (ps_ret (pe_comp (Nc := ["place", "far", "greatest"]) (fi := [none, none, some 3]) (comp_sc rfl rfl rfl) rfl (comp_from_go rfl) (pi_enum (by rfl) B.enumerate (pa_cons (pv 2) pa_nil)) (fun _ _ _ _ => ⟨(pg_tup rfl (pgs_cons (pg_name (i := 0) (show (["place", "far", "greatest"] : List Str).Nodup by decide +kernel) rfl (Or.inl rfl)) (pgs_cons (pg_name (i := 1) (show (["place", "far", "greatest"] : List Str).Nodup by decide +kernel) rfl (Or.inl rfl)) pgs_nil))), (pf_one (pt_cmpR op_eq (pv 1) (pv 2) (nomark _))), (pv 0)⟩)))))))), ?_⟩
  refine ⟨_, rfl, o, ys, ps, rfl, ho, hd, hb, l1, l8, fun H1 e1 => ?_⟩
  refine ⟨_, rfl, x, p, rfl, hx.same e1, fun H2 e2 => ?_⟩
  have e12 := e1.trans e2
  refine ⟨_, rfl, o, rfl, ⟨_, e12.seq ho⟩, fun _ _ _ _ l hl => ?_⟩
  refine comp_by ys.length (by rw [sizeLine_eq]; omega) (fun i vs σ' Hc => Same H2 Hc ∧ Hc l = some (.lst vs) ∧ vs = ((ps.take i).map (dot p)).map V.int ∧ i ≤ ps.length ∧ ∃ o1, σ' = [o1, some x]) ?_ (fun i vs σ' Hc ⟨_, e, y, hi, _⟩ => ⟨e, by rw [y]; simp; omega⟩) ?_ ?_
  · exact ⟨same_new hl _, upd_same, rfl, Nat.zero_le _, _, rfl⟩
  · rintro i vs σ' Hc hi ⟨e, el, rfl, hi', o1, rfl⟩
    have hip : i < ps.length := by omega
    have hp : ps[i]? = some ps[i] := List.getElem?_eq_getElem hip
    obtain ⟨v, v1, v2⟩ := hd.get (i := i) (d := spotD ps[i]) (by simp [hip])
    refine ⟨⟨_, v, (e12.trans e).seq ho, v1⟩, fun v' H' y' Kt Kf k1 _ => ?_⟩
    obtain ⟨rfl, hv⟩ := y'
    have hv' := hv _ ((e12.trans e).seq ho)
    rw [v1] at hv'; cases hv'
    simp only [gName, tYes, ↓reduceIte]
    refine ⟨_, rfl, _, rfl, x, v, p, ps[i], rfl, (hx.same (e12.trans e)).1, ⟨(e12.trans e).dn v2, hb _ (List.getElem_mem hip)⟩, ?_⟩
    refine k1 _ _ _ el ⟨same_upd hl e, upd_same, ?_, by omega, _, rfl⟩
    rw [List.take_add_one, hp, List.map_append, List.map_append]; rfl
  · rintro vs σ' H3 ⟨e, el, rfl, hi', _⟩
    rw [hz, List.take_length] at el
    refine ⟨⟨_, (e12.trans e).seq ho, Nat.le_refl _⟩, ?_⟩
    refine ⟨_, rfl, l, ps.map (dot p), rfl, SqL.of el, by intro z; rw [List.map_eq_nil_iff] at z; subst z; simp at l1, fun m hm hmx => ?_⟩
    refine ⟨_, rfl, l, rfl, ⟨_, SqL.of el⟩, fun _ _ _ _ l2 hl2 => ?_⟩
    have hl2' : H l2 = none := (e12.trans e).free hl2
    refine comp_by ps.length (by rw [sizeLine_eq]; omega) (fun i vs σ' Hc => Same H3 Hc ∧ Hc l2 = some (.lst vs) ∧ vs = ((List.range i).filter fun j => decide ((ps.map (dot p)).getD j 0 = m)).map (fun (j : Nat) => V.int (j : Int)) ∧ ∃ o1 o2, σ' = [o1, o2, some (.int m)]) ?_ (fun i vs σ' Hc ⟨_, e, y, _⟩ => ⟨e, by rw [y, List.length_map]; exact Nat.le_trans (List.length_filter_le _ _) (by simp)⟩) ?_ ?_
    · exact ⟨same_new hl2 _, upd_same, rfl, _, _, rfl⟩
    · rintro i vs σ' Hc hi ⟨e', el', rfl, o1, o2, rfl⟩
      have hv : ((ps.map (dot p)).map V.int)[i]? = some (.int (dot p ps[i])) := by simp [hi]
      refine ⟨⟨_, _, e'.seq (SqL.of el), hv⟩, fun v H' y' Kt Kf k1 k2 => ?_⟩
      obtain ⟨T, x', rfl, hT, rfl, hx'⟩ := y'
      have hx2 := hx' _ (e'.seq (SqL.of el))
      rw [hv] at hx2; cases hx2
      have eT := same_new hT (HO.tup [.int (i : Int), .int (dot p ps[i])])
      have ed : (ps.map (dot p)).getD i 0 = dot p ps[i] := by simp [hi]
      refine ⟨T, _, rfl, SqT.of upd_same, rfl, _, _, rfl, _, _, rfl, rfl, ?_⟩
      refine ⟨_, rfl, _, rfl, rfl, _, rfl, ite2 (fun c => ?_) (fun c => ?_)⟩
      · have c' : dot p ps[i] = m := by simpa using c
        refine ⟨_, rfl, k1 _ _ _ (eT _ _ el') ⟨same_upd hl2 (e'.trans eT), upd_same, ?_, _, _, rfl⟩⟩
        rw [range_filter, if_pos (decide_eq_true (by rw [ed]; exact c')), List.map_append]; rfl
      · have c' : ¬ dot p ps[i] = m := by simpa using c
        refine k2 _ _ ⟨e'.trans eT, eT _ _ el', ?_, _, _, rfl⟩
        rw [range_filter, if_neg (by rw [ed]; simpa using c'), List.append_nil]
    · rintro vs σ' H4 ⟨e', el', rfl, _⟩
      refine ⟨⟨_, e'.seq (SqL.of el), by simp⟩, ?_⟩
      refine q l2 m H4 ((e12.trans e).trans e') hl2' hm hmx ?_
      unfold farIx
      rw [List.length_map]; exact el'
end
end K8a
set_option Elab.async false
set_option linter.all false
set_option maxRecDepth 100000
set_option maxHeartbeats 4000000
namespace K8a
open PySem L2 Hull SortM Pick SepM
seal L2.PE L2.PT L2.PW L2.PA L2.PS L2.PSs L2.PG L2.PGs L2.PF L2.PI L2.PO
section
variable {P : Program} {w : World} {K : PySem.W.Frag} {mg : Str → Option Value} {base : Heap} {f : Addr} {fd : FuncData}
theorem natV_last {g : List Nat} (h : g ≠ []) : atI (natV g) (-1) = some (V.int ((g.getLastD 0 : Nat) : Int)) := by
  have e : g = g.dropLast ++ [g.getLastD 0] := by
    rw [List.getLastD_eq_getLast?, List.getLast?_eq_some_getLast h]
    exact (List.dropLast_concat_getLast h).symm
  have e2 : natV g = natV g.dropLast ++ [V.int ((g.getLastD 0 : Nat) : Int)] := by
    conv => lhs; rw [e]
    unfold natV
    rw [List.map_append]; rfl
  rw [e2]; exact atI_last _ _
theorem del2_upd {H : Hp} {a l : Addr} {o : HO} : del (del (upd H a o) l) a = del (del H l) a := by
  funext b
  by_cases h : b = a
  · subst h; rw [del_same, del_same]
  · rw [del_ne h, del_ne h]
    by_cases h' : b = l
    · subst h'; rw [del_same, del_same]
    · rw [del_ne h', del_ne h', upd_ne h]
theorem grow_len {gs : List (List Nat)} {n : Nat} (hn : n ≤ 8) : (Cut.grown gs n).length ≤ 8 * gs.length := by
  induction gs with
  | nil => exact Nat.le_refl _
  | cons g gs ih =>
    have e : Cut.grown (g :: gs) n = Cut.grow1 n g ++ Cut.grown gs n := rfl
    rw [e, List.length_append]
    have : (Cut.grow1 n g).length ≤ 8 := by unfold Cut.grow1; rw [List.length_map, List.length_range]; omega
    show _ ≤ 8 * (gs.length + 1)
    omega
inductive sp_grown (K : PySem.W.Frag) (vs : List V) (H : Hp) (Q : VK) (x_3 : XK) : Prop where
  | mk (o : Addr) (ys : List V) (gs : List (List Nat)) (n : Nat) (h_0 : vs = [.ref o, .int n]) (h_1 : n ≤ 8) (h_2 : H o = some (.lst ys)) (h_3 : Lol H (gs.map natV) ys) (h_4 : (∀ g ∈ gs, g ≠ [] ∧ g.length ≤ 8 ∧ g.getLastD 0 < 8)) (h_5 : gs.length ≤ 100) (h_6 : ∀ l zs H', Same H H' → H l = none → H' l = some (.lst zs) → Lol H' ((Cut.grown gs n).map natV) zs → Q (.ref l) H')
theorem ok_grown (B : Bl mg) (F : Fun K "grown" "grown" s_grown f fd) : FnOk P w K mg base CX0 1 f fd ["groups", "count"] (sp_grown K) := by
  refine F.ok sc_grown (fun vs H Q E h => ?_) (fun cdv A outer s H vs Q E hr h => ?_)
  · obtain ⟨o, ys, gs, n, rfl, _⟩ := h
    rfl
  obtain ⟨o, ys, gs, n, rfl, h8, ho, hl0, hg, h100, q⟩ := h
  have lys := hl0.length
  rw [List.length_map] at lys
  refine ⟨_, (pss_cons (ps_set (i := 2) sc_grown.nd rfl (Or.inl rfl) (pe_lst pa_nil))
    (pss_cons (ps_for PassesOwn.never rfl (pi_list (pv 0)) (pg_name (i := 3) sc_grown.nd rfl (Or.inr rfl)) (pss_one (ps_expr (pe_bm PySem.F.plainAttrs_list PySem.F.slot_list_extend PySem.F.type_list_extend mt_extend (pv 2) (pa_cons (pe_comp (Nc := ["place", "group"]) (fi := [none, some 3]) (comp_sc rfl rfl rfl) rfl (comp_from_go rfl) (pi_range2 (by rfl) B.range (pa_cons (pe_op op_add (pe_ix ix_list (pv 3) (pe_un un_neg pe_int) (fun _ _ => rfl)) pe_int) (pa_cons (pv 1) pa_nil))) (fun _ _ _ _ => ⟨(pg_name (i := 0) (show (["place", "group"] : List Str).Nodup by decide +kernel) rfl (Or.inl rfl)), pf_nil, (pe_op op_cat (pv 1) (pe_lst (pa_cons (pv 0) pa_nil)))⟩)) pa_nil)))))
    (pss_one (ps_ret (pv 2))))), ?_⟩
  refine ⟨Nat.zero_le _, fun l hl => ?_⟩
  have e0 := same_new hl (HO.lst [])
  refine ⟨_, rfl, o, rfl, ⟨_, e0.seq (SqL.of ho)⟩, ?_⟩
  refine for_list (xs := ys) (fun i σ' H' => ∃ zs o3, σ' = [some (.ref o), some (.int n), some (.ref l), o3] ∧ Same H H' ∧ H' l = some (.lst zs) ∧ Lol (del H' l) ((Cut.grown (gs.take i) n).map natV) zs ∧ i ≤ gs.length) ⟨[], _, rfl, e0, upd_same, rfl, Nat.zero_le _⟩ (fun i σ' H' _ h => ?_) ?_ ?_
  · obtain ⟨zs, o3, rfl, e, _⟩ := h
    exact e.seq (SqL.of ho)
  · rintro i x σ' H1 hx ⟨zs, o3, rfl, e1, hl1, dz, hi'⟩
    have hi : i < gs.length := by rw [← lys]; exact (List.getElem?_eq_some_iff.mp hx).1
    have hgi : gs[i]? = some gs[i] := List.getElem?_eq_getElem hi
    obtain ⟨ga, hga, hgl⟩ := hl0.get (i := i) (g := natV gs[i]) (by rw [List.getElem?_map, hgi]; rfl)
    rw [hx] at hga; cases hga
    obtain ⟨gne, g8, gl8⟩ := hg gs[i] (List.getElem_mem hi)
    have lz := dz.length
    rw [List.length_map] at lz
    have lzb : zs.length ≤ 800 := by
      have := grow_len (gs := gs.take i) h8
      rw [List.length_take] at this
      omega
    generalize gs[i] = gg at *
    refine ⟨_, rfl, .inl ⟨rfl, _, SqL.of hl1⟩, ?_⟩
    refine ⟨_, rfl, _, rfl, ga, _, _, _, rfl, rfl, SqL.of (e1 _ _ hgl), natV_last gne, _, _, rfl, rfl, _, rfl, _, _, rfl, ⟨by omega, by omega, by omega, by omega⟩, fun _ _ _ _ t ht => ?_⟩
    refine comp_by (n - (gg.getLastD 0 + 1)) (by rw [sizeLine_eq]; omega) (fun j vs σ' Hc => Same H1 Hc ∧ Hc t = some (.lst vs) ∧ Lol (del (del Hc l) t) (((Cut.grow1 n gg).take j).map natV) vs ∧ vs.length = j ∧ ∃ o1, σ' = [o1, some (.ref ga)]) ?_ (fun i zs σ' Hc ⟨_, e, _, y, _⟩ => ⟨e, by rw [y]; exact Nat.le_refl _⟩) ?_ ?_
    · exact ⟨same_new ht _, upd_same, rfl, rfl, _, rfl⟩
    · rintro j vs σ' Hc hj ⟨e, el, dv, lv, o1, rfl⟩
      refine ⟨by show j < _; omega, fun x H' y Kt Kf k1 _ => ?_⟩
      obtain ⟨rfl, rfl⟩ := y
      simp only [gName, tYes, ↓reduceIte]
      refine ⟨_, rfl, _, rfl, (by show 1 ≤ sizeLine; decide), fun u hu => ?_⟩
      have eu := same_new hu (HO.lst [V.int (((gg.getLastD 0 : Nat) : Int) + 1 + (j : Int))])
      have hgu := eu _ _ (e _ _ (e1 _ _ hgl))
      refine ⟨ga, u, _, _, rfl, rfl, hgu, upd_same, by unfold natV; rw [List.length_map, sizeLine_eq]; show gg.length + 1 ≤ _; omega, fun p hp => ?_⟩
      have ep := same_new hp (HO.lst (natV gg ++ [V.int (((gg.getLastD 0 : Nat) : Int) + 1 + (j : Int))]))
      have elt := ep _ _ (eu _ _ el)
      refine k1 _ _ _ elt ⟨same_upd ht (e.trans (eu.trans ep)), upd_same, ?_, by rw [List.length_append, lv]; rfl, _, rfl⟩
      have et : (Cut.grow1 n gg).take (j + 1) = (Cut.grow1 n gg).take j ++ [gg ++ [gg.getLastD 0 + 1 + j]] := by
        rw [List.take_add_one]
        congr 1
        unfold Cut.grow1
        rw [List.getElem?_map, List.getElem?_range hj]; rfl
      rw [et, List.map_append, del2_upd]
      refine (dv.same (same_del (same_del (eu.trans ep) l) t)).append (Lol.one ?_)
      have en : natV (gg ++ [gg.getLastD 0 + 1 + j]) = natV gg ++ [V.int (((gg.getLastD 0 : Nat) : Int) + 1 + (j : Int))] := by unfold natV; rw [List.map_append]; rfl
      rw [en]
      have hpt : p ≠ t := fun z => by rw [z] at hp; rw [eu _ _ el] at hp; cases hp
      have hpl : p ≠ l := fun z => by rw [z] at hp; rw [eu _ _ (e _ _ hl1)] at hp; cases hp
      rw [del_ne hpt, del_ne hpl]; exact upd_same
    · rintro vs σ' H2 ⟨e, el, dv, lv, _⟩
      refine ⟨by show _ ≤ n - (gg.getLastD 0 + 1); omega, ?_⟩
      have lt : l ≠ t := fun z => by rw [← z] at ht; rw [hl1] at ht; cases ht
      have lgr : (Cut.grow1 n gg).length = n - (gg.getLastD 0 + 1) := by unfold Cut.grow1; rw [List.length_map, List.length_range]
      refine ⟨l, t, zs, vs, rfl, rfl, e _ _ hl1, el, by rw [sizeLine_eq]; omega, ?_⟩
      refine ⟨zs ++ vs, _, rfl, same_upd hl (e1.trans e), upd_same, ?_, by omega⟩
      have eg : Cut.grown (gs.take (i + 1)) n = Cut.grown (gs.take i) n ++ Cut.grow1 n gg := by
        rw [List.take_add_one, hgi]
        unfold Cut.grown
        rw [List.flatMap_append]
        show _ ++ (Cut.grow1 n gg ++ []) = _
        rw [List.append_nil]
      rw [eg, List.map_append, del_upd2]
      refine (dz.same (same_del e l)).append ?_
      have e2 : (Cut.grow1 n gg).take (n - (gg.getLastD 0 + 1)) = Cut.grow1 n gg := List.take_of_length_le (by omega)
      rw [e2] at dv
      exact dv.same same_of_del
  · rintro σ' H1 ⟨zs, o3, rfl, e1, hl1, dz, hi'⟩
    rw [lys, List.take_length] at dz
    exact ⟨_, rfl, q l zs H1 e1 hl hl1 (dz.same same_of_del)⟩
end
end K8a
set_option Elab.async false
set_option linter.all false
set_option maxRecDepth 100000
set_option maxHeartbeats 4000000
namespace K8a
open PySem L2 Hull SortM Pick SepM
seal L2.PE L2.PT L2.PW L2.PA L2.PS L2.PSs L2.PG L2.PGs L2.PF L2.PI L2.PO
section
variable {P : Program} {w : World} {K : PySem.W.Frag} {mg : Str → Option Value} {base : Heap} {f : Addr} {fd : FuncData}
inductive sp_grp (K : PySem.W.Frag) (G : Nat → List (List Nat)) (vs : List V) (H : Hp) (Q : VK) (x_3 : XK) : Prop where
  | mk (n : Nat) (h_0 : vs = [.int n]) (h_1 : n ≤ 8) (h_2 : ∀ l zs H', Same H H' → H l = none → H' l = some (.lst zs) → Lol H' ((G n).map natV) zs → Q (.ref l) H')
theorem ok_twos (C_grown : Cal P w K mg base 1 "grown" (sp_grown K)) (C_ones : Cal P w K mg base 1 "ones" (sp_ones K)) (F : Fun K "twos" "twos" s_twos f fd) : FnOk P w K mg base CX0 2 f fd ["count"] (sp_grp K Cut.twos) := by
  refine F.ok sc_twos (fun vs H Q E h => ?_) (fun cdv A outer s H vs Q E hr h => ?_)
  · obtain ⟨n, rfl, _⟩ := h
    rfl
  obtain ⟨n, rfl, h8, q⟩ := h
  refine ⟨_, (pss_one (ps_ret (pe_c C_grown (hr.mono (by decide)) (by rfl) (pa_cons (pe_c C_ones (hr.mono (by decide)) (by rfl) (pa_cons (pv 0) pa_nil)) (pa_cons (pv 0) pa_nil))))), ?_⟩
  refine ⟨_, rfl, n, rfl, h8, fun l zs H1 e1 hl0 hl dz => ?_⟩
  refine ⟨_, rfl, l, zs, Cut.ones n, n, rfl, h8, hl, dz, fun g hg => ?_, ?_, fun l2 zs2 H2 e2 hl20 hl2 dz2 => ?_⟩
  · obtain ⟨i, hi, rfl⟩ := Cut.mem_ones.mp hg
    exact ⟨by simp, by simp, by show i < 8; omega⟩
  · unfold Cut.ones; rw [List.length_map, List.length_range]; omega
  · exact q l2 zs2 H2 (e1.trans e2) (e1.free hl20) hl2 dz2
theorem ok_threes (C_grown : Cal P w K mg base 1 "grown" (sp_grown K)) (C_twos : Cal P w K mg base 2 "twos" (sp_grp K Cut.twos)) (F : Fun K "threes" "threes" s_threes f fd) : FnOk P w K mg base CX0 3 f fd ["count"] (sp_grp K Cut.threes) := by
  refine F.ok sc_threes (fun vs H Q E h => ?_) (fun cdv A outer s H vs Q E hr h => ?_)
  · obtain ⟨n, rfl, _⟩ := h
    rfl
  obtain ⟨n, rfl, h8, q⟩ := h
  refine ⟨_, (pss_one (ps_ret (pe_c C_grown (hr.mono (by decide)) (by rfl) (pa_cons (pe_c C_twos (hr.mono (by decide)) (by rfl) (pa_cons (pv 0) pa_nil)) (pa_cons (pv 0) pa_nil))))), ?_⟩
  refine ⟨_, rfl, n, rfl, h8, fun l zs H1 e1 hl0 hl dz => ?_⟩
  refine ⟨_, rfl, l, zs, Cut.twos n, n, rfl, h8, hl, dz, fun g hg => ?_, ?_, fun l2 zs2 H2 e2 hl20 hl2 dz2 => ?_⟩
  · obtain ⟨i, j, h1, h2, rfl⟩ := Cut.mem_twos.mp hg
    exact ⟨by simp, by simp, by show j < 8; omega⟩
  · have := grow_len (gs := Cut.ones n) h8
    have e : (Cut.ones n).length = n := by unfold Cut.ones; rw [List.length_map, List.length_range]
    show (Cut.grown (Cut.ones n) n).length ≤ 100
    omega
  · exact q l2 zs2 H2 (e1.trans e2) (e1.free hl20) hl2 dz2
def partD (x : Cut.Part) : PyData := .tuple [.int x.1, spotD x.2]
theorem Dn.part {H : Hp} {v : V} {x : Cut.Part} (h : Dn K H (partD x) v) : ∃ t w, v = .ref t ∧ SqT K H t [.int x.1, w] ∧ Dn K H (spotD x.2) w := by
  obtain ⟨t, xs, rfl, h1, h2⟩ := L2.Dn.tup h
  obtain ⟨a, r, rfl, d1, h3⟩ := L2.Dns.cons h2
  obtain ⟨b, r2, rfl, d2, h4⟩ := L2.Dns.cons h3
  obtain rfl := L2.Dns.nil h4
  obtain rfl := L2.Dn.int d1
  exact ⟨t, b, rfl, h1, d2⟩
theorem dn_part {H : Hp} {t : Addr} {w' : V} {x : Cut.Part} (h : SqT K H t [.int x.1, w']) (d : Dn K H (spotD x.2) w') : Dn K H (partD x) (.ref t) := dn_tup h (dns_cons dn_int (dns_cons d dns_nil))
theorem part_upd {H : Hp} {l : Addr} {zs : List V} {o : HO} (hl : H l = some (.lst zs)) {x : Cut.Part} {v : V} (h : Dn K H (partD x) v) : Dn K (upd H l o) (partD x) v := by
  obtain ⟨t, w', rfl, h1, h2⟩ := Dn.part h
  refine dn_part ?_ (spot_upd hl h2)
  rcases h1 with (h1 | ⟨ob, h1⟩) | h1
  · exact .inl (.inl (by rw [upd_ne (by rintro rfl; rw [hl] at h1; cases h1)]; exact h1))
  · exact .inl (.inr ⟨ob, by rw [upd_ne (by rintro rfl; rw [hl] at h1; cases h1)]; exact h1⟩)
  · exact .inr h1
theorem parts_upd {H : Hp} {l : Addr} {zs : List V} {o : HO} (hl : H l = some (.lst zs)) : ∀ {ps : List Cut.Part} {ys : List V}, Dns K H (ps.map partD) ys → Dns K (upd H l o) (ps.map partD) ys
  | [], _, h => by rw [L2.Dns.nil h]; exact dns_nil
  | p :: ps, _, h => by
    obtain ⟨x, r, rfl, h1, h2⟩ := L2.Dns.cons h
    exact dns_cons (part_upd hl h1) (parts_upd hl h2)
open Classical in
noncomputable def wgh (places : List Nat) (am : List Int) : List Cut.Part := if Cut.Sgn am then Cut.parts (Cut.wgL places am) (Cut.wgW am) else []
inductive sp_weighed (K : PySem.W.Frag) (vs : List V) (H : Hp) (Q : VK) (x_3 : XK) : Prop where
  | mk (o r : Addr) (places : List Nat) (am : List Int) (h_0 : vs = [.ref o, .ref r]) (h_1 : H o = some (.lst (natV places))) (h_2 : H r = some (.lst (am.map V.int))) (h_3 : am ≠ []) (h_4 : am.length = places.length) (h_5 : am.length ≤ 3) (h_6 : (∀ a ∈ am, -8000000 ≤ a ∧ a ≤ 8000000)) (h_7 : ∀ l zs H', Same H H' → H l = none → H' l = some (.lst zs) → Dns K H' ((wgh places am).map partD) zs → Q (.ref l) H')
theorem ok_weighed (B : Bl mg) (C_made : Cal P w K mg base 2 "made" (sp_made K)) (F : Fun K "weighed" "weighed" s_weighed f fd) : FnOk P w K mg base CX0 3 f fd ["places", "amounts"] (sp_weighed K) := by
  refine F.ok sc_weighed (fun vs H Q E h => ?_) (fun cdv A outer s H vs Q E hr h => ?_)
  · obtain ⟨o, r, places, am, rfl, _⟩ := h
    rfl
  obtain ⟨o, r, places, am, rfl, ho, hr1, ne, hlen, h3, hb, q⟩ := h
  refine ⟨_, (pss_cons (ps_if (pt_chain op_le op_le (pe_callB (call_minL rfl) (by rfl) B.min PySem.L3.boot_min (pa_cons (pv 1) pa_nil)) pe_int (pe_callB (call_maxL rfl) (by rfl) B.max PySem.L3.boot_max (pa_cons (pv 1) pa_nil))) (pss_one (ps_ret (pe_lst pa_nil))) pss_nil)
    (pss_cons (ps_set (i := 2) sc_weighed.nd rfl (Or.inr rfl) (pe_callB call_abs (by rfl) B.abs PySem.L3.boot_abs (pa_cons (pe_callB (call_sumL rfl) (by rfl) B.sum PySem.L3.boot_sum (pa_cons (pv 1) pa_nil)) pa_nil)))
    (pss_one (ps_ret (pe_comp (Nc := ["place", "amount", "whole"]) (fi := [none, none, some 2]) (comp_sc rfl rfl rfl) rfl (comp_from_go rfl) (pi_zip (by rfl) B.zip (pa_cons (pv 0) (pa_cons (pv 1) pa_nil))) (fun _ _ _ _ => ⟨(pg_tup rfl (pgs_cons (pg_name (i := 0) (show (["place", "amount", "whole"] : List Str).Nodup by decide +kernel) rfl (Or.inl rfl)) (pgs_cons (pg_name (i := 1) (show (["place", "amount", "whole"] : List Str).Nodup by decide +kernel) rfl (Or.inl rfl)) pgs_nil))), pf_nil, (pe_tup (pa_cons (pv 0) (pa_cons (pe_c C_made (hr.mono (by decide)) (by rfl) (pa_cons (pe_callB call_abs (by rfl) B.abs PySem.L3.boot_abs (pa_cons (pv 1) pa_nil)) (pa_cons (pv 2) pa_nil))) pa_nil)))⟩)))))), ?_⟩
  refine ⟨_, rfl, r, am, rfl, SqL.of hr1, ne, fun mn n1 n2 => ?_⟩
  by_cases hS : Cut.Sgn am
  · have ew : wgh places am = Cut.parts (Cut.wgL places am) (Cut.wgW am) := if_pos hS
    rw [ew] at q
    have wp : 0 < Cut.wgW am := by
      have := Cut.abs_sum hS
      unfold Cut.wgW; rw [← this]
      have hp : ∀ a ∈ am.map Cut.ab, 0 < a := fun a ha => by
        obtain ⟨b, hb', rfl⟩ := List.mem_map.mp ha
        exact Cut.sgn_ab hS hb'
      match am.map Cut.ab, (show am.map Cut.ab ≠ [] by simpa using ne), hp with
      | [x], _, hp => have := hp x (by simp); simp; omega
      | [x, y], _, hp => have := hp x (by simp); have := hp y (by simp); simp; omega
      | x :: y :: z :: t, _, hp =>
        have nn : ∀ l : List Int, (∀ a ∈ l, 0 < a) → 0 ≤ l.sum := by
          intro l; induction l with
          | nil => intro _; exact Int.le_refl _
          | cons a l ih => intro h; rw [List.sum_cons]; have := h a (by simp); have := ih fun b hb => h b (by simp [hb]); omega
        have := hp x (by simp)
        have := nn (y :: z :: t) fun a ha => hp a (List.mem_cons_of_mem _ ha)
        rw [List.sum_cons]; omega
    have wb : Cut.wgW am < 2 ^ 190 := by
      have : Cut.wgW am ≤ 24000000 := by
        unfold Cut.wgW
        match am, h3, hb with
        | [], _, _ => decide
        | [x], _, hb => have := hb x (by simp); simp [Cut.ab]; split <;> omega
        | [x, y], _, hb => have := hb x (by simp); have := hb y (by simp); simp [Cut.ab]; split <;> omega
        | [x, y, z], _, hb => have := hb x (by simp); have := hb y (by simp); have := hb z (by simp); simp [Cut.ab]; split <;> omega
        | _ :: _ :: _ :: _ :: _, h3, _ => simp at h3
      omega
    refine ⟨_, _, rfl, rfl, _, rfl, ite2 (fun c => ⟨_, rfl, r, am, rfl, SqL.of hr1, ne, fun mx m1 m2 => ⟨_, _, rfl, rfl, _, rfl, ite2 (fun c2 => ?_) (fun c2 => ?_)⟩⟩) (fun c => ⟨_, rfl, ite2 (fun h => by cases h) (fun _ => ?_)⟩)⟩
    · exfalso
      have c1 : mn ≤ 0 := of_decide_eq_true c
      have c3 : 0 ≤ mx := of_decide_eq_true c2
      rcases hS with g | g
      · have := g mn n1; omega
      · have := g mx m1; omega
    all_goals
      refine ⟨_, rfl, r, am, rfl, SqL.of hr1, _, rfl, ?_⟩
      refine ⟨_, rfl, _, rfl, o, r, rfl, ⟨_, SqL.of ho⟩, ⟨_, SqL.of hr1⟩, fun _ _ _ _ l hl => ?_⟩
      refine comp_by am.length (by rw [sizeLine_eq]; omega) (fun i zs σ' Hc => Same H Hc ∧ Hc l = some (.lst zs) ∧ Dns K Hc (((Cut.parts (Cut.wgL places am) (Cut.wgW am)).take i).map partD) zs ∧ zs.length = i ∧ ∃ o1 o2, σ' = [o1, o2, some (.int (Cut.wgW am))]) ?_ (fun i zs σ' Hc ⟨_, e, _, y, _⟩ => ⟨e, by rw [y]; exact Nat.le_refl _⟩) ?_ ?_
      · exact ⟨same_new hl _, upd_same, dns_nil, rfl, _, _, rfl⟩
      · rintro i zs σ' Hc hi ⟨e, el, dz, lz, o1, o2, rfl⟩
        have hip : i < places.length := by omega
        have hp1 : (natV places)[i]? = some (V.int ((places[i] : Nat) : Int)) := by unfold natV; rw [List.getElem?_map, List.getElem?_eq_getElem hip]; rfl
        have hp2 : (am.map V.int)[i]? = some (V.int am[i]) := by rw [List.getElem?_map, List.getElem?_eq_getElem hi]; rfl
        refine ⟨⟨_, _, _, _, e.seq (SqL.of ho), e.seq (SqL.of hr1), hp1, hp2⟩, fun v' H' y' Kt Kf k1 _ => ?_⟩
        obtain ⟨T, x, y, rfl, hT, rfl, hx, hy⟩ := y'
        have hx' := hx _ (e.seq (SqL.of ho))
        have hy' := hy _ (e.seq (SqL.of hr1))
        rw [hp1] at hx'; cases hx'
        rw [hp2] at hy'; cases hy'
        have eT := same_new hT (HO.tup [V.int ((places[i] : Nat) : Int), V.int am[i]])
        refine ⟨T, _, rfl, SqT.of upd_same, rfl, _, _, rfl, _, _, rfl, rfl, ?_⟩
        simp only [tYes, ↓reduceIte]
        refine ⟨_, rfl, _, rfl, am[i], rfl, _, rfl, _, _, rfl, wp, wb, fun u H2 e2 du => ?_⟩
        refine ⟨(by show 2 ≤ sizeLine; decide), fun t ht => ?_⟩
        have et := same_new ht (HO.tup [V.int ((places[i] : Nat) : Int), u])
        have e3 := eT.trans (e2.trans et)
        refine k1 _ _ _ (e3 _ _ el) ⟨same_upd hl (e.trans e3), upd_same, ?_, by rw [List.length_append, lz]; rfl, _, _, rfl⟩
        have ep : (Cut.parts (Cut.wgL places am) (Cut.wgW am))[i]? = some (places[i], K9.mk (Cut.ab am[i]) (Cut.wgW am)) := by
          unfold Cut.parts Cut.wgL
          rw [List.getElem?_map, List.getElem?_map, List.getElem?_zip_eq_some (z := (places[i], am[i])).mpr ⟨List.getElem?_eq_getElem hip, List.getElem?_eq_getElem hi⟩]; rfl
        rw [List.take_add_one, ep, List.map_append]
        refine (parts_upd (e3 _ _ el) (e3.dns dz)).append (dns_cons (part_upd (e3 _ _ el) ?_) dns_nil)
        exact dn_part (x := (places[i], K9.mk (Cut.ab am[i]) (Cut.wgW am))) (SqT.of upd_same) (et.dn du)
      · rintro zs σ' H2 ⟨e, el, dz, lz, _⟩
        refine ⟨⟨_, _, e.seq (SqL.of ho), e.seq (SqL.of hr1), .inr (by rw [List.length_map]; exact Nat.le_refl _)⟩, ?_⟩
        have lp : (Cut.parts (Cut.wgL places am) (Cut.wgW am)).length = am.length := by
          unfold Cut.parts Cut.wgL; rw [List.length_map, List.length_map, List.length_zip]; omega
        rw [List.take_of_length_le (by omega)] at dz
        exact q l zs H2 e hl el dz
  · have ew : wgh places am = [] := if_neg hS
    rw [ew] at q
    have some_nn : ∃ a ∈ am, 0 ≤ a := by
      apply Classical.byContradiction
      intro hn
      exact hS (.inr fun a ha => Int.not_le.mp fun g => hn ⟨a, ha, g⟩)
    have some_np : ∃ a ∈ am, a ≤ 0 := by
      apply Classical.byContradiction
      intro hn
      exact hS (.inl fun a ha => Int.not_le.mp fun g => hn ⟨a, ha, g⟩)
    obtain ⟨a1, b1, b2⟩ := some_nn
    obtain ⟨a2, b3, b4⟩ := some_np
    have c1 : mn ≤ 0 := Int.le_trans (n2 a2 b3) b4
    refine ⟨_, _, rfl, rfl, _, rfl, ite2 (fun c => ⟨_, rfl, r, am, rfl, SqL.of hr1, ne, fun mx m1 m2 => ⟨_, _, rfl, rfl, _, rfl, ite2 (fun c2 => ?_) (fun c2 => ?_)⟩⟩) (fun c => absurd (decide_eq_true c1) c)⟩
    · refine ⟨Nat.zero_le _, fun l hl => ?_⟩
      exact q l [] _ (same_new hl _) hl upd_same dns_nil
    · exact absurd (decide_eq_true (Int.le_trans b2 (m2 a1 b1))) c2
end
end K8a
set_option Elab.async false
set_option linter.all false
set_option maxRecDepth 100000
set_option maxHeartbeats 4000000
namespace K8a
open PySem L2 Hull SortM Pick SepM
seal L2.PE L2.PT L2.PW L2.PA L2.PS L2.PSs L2.PG L2.PGs L2.PF L2.PI L2.PO
section
variable {P : Program} {w : World} {K : PySem.W.Frag} {mg : Str → Option Value} {base : Heap} {f : Addr} {fd : FuncData}
inductive sp_line (K : PySem.W.Frag) (vs : List V) (H : Hp) (Q : VK) (x_3 : XK) : Prop where
  | mk (x : _) (y : _) (z : _) (a : _) (b : _) (c : _) (h_0 : vs = [x, y, z]) (h_1 : Sp K H x a) (h_2 : Sp K H y b) (h_3 : Sp K H z c) (h_4 : ∀ l H', Same H H' → H l = none → H' l = some (.lst ((Cut.lineAm a b c).map V.int)) → Q (.ref l) H')
theorem ok_line (C_leftness : Cal P w K mg base 1 "leftness" (sp_left K)) (C_step : Cal P w K mg base 1 "step" (sp_step K)) (C_reach : Cal P w K mg base 1 "reach" (sp_reach K)) (F : Fun K "line_amounts" "line_amounts" s_line_amounts f fd) : FnOk P w K mg base CX0 2 f fd ["start", "end", "spot"] (sp_line K) := by
  refine F.ok sc_line_amounts (fun vs H Q E h => ?_) (fun cdv A outer s H vs Q E hr h => ?_)
  · obtain ⟨x, y, z, a, b, c, rfl, _⟩ := h
    rfl
  obtain ⟨x, y, z, a, b, c, rfl, ha, hb, hc, q⟩ := h
  refine ⟨_, (pss_cons (ps_if (pt_cmpR op_ne (pe_c C_leftness (hr.mono (by decide)) (by rfl) (pa_cons (pv 0) (pa_cons (pv 1) (pa_cons (pv 2) pa_nil)))) pe_int (nomark _)) (pss_one (ps_ret (pe_lst (pa_cons pe_int (pa_cons pe_int pa_nil))))) pss_nil)
    (pss_cons (ps_set (i := 3) sc_line_amounts.nd rfl (Or.inl rfl) (pe_c C_step (hr.mono (by decide)) (by rfl) (pa_cons (pv 0) (pa_cons (pv 1) pa_nil))))
    (pss_one (ps_ret (pe_lst (pa_cons (pe_op op_sub (pe_c C_reach (hr.mono (by decide)) (by rfl) (pa_cons (pv 3) (pa_cons (pv 1) pa_nil))) (pe_c C_reach (hr.mono (by decide)) (by rfl) (pa_cons (pv 3) (pa_cons (pv 2) pa_nil)))) (pa_cons (pe_op op_sub (pe_c C_reach (hr.mono (by decide)) (by rfl) (pa_cons (pv 3) (pa_cons (pv 2) pa_nil))) (pe_c C_reach (hr.mono (by decide)) (by rfl) (pa_cons (pv 3) (pa_cons (pv 0) pa_nil)))) pa_nil))))))), ?_⟩
  refine ⟨_, rfl, _, rfl, _, rfl, x, y, z, a, b, c, rfl, ha, hb, hc, rfl, _, rfl, ite2 (fun c0 => ?_) (fun c0 => ?_)⟩
  · have c1 : turn a b c ≠ 0 := by simpa using c0
    refine ⟨(by show 2 ≤ sizeLine; decide), fun l hl => ?_⟩
    have e : Cut.lineAm a b c = [0, 0] := by unfold Cut.lineAm; rw [if_pos c1]
    exact q l _ (same_new hl _) hl (by rw [e]; exact upd_same)
  · have c1 : turn a b c = 0 := by simpa using c0
    refine ⟨_, rfl, _, rfl, x, y, a, b, rfl, ha.1, hb.1, fun v H1 e1 dv => ?_⟩
    have e : Cut.lineAm a b c = [dot (sb b a) b - dot (sb b a) c, dot (sb b a) c - dot (sb b a) a] := by unfold Cut.lineAm; rw [if_neg (by simpa using c1)]
    refine ⟨_, rfl, _, rfl, v, y, sb b a, b, rfl, dv, hb.same e1, _, rfl, _, rfl, v, z, sb b a, c, rfl, dv, hc.same e1, _, _, rfl, rfl, ?_⟩
    refine ⟨_, rfl, _, rfl, v, z, sb b a, c, rfl, dv, hc.same e1, _, rfl, _, rfl, v, x, sb b a, a, rfl, dv, ha.same e1, _, _, rfl, rfl, (by show 2 ≤ sizeLine; decide), fun l hl => ?_⟩
    exact q l _ (e1.trans (same_new hl _)) (e1.free hl) (by rw [e]; exact upd_same)
theorem shape3 {α : Type} : ∀ {rs : List α}, 1 ≤ rs.length → rs.length ≤ 3 → (∃ a, rs = [a]) ∨ (∃ a b, rs = [a, b]) ∨ ∃ a b c, rs = [a, b, c]
  | [], h, _ => absurd h (by simp)
  | [a], _, _ => .inl ⟨a, rfl⟩
  | [a, b], _, _ => .inr (.inl ⟨a, b, rfl⟩)
  | [a, b, c], _, _ => .inr (.inr ⟨a, b, c, rfl⟩)
  | _ :: _ :: _ :: _ :: _, _, h => absurd h (by simp)
inductive sp_amounts (K : PySem.W.Frag) (vs : List V) (H : Hp) (Q : VK) (x_3 : XK) : Prop where
  | mk (o : Addr) (x : V) (ys : List V) (rs : List Hull.P) (s : Hull.P) (h_0 : vs = [.ref o, x]) (h_1 : SqL K H o ys) (h_2 : Dns K H (rs.map spotD) ys) (h_3 : (∀ p ∈ rs, Bd p)) (h_4 : 1 ≤ rs.length) (h_5 : rs.length ≤ 3) (h_6 : Sp K H x s) (h_7 : ∀ l H', Same H H' → H l = none → H' l = some (.lst ((Cut.amts rs s).map V.int)) → Q (.ref l) H')
theorem ok_amounts (B : Bl mg) (C_leftness : Cal P w K mg base 1 "leftness" (sp_left K)) (C_line_amounts : Cal P w K mg base 2 "line_amounts" (sp_line K)) (F : Fun K "amounts_at" "amounts_at" s_amounts_at f fd) : FnOk P w K mg base CX0 3 f fd ["row", "spot"] (sp_amounts K) := by
  refine F.ok sc_amounts_at (fun vs H Q E h => ?_) (fun cdv A outer s H vs Q E hr h => ?_)
  · obtain ⟨o, x, ys, rs, sp, rfl, _⟩ := h
    rfl
  obtain ⟨o, x, ys, rs, sp, rfl, ho, hd, hb, l1, l3, hx, q⟩ := h
  have hz : ys.length = rs.length := by have := hd.length; rwa [List.length_map] at this
  have hu := hr.units
  have shp := shape3 l1 l3
  refine ⟨_, (pss_cons (ps_if (pt_cmpR op_eq (pe_callB call_len_seq (by rfl) B.len PySem.L3.boot_len (pa_cons (pv 0) pa_nil)) pe_int (nomark _)) (pss_one (ps_ret (pe_lst (pa_cons (pe_ifExp (pt_cmpR (op_eqSp hu) (pe_ix ix_list (pv 0) pe_int (fun _ _ => rfl)) (pv 1) (nomark _)) pe_int pe_int) pa_nil)))) pss_nil)
    (pss_cons (ps_if (pt_cmpR op_eq (pe_callB call_len_seq (by rfl) B.len PySem.L3.boot_len (pa_cons (pv 0) pa_nil)) pe_int (nomark _)) (pss_one (ps_ret (pe_c C_line_amounts (hr.mono (by decide)) (by rfl) (pa_cons (pe_ix ix_list (pv 0) pe_int (fun _ _ => rfl)) (pa_cons (pe_ix ix_list (pv 0) pe_int (fun _ _ => rfl)) (pa_cons (pv 1) pa_nil)))))) pss_nil)
    (pss_one (ps_ret (pe_lst (pa_cons (pe_c C_leftness (hr.mono (by decide)) (by rfl) (pa_cons (pe_ix ix_list (pv 0) pe_int (fun _ _ => rfl)) (pa_cons (pe_ix ix_list (pv 0) pe_int (fun _ _ => rfl)) (pa_cons (pv 1) pa_nil)))) (pa_cons (pe_c C_leftness (hr.mono (by decide)) (by rfl) (pa_cons (pe_ix ix_list (pv 0) pe_int (fun _ _ => rfl)) (pa_cons (pe_ix ix_list (pv 0) pe_int (fun _ _ => rfl)) (pa_cons (pv 1) pa_nil)))) (pa_cons (pe_c C_leftness (hr.mono (by decide)) (by rfl) (pa_cons (pe_ix ix_list (pv 0) pe_int (fun _ _ => rfl)) (pa_cons (pe_ix ix_list (pv 0) pe_int (fun _ _ => rfl)) (pa_cons (pv 1) pa_nil)))) pa_nil)))))))), ?_⟩
  refine ⟨_, rfl, o, ys, rfl, .inl ho, rfl, _, rfl, ?_⟩
  rcases shp with ⟨a, rfl⟩ | ⟨a, b, rfl⟩ | ⟨a, b, c, rfl⟩
  · obtain ⟨va, r1, rfl, da, d1⟩ := L2.Dns.cons hd
    obtain rfl := L2.Dns.nil d1
    refine ite2 (fun _ => ?_) (fun c => absurd rfl c)
    refine ⟨_, rfl, o, _, 0, va, rfl, rfl, ho, rfl, _, rfl, a, sp, da, hx.1, _, rfl, ?_⟩
    refine ite2 (fun c => ?_) (fun c => ?_)
    · have c' : a = sp := by simpa using c
      refine ⟨(by show 1 ≤ sizeLine; decide), fun l hl => q l _ (same_new hl _) hl ?_⟩
      have e : Cut.amts [a] sp = [1] := by show [if a = sp then (1 : Int) else 0] = [1]; rw [if_pos c']
      rw [e]; exact upd_same
    · have c' : ¬ a = sp := by simpa using c
      refine ⟨(by show 1 ≤ sizeLine; decide), fun l hl => q l _ (same_new hl _) hl ?_⟩
      have e : Cut.amts [a] sp = [0] := by show [if a = sp then (1 : Int) else 0] = [0]; rw [if_neg c']
      rw [e]; exact upd_same
  · obtain ⟨va, r1, rfl, da, d1⟩ := L2.Dns.cons hd
    obtain ⟨vb, r2, rfl, db, d2⟩ := L2.Dns.cons d1
    obtain rfl := L2.Dns.nil d2
    refine ite2 (fun c => ?_) (fun _ => ?_)
    · simp at c
    refine ⟨_, rfl, o, _, rfl, .inl ho, rfl, _, rfl, ?_⟩
    refine ite2 (fun _ => ?_) (fun c => absurd rfl c)
    exact ⟨_, rfl, o, _, 0, va, rfl, rfl, ho, rfl, _, rfl, o, _, 1, vb, rfl, rfl, ho, rfl, _, rfl, va, vb, x, a, b, sp, rfl, ⟨da, hb a (by simp)⟩, ⟨db, hb b (by simp)⟩, hx, fun l H' e h1 h2 => q l H' e h1 h2⟩
  · obtain ⟨va, r1, rfl, da, d1⟩ := L2.Dns.cons hd
    obtain ⟨vb, r2, rfl, db, d2⟩ := L2.Dns.cons d1
    obtain ⟨vc, r3, rfl, dc, d3⟩ := L2.Dns.cons d2
    obtain rfl := L2.Dns.nil d3
    have sa : Sp K H va a := ⟨da, hb a (by simp)⟩
    have sb' : Sp K H vb b := ⟨db, hb b (by simp)⟩
    have sc : Sp K H vc c := ⟨dc, hb c (by simp)⟩
    refine ite2 (fun c => ?_) (fun _ => ?_)
    · simp at c
    refine ⟨_, rfl, o, _, rfl, .inl ho, rfl, _, rfl, ?_⟩
    refine ite2 (fun c => ?_) (fun _ => ?_)
    · simp at c
    refine ⟨_, rfl, o, _, 1, vb, rfl, rfl, ho, rfl, _, rfl, o, _, 2, vc, rfl, rfl, ho, rfl, _, rfl, vb, vc, x, b, c, sp, rfl, sb', sc, hx, ?_⟩
    refine ⟨_, rfl, o, _, 2, vc, rfl, rfl, ho, rfl, _, rfl, o, _, 0, va, rfl, rfl, ho, rfl, _, rfl, vc, va, x, c, a, sp, rfl, sc, sa, hx, ?_⟩
    refine ⟨_, rfl, o, _, 0, va, rfl, rfl, ho, rfl, _, rfl, o, _, 1, vb, rfl, rfl, ho, rfl, _, rfl, va, vb, x, a, b, sp, rfl, sa, sb', hx, ?_⟩
    exact ⟨(by show 3 ≤ sizeLine; decide), fun l hl => q l _ (same_new hl _) hl upd_same⟩
end
end K8a
set_option Elab.async false
set_option linter.all false
set_option maxRecDepth 100000
set_option maxHeartbeats 4000000
namespace K8a
open PySem L2 Hull SortM Pick SepM
seal L2.PE L2.PT L2.PW L2.PA L2.PS L2.PSs L2.PG L2.PGs L2.PF L2.PI L2.PO
section
variable {P : Program} {w : World} {K : PySem.W.Frag} {mg : Str → Option Value} {base : Heap} {f : Addr} {fd : FuncData}
theorem part_can (x : Cut.Part) : (partD x).canLay0 = true ∧ (partD x).depth ≤ 3 := by
  obtain ⟨h1, h2⟩ := spot_can x.2
  unfold partD
  rw [PyData.canLay0, PyData.canLayAll0, PyData.canLayAll0, PyData.canLayAll0, h1, PyData.depth, PyData.depthAll, PyData.depthAll, PyData.depthAll]
  refine ⟨rfl, ?_⟩
  rw [PyData.depth]
  omega
theorem parts_can : ∀ ps : List Cut.Part, PyData.canLayAll0 (ps.map partD) = true ∧ PyData.depthAll (ps.map partD) ≤ 3
  | [] => ⟨rfl, by rw [List.map_nil, PyData.depthAll]; exact Nat.zero_le _⟩
  | p :: ps => by
    obtain ⟨h1, h2⟩ := parts_can ps
    obtain ⟨g1, g2⟩ := part_can p
    rw [List.map_cons, PyData.canLayAll0, PyData.depthAll, h1, g1]
    exact ⟨rfl, Nat.max_le.mpr ⟨g2, h2⟩⟩
theorem parts_shaped (ps : List Cut.Part) : SeqAt.shaped (.list (ps.map partD)) = true := by
  obtain ⟨h1, h2⟩ := parts_can ps
  unfold SeqAt.shaped
  have : (PyData.list (ps.map partD)).depth ≤ 64 := by rw [PyData.depth]; omega
  rw [decide_eq_true this, PyData.canLay0, h1]; rfl
def Mixd (ps : List Hull.P) (s : Hull.P) (prt : List Cut.Part) : Prop := (prt = [] ∧ Cut.NoMix ps s) ∨
  ∃ g, g ∈ Cut.groups ps.length ∧ Cut.Sgn (Cut.amts (g.map (Cut.at_ ps)) s) ∧ prt = Cut.parts (Cut.wgL g (Cut.amts (g.map (Cut.at_ ps)) s)) (Cut.wgW (Cut.amts (g.map (Cut.at_ ps)) s))
inductive sp_mix (K : PySem.W.Frag) (vs : List V) (H : Hp) (Q : VK) (x_3 : XK) : Prop where
  | mk (o : Addr) (x : V) (ys : List V) (ps : List Hull.P) (s : Hull.P) (h_0 : vs = [.ref o, x]) (h_1 : SqL K H o ys) (h_2 : Dns K H (ps.map spotD) ys) (h_3 : (∀ p ∈ ps, Bd p)) (h_4 : 1 ≤ ps.length) (h_5 : ps.length ≤ 8) (h_6 : Sp K H x s) (h_7 : ∀ l zs H' prt, Same H H' → H l = none → H' l = some (.lst zs) → Dns K H' (prt.map partD) zs → Mixd ps s prt → Q (.ref l) H')
theorem groups_map (n : Nat) : (Cut.ones n).map natV ++ (Cut.twos n).map natV ++ (Cut.threes n).map natV = (Cut.groups n).map natV := by unfold Cut.groups; rw [List.map_append, List.map_append]
theorem grp_shape {n : Nat} {g : List Nat} (h : g ∈ Cut.groups n) : 1 ≤ g.length ∧ g.length ≤ 3 ∧ ∀ i ∈ g, i < n := by
  unfold Cut.groups at h
  rcases List.mem_append.mp h with h | h
  · rcases List.mem_append.mp h with h | h
    · obtain ⟨i, hi, rfl⟩ := Cut.mem_ones.mp h
      exact ⟨by simp, by simp, by simp; exact hi⟩
    · obtain ⟨i, j, h1, h2, rfl⟩ := Cut.mem_twos.mp h
      exact ⟨by simp, by simp, by simp; omega⟩
  · obtain ⟨i, j, k, h1, h2, h3, rfl⟩ := Cut.mem_threes.mp h
    exact ⟨by simp, by simp, by simp; omega⟩
theorem at_get {ps : List Hull.P} {i : Nat} (hi : i < ps.length) : Cut.at_ ps i = ps[i] := by unfold Cut.at_; rw [List.getD_eq_getElem?_getD, List.getElem?_eq_getElem hi]; rfl
theorem amts_len {rs : List Hull.P} {s : Hull.P} (h1 : 1 ≤ rs.length) (h3 : rs.length ≤ 3) : (Cut.amts rs s).length = rs.length ∧ Cut.amts rs s ≠ [] := by
  rcases shape3 h1 h3 with ⟨a, rfl⟩ | ⟨a, b, rfl⟩ | ⟨a, b, c, rfl⟩
  · exact ⟨rfl, by simp [Cut.amts]⟩
  · have : (Cut.lineAm a b s).length = 2 := by unfold Cut.lineAm; split <;> rfl
    exact ⟨this, fun z => by have z' : Cut.lineAm a b s = [] := z; rw [z'] at this; simp at this⟩
  · exact ⟨rfl, by simp [Cut.amts]⟩
theorem amts_bd {rs : List Hull.P} {s : Hull.P} (hb : ∀ p ∈ rs, Bd p) (hs : Bd s) (h1 : 1 ≤ rs.length) (h3 : rs.length ≤ 3) : ∀ a ∈ Cut.amts rs s, -8000000 ≤ a ∧ a ≤ 8000000 := by
  intro x hx
  rcases shape3 h1 h3 with ⟨a, rfl⟩ | ⟨a, b, rfl⟩ | ⟨a, b, c, rfl⟩
  · have : x = if a = s then (1 : Int) else 0 := List.mem_singleton.mp hx
    rw [this]; split <;> omega
  · have hx' : x ∈ Cut.lineAm a b s := hx
    have b1 := hb a (by simp)
    have b2 := hb b (by simp)
    have d1 := Cut.dot_bd b1 b2 b2
    have d2 := Cut.dot_bd b1 b2 hs
    have d3 := Cut.dot_bd b1 b2 b1
    unfold Cut.lineAm at hx'
    split at hx'
    · simp at hx'; omega
    · simp at hx'; omega
  · have b1 := hb a (by simp)
    have b2 := hb b (by simp)
    have b3 := hb c (by simp)
    have d1 := Cut.turn_bd b2 b3 hs
    have d2 := Cut.turn_bd b3 b1 hs
    have d3 := Cut.turn_bd b1 b2 hs
    have hx' : x = turn b c s ∨ x = turn c a s ∨ x = turn a b s := by simpa [Cut.amts] using hx
    omega
theorem parts_ne : ∀ {g : List Nat} {am : List Int} {W : Int}, 1 ≤ g.length → am ≠ [] → ((Cut.parts (Cut.wgL g am) W).map partD).isEmpty = false
  | [], _, _, h, _ => absurd h (by simp)
  | _ :: _, [], _, _, h => absurd rfl h
  | _ :: _, _ :: _, _, _, _ => rfl
theorem ok_mix (B : Bl mg) (C_ones : Cal P w K mg base 1 "ones" (sp_ones K)) (C_twos : Cal P w K mg base 2 "twos" (sp_grp K Cut.twos)) (C_threes : Cal P w K mg base 3 "threes" (sp_grp K Cut.threes)) (C_weighed : Cal P w K mg base 3 "weighed" (sp_weighed K)) (C_amounts_at : Cal P w K mg base 3 "amounts_at" (sp_amounts K))
    (F : Fun K "mixture_at" "mixture_at" s_mixture_at f fd) : FnOk P w K mg base CX0 4 f fd ["herd", "spot"] (sp_mix K) := by
  refine F.ok sc_mixture_at (fun vs H Q E h => ?_) (fun cdv A outer s H vs Q E hr h => ?_)
  · obtain ⟨o, x, ys, ps, sp, rfl, _⟩ := h
    rfl
  obtain ⟨o, x, ys, ps, sp, rfl, ho, hd, hb, l1, l8, hx, q⟩ := h
  have hz : ys.length = ps.length := by have := hd.length; rwa [List.length_map] at this
  have hu := hr.units
  refine ⟨_, (pss_cons (ps_set (i := 2) sc_mixture_at.nd rfl (Or.inl rfl) (pe_callB call_len_seq (by rfl) B.len PySem.L3.boot_len (pa_cons (pv 0) pa_nil)))
    (pss_cons (ps_for PassesOwn.never rfl (pi_list (pe_op op_cat (pe_op op_cat (pe_c C_ones (hr.mono (by decide)) (by rfl) (pa_cons (pv 2) pa_nil)) (pe_c C_twos (hr.mono (by decide)) (by rfl) (pa_cons (pv 2) pa_nil))) (pe_c C_threes (hr.mono (by decide)) (by rfl) (pa_cons (pv 2) pa_nil)))) (pg_name (i := 3) sc_mixture_at.nd rfl (Or.inl rfl)) (pss_cons (ps_set (i := 4) sc_mixture_at.nd rfl (Or.inl rfl) (pe_c C_weighed (hr.mono (by decide)) (by rfl) (pa_cons (pv 3) (pa_cons (pe_c C_amounts_at (hr.mono (by decide)) (by rfl) (pa_cons (pe_comp (Nc := ["place", "herd"]) (fi := [none, some 0]) (comp_sc rfl rfl rfl) rfl (comp_from_go rfl) (pi_list (pv 3)) (fun _ _ _ _ => ⟨(pg_name (i := 0) (show (["place", "herd"] : List Str).Nodup by decide +kernel) rfl (Or.inl rfl)), pf_nil, (pe_ix ix_list (pv 1) (pv 0) (fun _ _ => rfl))⟩)) (pa_cons (pv 1) pa_nil))) pa_nil))))
    (pss_one (ps_if (pt_cmpR (op_neNil hu) (pv 4) (pe_lst pa_nil) (nomark _)) (pss_one (ps_ret (pv 4))) pss_nil))))
    (pss_one (ps_ret (pe_lst pa_nil))))), ?_⟩
  refine ⟨_, rfl, o, ys, rfl, .inl ho, ?_⟩
  rw [hz]
  refine ⟨_, rfl, ps.length, rfl, l8, fun a1 z1 H1 e1 h10 h11 d1 => ?_⟩
  refine ⟨_, rfl, ps.length, rfl, l8, fun a2 z2 H2 e2 h20 h21 d2 => ?_⟩
  have n1 := d1.length
  have n2 := d2.length
  rw [List.length_map] at n1 n2
  have lo : (Cut.ones ps.length).length = ps.length := by unfold Cut.ones; rw [List.length_map, List.length_range]
  have lt2 := grow_len (gs := Cut.ones ps.length) l8
  have lt3 := grow_len (gs := Cut.twos ps.length) l8
  have lt2' : (Cut.twos ps.length).length ≤ 64 := by show (Cut.grown _ _).length ≤ 64; omega
  refine ⟨a1, a2, z1, z2, rfl, rfl, e2 _ _ h11, h21, by rw [sizeLine_eq]; omega, fun a3 h3 => ?_⟩
  have e3 := same_new h3 (HO.lst (z1 ++ z2))
  refine ⟨_, rfl, ps.length, rfl, l8, fun a4 z4 H4 e4 h40 h41 d4 => ?_⟩
  have n4 := d4.length
  rw [List.length_map] at n4
  have lt3' : (Cut.threes ps.length).length ≤ 512 := by show (Cut.grown _ _).length ≤ 512; omega
  refine ⟨a3, a4, z1 ++ z2, z4, rfl, rfl, e4 _ _ upd_same, h41, by rw [List.length_append, sizeLine_eq]; omega, fun a5 h5 => ?_⟩
  have e5 := same_new h5 (HO.lst (z1 ++ z2 ++ z4))
  have dg : Lol (upd H4 a5 (.lst (z1 ++ z2 ++ z4))) ((Cut.groups ps.length).map natV) (z1 ++ z2 ++ z4) := by
    rw [← groups_map]
    exact ((d1.same (e2.trans (e3.trans (e4.trans e5)))).append (d2.same (e3.trans (e4.trans e5)))).append (d4.same e5)
  have eH : Same H (upd H4 a5 (.lst (z1 ++ z2 ++ z4))) := e1.trans (e2.trans (e3.trans (e4.trans e5)))
  have h55 : upd H4 a5 (.lst (z1 ++ z2 ++ z4)) a5 = some (.lst (z1 ++ z2 ++ z4)) := upd_same
  have ng := dg.length
  rw [List.length_map] at ng
  clear d1 d2 d4 e1 e2 e3 e4 e5 h10 h11 h20 h21 h40 h41 n1 n2 n4
  show _
  generalize z1 ++ z2 ++ z4 = zg at *
  generalize upd H4 a5 (.lst zg) = H5 at *
  refine ⟨a5, rfl, ⟨_, SqL.of h55⟩, ?_⟩
  refine for_list (xs := zg) (fun i σ' H' => ∃ o3 o4, σ' = [some (.ref o), some x, some (.int ps.length), o3, o4] ∧ Same H5 H' ∧ ∀ j g, j < i → (Cut.groups ps.length)[j]? = some g → ¬ Cut.Sgn (Cut.amts (g.map (Cut.at_ ps)) sp)) ⟨_, _, rfl, Same.refl _, fun j g h => absurd h (Nat.not_lt_zero _)⟩ (fun i σ' H' _ h => ?_) ?_ ?_
  · obtain ⟨o3, o4, rfl, e, _⟩ := h
    exact e.seq (SqL.of h55)
  · rintro i v σ' H6 hv ⟨o3, o4, rfl, e6, no⟩
    have hi : i < (Cut.groups ps.length).length := by rw [← ng]; exact (List.getElem?_eq_some_iff.mp hv).1
    have hgi : (Cut.groups ps.length)[i]? = some (Cut.groups ps.length)[i] := List.getElem?_eq_getElem hi
    obtain ⟨ga, hga, hgl⟩ := dg.get (i := i) (g := natV (Cut.groups ps.length)[i]) (by rw [List.getElem?_map, hgi]; rfl)
    rw [hv] at hga; cases hga
    have hgm := List.getElem_mem hi
    obtain ⟨k1, k3, kl⟩ := grp_shape hgm
    generalize (Cut.groups ps.length)[i] = g at *
    have eo := eH.trans e6
    refine ⟨_, rfl, _, rfl, ga, rfl, ⟨_, SqL.of (e6 _ _ hgl)⟩, fun _ _ _ _ t ht => ?_⟩
    refine comp_by g.length (by rw [sizeLine_eq]; omega) (fun j vs σ' Hc => Same H6 Hc ∧ Hc t = some (.lst vs) ∧ Dns K Hc (((g.take j).map (Cut.at_ ps)).map spotD) vs ∧ vs.length = j ∧ ∃ o1, σ' = [o1, some (.ref o)]) ?_ (fun i zs σ' Hc ⟨_, e, _, y, _⟩ => ⟨e, by rw [y]; exact Nat.le_refl _⟩) ?_ ?_
    · exact ⟨same_new ht _, upd_same, dns_nil, rfl, _, rfl⟩
    · rintro j vs σ' Hc hj ⟨e, el, dv, lv, o1, rfl⟩
      have hp1 : (natV g)[j]? = some (V.int ((g[j] : Nat) : Int)) := by unfold natV; rw [List.getElem?_map, List.getElem?_eq_getElem hj]; rfl
      have sg : SqL K Hc ga (natV g) := (e6.trans e).seq (SqL.of hgl)
      refine ⟨⟨_, _, sg, hp1⟩, fun x' H' y' Kt Kf k1' _ => ?_⟩
      obtain ⟨rfl, hx'⟩ := y'
      have hx2 := hx' _ sg
      rw [hp1] at hx2; cases hx2
      have hlt : g[j] < ps.length := kl _ (List.getElem_mem hj)
      obtain ⟨u, u1, u2⟩ := hd.get (i := g[j]) (d := spotD ps[g[j]]) (by simp [hlt])
      simp only [gName, tYes, ↓reduceIte]
      refine ⟨_, rfl, _, rfl, o, ys, _, u, rfl, rfl, (eo.trans e).seq ho, atI_nat u1, ?_⟩
      refine k1' _ _ _ el ⟨same_upd ht e, upd_same, ?_, by rw [List.length_append, lv]; rfl, _, rfl⟩
      rw [List.take_add_one, List.getElem?_eq_getElem hj, List.map_append, List.map_append]
      refine (spots_upd el dv).append (dns_cons (spot_upd el ?_) dns_nil)
      rw [at_get hlt]; exact (eo.trans e).dn u2
    · rintro vs σ' H7 ⟨e, el, dv, lv, _⟩
      rw [List.take_length] at dv
      have eo7 := eo.trans e
      have brs : ∀ p ∈ g.map (Cut.at_ ps), Bd p := fun p hp => by
        obtain ⟨n, hn, rfl⟩ := List.mem_map.mp hp
        rw [at_get (kl n hn)]; exact hb _ (List.getElem_mem _)
      refine ⟨⟨_, (e6.trans e).seq (SqL.of hgl), by unfold natV; rw [List.length_map]; exact Nat.le_refl _⟩, ?_⟩
      refine ⟨_, rfl, t, x, vs, g.map (Cut.at_ ps), sp, rfl, SqL.of el, dv, brs, by rw [List.length_map]; exact k1, by rw [List.length_map]; exact k3, hx.same eo7, fun la H8 e8 hla0 hla => ?_⟩
      obtain ⟨al1, al2⟩ := amts_len (rs := g.map (Cut.at_ ps)) (s := sp) (by rw [List.length_map]; exact k1) (by rw [List.length_map]; exact k3)
      rw [List.length_map] at al1
      refine ⟨ga, la, g, _, rfl, e8 _ _ ((e6.trans e) _ _ hgl), hla, al2, al1, by omega, amts_bd brs hx.2 (by rw [List.length_map]; exact k1) (by rw [List.length_map]; exact k3), fun lp zp H9 e9 hlp0 hlp dp => ?_⟩
      have e59 := e6.trans (e.trans (e8.trans e9))
      have e09 := eo7.trans (e8.trans e9)
      refine ⟨_, rfl, Nat.zero_le _, fun ne' hne => ?_⟩
      have en := same_new hne (HO.lst [])
      refine ⟨_, ne', (wgh g (Cut.amts (g.map (Cut.at_ ps)) sp)).map partD, dn_lst (en.seq (SqL.of hlp)) (en.dns dp), rfl, rfl, SqL.of upd_same, parts_shaped _, _, rfl, ?_⟩
      by_cases hS : Cut.Sgn (Cut.amts (g.map (Cut.at_ ps)) sp)
      · have ew : wgh g (Cut.amts (g.map (Cut.at_ ps)) sp) = Cut.parts (Cut.wgL g (Cut.amts (g.map (Cut.at_ ps)) sp)) (Cut.wgW (Cut.amts (g.map (Cut.at_ ps)) sp)) := if_pos hS
        have nonE : ((wgh g (Cut.amts (g.map (Cut.at_ ps)) sp)).map partD).isEmpty = false := by
          rw [ew]; exact parts_ne k1 al2
        rw [nonE]
        refine ite2 (fun _ => ?_) (fun c => absurd rfl c)
        exact ⟨_, rfl, q lp zp _ _ (e09.trans en) ((eo7.trans e8).free hlp0) (en _ _ hlp) (en.dns dp) (.inr ⟨g, hgm, hS, ew⟩)⟩
      · have ew : wgh g (Cut.amts (g.map (Cut.at_ ps)) sp) = [] := if_neg hS
        rw [ew]
        refine ite2 (fun c => by cases c) (fun _ => ?_)
        refine ⟨_, _, rfl, e59.trans en, fun j g' hj hg' => ?_⟩
        rcases Nat.lt_or_ge j i with z | z
        · exact no j g' z hg'
        · have : j = i := by omega
          subst this
          rw [hgi] at hg'; cases hg'
          exact hS
  · rintro σ' H6 ⟨o3, o4, rfl, e6, no⟩
    refine ⟨Nat.zero_le _, fun l hl => ?_⟩
    refine q l [] _ [] (eH.trans (e6.trans (same_new hl _))) ((eH.trans e6).free hl) upd_same dns_nil (.inl ⟨rfl, fun g hg => ?_⟩)
    obtain ⟨j, hj, rfl⟩ := List.mem_iff_getElem.mp hg
    exact no j _ (by rw [ng]; exact hj) (List.getElem?_eq_getElem hj)
end
end K8a
set_option Elab.async false
set_option linter.all false
set_option maxRecDepth 100000
set_option maxHeartbeats 4000000
namespace K8a
open PySem L2 Hull SortM Pick SepM
seal L2.PE L2.PT L2.PW L2.PA L2.PS L2.PSs L2.PG L2.PGs L2.PF L2.PI L2.PO
section
variable {P : Program} {w : World} {K : PySem.W.Frag} {mg : Str → Option Value} {base : Heap} {f : Addr} {fd : FuncData}
def Hd (K : PySem.W.Frag) (H : Hp) (v : V) (ps : List Hull.P) : Prop := ∃ o ys, v = .ref o ∧ SqL K H o ys ∧ Dns K H (ps.map spotD) ys ∧ (∀ p ∈ ps, Bd p) ∧ 1 ≤ ps.length ∧ ps.length ≤ 8
structure TxtK (K : PySem.W.Frag) (mg : Str → Option Value) (n fld : Str) (C : Addr) : Prop where
  cl : Cls K C
  nF : NoAttr K C fld
  mg : mg n = some (.ref C)
  ha : PySem.W.findIn K (.ref C) "__class__" = some (some (.builtin "object.__class__"))
  hn : PySem.W.specialIn K (.builtin "object.__class__") "__get__" = some (some (.builtin "getset_descriptor.__get__"))
  htk : PySem.W.takesIn K (.builtin "object.__class__") = some true
  hm : PySem.W.mroIn K C (.type "object") = some true
  ki : PySem.W.kitOne K (.ref C) (.ref C) = some true
structure TxtN (mg : Str → Option Value) (n : Str) (C : Addr) : Prop where
  mg : mg n = some (.ref C)
abbrev Txt_Mixed (K : PySem.W.Frag) (mg : Str → Option Value) (C : Addr) : Prop := TxtK K mg "Mixed" "parts" C
def fld1 (n : Str) (a : Addr) : List (Str × V) := putF n (.ref a) []
theorem fld1_at (n : Str) (a : Addr) : (fld1 n a).lookup n = some (.ref a) := by unfold fld1; rw [lookup_putF, if_pos rfl]
inductive sp_initM (K : PySem.W.Frag) (C : Addr) (vs : List V) (H : Hp) (Q : VK) (x_3 : XK) : Prop where
  | mk (x f dx : Addr) (z1 : List V) (h_0 : vs = [.ref x, .ref f]) (h_1 : H x = some (.ins C dx [])) (h_2 : SqL K H f z1) (h_3 : ∀ a H', H a = none → H' a = some (.lst z1) → H' x = some (.ins C dx (fld1 "parts" a)) → (∀ y o, H y = some o → y ≠ x → H' y = some o) → Q .non H')
theorem ok_initM {c_Mixed : Addr} (B : Bl mg) (T_Mixed : Txt_Mixed K mg c_Mixed) (F : Fun K "__init__" "Mixed.__init__" s_Mixed___init__ f fd) : FnOk P w K mg base CX0 1 f fd ["self", "parts"] (sp_initM K c_Mixed) := by
  refine F.ok sc_Mixed___init__ (fun vs H Q E h => ?_) (fun cdv A outer s H vs Q E hr h => ?_)
  · obtain ⟨x, f, dx, z1, rfl, _⟩ := h
    rfl
  obtain ⟨x, f, dx, z1, rfl, hx, hf, q⟩ := h
  have T := T_Mixed
  refine ⟨_, (pss_one (ps_fld (pv 0) (pe_callTy call_list_of (by rfl) B.list PySem.L3.boot_list (pa_cons (pv 1) pa_nil)) rfl)), ?_⟩
  refine ⟨_, rfl, f, z1, rfl, .inl hf, fun a ha => ?_⟩
  have nxa : x ≠ a := ne_of_none hx ha
  have hx1 : (upd H a (.lst z1)) x = some (.ins c_Mixed dx []) := by rw [upd_ne nxa]; exact hx
  refine ⟨_, rfl, x, _, dx, _, rfl, hx1, T.cl, T.nF, (by show 0 < 1000; decide), ?_⟩
  refine q a _ ha ?_ upd_same fun y o hy hne => ?_
  · rw [upd_ne (Ne.symm nxa), upd_same]
  · rw [upd_ne hne, upd_ne (ne_of_none hy ha)]; exact hy
inductive sp_chkS (K : PySem.W.Frag) (vs : List V) (H : Hp) (Q : VK) (x_3 : XK) : Prop where
  | mk (x : V) (p : Hull.P) (h_0 : vs = [x]) (h_1 : Sp K H x p) (h_2 : ∀ H', Same H H' → Q .non H')
theorem ok_chkS (C_is_pair : Cal P w K mg base 2 "is_pair" (sp_pair K)) (F : Fun K "check_spot" "check_spot" s_check_spot f fd) : FnOk P w K mg base CX0 3 f fd ["spot"] (sp_chkS K) := by
  refine F.ok sc_check_spot (fun vs H Q E h => ?_) (fun cdv A outer s H vs Q E hr h => ?_)
  · obtain ⟨x, p, rfl, _⟩ := h
    rfl
  obtain ⟨x, p, rfl, h1, q⟩ := h
  refine ⟨_, (pss_one (ps_if (pt_not (pt_val (pe_c C_is_pair (hr.mono (by decide)) (by rfl) (pa_cons (pv 0) pa_nil)))) (pss_one ps_never) pss_nil)), ?_⟩
  refine ⟨_, rfl, x, p, rfl, h1, fun H' e => ?_⟩
  exact ⟨_, rfl, ite2 (fun c => by cases c) fun _ => q _ e⟩
end
end K8a
set_option Elab.async false
set_option linter.all false
set_option maxRecDepth 100000
set_option maxHeartbeats 4000000
namespace K8a
open PySem L2 Hull SortM Pick SepM
seal L2.PE L2.PT L2.PW L2.PA L2.PS L2.PSs L2.PG L2.PGs L2.PF L2.PI L2.PO
section
variable {P : Program} {w : World} {K : PySem.W.Frag} {mg : Str → Option Value} {base : Heap} {f : Addr} {fd : FuncData}
def numB : V → Bool
  | .int n => decide (-1000 ≤ n) && decide (n ≤ 1000)
  | _ => false
def isIntB : V → Bool
  | .int _ => true
  | _ => false
def flat : V → Bool
  | .non => true
  | .bl _ => true
  | .int _ => true
  | .str _ => true
  | _ => false
def Flat (x : V) : Prop := flat x = true
def pairB (xs : List V) : Bool := decide (xs.length = 2) && xs.all numB
inductive PairT (H : Hp) : V → Bool → Prop where
  | non : PairT H .non false
  | int (i : Int) : PairT H (.int i) false
  | str (x : Str) : PairT H (.str x) false
  | lst {a : Addr} {xs : List V} (h : H a = some (.lst xs)) : PairT H (.ref a) false
  | tup {a : Addr} {xs : List V} (h : H a = some (.tup xs)) (f : ∀ x ∈ xs, Flat x) : PairT H (.ref a) (pairB xs)
def herdB (n : Nat) (bs : List Bool) : Bool := decide (1 ≤ n) && decide (n ≤ 8) && bs.all id
inductive HerdT (H : Hp) : V → Bool → Prop where
  | non : HerdT H .non false
  | str (x : Str) : HerdT H (.str x) false
  | tup {a : Addr} {xs : List V} (h : H a = some (.tup xs)) : HerdT H (.ref a) false
  | dct {a : Addr} {kvs : List (Key × V)} (h : H a = some (.dK kvs)) : HerdT H (.ref a) false
  | lst {a : Addr} {xs : List V} {bs : List Bool} (h : H a = some (.lst xs)) (p : Paired (PairT H) xs bs) : HerdT H (.ref a) (herdB xs.length bs)
theorem PairT.same {H H' : Hp} (e : Same H H') {v : V} {b : Bool} (h : PairT H v b) : PairT H' v b := by
  cases h with
  | non => exact .non
  | int i => exact .int i
  | str x => exact .str x
  | lst h => exact .lst (e _ _ h)
  | tup h f => exact .tup (e _ _ h) f
theorem pairs_same {H H' : Hp} (e : Same H H') : ∀ {xs : List V} {bs : List Bool}, Paired (PairT H) xs bs → Paired (PairT H') xs bs
  | _, _, .nil => .nil
  | _, _, .cons h t => .cons (h.same e) (pairs_same e t)
theorem HerdT.same {H H' : Hp} (e : Same H H') {v : V} {b : Bool} (h : HerdT H v b) : HerdT H' v b := by
  cases h with
  | non => exact .non
  | str x => exact .str x
  | tup h => exact .tup (e _ _ h)
  | dct h => exact .dct (e _ _ h)
  | lst h p => exact .lst (e _ _ h) (pairs_same e p)
theorem pairs_get {α β : Type} {R : α → β → Prop} : ∀ {xs : List α} {bs : List β} {i : Nat} {x : α}, Paired R xs bs → xs[i]? = some x → ∃ b, bs[i]? = some b ∧ R x b
  | _, _, _, _, .nil, e => by simp at e
  | _, _, 0, _, .cons r _, e => by simp at e; subst e; exact ⟨_, rfl, r⟩
  | _, _, i + 1, x, .cons _ t, e => by
    obtain ⟨u, h1, h2⟩ := pairs_get (i := i) (x := x) t (by simpa using e)
    exact ⟨u, by simpa using h1, h2⟩
inductive sp_numT (vs : List V) (H : Hp) (Q : VK) (x_3 : XK) : Prop where
  | mk (x : V) (h_0 : vs = [x]) (h_1 : Flat x) (h_2 : Q (.bl (isIntB x)) H)
theorem ok_numT (B : Bl mg) (F : Fun K "is_number" "is_number" s_is_number f fd) : FnOk P w K mg base CX0 1 f fd ["value"] sp_numT := by
  refine F.ok sc_is_number (fun vs H Q E h => ?_) (fun cdv A outer s H vs Q E hr h => ?_)
  · obtain ⟨i, rfl, _⟩ := h
    rfl
  obtain ⟨x, rfl, hf, q⟩ := h
  refine ⟨_, (pss_one (ps_ret (pe_and (pe_callB call_isinstance (by rfl) B.isinstance PySem.L3.boot_isinstance (pa_cons (pv 0) (pa_cons (pe_bltn (v := .ty "int") (by rfl) B.int PySem.L3.boot_int rfl) pa_nil))) (pe_one (pe_not (pe_callB call_isinstance (by rfl) B.isinstance PySem.L3.boot_isinstance (pa_cons (pv 0) (pa_cons (pe_bltn (v := .ty "bool") (by rfl) B.bool PySem.L3.boot_bool rfl) pa_nil)))))))), ?_⟩
  cases x with
  | non => exact ⟨_, rfl, _, "int", _, false, rfl, .non, rfl, false, rfl, iteF q⟩
  | str x => exact ⟨_, rfl, _, "int", _, false, rfl, .str x, rfl, false, rfl, iteF q⟩
  | bl b => exact ⟨_, rfl, _, "int", _, true, rfl, .bl b, rfl, true, rfl, iteT ⟨_, rfl, _, "bool", _, true, rfl, .bl b, rfl, _, rfl, q⟩⟩
  | int i => exact ⟨_, rfl, _, "int", _, true, rfl, .int i, rfl, true, rfl, iteT ⟨_, rfl, _, "bool", _, false, rfl, .int i, rfl, _, rfl, q⟩⟩
  | byt _ => exact Bool.noConfusion (show false = true from hf)
  | flt _ => exact Bool.noConfusion (show false = true from hf)
  | ref _ => exact Bool.noConfusion (show false = true from hf)
  | ty _ => exact Bool.noConfusion (show false = true from hf)
inductive sp_pairT (vs : List V) (H : Hp) (Q : VK) (x_3 : XK) : Prop where
  | mk (x : V) (b : Bool) (h_0 : vs = [x]) (h_1 : PairT H x b) (h_2 : ∀ H', Same H H' → Q (.bl b) H')
theorem ok_pairT (B : Bl mg) (CT_is_number : Cal P w K mg base 1 "is_number" sp_numT) (F : Fun K "is_pair" "is_pair" s_is_pair f fd) : FnOk P w K mg base CX0 2 f fd ["value"] sp_pairT := by
  refine F.ok sc_is_pair (fun vs H Q E h => ?_) (fun cdv A outer s H vs Q E hr h => ?_)
  · obtain ⟨x, p, rfl, _⟩ := h
    rfl
  obtain ⟨x, b, rfl, hx, q⟩ := h
  refine ⟨_, (pss_cons (ps_if (PW.pt (pw_or (pt_not (pt_val (pe_callB call_isinstance (by rfl) B.isinstance PySem.L3.boot_isinstance (pa_cons (pv 0) (pa_cons (pe_bltn (v := .ty "tuple") (by rfl) B.tuple PySem.L3.boot_tuple rfl) pa_nil))))) (pw_or1 (pt_cmpR op_ne (pe_callB call_len_seq (by rfl) B.len PySem.L3.boot_len (pa_cons (pv 0) pa_nil)) pe_int (nomark _))))) (pss_one (ps_ret pe_bl)) pss_nil)
    (pss_one (ps_ret (pe_callB (call_all rfl) (by rfl) B.all PySem.L3.boot_all (pa_cons (pe_comp (Nc := ["part"]) (fi := [none]) (comp_sc rfl rfl rfl) rfl (comp_from_go rfl) (pi_tup (pv 0)) (fun _ _ _ _ => ⟨(pg_name (i := 0) (show (["part"] : List Str).Nodup by decide +kernel) rfl (Or.inl rfl)), pf_nil, (pe_and (pe_c CT_is_number (hr.mono (by decide)) (by rfl) (pa_cons (pv 0) pa_nil)) (pe_one (pe_chain op_le op_le (pe_un un_neg (pe_glob (v := .int 1000) (by rfl) B.g_BOUND.choose_spec ⟨_, rfl⟩)) (pv 0) (pe_glob (v := .int 1000) (by rfl) B.g_BOUND.choose_spec ⟨_, rfl⟩))))⟩)) pa_nil))))), ?_⟩
  cases hx with
  | non => exact ⟨_, rfl, _, "tuple", _, false, rfl, .non, rfl, _, rfl, iteT (iteT (q _ (Same.refl _)))⟩
  | int i => exact ⟨_, rfl, _, "tuple", _, false, rfl, .int i, rfl, _, rfl, iteT (iteT (q _ (Same.refl _)))⟩
  | str x => exact ⟨_, rfl, _, "tuple", _, false, rfl, .str x, rfl, _, rfl, iteT (iteT (q _ (Same.refl _)))⟩
  | lst h => exact ⟨_, rfl, _, "tuple", _, false, rfl, .lst h, rfl, _, rfl, iteT (iteT (q _ (Same.refl _)))⟩
  | @tup t xs ht hf =>
    refine ⟨_, rfl, _, "tuple", _, true, rfl, .tup ht, rfl, _, rfl, ?_⟩
    refine iteF ⟨_, rfl, t, _, rfl, .inr (SqT.of ht), rfl, _, rfl, ?_⟩
    refine ite2 (fun c => ?_) (fun c => ?_)
    · have c' : xs.length ≠ 2 := fun z => by
        rw [z] at c; simp at c
      have e : pairB xs = false := by unfold pairB; rw [decide_eq_false c']; rfl
      rw [e] at q
      exact q _ (Same.refl _)
    · have c' : xs.length = 2 := by
        have c1 : ¬ (!decide (V.int ((xs.length : Nat) : Int) = V.int 2)) = true := c
        have c2 : V.int ((xs.length : Nat) : Int) = V.int 2 := Classical.byContradiction fun z => c1 (by rw [decide_eq_false z]; rfl)
        injection c2 with c3
        omega
      refine ⟨_, rfl, t, rfl, ⟨_, SqT.of ht⟩, fun _ _ _ _ l hl => ?_⟩
      refine comp_by 2 (by show 2 ≤ sizeLine; decide) (fun i ys σ' Hc => Same H Hc ∧ Hc l = some (.lst ys) ∧ ys = ((xs.take i).map numB).map V.bl ∧ i ≤ 2 ∧ σ'.length = 1) ?_ (fun i ys σ' Hc ⟨_, e, y, hi, _⟩ => ⟨e, by rw [y]; simp; omega⟩) ?_ ?_
      · exact ⟨same_new hl _, upd_same, rfl, Nat.zero_le _, rfl⟩
      · rintro i ys σ' Hc hi ⟨e, el, rfl, _, hσ⟩
        have ht' : SqT K Hc t xs := SqT.of (e _ _ ht)
        have hxi : xs[i]? = some xs[i] := List.getElem?_eq_getElem (by omega)
        refine ⟨⟨_, xs[i], ht', hxi⟩, fun x H' y Kt Kf k1 _ => ?_⟩
        obtain ⟨rfl, hx⟩ := y
        have hx' := hx _ ht'
        rw [hxi] at hx'
        obtain rfl : xs[i] = x := Option.some.inj hx'
        have hfx := hf _ (List.getElem_mem (show i < xs.length by omega))
        have fin : ∀ σ2 : St, σ2.length = 1 → ∀ b, numB xs[i] = b → Kt σ2 (.bl b) H' := fun σ2 h2 b hb => by
          refine k1 _ _ _ el ⟨same_upd hl e, upd_same, ?_, by omega, h2⟩
          rw [List.take_add_one, hxi, List.map_append, List.map_append, ← hb]; rfl
        match σ', hσ with
        | [o], _ =>
          simp only [gName, tYes, ↓reduceIte]
          refine ⟨_, rfl, _, rfl, hfx, _, rfl, ?_⟩
          generalize xs[i] = x at hfx fin
          cases x with
          | non => exact iteF (fin _ rfl _ rfl)
          | str x => exact iteF (fin _ rfl _ rfl)
          | bl b => exact iteF (fin _ rfl _ rfl)
          | byt _ => exact Bool.noConfusion (show false = true from hfx)
          | flt _ => exact Bool.noConfusion (show false = true from hfx)
          | ref _ => exact Bool.noConfusion (show false = true from hfx)
          | ty _ => exact Bool.noConfusion (show false = true from hfx)
          | int z =>
            refine iteT ⟨_, rfl, _, rfl, _, _, rfl, rfl, _, rfl, ite2 (fun c => ?_) (fun c => ?_)⟩
            · refine ⟨_, _, rfl, rfl, fin _ rfl _ ?_⟩
              have c2 : decide (-1000 ≤ z) = true := c
              show (decide (-1000 ≤ z) && decide (z ≤ 1000)) = _
              rw [c2]; rfl
            · refine fin _ rfl _ ?_
              have c2 : decide (-1000 ≤ z) = false := Bool.eq_false_iff.mpr c
              show (decide (-1000 ≤ z) && decide (z ≤ 1000)) = _
              rw [c2]; rfl
      · rintro ys σ' Hc ⟨e, el, rfl, _, _⟩
        refine ⟨⟨_, SqT.of (e _ _ ht), by omega⟩, l, (xs.take 2).map numB, rfl, SqL.of el, ?_⟩
        have e2 : ((xs.take 2).map numB).all id = pairB xs := by
          unfold pairB
          rw [decide_eq_true c', List.take_of_length_le (by omega), List.all_map]; rfl
        rw [e2]; exact q _ e
inductive sp_herdT (vs : List V) (H : Hp) (Q : VK) (x_3 : XK) : Prop where
  | mk (x : V) (b : Bool) (h_0 : vs = [x]) (h_1 : HerdT H x b) (h_2 : ∀ H', Same H H' → Q (.bl b) H')
theorem ok_herdT (B : Bl mg) (CT_is_pair : Cal P w K mg base 2 "is_pair" sp_pairT) (F : Fun K "is_herd" "is_herd" s_is_herd f fd) : FnOk P w K mg base CX0 3 f fd ["value"] sp_herdT := by
  refine F.ok sc_is_herd (fun vs H Q E h => ?_) (fun cdv A outer s H vs Q E hr h => ?_)
  · obtain ⟨x, p, rfl, _⟩ := h
    rfl
  obtain ⟨x, b, rfl, hx, q⟩ := h
  refine ⟨_, (pss_cons (ps_if (PW.pt (pw_or (pt_not (pt_val (pe_callB call_isinstance (by rfl) B.isinstance PySem.L3.boot_isinstance (pa_cons (pv 0) (pa_cons (pe_bltn (v := .ty "list") (by rfl) B.list PySem.L3.boot_list rfl) pa_nil))))) (pw_or1 (pt_not (pt_chain op_le op_le pe_int (pe_callB call_len_seq (by rfl) B.len PySem.L3.boot_len (pa_cons (pv 0) pa_nil)) (pe_glob (v := .int 8) (by rfl) B.g_MOST_SPOTS.choose_spec ⟨_, rfl⟩)))))) (pss_one (ps_ret pe_bl)) pss_nil)
    (pss_one (ps_ret (pe_callB (call_all rfl) (by rfl) B.all PySem.L3.boot_all (pa_cons (pe_comp (Nc := ["spot"]) (fi := [none]) (comp_sc rfl rfl rfl) rfl (comp_from_go rfl) (pi_list (pv 0)) (fun _ _ _ _ => ⟨(pg_name (i := 0) (show (["spot"] : List Str).Nodup by decide +kernel) rfl (Or.inl rfl)), pf_nil, (pe_c CT_is_pair (hr.mono (by decide)) (by rfl) (pa_cons (pv 0) pa_nil))⟩)) pa_nil))))), ?_⟩
  cases hx with
  | non => exact ⟨_, rfl, _, "list", _, false, rfl, .non, rfl, _, rfl, iteT (iteT (q _ (Same.refl _)))⟩
  | str x => exact ⟨_, rfl, _, "list", _, false, rfl, .str x, rfl, _, rfl, iteT (iteT (q _ (Same.refl _)))⟩
  | tup h => exact ⟨_, rfl, _, "list", _, false, rfl, .tup h, rfl, _, rfl, iteT (iteT (q _ (Same.refl _)))⟩
  | dct h => exact ⟨_, rfl, _, "list", _, false, rfl, .dK h, rfl, _, rfl, iteT (iteT (q _ (Same.refl _)))⟩
  | @lst o ys bs ho hp =>
    refine ⟨_, rfl, _, "list", _, true, rfl, .lst ho, rfl, _, rfl, ?_⟩
    refine iteF ?_
    have no : herdB ys.length bs = false → Q (.bl false) H := fun z => by
      rw [z] at q; exact q _ (Same.refl _)
    refine ⟨_, rfl, o, ys, rfl, .inl (SqL.of ho), _, _, rfl, rfl, _, rfl, ite2 (fun c => ?_) (fun c => ?_)⟩
    · have c1 : 1 ≤ ys.length := by
        have c2 : (1 : Int) ≤ ((ys.length : Nat) : Int) := of_decide_eq_true c
        omega
      refine ⟨_, _, rfl, rfl, _, rfl, ite2 (fun d => ?_) (fun d => ?_)⟩
      · refine no ?_
        have d1 : (!decide (((ys.length : Nat) : Int) ≤ 8)) = true := d
        have d2 : ¬ ys.length ≤ 8 := fun z => by
          rw [decide_eq_true (show ((ys.length : Nat) : Int) ≤ 8 by omega)] at d1; cases d1
        unfold herdB; rw [decide_eq_false d2, Bool.and_false]; rfl
      · have d2 : ys.length ≤ 8 := Classical.byContradiction fun z => d (by
          show (!decide (((ys.length : Nat) : Int) ≤ 8)) = true
          rw [decide_eq_false (show ¬ ((ys.length : Nat) : Int) ≤ 8 by omega)]; rfl)
        have lb : bs.length = ys.length := hp.length.symm
        refine ⟨_, rfl, o, rfl, ⟨_, SqL.of ho⟩, fun _ _ _ _ l hl => ?_⟩
        refine comp_by ys.length (by rw [sizeLine_eq]; omega) (fun i zs σ' Hc => Same H Hc ∧ Hc l = some (.lst zs) ∧ zs = (bs.take i).map V.bl ∧ i ≤ ys.length ∧ σ'.length = 1) ?_ (fun i zs σ' Hc ⟨_, e, y, hi, _⟩ => ⟨e, by rw [y]; simp; omega⟩) ?_ ?_
        · exact ⟨same_new hl _, upd_same, rfl, Nat.zero_le _, rfl⟩
        · rintro i zs σ' Hc hi ⟨e, el, rfl, _, hσ⟩
          have hxi : ys[i]? = some ys[i] := List.getElem?_eq_getElem hi
          refine ⟨⟨_, ys[i], SqL.of (e _ _ ho), hxi⟩, fun x H' y Kt Kf k1 _ => ?_⟩
          obtain ⟨rfl, hx⟩ := y
          have hx' := hx _ (SqL.of (e _ _ ho))
          obtain ⟨b, hb1, hb2⟩ := pairs_get hp hx'
          match σ', hσ with
          | [c], _ =>
            simp only [gName, tYes, ↓reduceIte]
            refine ⟨_, rfl, x, b, rfl, hb2.same e, fun H2 e2 => ?_⟩
            refine k1 _ _ _ (e2 _ _ el) ⟨same_upd hl (e.trans e2), upd_same, ?_, by omega, rfl⟩
            rw [List.take_add_one, hb1, List.map_append]; rfl
        · rintro zs σ' Hc ⟨e, el, rfl, _, _⟩
          refine ⟨⟨_, SqL.of (e _ _ ho), Nat.le_refl _⟩, l, bs.take ys.length, rfl, SqL.of el, ?_⟩
          have e2 : (bs.take ys.length).all id = herdB ys.length bs := by
            unfold herdB
            rw [decide_eq_true c1, decide_eq_true d2, List.take_of_length_le (by omega)]; rfl
          rw [e2]; exact q _ e
    · have c1 : ¬ 1 ≤ ys.length := fun z => c (decide_eq_true (show (1 : Int) ≤ ((ys.length : Nat) : Int) by omega))
      exact ⟨_, rfl, iteT (no (by unfold herdB; rw [decide_eq_false c1]; rfl))⟩
end
end K8a
set_option Elab.async false
set_option linter.all false
set_option maxRecDepth 100000
set_option maxHeartbeats 4000000
namespace K8a
open PySem L2 Hull SortM Pick SepM
seal L2.PE L2.PT L2.PW L2.PA L2.PS L2.PSs L2.PG L2.PGs L2.PF L2.PI L2.PO
section
variable {P : Program} {w : World} {K : PySem.W.Frag} {mg : Str → Option Value} {base : Heap} {f : Addr} {fd : FuncData}
structure KF (K : PySem.W.Frag) (cH c1 c2 c3 c4 c5 D : Addr) (b1 b2 b3 b4 : Bool) : Prop where
  ec : ExcCls K D
  he : PySem.W.kitCls K (.ref D) (.ref cH) = some true
  k1 : PySem.W.kitOne K (.ref D) (.ref c1) = some b1
  k2 : PySem.W.kitOne K (.ref D) (.ref c2) = some b2
  k3 : PySem.W.kitOne K (.ref D) (.ref c3) = some b3
  k4 : PySem.W.kitOne K (.ref D) (.ref c4) = some b4
  k5 : PySem.W.kitOne K (.ref D) (.ref c5) = some false
  k6 : PySem.W.kitOne K (.ref D) (.type "ValueError") = some true
structure EO (mg : Str → Option Value) (base : Heap) (x : Str) (D : Addr) : Prop where
  own : PyProof.Rows.OwnCls x D [.type "ValueError", .type "Exception", .type "BaseException", .type "object"] "ValueError.__new__" mg base
inductive sp_chk (T : Hp → V → Bool → Prop) (c : Addr) (vs : List V) (H : Hp) (Q : VK) (E : XK) : Prop where
  | mk (v : V) (b : Bool) (h_0 : vs = [v]) (h_1 : T H v b) (h_2 : b = true → ∀ H', Same H H' → Q .non H') (h_3 : b = false → ∀ H', Same H H' → E (.ref c) none H')
theorem ok_chkH {c : Addr} (O_BadHerd : EO mg base "BadHerd" c) (CT_is_herd : Cal P w K mg base 3 "is_herd" sp_herdT) (F : Fun K "check_herd" "check_herd" s_check_herd f fd) : FnOk P w K mg base (CX1 P w) 4 f fd ["herd"] (sp_chk HerdT c) := by
  refine F.ok1 sc_check_herd (fun vs H Q E h => ?_) (fun cdv A outer s H vs Q E hr h => ?_)
  · obtain ⟨x, p, rfl, _⟩ := h
    rfl
  obtain ⟨v, b, rfl, hv, q1, q2⟩ := h
  refine ⟨_, (pss_one (ps_if (pt_not (pt_val (pe_c CT_is_herd (hr.mono (by decide)) (by rfl) (pa_cons (pv 0) pa_nil)))) (pss_one (ps_raise O_BadHerd.own PySem.F.excBase_ValueError (by rfl) pe_str)) pss_nil)), ?_⟩
  refine ⟨_, rfl, v, b, rfl, hv, fun H' e => ?_⟩
  cases b with
  | true => exact ⟨_, rfl, iteF (q1 rfl _ e)⟩
  | false => exact ⟨_, rfl, iteT (q2 rfl _ e)⟩
theorem ok_chkP {c : Addr} (O_BadSpot : EO mg base "BadSpot" c) (CT_is_pair : Cal P w K mg base 2 "is_pair" sp_pairT) (F : Fun K "check_spot" "check_spot" s_check_spot f fd) : FnOk P w K mg base (CX1 P w) 3 f fd ["spot"] (sp_chk PairT c) := by
  refine F.ok1 sc_check_spot (fun vs H Q E h => ?_) (fun cdv A outer s H vs Q E hr h => ?_)
  · obtain ⟨x, p, rfl, _⟩ := h
    rfl
  obtain ⟨v, b, rfl, hv, q1, q2⟩ := h
  refine ⟨_, (pss_one (ps_if (pt_not (pt_val (pe_c CT_is_pair (hr.mono (by decide)) (by rfl) (pa_cons (pv 0) pa_nil)))) (pss_one (ps_raise O_BadSpot.own PySem.F.excBase_ValueError (by rfl) pe_str)) pss_nil)), ?_⟩
  refine ⟨_, rfl, v, b, rfl, hv, fun H' e => ?_⟩
  cases b with
  | true => exact ⟨_, rfl, iteF (q1 rfl _ e)⟩
  | false => exact ⟨_, rfl, iteT (q2 rfl _ e)⟩
theorem ok_chkW {c : Addr} (O_BadWay : EO mg base "BadWay" c) (CT_is_pair : Cal P w K mg base 2 "is_pair" sp_pairT) (F : Fun K "check_way" "check_way" s_check_way f fd) : FnOk P w K mg base (CX1 P w) 3 f fd ["way"] (sp_chk PairT c) := by
  refine F.ok1 sc_check_way (fun vs H Q E h => ?_) (fun cdv A outer s H vs Q E hr h => ?_)
  · obtain ⟨x, p, rfl, _⟩ := h
    rfl
  obtain ⟨v, b, rfl, hv, q1, q2⟩ := h
  refine ⟨_, (pss_one (ps_if (pt_not (pt_val (pe_c CT_is_pair (hr.mono (by decide)) (by rfl) (pa_cons (pv 0) pa_nil)))) (pss_one (ps_raise O_BadWay.own PySem.F.excBase_ValueError (by rfl) pe_str)) pss_nil)), ?_⟩
  refine ⟨_, rfl, v, b, rfl, hv, fun H' e => ?_⟩
  cases b with
  | true => exact ⟨_, rfl, iteF (q1 rfl _ e)⟩
  | false => exact ⟨_, rfl, iteT (q2 rfl _ e)⟩
inductive sp_bad1 (c : Addr) (vs : List V) (H : Hp) (Q : VK) (E : XK) : Prop where
  | mk (v : V) (h_0 : vs = [v]) (h_1 : HerdT H v false) (h_2 : ∀ H', Same H H' → E (.ref c) none H')
theorem ok_corners1 {c : Addr} (C1_check_herd : Cal1 P w K mg base 4 "check_herd" (sp_chk HerdT c)) (F : Fun K "corners" "corners" s_corners f fd) : FnOk P w K mg base (CX1 P w) 5 f fd ["herd"] (sp_bad1 c) := by
  refine F.ok1 sc_corners (fun vs H Q E h => ?_) (fun cdv A outer s H vs Q E hr h => ?_)
  · obtain ⟨x, rfl, _⟩ := h
    rfl
  obtain ⟨v, rfl, hv, q⟩ := h
  refine ⟨_, (pss_first (ps_expr (pe_c1 C1_check_herd (hr.mono (by decide)) (by rfl) (pa_cons (pv 0) pa_nil)))), ?_⟩
  exact ⟨_, rfl, v, false, rfl, hv, fun z => (by cases z), fun _ => q⟩
theorem ok_land1 {c : Addr} {sa : L2.Sp} (C1_corners : Cal1 P w K mg base 5 "corners" (sp_bad1 c)) (C_twice_area : Cal P w K mg base 2 "twice_area" sa) (F : Fun K "land" "land" s_land f fd) : FnOk P w K mg base (CX1 P w) 6 f fd ["herd"] (sp_bad1 c) := by
  refine F.ok1 sc_land (fun vs H Q E h => ?_) (fun cdv A outer s H vs Q E hr h => ?_)
  · obtain ⟨x, rfl, _⟩ := h
    rfl
  obtain ⟨v, rfl, hv, q⟩ := h
  refine ⟨_, (pss_one (ps_ret (pe_c C_twice_area (hr.mono (by decide)) (by rfl) (pa_cons (pe_c1 C1_corners (hr.mono (by decide)) (by rfl) (pa_cons (pv 0) pa_nil)) pa_nil)))), ?_⟩
  exact ⟨_, rfl, v, rfl, hv, q⟩
theorem ok_spots1 {c : Addr} (C1_corners : Cal1 P w K mg base 5 "corners" (sp_bad1 c)) (F : Fun K "spots" "spots" s_spots f fd) : FnOk P w K mg base (CX1 P w) 6 f fd ["herd"] (sp_bad1 c) := by
  refine F.ok1 sc_spots (fun vs H Q E h => ?_) (fun cdv A outer s H vs Q E hr h => ?_)
  · obtain ⟨x, rfl, _⟩ := h
    rfl
  obtain ⟨v, rfl, hv, q⟩ := h
  refine ⟨_, (pss_first (ps_set (i := 1) sc_spots.nd rfl (Or.inl rfl) (pe_c1 C1_corners (hr.mono (by decide)) (by rfl) (pa_cons (pv 0) pa_nil)))), ?_⟩
  exact ⟨_, rfl, v, rfl, hv, q⟩
theorem ok_written1 {c : Addr} (C1_check_herd : Cal1 P w K mg base 4 "check_herd" (sp_chk HerdT c)) (F : Fun K "written" "written" s_written f fd) : FnOk P w K mg base (CX1 P w) 5 f fd ["herd"] (sp_bad1 c) := by
  refine F.ok1 sc_written (fun vs H Q E h => ?_) (fun cdv A outer s H vs Q E hr h => ?_)
  · obtain ⟨x, rfl, _⟩ := h
    rfl
  obtain ⟨v, rfl, hv, q⟩ := h
  refine ⟨_, (pss_first (ps_expr (pe_c1 C1_check_herd (hr.mono (by decide)) (by rfl) (pa_cons (pv 0) pa_nil)))), ?_⟩
  exact ⟨_, rfl, v, false, rfl, hv, fun z => (by cases z), fun _ => q⟩
inductive sp_two2 (T : Hp → V → Bool → Prop) (c c' : Addr) (vs : List V) (H : Hp) (Q : VK) (E : XK) : Prop where
  | mk (v u : V) (h_0 : vs = [v, u]) (h_1 : (HerdT H v false ∧ ∀ H', Same H H' → E (.ref c) none H') ∨ (HerdT H v true ∧ (∀ H', Same H H' → T H' u false) ∧ ∀ H', Same H H' → E (.ref c') none H'))
theorem ok_farthest1 {c c' : Addr} (C1_check_herd : Cal1 P w K mg base 4 "check_herd" (sp_chk HerdT c)) (C1_check_way : Cal1 P w K mg base 3 "check_way" (sp_chk PairT c')) (F : Fun K "farthest" "farthest" s_farthest f fd) : FnOk P w K mg base (CX1 P w) 5 f fd ["herd", "way"] (sp_two2 PairT c c') := by
  refine F.ok1 sc_farthest (fun vs H Q E h => ?_) (fun cdv A outer s H vs Q E hr h => ?_)
  · obtain ⟨v, u, rfl, _⟩ := h
    rfl
  obtain ⟨v, u, rfl, h⟩ := h
  refine ⟨_, (pss_cons (ps_expr (pe_c1 C1_check_herd (hr.mono (by decide)) (by rfl) (pa_cons (pv 0) pa_nil)))
    (pss_first (ps_expr (pe_c1 C1_check_way (hr.mono (by decide)) (by rfl) (pa_cons (pv 1) pa_nil))))), ?_⟩
  rcases h with ⟨h1, q⟩ | ⟨h1, h2, q⟩
  · exact ⟨_, rfl, v, false, rfl, h1, fun z => (by cases z), fun _ => q⟩
  · exact ⟨_, rfl, v, true, rfl, h1, fun _ H1 e1 => ⟨_, rfl, u, false, rfl, h2 _ e1, fun z => (by cases z), fun _ H2 e2 => q _ (e1.trans e2)⟩, fun z => (by cases z)⟩
theorem ok_within1 {c c' : Addr} (C1_check_herd : Cal1 P w K mg base 4 "check_herd" (sp_chk HerdT c)) (C1_check_spot : Cal1 P w K mg base 3 "check_spot" (sp_chk PairT c')) (F : Fun K "within" "within" s_within f fd) : FnOk P w K mg base (CX1 P w) 5 f fd ["herd", "spot"] (sp_two2 PairT c c') := by
  refine F.ok1 sc_within (fun vs H Q E h => ?_) (fun cdv A outer s H vs Q E hr h => ?_)
  · obtain ⟨v, u, rfl, _⟩ := h
    rfl
  obtain ⟨v, u, rfl, h⟩ := h
  refine ⟨_, (pss_cons (ps_expr (pe_c1 C1_check_herd (hr.mono (by decide)) (by rfl) (pa_cons (pv 0) pa_nil)))
    (pss_first (ps_expr (pe_c1 C1_check_spot (hr.mono (by decide)) (by rfl) (pa_cons (pv 1) pa_nil))))), ?_⟩
  rcases h with ⟨h1, q⟩ | ⟨h1, h2, q⟩
  · exact ⟨_, rfl, v, false, rfl, h1, fun z => (by cases z), fun _ => q⟩
  · exact ⟨_, rfl, v, true, rfl, h1, fun _ H1 e1 => ⟨_, rfl, u, false, rfl, h2 _ e1, fun z => (by cases z), fun _ H2 e2 => q _ (e1.trans e2)⟩, fun z => (by cases z)⟩
theorem ok_between1 {c : Addr} (C1_check_herd : Cal1 P w K mg base 4 "check_herd" (sp_chk HerdT c)) (F : Fun K "between" "between" s_between f fd) : FnOk P w K mg base (CX1 P w) 5 f fd ["one", "other"] (sp_two2 HerdT c c) := by
  refine F.ok1 sc_between (fun vs H Q E h => ?_) (fun cdv A outer s H vs Q E hr h => ?_)
  · obtain ⟨v, u, rfl, _⟩ := h
    rfl
  obtain ⟨v, u, rfl, h⟩ := h
  refine ⟨_, (pss_cons (ps_expr (pe_c1 C1_check_herd (hr.mono (by decide)) (by rfl) (pa_cons (pv 0) pa_nil)))
    (pss_first (ps_expr (pe_c1 C1_check_herd (hr.mono (by decide)) (by rfl) (pa_cons (pv 1) pa_nil))))), ?_⟩
  rcases h with ⟨h1, q⟩ | ⟨h1, h2, q⟩
  · exact ⟨_, rfl, v, false, rfl, h1, fun z => (by cases z), fun _ => q⟩
  · exact ⟨_, rfl, v, true, rfl, h1, fun _ H1 e1 => ⟨_, rfl, u, false, rfl, h2 _ e1, fun z => (by cases z), fun _ H2 e2 => q _ (e1.trans e2)⟩, fun z => (by cases z)⟩
inductive sp_cut1 (c c' : Addr) (vs : List V) (H : Hp) (Q : VK) (E : XK) : Prop where
  | mk (v : V) (h_0 : vs = [v]) (h_1 : (HerdT H v false ∧ ∀ H', Same H H' → E (.ref c) none H') ∨ ∃ a xs, v = .ref a ∧ H a = some (.lst xs) ∧ HerdT H v true ∧ xs.length < 4 ∧ ∀ H', Same H H' → E (.ref c') none H')
theorem ok_cut1 {c c' : Addr} (B : Bl mg) (O_TooFew : EO mg base "TooFew" c') (C1_check_herd : Cal1 P w K mg base 4 "check_herd" (sp_chk HerdT c)) (F : Fun K "cut" "cut" s_cut f fd) : FnOk P w K mg base (CX1 P w) 5 f fd ["herd"] (sp_cut1 c c') := by
  refine F.ok1 sc_cut (fun vs H Q E h => ?_) (fun cdv A outer s H vs Q E hr h => ?_)
  · obtain ⟨v, rfl, _⟩ := h
    rfl
  obtain ⟨v, rfl, h⟩ := h
  refine ⟨_, (pss_cons (ps_expr (pe_c1 C1_check_herd (hr.mono (by decide)) (by rfl) (pa_cons (pv 0) pa_nil)))
    (pss_first (ps_if (pt_cmpR op_lt (pe_callB call_len_seq (by rfl) B.len PySem.L3.boot_len (pa_cons (pv 0) pa_nil)) (pe_glob (v := .int 4) (by rfl) B.g_FEWEST_TO_CUT.choose_spec ⟨_, rfl⟩) (nomark _)) (pss_one (ps_raise O_TooFew.own PySem.F.excBase_ValueError (by rfl) pe_str)) pss_nil))), ?_⟩
  rcases h with ⟨h1, q⟩ | ⟨a, xs, rfl, ha, h1, h4, q⟩
  · exact ⟨_, rfl, v, false, rfl, h1, fun z => (by cases z), fun _ => q⟩
  · refine ⟨_, rfl, .ref a, true, rfl, h1, fun _ H1 e1 => ?_, fun z => (by cases z)⟩
    refine ⟨_, rfl, a, xs, rfl, .inl (SqL.of (e1 _ _ ha)), _, _, rfl, rfl, _, rfl, ite2 (fun _ => q _ e1) (fun c => ?_)⟩
    exact absurd (decide_eq_true (show ((xs.length : Nat) : Int) < 4 by omega)) c
end
end K8a
set_option Elab.async false
set_option linter.all false
set_option maxRecDepth 100000
set_option maxHeartbeats 4000000
namespace K8a
open PySem L2 Hull SortM Pick SepM
seal L2.PE L2.PT L2.PW L2.PA L2.PS L2.PSs L2.PG L2.PGs L2.PF L2.PI L2.PO
section
variable {P : Program} {w : World} {K : PySem.W.Frag} {mg : Str → Option Value} {base : Heap} {f : Addr} {fd : FuncData}
def kinds (b1 b2 b3 b4 : Bool) : List V := [.bl b1, .bl b2, .bl b3, .bl b4, .bl false, .bl true]
structure THE (K : PySem.W.Frag) (mg : Str → Option Value) (C : Addr) : Prop where
  mg : mg "HerdError" = some (.ref C)
  ba : PySem.W.subIn K (.ref C) (.type "BaseException") = some true
  ks : PySem.W.kitCls K (.ref C) (.ref C) ≠ none
inductive sp_kinds (K : PySem.W.Frag) (cH c1 c2 c3 c4 c5 : Addr) (vs : List V) (H : Hp) (Q : VK) (x_3 : XK) : Prop where
  | mk (x D : Addr) (b1 b2 b3 b4 : Bool) (h_0 : vs = [.ref x]) (h_1 : H x = some (HO.exc x (.ref D))) (h_2 : KF K cH c1 c2 c3 c4 c5 D b1 b2 b3 b4) (h_3 : ∀ l H', Same H H' → H' l = some (.lst (kinds b1 b2 b3 b4)) → Q (.ref l) H')
theorem ok_kinds {cH c_BadHerd c_BadSpot c_BadWay c_TooFew c_BadText : Addr} (B : Bl mg) (T_BadHerd : TxtN mg "BadHerd" c_BadHerd) (T_BadSpot : TxtN mg "BadSpot" c_BadSpot) (T_BadWay : TxtN mg "BadWay" c_BadWay) (T_TooFew : TxtN mg "TooFew" c_TooFew) (T_BadText : TxtN mg "BadText" c_BadText)
    (F : Fun K "_law_kinds" "_law_kinds" s__law_kinds f fd) : FnH P w K mg base 1 f fd ["_law_error"] (sp_kinds K cH c_BadHerd c_BadSpot c_BadWay c_TooFew c_BadText) := by
  refine F.okH sc__law_kinds (fun vs H Q h => ?_) (fun cdv A outer s H vs Q hu h => ?_)
  · obtain ⟨x, D, b1, b2, b3, b4, rfl, _⟩ := h
    rfl
  obtain ⟨x, D, b1, b2, b3, b4, rfl, hx, k, q⟩ := h
  refine ⟨_, (pss_cons (ps_set (i := 1) sc__law_kinds.nd rfl (Or.inl rfl) (pe_lst (pa_cons (pe_callB call_isExc (by rfl) B.isinstance PySem.L3.boot_isinstance (pa_cons (pv 0) (pa_cons (pe_glob (v := .ref c_BadHerd) (by rfl) T_BadHerd.mg rfl) pa_nil))) (pa_cons (pe_callB call_isExc (by rfl) B.isinstance PySem.L3.boot_isinstance (pa_cons (pv 0) (pa_cons (pe_glob (v := .ref c_BadSpot) (by rfl) T_BadSpot.mg rfl) pa_nil))) (pa_cons (pe_callB call_isExc (by rfl) B.isinstance PySem.L3.boot_isinstance (pa_cons (pv 0) (pa_cons (pe_glob (v := .ref c_BadWay) (by rfl) T_BadWay.mg rfl) pa_nil))) pa_nil)))))
    (pss_one (ps_ret (pe_op op_cat (pv 1) (pe_lst (pa_cons (pe_callB call_isExc (by rfl) B.isinstance PySem.L3.boot_isinstance (pa_cons (pv 0) (pa_cons (pe_glob (v := .ref c_TooFew) (by rfl) T_TooFew.mg rfl) pa_nil))) (pa_cons (pe_callB call_isExc (by rfl) B.isinstance PySem.L3.boot_isinstance (pa_cons (pv 0) (pa_cons (pe_glob (v := .ref c_BadText) (by rfl) T_BadText.mg rfl) pa_nil))) (pa_cons (pe_callB call_isExcT (by rfl) B.isinstance PySem.L3.boot_isinstance (pa_cons (pv 0) (pa_cons (pe_bltn (v := .ty "ValueError") (by rfl) B.ValueError PySem.L3.boot_ValueError rfl) pa_nil))) pa_nil)))))))), ?_⟩
  refine ⟨_, rfl, x, D, _, b1, rfl, hx, k.ec, k.k1, _, rfl, x, D, _, b2, rfl, hx, k.ec, k.k2, _, rfl, x, D, _, b3, rfl, hx, k.ec, k.k3, (by show 3 ≤ sizeLine; decide), fun l1 h1 => ?_⟩
  have e1 := same_new h1 (HO.lst [.bl b1, .bl b2, .bl b3])
  have hx1 := e1 _ _ hx
  refine ⟨_, rfl, _, rfl, x, D, _, b4, rfl, hx1, k.ec, k.k4, _, rfl, x, D, _, false, rfl, hx1, k.ec, k.k5, _, rfl, x, D, _, true, rfl, hx1, k.ec, k.k6, (by show 3 ≤ sizeLine; decide), fun l2 h2 => ?_⟩
  have e2 := same_new h2 (HO.lst [.bl b4, .bl false, .bl true])
  exact ⟨l1, l2, _, _, rfl, rfl, e2 _ _ upd_same, upd_same, (by show 6 ≤ sizeLine; decide), fun p hp => q p _ (e1.trans (e2.trans (same_new hp _))) upd_same⟩
inductive sp_told (P : Program) (w : World) (K : PySem.W.Frag) (mg : Str → Option Value) (base : Heap) (cH c1 c2 c3 c4 c5 : Addr) (vs : List V) (H : Hp) (Q : VK) (x_3 : XK) : Prop where
  | mk (fa : Addr) (u v : V) (sp : L2.Sp) (D : Addr) (b1 b2 b3 b4 : Bool) (h_0 : vs = [.ref fa, u, v]) (h_1 : AskV P w K mg base 7 fa sp H) (h_2 : ∀ Q E, (∀ H', Same H H' → E (.ref D) none H') → sp [u, v] H Q E) (h_3 : KF K cH c1 c2 c3 c4 c5 D b1 b2 b3 b4)
    (h_4 : ∀ l H', Same H H' → H' l = some (.lst (kinds b1 b2 b3 b4)) → Q (.ref l) H')
theorem ok_told {c_HerdError c1 c2 c3 c4 c5 : Addr} (T_HerdError : THE K mg c_HerdError) (CH__law_kinds : CalH P w K mg base 1 "_law_kinds" (sp_kinds K c_HerdError c1 c2 c3 c4 c5)) (F : Fun K "_law_told" "_law_told" s__law_told f fd) :
    FnOk P w K mg base CX0 8 f fd ["_law_ask", "_law_one", "_law_other"] (sp_told P w K mg base c_HerdError c1 c2 c3 c4 c5) := by
  refine F.ok sc__law_told (fun vs H Q E h => ?_) (fun cdv A outer s H vs Q E hr h => ?_)
  · obtain ⟨fa, u, v, sp, D, b1, b2, b3, b4, rfl, _⟩ := h
    rfl
  obtain ⟨fa, u, v, sp, D, b1, b2, b3, b4, rfl, ha, hs, k, q⟩ := h
  refine ⟨_, (pss_cons (ps_tryA (k := 7) (i := 0) (j := 3) rfl rfl rfl (hr.mono (by decide)) rfl (Or.inl rfl) (by decide) (by decide) (fun _ => (pa_cons (pv 1) (pa_cons (pv 2) pa_nil))) (by rfl) T_HerdError.mg T_HerdError.ba T_HerdError.ks (by decide) sc__law_told.nd rfl rfl (fun _ => (pss_one (ps_ret (pe_cH CH__law_kinds ((hr.mono (by decide)).held _) (by rfl) (pa_cons (pv 3) pa_nil))))))
    (pss_one (ps_ret (pe_lst pa_nil)))), ?_⟩
  refine ⟨fa, sp, rfl, ha, _, rfl, _, rfl, Same.refl _, hs _ _ fun H1 e1 => ⟨D, rfl, k.he, fun x hx => ?_⟩⟩
  have e2 := same_new hx (HO.exc x (.ref D))
  exact ⟨_, rfl, x, D, b1, b2, b3, b4, rfl, upd_same, k, fun l H2 e3 hl => q l H2 (e1.trans (e2.trans e3)) hl⟩
theorem pair_ok {H : Hp} {t : Addr} {a b : Int} (h : H t = some (.tup [.int a, .int b])) (ha : numB (.int a) = true) (hb : numB (.int b) = true) : PairT H (.ref t) true := by
  have z := PairT.tup h (List.all_eq_true.mp (show [V.int a, V.int b].all flat = true from rfl))
  have e : pairB [.int a, .int b] = true := by
    unfold pairB; rw [List.all_cons, List.all_cons, ha, hb]; rfl
  rw [e] at z; exact z
theorem herd_1 {H : Hp} {l : Addr} {x : V} (h : H l = some (.lst [x])) (p : PairT H x true) : HerdT H (.ref l) true := HerdT.lst h (.cons p .nil)
theorem herd_2 {H : Hp} {l : Addr} {x y : V} (h : H l = some (.lst [x, y])) (p : PairT H x true) (q : PairT H y true) : HerdT H (.ref l) true := HerdT.lst h (.cons p (.cons q .nil))
inductive sp_wherd (c : Addr) (vs : List V) (H : Hp) (Q : VK) (E : XK) : Prop where
  | mk (d : Int) (v : V) (h_0 : vs = [.int d, v]) (h_1 : HerdT H v false) (h_2 : ∀ H', Same H H' → E (.ref c) none H')
theorem ok_wherd {c c2 c3 c4 : Addr} (C1_corners : Cal1 P w K mg base 5 "corners" (sp_bad1 c)) (C1_land : Cal1 P w K mg base 6 "land" (sp_bad1 c)) (C1_spots : Cal1 P w K mg base 6 "spots" (sp_bad1 c)) (C1_farthest : Cal1 P w K mg base 5 "farthest" (sp_two2 PairT c c3))
    (C1_within : Cal1 P w K mg base 5 "within" (sp_two2 PairT c c2)) (C1_between : Cal1 P w K mg base 5 "between" (sp_two2 HerdT c c)) (C1_cut : Cal1 P w K mg base 5 "cut" (sp_cut1 c c4)) (C1_written : Cal1 P w K mg base 5 "written" (sp_bad1 c))
    (F : Fun K "_law_with_herd" "_law_with_herd" s__law_with_herd f fd) : FnOk P w K mg base (CX1 P w) 7 f fd ["_law_door", "_law_herd"] (sp_wherd c) := by
  refine F.ok1 sc__law_with_herd (fun vs H Q E h => ?_) (fun cdv A outer s H vs Q E hr h => ?_)
  · obtain ⟨d, v, rfl, _⟩ := h
    rfl
  obtain ⟨d, v, rfl, hv, q⟩ := h
  refine ⟨_, (pss_cons (ps_if (pt_cmpR op_eq (pv 0) pe_int (nomark _)) (pss_one (ps_ret (pe_c1 C1_corners (hr.mono (by decide)) (by rfl) (pa_cons (pv 1) pa_nil)))) pss_nil)
    (pss_cons (ps_if (pt_cmpR op_eq (pv 0) pe_int (nomark _)) (pss_one (ps_ret (pe_c1 C1_land (hr.mono (by decide)) (by rfl) (pa_cons (pv 1) pa_nil)))) pss_nil)
    (pss_cons (ps_if (pt_cmpR op_eq (pv 0) pe_int (nomark _)) (pss_one (ps_ret (pe_c1 C1_spots (hr.mono (by decide)) (by rfl) (pa_cons (pv 1) pa_nil)))) pss_nil)
    (pss_cons (ps_if (pt_cmpR op_eq (pv 0) pe_int (nomark _)) (pss_one (ps_ret (pe_c1 C1_farthest (hr.mono (by decide)) (by rfl) (pa_cons (pv 1) (pa_cons pe_non pa_nil))))) pss_nil)
    (pss_cons (ps_if (pt_cmpR op_eq (pv 0) pe_int (nomark _)) (pss_one (ps_ret (pe_c1 C1_within (hr.mono (by decide)) (by rfl) (pa_cons (pv 1) (pa_cons pe_non pa_nil))))) pss_nil)
    (pss_cons (ps_if (pt_cmpR op_eq (pv 0) pe_int (nomark _)) (pss_one (ps_ret (pe_c1 C1_between (hr.mono (by decide)) (by rfl) (pa_cons (pv 1) (pa_cons (pe_lst (pa_cons (pe_tup (pa_cons pe_int (pa_cons pe_int pa_nil))) pa_nil)) pa_nil))))) pss_nil)
    (pss_cons (ps_if (pt_cmpR op_eq (pv 0) pe_int (nomark _)) (pss_one (ps_ret (pe_c1 C1_between (hr.mono (by decide)) (by rfl) (pa_cons (pe_lst (pa_cons (pe_tup (pa_cons pe_int (pa_cons pe_int pa_nil))) pa_nil)) (pa_cons (pv 1) pa_nil))))) pss_nil)
    (pss_cons (ps_if (pt_cmpR op_eq (pv 0) pe_int (nomark _)) (pss_one (ps_ret (pe_c1 C1_cut (hr.mono (by decide)) (by rfl) (pa_cons (pv 1) pa_nil)))) pss_nil)
    (pss_one (ps_ret (pe_c1 C1_written (hr.mono (by decide)) (by rfl) (pa_cons (pv 1) pa_nil)))))))))))), ?_⟩
  refine ⟨_, rfl, rfl, _, rfl, ite2 (fun _ => ⟨_, rfl, v, rfl, hv, q⟩) fun _ => ?_⟩
  refine ⟨_, rfl, rfl, _, rfl, ite2 (fun _ => ⟨_, rfl, v, rfl, hv, q⟩) fun _ => ?_⟩
  refine ⟨_, rfl, rfl, _, rfl, ite2 (fun _ => ⟨_, rfl, v, rfl, hv, q⟩) fun _ => ?_⟩
  refine ⟨_, rfl, rfl, _, rfl, ite2 (fun _ => ⟨_, rfl, v, .non, rfl, .inl ⟨hv, q⟩⟩) fun _ => ?_⟩
  refine ⟨_, rfl, rfl, _, rfl, ite2 (fun _ => ⟨_, rfl, v, .non, rfl, .inl ⟨hv, q⟩⟩) fun _ => ?_⟩
  refine ⟨_, rfl, rfl, _, rfl, ite2 (fun _ => ⟨_, rfl, (by show 2 ≤ sizeLine; decide), fun t ht => ⟨(by show 1 ≤ sizeLine; decide), fun l hl => ?_⟩⟩) fun _ => ?_⟩
  · have e := (same_new ht (HO.tup [.int 0, .int 0])).trans (same_new hl (HO.lst [.ref t]))
    exact ⟨v, .ref l, rfl, .inl ⟨hv.same e, fun H' e' => q _ (e.trans e')⟩⟩
  refine ⟨_, rfl, rfl, _, rfl, ite2 (fun _ => ⟨(by show 2 ≤ sizeLine; decide), fun t ht => ⟨(by show 1 ≤ sizeLine; decide), fun l hl => ?_⟩⟩) fun _ => ?_⟩
  · have el := same_new hl (HO.lst [.ref t])
    have e := (same_new ht (HO.tup [.int 0, .int 0])).trans el
    exact ⟨_, rfl, .ref l, v, rfl, .inr ⟨herd_1 upd_same (pair_ok (el _ _ upd_same) rfl rfl), fun H' e' => hv.same (e.trans e'), fun H' e' => q _ (e.trans e')⟩⟩
  refine ⟨_, rfl, rfl, _, rfl, ite2 (fun _ => ⟨_, rfl, v, rfl, .inl ⟨hv, q⟩⟩) fun _ => ?_⟩
  exact ⟨_, rfl, v, rfl, hv, q⟩
inductive sp_wthing (c c' : Addr) (vs : List V) (H : Hp) (Q : VK) (E : XK) : Prop where
  | mk (d : Int) (v : V) (h_0 : vs = [.int d, v]) (h_1 : PairT H v false) (h_2 : d = 0 → ∀ H', Same H H' → E (.ref c) none H') (h_3 : d ≠ 0 → ∀ H', Same H H' → E (.ref c') none H')
theorem ok_wthing {c c2 c3 : Addr} (C1_farthest : Cal1 P w K mg base 5 "farthest" (sp_two2 PairT c c3)) (C1_within : Cal1 P w K mg base 5 "within" (sp_two2 PairT c c2))
    (F : Fun K "_law_with_thing" "_law_with_thing" s__law_with_thing f fd) : FnOk P w K mg base (CX1 P w) 7 f fd ["_law_door", "_law_thing"] (sp_wthing c2 c3) := by
  refine F.ok1 sc__law_with_thing (fun vs H Q E h => ?_) (fun cdv A outer s H vs Q E hr h => ?_)
  · obtain ⟨d, v, rfl, _⟩ := h
    rfl
  obtain ⟨d, v, rfl, hv, q1, q2⟩ := h
  refine ⟨_, (pss_one (ps_ret (pe_ifExp (pt_cmpR op_eq (pv 0) pe_int (nomark _)) (pe_c1 C1_within (hr.mono (by decide)) (by rfl) (pa_cons (pe_lst (pa_cons (pe_tup (pa_cons pe_int (pa_cons pe_int pa_nil))) pa_nil)) (pa_cons (pv 1) pa_nil))) (pe_c1 C1_farthest (hr.mono (by decide)) (by rfl) (pa_cons (pe_lst (pa_cons (pe_tup (pa_cons pe_int (pa_cons pe_int pa_nil))) (pa_cons (pe_tup (pa_cons pe_int (pa_cons pe_int pa_nil))) pa_nil))) (pa_cons (pv 1) pa_nil)))))), ?_⟩
  refine ⟨_, rfl, rfl, _, rfl, ite2 (fun cd => ?_) fun cd => ?_⟩
  · have hd : d = 0 := by
      have z : V.int d = V.int 0 := of_decide_eq_true cd
      injection z
    refine ⟨(by show 2 ≤ sizeLine; decide), fun t ht => ⟨(by show 1 ≤ sizeLine; decide), fun l hl => ?_⟩⟩
    have el := same_new hl (HO.lst [.ref t])
    have e := (same_new ht (HO.tup [.int 0, .int 0])).trans el
    exact ⟨_, rfl, .ref l, v, rfl, .inr ⟨herd_1 upd_same (pair_ok (el _ _ upd_same) rfl rfl), fun H' e' => hv.same (e.trans e'), fun H' e' => q1 hd _ (e.trans e')⟩⟩
  · have hd : d ≠ 0 := fun z => cd (decide_eq_true (show V.int d = V.int 0 by rw [z]))
    refine ⟨(by show 2 ≤ sizeLine; decide), fun t ht => ⟨(by show 2 ≤ sizeLine; decide), fun t2 ht2 => ⟨(by show 2 ≤ sizeLine; decide), fun l hl => ?_⟩⟩⟩
    have el := same_new hl (HO.lst [.ref t, .ref t2])
    have e2 := (same_new ht2 (HO.tup [.int 1, .int 1])).trans el
    have e := (same_new ht (HO.tup [.int 0, .int 0])).trans e2
    exact ⟨_, rfl, .ref l, v, rfl, .inr ⟨herd_2 upd_same (pair_ok (e2 _ _ upd_same) rfl rfl) (pair_ok (el _ _ upd_same) rfl rfl), fun H' e' => hv.same (e.trans e'), fun H' e' => q2 hd _ (e.trans e')⟩⟩
def kindsD (b1 b2 b3 b4 : Bool) : PyData := .list [.bool b1, .bool b2, .bool b3, .bool b4, .bool false, .bool true]
theorem kinds_dn {H : Hp} {l : Addr} {b1 b2 b3 b4 : Bool} (h : H l = some (.lst (kinds b1 b2 b3 b4))) : Dn K H (kindsD b1 b2 b3 b4) (.ref l) :=
  dn_lst (SqL.of h) (dns_cons dn_bl (dns_cons dn_bl (dns_cons dn_bl (dns_cons dn_bl (dns_cons dn_bl (dns_cons dn_bl dns_nil))))))
theorem kinds_sh (b1 b2 b3 b4 : Bool) : SeqAt.shaped (kindsD b1 b2 b3 b4) = true := by cases b1 <;> cases b2 <;> cases b3 <;> cases b4 <;> rfl
theorem kinds_eq (b1 b2 b3 b4 : Bool) : PyData.eqv (kindsD b1 b2 b3 b4) (kindsD b1 b2 b3 b4) = true := by cases b1 <;> cases b2 <;> cases b3 <;> cases b4 <;> rfl
inductive sp_all (P : Program) (w : World) (K : PySem.W.Frag) (mg : Str → Option Value) (base : Heap) (cH c1 c2 c3 c4 c5 : Addr) (vs : List V) (H : Hp) (Q : VK) (x_3 : XK) : Prop where
  | mk (fa ld lt lu : Addr) (ds ts : List V) (sp : L2.Sp) (D : Addr) (b1 b2 b3 b4 : Bool) (h_0 : vs = [.ref fa, .ref ld, .ref lt, .ref lu]) (h_1 : AskV P w K mg base 7 fa sp H) (h_2 : H ld = some (.lst ds)) (h_3 : H lt = some (.lst ts)) (h_4 : H lu = some (.lst (kinds b1 b2 b3 b4)))
    (h_5 : ∀ d ∈ ds, ∀ t ∈ ts, ∀ H' Q E, Same H H' → (∀ H'', Same H' H'' → E (.ref D) none H'') → sp [d, t] H' Q E) (h_6 : KF K cH c1 c2 c3 c4 c5 D b1 b2 b3 b4) (h_7 : ∀ H', Same H H' → Q (.bl true) H')
theorem ok_all {cH c1 c2 c3 c4 c5 : Addr} (C__law_told : Cal P w K mg base 8 "_law_told" (sp_told P w K mg base cH c1 c2 c3 c4 c5)) (F : Fun K "_law_all" "_law_all" s__law_all f fd) :
    FnOk P w K mg base CX0 9 f fd ["_law_ask", "_law_doors", "_law_things", "_law_due"] (sp_all P w K mg base cH c1 c2 c3 c4 c5) := by
  refine F.ok sc__law_all (fun vs H Q E h => ?_) (fun cdv A outer s H vs Q E hr h => ?_)
  · obtain ⟨fa, ld, lt, lu, ds, ts, sp, D, b1, b2, b3, b4, rfl, _⟩ := h
    rfl
  obtain ⟨fa, ld, lt, lu, ds, ts, sp, D, b1, b2, b3, b4, rfl, ha, h2, h3, h4, h5, k, q⟩ := h
  have hu := hr.units
  refine ⟨_, (pss_cons (ps_for PassesOwn.never rfl (pi_list (pv 1)) (pg_name (i := 4) sc__law_all.nd rfl (Or.inl rfl)) (pss_one (ps_for PassesOwn.never rfl (pi_list (pv 2)) (pg_name (i := 5) sc__law_all.nd rfl (Or.inl rfl)) (pss_one (ps_if (pt_cmpR (op_neD hu) (pe_c C__law_told (hr.mono (by decide)) (by rfl) (pa_cons (pv 0) (pa_cons (pv 4) (pa_cons (pv 5) pa_nil)))) (pv 3) (nomark _)) (pss_one (ps_ret pe_bl)) pss_nil)))))
    (pss_one (ps_ret pe_bl))), ?_⟩
  refine ⟨_, rfl, ld, rfl, ⟨ds, SqL.of h2⟩, ?_⟩
  refine for_list (xs := ds) (fun i σ' H' => Same H H' ∧ ∃ o4 o5, σ' = [some (.ref fa), some (.ref ld), some (.ref lt), some (.ref lu), o4, o5]) ⟨Same.refl _, _, _, rfl⟩ (fun i σ' H' _ p => SqL.of (p.1 _ _ h2)) ?_ ?_
  · rintro i d σ' H1 hd ⟨e1, o4, o5, rfl⟩
    refine ⟨_, rfl, lt, rfl, ⟨ts, SqL.of (e1 _ _ h3)⟩, ?_⟩
    refine for_list (xs := ts) (fun i σ' H' => Same H H' ∧ ∃ o5, σ' = [some (.ref fa), some (.ref ld), some (.ref lt), some (.ref lu), some d, o5]) ⟨e1, _, rfl⟩ (fun i σ' H' _ p => SqL.of (p.1 _ _ h3)) ?_ ?_
    · rintro j t σ' H2 ht ⟨e2, o5, rfl⟩
      refine ⟨_, rfl, _, rfl, _, rfl, fa, d, t, sp, D, b1, b2, b3, b4, rfl, ha.same e2, fun Q' E' hE => h5 d (List.mem_of_getElem? hd) t (List.mem_of_getElem? ht) _ _ _ e2 hE, k, fun l H3 e3 hl => ?_⟩
      refine ⟨_, rfl, _, _, kinds_dn hl, kinds_dn ((e2.trans e3) _ _ h4), kinds_sh .., kinds_sh .., ?_⟩
      rw [kinds_eq]
      exact ⟨_, rfl, iteF ⟨e2.trans e3, _, rfl⟩⟩
    · rintro σ' H2 ⟨e2, o5, rfl⟩
      exact ⟨e2, _, _, rfl⟩
  · rintro σ' H1 ⟨e1, o4, o5, rfl⟩
    exact q _ e1
end
end K8a
set_option Elab.async false
set_option linter.all false
set_option maxRecDepth 100000
set_option maxHeartbeats 4000000
namespace K8a
open PySem L2 Hull SortM Pick SepM
seal L2.PE L2.PT L2.PW L2.PA L2.PS L2.PSs L2.PG L2.PGs L2.PF L2.PI L2.PO
section
variable {P : Program} {w : World} {K : PySem.W.Frag} {mg : Str → Option Value} {base : Heap} {f : Addr} {fd : FuncData}
theorem mixd_one {s : Hull.P} {prt : List Cut.Part} (h : Mixd [s] s prt) : prt = [(0, (1, 1))] := by
  have ea : Cut.amts ([0].map (Cut.at_ [s])) s = [1] := by
    show [if s = s then (1 : Int) else 0] = [1]
    rw [if_pos rfl]
  have eg : Cut.groups [s].length = [[0]] := by show Cut.groups 1 = [[0]]; decide
  rcases h with ⟨_, h⟩ | ⟨g, hg, _, rfl⟩
  · refine absurd ?_ (h [0] (by rw [eg]; simp))
    rw [ea]
    exact .inl fun a ha => by rw [List.mem_singleton.mp ha]; decide
  · rw [eg] at hg
    obtain rfl := List.mem_singleton.mp hg
    rw [ea]; decide
inductive sp_withinG (K : PySem.W.Frag) (cM : Addr) (vs : List V) (H : Hp) (Q : VK) (x_3 : XK) : Prop where
  | mk (x y : V) (s : Hull.P) (h_0 : vs = [x, y]) (h_1 : Hd K H x [s]) (h_2 : Sp K H y s)
    (h_3 : ∀ m dx a zs H', Same H H' → H' m = some (.ins cM dx (fld1 "parts" a)) → H' a = some (.lst zs) → Dns K H' [partD (0, (1, 1))] zs → Q (.ref m) H')
theorem ok_withinG {c_Mixed : Addr} (B : Bl mg) (C_check_herd : Cal P w K mg base 4 "check_herd" (sp_check K)) (C_check_spot : Cal P w K mg base 3 "check_spot" (sp_chkS K)) (C_mixture_at : Cal P w K mg base 4 "mixture_at" (sp_mix K))
    (C_Mixed : CalK P w K mg base 1 "Mixed" c_Mixed (sp_initM K c_Mixed)) (F : Fun K "within" "within" s_within f fd) : FnOk P w K mg base CX0 6 f fd ["herd", "spot"] (sp_withinG K c_Mixed) := by
  refine F.ok sc_within (fun vs H Q E h => ?_) (fun cdv A outer s H vs Q E hr h => ?_)
  · obtain ⟨x, y, s, rfl, _⟩ := h
    rfl
  obtain ⟨x, y, sp, rfl, h1, h2, q⟩ := h
  obtain ⟨o1, y1, rfl, k1, d1, b1, l1, l8⟩ := id h1
  have hu := hr.units
  refine ⟨_, (pss_cons (ps_expr (pe_c C_check_herd (hr.mono (by decide)) (by rfl) (pa_cons (pv 0) pa_nil)))
    (pss_cons (ps_expr (pe_c C_check_spot (hr.mono (by decide)) (by rfl) (pa_cons (pv 1) pa_nil)))
    (pss_cons (ps_set (i := 2) sc_within.nd rfl (Or.inl rfl) (pe_c C_mixture_at (hr.mono (by decide)) (by rfl) (pa_cons (pv 0) (pa_cons (pv 1) pa_nil))))
    (pss_cons (ps_if (pt_cmpR (op_eqNil hu) (pv 2) (pe_lst pa_nil) (nomark _)) (pss_one ps_never) pss_nil)
    (pss_one (ps_ret (pe_mk C_Mixed (hr.mono (by decide)) (by rfl) (pa_cons (pv 2) pa_nil)))))))), ?_⟩
  refine ⟨_, rfl, o1, y1, [sp], rfl, k1, d1, b1, l1, l8, fun H1 e1 => ?_⟩
  refine ⟨_, rfl, y, sp, rfl, h2.same e1, fun H2 e2 => ?_⟩
  have e12 := e1.trans e2
  refine ⟨_, rfl, _, rfl, o1, y, y1, [sp], sp, rfl, e12.seq k1, e12.dns d1, b1, l1, l8, h2.same e12, fun lp zp H3 prt e3 hlp0 hlp dp mx => ?_⟩
  obtain rfl := mixd_one mx
  have e13 := e12.trans e3
  refine ⟨_, rfl, Nat.zero_le _, fun ne' hne => ?_⟩
  have en := same_new hne (HO.lst [])
  have e14 := e13.trans en
  generalize hH4 : upd H3 ne' (HO.lst []) = H4 at *
  have hne4 : H4 ne' = some (.lst []) := by rw [← hH4]; exact upd_same
  refine ⟨_, ne', [partD (0, (1, 1))], dn_lst (en.seq (SqL.of hlp)) (en.dns dp), rfl, rfl, SqL.of hne4, parts_shaped [(0, (1, 1))], _, rfl, iteF ?_⟩
  refine ⟨_, rfl, fun m dx hm hdx hdm => ?_⟩
  have hlp4 := en _ _ hlp
  have sq5 : SqL K (upd (upd H4 dx (.own m)) m (.ins c_Mixed dx [])) lp zp := SqL.of (by rw [upd_ne (ne_of_none hlp4 hm), upd_ne (ne_of_none hlp4 hdx)]; exact hlp4)
  refine ⟨m, lp, dx, zp, rfl, upd_same, sq5, fun a H7 ha h7a h7m keep => ⟨rfl, ?_⟩⟩
  have sk : Same H4 H7 := fun b o hb => keep b o (by rw [upd_ne (ne_of_none hb hm), upd_ne (ne_of_none hb hdx)]; exact hb) (ne_of_none hb hm)
  exact q m dx a zp H7 (e14.trans sk) h7m h7a (sk.dns (en.dns dp))
def excF (K : PySem.W.Frag) (cH c1 c2 c3 c4 c5 D : Addr) (b1 b2 b3 b4 : Bool) : Bool :=
  (PySem.W.findIn K (.ref D) "__getattribute__" == some (some (.builtin "BaseException.__getattribute__"))) && (PySem.W.findIn K (.ref D) "__getattr__" == some none) && (PySem.W.subIn K (.ref D) (.type "BaseException") == some true) && (PySem.W.clsIn K D).isSome && (PySem.W.findIn K (.ref D) "__class__" == some (some (.builtin "object.__class__")))
    && (PySem.W.specialIn K (.builtin "object.__class__") "__get__" == some (some (.builtin "getset_descriptor.__get__"))) && (PySem.W.takesIn K (.builtin "object.__class__") == some true) && (PySem.W.mroIn K D (.type "object") == some true)
    && (PySem.W.kitCls K (.ref D) (.ref cH) == some true) && (PySem.W.kitOne K (.ref D) (.ref c1) == some b1) && (PySem.W.kitOne K (.ref D) (.ref c2) == some b2) && (PySem.W.kitOne K (.ref D) (.ref c3) == some b3) && (PySem.W.kitOne K (.ref D) (.ref c4) == some b4)
    && (PySem.W.kitOne K (.ref D) (.ref c5) == some false) && (PySem.W.kitOne K (.ref D) (.type "ValueError") == some true)
theorem KF.of {K : PySem.W.Frag} {cH c1 c2 c3 c4 c5 D : Addr} {b1 b2 b3 b4 : Bool} (h : excF K cH c1 c2 c3 c4 c5 D b1 b2 b3 b4 = true) : KF K cH c1 c2 c3 c4 c5 D b1 b2 b3 b4 := by
  unfold excF at h
  simp only [Bool.and_eq_true, beq_iff_eq] at h
  obtain ⟨⟨⟨⟨⟨⟨⟨⟨⟨⟨⟨⟨⟨⟨h1, h1a⟩, h1b⟩, h2⟩, h3⟩, h4⟩, h5⟩, h6⟩, h7⟩, h8⟩, h9⟩, h10⟩, h11⟩, h12⟩, h13⟩ := h
  exact ⟨⟨h1, h1a, h1b, h2, h3, h4, h5, h6⟩, h7, h8, h9, h10, h11, h12, h13⟩
theorem own_ex {K : PySem.W.Frag} {h : Heap} {mg : Str → Option Value} {x : Str} {C : Addr} {bm : List Value} {n : String} (X : K.In h) (G : h.Ns mainGlobals mg) (e : PySem.W.nsIn K mainGlobals x = some (some (.ref C))) (q : PySem.W.excIn K C bm n = true) : PyProof.Rows.OwnCls x C bm n mg h := by
  constructor
  · exact PySem.W.mg_of X G e
  unfold PySem.W.excIn at q
  split at q <;> try contradiction
  rename_i od data slots at_C
  split at q <;> try contradiction
  rename_i C1 tail s0 s1 s2 s3 m s5 hmro hslots
  simp only [Bool.and_eq_true, beq_iff_eq, Bool.not_eq_true'] at q
  obtain ⟨⟨⟨⟨⟨rfl, rfl⟩, q1⟩, q2⟩, q3⟩, q4⟩ := q
  have e6 : slots = #[s0, s1, s2, s3, some (.builtin m), s5] := by
    rcases slots with ⟨l⟩; simp only at hslots; rw [hslots]
  obtain ⟨y1, y2, y3, y4, y5, y6, y7, y8, y9, y10, y11⟩ := data
  dsimp only at hmro q1 q3 q4
  subst hmro q1 e6
  exact ⟨tail, y4, y1, y5, y2, y6, y7, y8, y9, y10, od, s0, s1, s2, s3, s5, _, X _ _ at_C, .of_isNs (PySem.W.isNs_of_in X q3), PySem.W.nsMap_none_of_in X q3 q4, PySem.W.tail_of_in X q2⟩
end
end K8a
set_option Elab.async false
set_option linter.all false
set_option maxRecDepth 100000
set_option maxHeartbeats 4000000
namespace K8a
open PySem L2 Hull SortM Pick SepM
seal L2.PE L2.PT L2.PW L2.PA L2.PS L2.PSs L2.PG L2.PGs L2.PF L2.PI L2.PO
section
variable {P : Program} {w : World} {K : PySem.W.Frag} {mg : Str → Option Value} {base : Heap} {f : Addr} {fd : FuncData}
theorem new_t {xs : List V} {H : Hp} {Q : VK} (hz : xs.length ≤ sizeLine) (h : ∀ p H', Same H H' → H p = none → H' p = some (.tup xs) → Q (.ref p) H') : NewT xs H Q := ⟨hz, fun p hp => h p _ (same_new hp _) hp upd_same⟩
theorem new_l {xs : List V} {H : Hp} {Q : VK} (hz : xs.length ≤ sizeLine) (h : ∀ p H', Same H H' → H p = none → H' p = some (.lst xs) → Q (.ref p) H') : NewL xs H Q := ⟨hz, fun p hp => h p _ (same_new hp _) hp upd_same⟩
theorem new_d {σ : St} {H : Hp} {Q : VK} (h : ∀ p H', Same H H' → H' p = some (.dK []) → Q (.ref p) H') : tDict0 σ H Q := fun p hp => h p _ (same_new hp _) upd_same
theorem new_cat {H : Hp} {Q : VK} {l b : Addr} {xs zs : List V} (hl : H l = some (.lst xs)) (hb : H b = some (.lst zs)) (hz : xs.length + zs.length ≤ sizeLine) (h : ∀ p H', Same H H' → H' p = some (.lst (xs ++ zs)) → Q (.ref p) H') : rCat (.ref l) (.ref b) H Q :=
  ⟨l, b, xs, zs, rfl, rfl, hl, hb, hz, fun p hp => h p _ (same_new hp _) upd_same⟩
theorem new_rep {H : Hp} {Q : VK} {l : Addr} {k : Int} {xs : List V} (hl : H l = some (.lst xs)) (h0 : 0 ≤ k) (h1 : k < 100) (hz : xs.length ≤ 8) (h : ∀ p H', Same H H' → H' p = some (.lst (List.replicate k.toNat xs).flatten) → Q (.ref p) H') : rRep (.ref l) (.int k) H Q :=
  ⟨l, k, xs, rfl, rfl, hl, by omega, by omega, by
    have e1 : xs.length * k.toNat ≤ 8 * 100 := Nat.mul_le_mul hz (by omega)
    rw [sizeLine_eq]; omega, fun p hp => h p _ (same_new hp _) upd_same⟩
theorem pair_no {H : Hp} {t : Addr} {xs : List V} (h : H t = some (.tup xs)) (f : xs.all flat = true) (e : pairB xs = false) : PairT H (.ref t) false := by
  have z := PairT.tup h (List.all_eq_true.mp f)
  rw [e] at z; exact z
theorem flat_rep {x : V} : ∀ n : Nat, (List.replicate n [x]).flatten = List.replicate n x
  | 0 => rfl
  | n + 1 => by rw [List.replicate_succ, List.flatten_cons, flat_rep n]; rfl
theorem pairs_rep {H : Hp} {x : V} {b : Bool} (p : PairT H x b) : ∀ n : Nat, Paired (PairT H) (List.replicate n x) (List.replicate n b)
  | 0 => .nil
  | n + 1 => .cons p (pairs_rep p n)
theorem herd_rep {H : Hp} {l : Addr} {x : V} {n : Nat} (h : H l = some (.lst (List.replicate n [x]).flatten)) (p : PairT H x true) : HerdT H (.ref l) (decide (1 ≤ n) && decide (n ≤ 8)) := by
  rw [flat_rep] at h
  have z := HerdT.lst h (pairs_rep p n)
  have e : herdB (List.replicate n x).length (List.replicate n true) = (decide (1 ≤ n) && decide (n ≤ 8)) := by
    unfold herdB
    rw [List.length_replicate]
    have : (List.replicate n true).all id = true := by simp
    rw [this, Bool.and_true]
  rw [e] at z; exact z
theorem herd_many {H : Hp} {l : Addr} {x : V} {n : Nat} (h : H l = some (.lst (List.replicate n [x]).flatten)) (p : PairT H x true) (hn : 8 < n) : HerdT H (.ref l) false := by
  have z := herd_rep h p
  rw [decide_eq_false (show ¬ n ≤ 8 by omega), Bool.and_false] at z; exact z
theorem herd_no {H : Hp} {l : Addr} {x y : V} {b : Bool} (h : H l = some (.lst [x, y])) (p : PairT H x b) (q : PairT H y false) : HerdT H (.ref l) false := by
  have z := HerdT.lst h (.cons p (.cons q .nil))
  have e : herdB 2 [b, false] = false := by cases b <;> rfl
  have z' : HerdT H (.ref l) (herdB 2 [b, false]) := z
  rw [e] at z'; exact z'
theorem herd_nil {H : Hp} {l : Addr} (h : H l = some (.lst [])) : HerdT H (.ref l) false := HerdT.lst h .nil
theorem same_delR {H H' : Hp} {l : Addr} (hl : H l = none) (e : Same H H') : Same H (del H' l) := fun b u q => by
  have : b ≠ l := ne_of_none q hl
  unfold del
  rw [if_neg this]; exact e _ _ q
theorem kd (j m : Nat) : decide (V.int (0 + ((j : Nat) : Int)) = V.int ((m : Nat) : Int)) = decide (j = m) := by
  rw [decide_eq_decide]
  constructor
  · intro h; injection h with h; omega
  · rintro rfl; rw [Int.zero_add]
def dk (j : Nat) : List V := kinds (decide (j = 0)) (decide (j = 1)) (decide (j = 2)) (decide (j = 3))
inductive sp_lam (c c' : Addr) (vs : List V) (H : Hp) (Q : VK) (E : XK) : Prop where
  | mk (v u : V) (h_0 : vs = [v, u]) (h_1 : sp_cut1 c c' [v] H Q E)
theorem cut_take (xs : List V) (n : Nat) : cutV xs none (some (n : Int)) = xs.take n := by
  unfold cutV
  rw [HT.sIx_nat, HT.sIx_none, List.drop_zero, Nat.sub_zero]
  rcases Nat.le_total n xs.length with h | h
  · rw [Nat.min_eq_left h]
  · rw [Nat.min_eq_right h, List.take_length, List.take_of_length_le h]
def g4 : List Hull.P := [(-1000, -1000), (1000, -1000), (1000, 1000), (-1000, 1000)]
def g4s : List Hull.P := [(-1000, -1000), (-1000, 1000), (1000, -1000), (1000, 1000)]
theorem great_row {row : List Hull.P} (h1 : row.Pairwise lt) (h2 : ∀ p, p ∈ row ↔ p ∈ g4 ++ g4) : row = g4s := by
  refine sorted_eq h1 (by decide) fun a => (h2 a).trans ?_
  unfold g4 g4s
  simp only [List.mem_append, List.mem_cons, List.not_mem_nil, or_false]
  constructor
  · rintro ((h | h | h | h) | (h | h | h | h)) <;> simp [h]
  · rintro (h | h | h | h) <;> simp [h]
theorem great_hull : hull g4s = g4 := by decide
theorem great_area : pathSum cross (ring g4) = 8000000 := by decide
theorem great_steps : pathSum gc (ring g4) = 8000 := by decide +kernel
theorem great_held : held2 g4 = 4004001 := by unfold held2; rw [great_area, great_steps]; decide
theorem great_edge : edge2 g4 = 8000 := by unfold edge2; rw [if_neg (by decide)]; exact great_steps
theorem great_bd : ∀ p ∈ g4 ++ g4, Bd p := by
  have h : ∀ p ∈ g4 ++ g4, (-1000 ≤ p.1 ∧ p.1 ≤ 1000) ∧ -1000 ≤ p.2 ∧ p.2 ≤ 1000 := by decide
  exact h
abbrev lamQ : Str := "law.<locals>.<lambda>"
end
end K8a
set_option Elab.async false
set_option linter.all false
set_option maxRecDepth 100000
set_option maxHeartbeats 4000000
namespace K8a
open PySem L2 Hull SortM Pick SepM
seal L2.PE L2.PT L2.PW L2.PA L2.PS L2.PSs L2.PG L2.PGs L2.PF L2.PI L2.PO
section
variable {P : Program} {w : World} {K : PySem.W.Frag} {mg : Str → Option Value} {base : Heap} {f : Addr} {fd : FuncData}
inductive sp_law (K : PySem.W.Frag) (T : Addr) (vs : List V) (H : Hp) (Q : VK) (x_3 : XK) : Prop where
  | mk (a : Addr) (ns : List Int) (h_0 : vs = [.ref a]) (h_1 : SqL K H a (ns.map V.int)) (h_2 : ns.length ≤ 63) (h_3 : H T = some (.cod 290 21 lamQ)) (h_4 : ∀ H', Q (.bl true) H')
theorem nd_lam : (["_law_one", "_law_other"] : List Str).Nodup := by decide +kernel
theorem ok_law {cc T c_Mixed cH cBH cBS cBW cTF cBT f__law_with_herd f__law_with_thing : Addr} (B : Bl mg) (HD : PySem.W.CodeHd base cc T) (BM : Bmain mg base) (T_Mixed : Txt_Mixed K mg c_Mixed)
    (M__law_with_herd : mg "_law_with_herd" = some (.ref f__law_with_herd)) (M__law_with_thing : mg "_law_with_thing" = some (.ref f__law_with_thing))
    (V_herd : CalV P w K mg base 7 f__law_with_herd (sp_wherd cBH)) (V_thing : CalV P w K mg base 7 f__law_with_thing (sp_wthing cBS cBW))
    (K1 : KF K cH cBH cBS cBW cTF cBT cBH true false false false) (K2 : KF K cH cBH cBS cBW cTF cBT cBS false true false false) (K3 : KF K cH cBH cBS cBW cTF cBT cBW false false true false) (K4 : KF K cH cBH cBS cBW cTF cBT cTF false false false true)
    (C1_cut : Cal1 P w K mg base 5 "cut" (sp_cut1 cBH cTF)) (C__law_cell_at : Cal P w K mg base 1 "_law_cell_at" (sp_cell K)) (C__law_told : Cal P w K mg base 8 "_law_told" (sp_told P w K mg base cH cBH cBS cBW cTF cBT)) (C__law_all : Cal P w K mg base 9 "_law_all" (sp_all P w K mg base cH cBH cBS cBW cTF cBT))
    (C_corners : Cal P w K mg base 5 "corners" (sp_corners K)) (C_land : Cal P w K mg base 6 "land" (sp_land K)) (C_spots : Cal P w K mg base 6 "spots" (sp_spots K)) (C_within : Cal P w K mg base 6 "within" (sp_withinG K c_Mixed)) (C_farthest : Cal P w K mg base 5 "farthest" (sp_farthest K))
    (hcd : fd.code = .ref cc) (F : Fun K "law" "law" s_law f fd) : FnOk P w K mg base CX0 12 f fd ["_law_script"] (sp_law K T) := by
  refine F.okC sc_law (fun vs H Q E h => ?_) (fun cdv hcv A outer s H vs Q E hr h => ?_)
  · obtain ⟨a, ns, rfl, _⟩ := h
    rfl
  obtain ⟨sa, ns, rfl, hS, hlen, hT, q⟩ := h
  have hcode : cdv = .ref cc := hcv.symm.trans hcd
  have hu := hr.units
  refine ⟨_, (pss_cons (ps_set (i := 1) sc_law.nd rfl (Or.inl rfl) (pe_op op_mod (pe_c C__law_cell_at (hr.mono (by decide)) (by rfl) (pa_cons (pv 0) (pa_cons pe_int pa_nil))) (pe_op op_pow pe_int pe_int)))
    (pss_cons (ps_set (i := 2) sc_law.nd rfl (Or.inl rfl) (pe_lst pa_nil))
    (pss_cons (ps_for PassesOwn.never rfl (pi_range1 (by rfl) B.range (pa_cons pe_int pa_nil)) (pg_name (i := 3) sc_law.nd rfl (Or.inl rfl)) (pss_one (ps_expr (pe_bm PySem.F.plainAttrs_list PySem.F.slot_list_append PySem.F.type_list_append mt_append (pv 2) (pa_cons (pe_lst (pa_cons (pe_cmpR op_eq (pv 3) pe_int (nomark _)) (pa_cons (pe_cmpR op_eq (pv 3) pe_int (nomark _)) (pa_cons (pe_cmpR op_eq (pv 3) pe_int (nomark _)) (pa_cons (pe_cmpR op_eq (pv 3) pe_int (nomark _)) (pa_cons pe_bl (pa_cons pe_bl pa_nil))))))) pa_nil)))))
    (pss_cons (ps_set (i := 4) sc_law.nd rfl (Or.inl rfl) (pe_lst (pa_cons pe_non (pa_cons pe_int (pa_cons pe_str (pa_cons (pe_lst (pa_cons pe_int (pa_cons pe_int pa_nil))) (pa_cons (pe_tup (pa_cons pe_int pa_nil)) (pa_cons (pe_tup (pa_cons pe_int (pa_cons pe_int (pa_cons pe_int pa_nil)))) (pa_cons (pe_tup (pa_cons pe_int (pa_cons pe_int pa_nil))) (pa_cons (pe_tup (pa_cons pe_int (pa_cons (pe_un un_neg pe_int) pa_nil))) (pa_cons (pe_tup (pa_cons (pe_op op_add pe_int (pv 1)) (pa_cons pe_int pa_nil))) (pa_cons (pe_tup (pa_cons pe_int (pa_cons (pe_op op_sub (pe_un un_neg pe_int) (pv 1)) pa_nil))) pa_nil))))))))))))
    (pss_cons (ps_set (i := 4) sc_law.nd rfl (Or.inl rfl) (pe_op op_cat (pv 4) (pe_lst (pa_cons (pe_tup (pa_cons pe_bl (pa_cons pe_int pa_nil))) (pa_cons (pe_tup (pa_cons pe_int (pa_cons pe_bl pa_nil))) (pa_cons (pe_tup (pa_cons pe_int (pa_cons pe_str pa_nil))) (pa_cons (pe_tup (pa_cons pe_non (pa_cons pe_int pa_nil))) (pa_cons (pe_tup pa_nil) pa_nil))))))))
    (pss_cons (ps_set (i := 5) sc_law.nd rfl (Or.inl rfl) (pe_lst (pa_cons pe_non (pa_cons (pe_lst pa_nil) (pa_cons (pe_tup (pa_cons (pe_tup (pa_cons pe_int (pa_cons pe_int pa_nil))) pa_nil)) (pa_cons pe_str (pa_cons (pe_tup (pa_cons pe_int (pa_cons pe_int pa_nil))) (pa_cons pe_dict0 (pa_cons (pe_op op_rep (pe_lst (pa_cons (pe_tup (pa_cons pe_int (pa_cons pe_int pa_nil))) pa_nil)) pe_int) (pa_cons (pe_op op_rep (pe_lst (pa_cons (pe_tup (pa_cons pe_int (pa_cons pe_int pa_nil))) pa_nil)) (pe_op op_add pe_int (pe_op op_mod (pv 1) pe_int))) pa_nil))))))))))
    (pss_cons (ps_set (i := 5) sc_law.nd rfl (Or.inl rfl) (pe_op op_cat (pv 5) (pe_comp (Nc := ["_law_one"]) (fi := [none]) (comp_sc rfl rfl rfl) rfl (comp_from_go rfl) (pi_list (pv 4)) (fun _ _ _ _ => ⟨(pg_name (i := 0) (show (["_law_one"] : List Str).Nodup by decide +kernel) rfl (Or.inl rfl)), pf_nil, (pe_lst (pa_cons (pe_tup (pa_cons pe_int (pa_cons pe_int pa_nil))) (pa_cons (pv 0) pa_nil)))⟩))))
    (pss_cons (ps_if (pt_not (pt_val (pe_c C__law_all (hr.mono (by decide)) (by rfl) (pa_cons (pe_glob (v := .ref f__law_with_herd) (by rfl) M__law_with_herd rfl) (pa_cons (pe_listRng (by rfl) B.list (by rfl) B.range rfl (pa_cons pe_int pa_nil)) (pa_cons (pv 5) (pa_cons (pe_ix ix_list (pv 2) pe_int (fun _ _ => rfl)) pa_nil))))))) (pss_one (ps_ret pe_bl)) pss_nil)
    (pss_cons (ps_if (PW.pt (pw_or (pt_not (pt_val (pe_c C__law_all (hr.mono (by decide)) (by rfl) (pa_cons (pe_glob (v := .ref f__law_with_thing) (by rfl) M__law_with_thing rfl) (pa_cons (pe_lst (pa_cons pe_int pa_nil)) (pa_cons (pv 4) (pa_cons (pe_ix ix_list (pv 2) pe_int (fun _ _ => rfl)) pa_nil))))))) (pw_or1 (pt_not (pt_val (pe_c C__law_all (hr.mono (by decide)) (by rfl) (pa_cons (pe_glob (v := .ref f__law_with_thing) (by rfl) M__law_with_thing rfl) (pa_cons (pe_lst (pa_cons pe_int pa_nil)) (pa_cons (pv 4) (pa_cons (pe_ix ix_list (pv 2) pe_int (fun _ _ => rfl)) pa_nil)))))))))) (pss_one (ps_ret pe_bl)) pss_nil)
    (pss_cons (ps_for PassesOwn.never rfl (pi_range2 (by rfl) B.range (pa_cons pe_int (pa_cons pe_int pa_nil))) (pg_name (i := 6) sc_law.nd rfl (Or.inl rfl)) (pss_one (ps_if (pt_cmpR (op_neD hu) (pe_c C__law_told (hr.mono (by decide)) (by rfl) (pa_cons (pe_lam (comp_sc rfl rfl rfl) hcode HD BM rfl rfl rfl rfl) (pa_cons (pe_op op_rep (pe_lst (pa_cons (pe_tup (pa_cons pe_int (pa_cons pe_int pa_nil))) pa_nil)) (pv 6)) (pa_cons pe_int pa_nil)))) (pe_ix ix_list (pv 2) pe_int (fun _ _ => rfl)) (nomark _)) (pss_one (ps_ret pe_bl)) pss_nil)))
    (pss_cons (ps_set (i := 7) sc_law.nd rfl (Or.inl rfl) (pe_op op_rep (pe_lst (pa_cons (pe_tup (pa_cons (pe_un un_neg pe_int) (pa_cons (pe_un un_neg pe_int) pa_nil))) (pa_cons (pe_tup (pa_cons pe_int (pa_cons (pe_un un_neg pe_int) pa_nil))) (pa_cons (pe_tup (pa_cons pe_int (pa_cons pe_int pa_nil))) (pa_cons (pe_tup (pa_cons (pe_un un_neg pe_int) (pa_cons pe_int pa_nil))) pa_nil))))) pe_int))
    (pss_cons (ps_if (PW.pt (pw_or (pt_cmpR (op_neSps hu) (pe_c C_corners (hr.mono (by decide)) (by rfl) (pa_cons (pv 7) pa_nil)) (pe_slice sl_list (pv 7) po_none (po_some pe_int)) (nomark _)) (pw_or (pt_cmpR op_ne (pe_c C_land (hr.mono (by decide)) (by rfl) (pa_cons (pv 7) pa_nil)) pe_int (nomark _)) (pw_or1 (pt_cmpR (op_neSp hu) (pe_c C_spots (hr.mono (by decide)) (by rfl) (pa_cons (pv 7) pa_nil)) (pe_tup (pa_cons pe_int (pa_cons pe_int pa_nil))) (nomark _)))))) (pss_one (ps_ret pe_bl)) pss_nil)
    (pss_one (ps_ret (pe_and (pe_cmpR (op_eqD hu) (pe_fld (pe_c C_within (hr.mono (by decide)) (by rfl) (pa_cons (pe_lst (pa_cons (pe_tup (pa_cons pe_int (pa_cons pe_int pa_nil))) pa_nil)) (pa_cons (pe_tup (pa_cons pe_int (pa_cons pe_int pa_nil))) pa_nil))) rfl) (pe_lst (pa_cons (pe_tup (pa_cons pe_int (pa_cons (pe_tup (pa_cons pe_int (pa_cons pe_int pa_nil))) pa_nil))) pa_nil)) (nomark _)) (pe_one (pe_cmpR (op_eqIs hu) (pe_c C_farthest (hr.mono (by decide)) (by rfl) (pa_cons (pe_lst (pa_cons (pe_tup (pa_cons pe_int (pa_cons pe_int pa_nil))) pa_nil)) (pa_cons (pe_tup (pa_cons (pe_un un_neg pe_int) (pa_cons pe_int pa_nil))) pa_nil))) (pe_lst (pa_cons pe_int pa_nil)) (nomark _)))))))))))))))))), ?_⟩
  refine hold fun J1 j1 => ?_
  refine ⟨_, rfl, sa, ns, 0, rfl, hS, fun c0 => ?_⟩
  refine ⟨_, _, rfl, rfl, ⟨by decide, by decide, by decide⟩, _, _, rfl, rfl, by decide, ?_⟩
  obtain ⟨far, hfar, f0, f1⟩ : ∃ far : Int, c0 % (10 ^ (6 : Int).toNat) = far ∧ 0 ≤ far ∧ far < 1000000 := ⟨_, rfl, Int.emod_nonneg _ (by decide), Int.emod_lt_of_pos _ (by decide)⟩
  rw [hfar]
  refine j1 _ _ _ (hold fun J2 j2 => ?_)
  refine new_l (Nat.zero_le _) fun ld H1 e1 n1 h1 => ?_
  refine j2 _ _ _ (hold fun J3 j3 => ?_)
  refine ⟨4, rfl, by decide, by decide, for_range (n := 4) (fun i σ' H' => ∃ o3 ys, σ' = [some (.ref sa), some (.int far), some (.ref ld), o3, none, none, none, none] ∧ Same H H' ∧ H' ld = some (.lst ys) ∧ ys.length = i ∧ ∀ j, j < i → ∃ l, ys[j]? = some (.ref l) ∧ del H' ld l = some (.lst (dk j))) ⟨_, [], rfl, e1, h1, rfl, fun j hj => absurd hj (by omega)⟩ ?_ ?_⟩
  · rintro i σ' H2 hi ⟨o3, ys, rfl, e2, h2, lz, kz⟩
    refine ⟨_, rfl, .inl ⟨rfl, _, SqL.of h2⟩, _, rfl, rfl, _, rfl, rfl, _, rfl, rfl, _, rfl, rfl, new_l (by show 6 ≤ sizeLine; decide) fun l H3 e3 n3 h3 => ?_⟩
    have hk : [V.bl (decide (V.int (0 + (i : Int)) = V.int 0)), V.bl (decide (V.int (0 + (i : Int)) = V.int 1)), V.bl (decide (V.int (0 + (i : Int)) = V.int 2)), V.bl (decide (V.int (0 + (i : Int)) = V.int 3)), V.bl false, V.bl true] = dk i := by
      have k0 : decide (V.int (0 + (i : Int)) = V.int 0) = decide (i = 0) := kd i 0
      have k1 : decide (V.int (0 + (i : Int)) = V.int 1) = decide (i = 1) := kd i 1
      have k2 : decide (V.int (0 + (i : Int)) = V.int 2) = decide (i = 2) := kd i 2
      have k3 : decide (V.int (0 + (i : Int)) = V.int 3) = decide (i = 3) := kd i 3
      rw [k0, k1, k2, k3]; rfl
    have h3' : H3 l = some (.lst (dk i)) := h3.trans (by rw [← hk])
    have nl : l ≠ ld := fun z => by rw [z, h2] at n3; cases n3
    refine ⟨ld, ys, .ref l, rfl, rfl, e3 _ _ h2, by rw [sizeLine_eq]; omega, _, ys ++ [.ref l], rfl, same_upd n1 (e2.trans e3), upd_same, by rw [List.length_append, lz]; rfl, fun j hj => ?_⟩
    by_cases hji : j < i
    · obtain ⟨l', a1, a2⟩ := kz j hji
      exact ⟨l', by rw [List.getElem?_append_left (by omega)]; exact a1, by rw [del_upd2]; exact same_del e3 ld _ _ a2⟩
    · obtain rfl : j = i := by omega
      refine ⟨l, by rw [List.getElem?_append_right (by omega), lz, Nat.sub_self]; rfl, ?_⟩
      rw [del_upd2]; unfold del; rw [if_neg nl]; exact h3'
  rintro σ' H2 ⟨o3, due, rfl, e2, hld, lz, kz⟩
  obtain ⟨l0, a0, d0⟩ := kz 0 (by decide)
  obtain ⟨l1, a1, d1⟩ := kz 1 (by decide)
  obtain ⟨l2, a2, d2⟩ := kz 2 (by decide)
  obtain ⟨l3, a3, d3⟩ := kz 3 (by decide)
  have g0 : H2 l0 = some (.lst (kinds true false false false)) := same_of_del _ _ d0
  have g1 : H2 l1 = some (.lst (kinds false true false false)) := same_of_del _ _ d1
  have g2 : H2 l2 = some (.lst (kinds false false true false)) := same_of_del _ _ d2
  have g3 : H2 l3 = some (.lst (kinds false false false true)) := same_of_del _ _ d3
  clear kz d0 d1 d2 d3 h1 e1
  have hT2 := e2 _ _ hT
  -- the things that are no spot
  refine j3 _ _ _ (hold fun J4 j4 => ?_)
  refine new_l (by show 2 ≤ sizeLine; decide) fun p1 G1 u1 _ t1 => ?_
  refine new_t (by show 1 ≤ sizeLine; decide) fun p2 G2 u2 _ t2 => ?_
  refine new_t (by show 3 ≤ sizeLine; decide) fun p3 G3 u3 _ t3 => ?_
  refine new_t (by show 2 ≤ sizeLine; decide) fun p4 G4 u4 _ t4 => ?_
  refine ⟨_, rfl, new_t (by show 2 ≤ sizeLine; decide) fun p5 G5 u5 _ t5 => ?_⟩
  refine ⟨_, rfl, _, _, rfl, rfl, new_t (by show 2 ≤ sizeLine; decide) fun p6 G6 u6 _ t6 => ?_⟩
  refine ⟨_, rfl, _, rfl, _, _, rfl, rfl, new_t (by show 2 ≤ sizeLine; decide) fun p7 G7 u7 _ t7 => ?_⟩
  refine new_l (by show 10 ≤ sizeLine; decide) fun q1 G8 u8 _ t8 => ?_
  refine j4 _ _ _ (hold fun J5 j5 => ?_)
  refine ⟨_, rfl, new_t (by show 2 ≤ sizeLine; decide) fun p8 G9 u9 _ t9 => ?_⟩
  refine new_t (by show 2 ≤ sizeLine; decide) fun p9 G10 u10 _ t10 => ?_
  refine new_t (by show 2 ≤ sizeLine; decide) fun p10 G11 u11 _ t11 => ?_
  refine new_t (by show 2 ≤ sizeLine; decide) fun p11 G12 u12 _ t12 => ?_
  refine new_t (Nat.zero_le _) fun p12 G13 u13 _ t13 => ?_
  refine new_l (by show 5 ≤ sizeLine; decide) fun q2 G14 u14 _ t14 => ?_
  have v13 := u14
  have v12 := u13.trans v13
  have v11 := u12.trans v12
  have v10 := u11.trans v11
  have v9 := u10.trans v10
  have v8 := u9.trans v9
  refine new_cat (v8 _ _ t8) t14 (by show 15 ≤ sizeLine; decide) fun ls G15 u15 ht => ?_
  have v7 := u8.trans v8
  have v6 := u7.trans v7
  have v5 := u6.trans v6
  have v4 := u5.trans v5
  have v3 := u4.trans v4
  have v2 := u3.trans v3
  have v1 := u2.trans v2
  have v0 := (u1.trans v1).trans u15
  have no6 : pairB [.int (1001 + far), .int 0] = false := by
    have z : numB (.int (1001 + far)) = false := by
      show (decide (-1000 ≤ 1001 + far) && decide (1001 + far ≤ 1000)) = false
      rw [decide_eq_false (show ¬ 1001 + far ≤ 1000 by omega), Bool.and_false]
    unfold pairB; rw [List.all_cons, z]; rfl
  have no7 : pairB [.int 0, .int (-1001 - far)] = false := by
    have z : numB (.int (-1001 - far)) = false := by
      show (decide (-1000 ≤ -1001 - far) && decide (-1001 - far ≤ 1000)) = false
      rw [decide_eq_false (show ¬ -1000 ≤ -1001 - far by omega), Bool.false_and]
    unfold pairB; rw [List.all_cons, List.all_cons, z]; rfl
  obtain ⟨sps, hsps, sl15, TS⟩ : ∃ sps, G15 ls = some (.lst sps) ∧ sps.length = 15 ∧ ∀ x ∈ sps, PairT G15 x false := by
    refine ⟨_, ht, rfl, fun x hx => ?_⟩
    simp only [List.cons_append, List.nil_append, List.mem_cons, List.not_mem_nil, or_false] at hx
    rcases hx with rfl | rfl | rfl | rfl | rfl | rfl | rfl | rfl | rfl | rfl | rfl | rfl | rfl | rfl | rfl
    · exact .non
    · exact .int 5
    · exact .str _
    · exact .lst ((v1.trans u15) _ _ t1)
    · exact pair_no ((v2.trans u15) _ _ t2) rfl rfl
    · exact pair_no ((v3.trans u15) _ _ t3) rfl rfl
    · exact pair_no ((v4.trans u15) _ _ t4) rfl rfl
    · exact pair_no ((v5.trans u15) _ _ t5) rfl rfl
    · exact pair_no ((v6.trans u15) _ _ t6) rfl no6
    · exact pair_no ((v7.trans u15) _ _ t7) rfl no7
    · exact pair_no ((v9.trans u15) _ _ t9) rfl rfl
    · exact pair_no ((v10.trans u15) _ _ t10) rfl rfl
    · exact pair_no ((v11.trans u15) _ _ t11) rfl rfl
    · exact pair_no ((v12.trans u15) _ _ t12) rfl rfl
    · exact pair_no ((v13.trans u15) _ _ t13) rfl rfl
  clear ht t1 t2 t3 t4 t5 t6 t7 t8 t9 t10 t11 t12 t13 t14 v1 v2 v3 v4 v5 v6 v7 v8 v9 v10 v11 v12 v13 u1 u2 u3 u4 u5 u6 u7 u8 u9 u10 u11 u12 u13 u14 u15 no6 no7
  -- the things that are no herd
  refine j5 _ _ _ (hold fun J6 j6 => ?_)
  refine new_l (Nat.zero_le _) fun p1 G1 u1 _ t1 => ?_
  refine new_t (by show 2 ≤ sizeLine; decide) fun p2 G2 u2 _ t2 => ?_
  refine new_t (by show 1 ≤ sizeLine; decide) fun p3 G3 u3 _ t3 => ?_
  refine new_t (by show 2 ≤ sizeLine; decide) fun p4 G4 u4 _ t4 => ?_
  refine new_d fun p5 G5 u5 t5 => ?_
  refine new_t (by show 2 ≤ sizeLine; decide) fun p6 G6 u6 _ t6 => ?_
  refine new_l (by show 1 ≤ sizeLine; decide) fun p7 G7 u7 _ t7 => ?_
  refine new_rep t7 (by decide) (by decide) (by show 1 ≤ 8; decide) fun p8 G8 u8 t8 => ?_
  refine new_t (by show 2 ≤ sizeLine; decide) fun p9 G9 u9 _ t9 => ?_
  refine new_l (by show 1 ≤ sizeLine; decide) fun p10 G10 u10 _ t10 => ?_
  have m0 := Int.emod_nonneg far (show (9 : Int) ≠ 0 by decide)
  have m1 := Int.emod_lt_of_pos far (show (0 : Int) < 9 by decide)
  refine ⟨_, rfl, _, _, rfl, rfl, by decide, _, _, rfl, rfl, new_rep t10 (by omega) (by omega) (by show 1 ≤ 8; decide) fun p11 G11 u11 t11 => ?_⟩
  refine new_l (by show 8 ≤ sizeLine; decide) fun q3 G12 u12 _ t12 => ?_
  have w11 := u12
  have w10 := u11.trans w11
  have w9 := u10.trans w10
  have w8 := u9.trans w9
  have w7 := u8.trans w8
  have w6 := u7.trans w7
  have w5 := u6.trans w6
  have w4 := u5.trans w5
  have w3 := u4.trans w4
  have w2 := u3.trans w3
  have w1 := u2.trans w2
  have w0 := u1.trans w1
  obtain ⟨hs8, hq3, hl8, TH8⟩ : ∃ hs, G12 q3 = some (.lst hs) ∧ hs.length = 8 ∧ ∀ x ∈ hs, HerdT G12 x false := by
    refine ⟨_, t12, rfl, fun x hx => ?_⟩
    simp only [List.mem_cons, List.not_mem_nil, or_false] at hx
    rcases hx with rfl | rfl | rfl | rfl | rfl | rfl | rfl | rfl
    · exact .non
    · exact herd_nil (w1 _ _ t1)
    · exact .tup (w3 _ _ t3)
    · exact .str _
    · exact .tup (w4 _ _ t4)
    · exact .dct (w5 _ _ t5)
    · exact herd_many (w8 _ _ t8) (pair_ok (w6 _ _ t6) rfl rfl) (by decide)
    · exact herd_many (w11 _ _ t11) (pair_ok (w9 _ _ t9) rfl rfl) (by omega)
  clear t1 t2 t3 t4 t5 t6 t7 t8 t9 t10 t11 t12 w1 w2 w3 w4 w5 w6 w7 w8 w9 w10 w11 u1 u2 u3 u4 u5 u6 u7 u8 u9 u10 u11 u12
  refine j6 _ _ _ (hold fun J7 j7 => ?_)
  refine ⟨_, rfl, _, rfl, ls, rfl, ⟨_, SqL.of (w0 _ _ hsps)⟩, fun _ _ _ _ lc hlc => ?_⟩
  refine comp_by 15 (by show 15 ≤ sizeLine; decide) (fun i zs σ' Hc => Same G12 Hc ∧ Hc lc = some (.lst zs) ∧ zs.length = i ∧ (∀ x ∈ zs, HerdT (del Hc lc) x false) ∧ σ'.length = 1) ?_ (fun i zs σ' Hc ⟨_, e, y, _⟩ => ⟨e, by rw [y]; exact Nat.le_refl _⟩) ?_ ?_
  · exact ⟨same_new hlc _, upd_same, rfl, fun x hx => (by cases hx), rfl⟩
  · rintro i zs σ' Hc hi ⟨e, el, lzs, hz, hσ⟩
    have sq : SqL K Hc ls sps := SqL.of (e _ _ (w0 _ _ hsps))
    have hxi : sps[i]? = some sps[i] := List.getElem?_eq_getElem (by omega)
    refine ⟨⟨_, sps[i], sq, hxi⟩, fun x H' y Kt Kf k1 _ => ?_⟩
    obtain ⟨rfl, hx⟩ := y
    have hx' := hx _ sq
    have tx := TS x (List.mem_of_getElem? hx')
    match σ', hσ with
    | [o], _ =>
      simp only [gName, tYes, ↓reduceIte]
      refine new_t (by show 2 ≤ sizeLine; decide) fun t Ht et nt gt => ⟨_, rfl, new_l (by show 2 ≤ sizeLine; decide) fun y Hy ey ny gy => ?_⟩
      have ety := et.trans ey
      have nty : t ≠ lc := fun z => by rw [z, el] at nt; cases nt
      have nyy : y ≠ lc := fun z => by rw [z, et _ _ el] at ny; cases ny
      refine k1 _ _ _ (ety _ _ el) ⟨same_upd hlc (e.trans ety), upd_same, by rw [List.length_append, lzs]; rfl, fun x' hx' => ?_, rfl⟩
      rw [del_upd2]
      rcases List.mem_append.mp hx' with hx' | hx'
      · exact (hz x' hx').same (same_del ety lc)
      · obtain rfl := List.mem_singleton.mp hx'
        refine herd_no (b := true) (x := .ref t) (y := x) (by unfold del; rw [if_neg nyy]; exact gy) (pair_ok (by unfold del; rw [if_neg nty]; exact ey _ _ gt) rfl rfl) ?_
        exact tx.same (w0.trans (same_delR hlc (e.trans ety)))
  rintro zs σ' G13 ⟨e13, elc, lzs, hz, _⟩
  refine ⟨⟨_, SqL.of (e13 _ _ (w0 _ _ hsps)), by omega⟩, ?_⟩
  refine new_cat (e13 _ _ hq3) elc (by rw [hl8, lzs]; show 23 ≤ sizeLine; decide) fun lh H5 e5 hlh => ?_
  have hz5 : ∀ x ∈ hs8 ++ zs, HerdT H5 x false := fun x hx => by
    rcases List.mem_append.mp hx with hx | hx
    · exact (TH8 x hx).same (e13.trans e5)
    · exact (hz x hx).same (same_of_del.trans e5)
  have z5 := w0.trans (e13.trans e5)
  have TS5 : ∀ x ∈ sps, PairT H5 x false := fun x hx => (TS x hx).same z5
  have hls5 := z5 _ _ hsps
  have y5 := v0.trans z5
  have ld5 := y5 _ _ hld
  have g05 := y5 _ _ g0
  have g15 := y5 _ _ g1
  have g25 := y5 _ _ g2
  have g35 := y5 _ _ g3
  have hT5 := y5 _ _ hT2
  clear hz TH8 TS z5 hsps y5 v0 w0 e13 e5 elc hq3 hld g0 g1 g2 g3 hT2
  -- what is no herd, at each door
  refine j7 _ _ _ (hold fun J8 j8 => ?_)
  refine ⟨9, rfl, by decide, fun lr hlr => ?_⟩
  have er := same_new hlr (HO.lst ((List.range 9).map fun (j : Nat) => V.int (j : Int)))
  refine ⟨_, rfl, _, rfl, ld, _, _, .ref l0, rfl, rfl, SqL.of (er _ _ ld5), atI_nat (j := 0) a0, ?_⟩
  refine ⟨f__law_with_herd, lr, lh, l0, _, _, sp_wherd cBH, cBH, true, false, false, false, rfl, AskV.of V_herd, upd_same, er _ _ hlh, er _ _ g05, fun d hd t ht H' Q' E' e' hE => ?_, K1, fun H6 e6 => ?_⟩
  · obtain ⟨j, _, rfl⟩ := List.mem_map.mp hd
    exact ⟨_, t, rfl, (hz5 t ht).same (er.trans e'), hE⟩
  refine ⟨_, rfl, iteF ?_⟩
  have x6 := er.trans e6
  -- what is no spot, no way
  refine j8 _ _ _ (hold fun J9 j9 => ?_)
  refine new_l (by show 1 ≤ sizeLine; decide) fun lz1 G1 u1 _ t1 => ?_
  have y1 := x6.trans u1
  refine ⟨_, rfl, _, rfl, ld, _, _, .ref l1, rfl, rfl, SqL.of (y1 _ _ ld5), atI_nat (j := 1) a1, ?_⟩
  refine ⟨f__law_with_thing, lz1, ls, l1, _, _, sp_wthing cBS cBW, cBS, false, true, false, false, rfl, AskV.of V_thing, t1, y1 _ _ hls5, y1 _ _ g15, fun d hd t ht H' Q' E' e' hE => ?_, K2, fun H7 e7 => ?_⟩
  · obtain rfl := List.mem_singleton.mp hd
    exact ⟨0, t, rfl, (TS5 t ht).same (y1.trans e'), fun _ => hE, fun z => absurd rfl z⟩
  refine ⟨_, rfl, iteF ?_⟩
  refine new_l (by show 1 ≤ sizeLine; decide) fun lz2 G2 u2 _ t2 => ?_
  have y2 := y1.trans (e7.trans u2)
  refine ⟨_, rfl, _, rfl, ld, _, _, .ref l2, rfl, rfl, SqL.of (y2 _ _ ld5), atI_nat (j := 2) a2, ?_⟩
  refine ⟨f__law_with_thing, lz2, ls, l2, _, _, sp_wthing cBS cBW, cBW, false, false, true, false, rfl, AskV.of V_thing, t2, y2 _ _ hls5, y2 _ _ g25, fun d hd t ht H' Q' E' e' hE => ?_, K3, fun H8 e8 => ?_⟩
  · obtain rfl := List.mem_singleton.mp hd
    exact ⟨1, t, rfl, (TS5 t ht).same (y2.trans e'), fun z => absurd z (by decide), fun _ => hE⟩
  refine ⟨_, rfl, iteF ?_⟩
  have y3 := y2.trans e8
  have ld8 := y3 _ _ ld5
  have g38 := y3 _ _ g35
  have hT8 := y3 _ _ hT5
  clear y3 y2 y1 x6 e8 u2 e7 u1 e6 er t1 t2 hlr hz5 TS5 hls5 ld5 g05 g15 g25 g35 hT5 hlh
  -- too few
  refine j9 _ _ _ (hold fun J10 j10 => ?_)
  refine ⟨1, 4, rfl, ⟨by decide, by decide, by decide, by decide⟩, for_range (lo := 1) (n := 3) (fun i σ' H' => ∃ o6, σ' = [some (.ref sa), some (.int far), some (.ref ld), o3, some (.ref ls), some (.ref lh), o6, none] ∧ Same H8 H') ⟨_, rfl, Same.refl _⟩ ?_ ?_⟩
  · rintro i σ' H9 hi ⟨o6, rfl, e9⟩
    refine ⟨e9 _ _ hT8, fun fL cL G1 u1 L => ?_⟩
    refine new_t (by show 2 ≤ sizeLine; decide) fun t G2 u2 _ gt => ?_
    refine new_l (by show 1 ≤ sizeLine; decide) fun p G3 u3 _ gp => ?_
    refine ⟨_, rfl, new_rep gp (by omega) (by omega) (by show 1 ≤ 8; decide) fun lp G4 u4 glp => ?_⟩
    have v4 := u2.trans (u3.trans u4)
    have hh : HerdT G4 (.ref lp) true := by
      have z := herd_rep glp (pair_ok ((u3.trans u4) _ _ gt) rfl rfl)
      rw [decide_eq_true (show 1 ≤ (1 + (i : Int)).toNat by omega), decide_eq_true (show (1 + (i : Int)).toNat ≤ 8 by omega)] at z
      exact z
    have ask : AskV P w K mg base 6 fL (sp_lam cBH cTF) G1 := by
      refine AskV.lam (k := 5) (N := ["_law_one", "_law_other"]) L ⟨rfl, rfl, rfl, nd_lam, rfl, by decide +kernel, by decide +kernel⟩ (fun pm cdv ct us hus => ?_) (fun vs H Q E h => ?_) fun A outer s H vs Q E hr h => ?_
      · match us, hus with
        | [x, y], _ => rfl
      · obtain ⟨v, u, rfl, _⟩ := h
        rfl
      · obtain ⟨v, u, rfl, h1⟩ := h
        refine ⟨_, (pe_c1 C1_cut (hr.mono (by decide)) (by rfl) (pa_cons (pv 0) pa_nil)), ?_⟩
        exact ⟨_, rfl, h1⟩
    refine ⟨fL, .ref lp, .int 0, sp_lam cBH cTF, cTF, false, false, false, true, rfl, (ask.mono (by decide)).same v4, fun Q' E' hE => ⟨_, _, rfl, _, rfl, .inr ⟨lp, _, rfl, glp, hh, ?_, hE⟩⟩, K4, fun l G5 u5 gl => ?_⟩
    · rw [flat_rep, List.length_replicate]; omega
    have v5 := e9.trans (u1.trans (v4.trans u5))
    refine ⟨_, rfl, ld, _, _, .ref l3, rfl, rfl, SqL.of (v5 _ _ ld8), atI_nat (j := 3) a3, ?_⟩
    refine ⟨_, _, kinds_dn gl, kinds_dn (v5 _ _ g38), kinds_sh .., kinds_sh .., ?_⟩
    rw [kinds_eq]
    exact ⟨_, rfl, iteF ⟨_, rfl, v5⟩⟩
  rintro σ' H9 ⟨o6, rfl, e9⟩
  clear hT8 g38 ld8 e9
  -- good ones
  refine j10 _ _ _ (hold fun J11 j11 => ?_)
  refine ⟨_, rfl, _, rfl, new_t (by show 2 ≤ sizeLine; decide) fun p1 G1 u1 _ t1 => ?_⟩
  refine ⟨_, rfl, new_t (by show 2 ≤ sizeLine; decide) fun p2 G2 u2 _ t2 => ?_⟩
  refine new_t (by show 2 ≤ sizeLine; decide) fun p3 G3 u3 _ t3 => ?_
  refine ⟨_, rfl, new_t (by show 2 ≤ sizeLine; decide) fun p4 G4 u4 _ t4 => ?_⟩
  refine new_l (by show 4 ≤ sizeLine; decide) fun p5 G5 u5 _ t5 => ?_
  refine new_rep t5 (by decide) (by decide) (by show 4 ≤ 8; decide) fun lg G6 u6 t6 => ?_
  have v5 := u6
  have v4 := u5.trans v5
  have v3 := u4.trans v4
  have v2 := u3.trans v3
  have v1 := u2.trans v2
  obtain ⟨gs, hgs, dgs, dg4⟩ : ∃ gs, G6 lg = some (.lst gs) ∧ Dns K G6 ((g4 ++ g4).map spotD) gs ∧ Dns K G6 (g4.map spotD) (gs.take 4) := by
    have s1 : Dn K G6 (spotD (-1000, -1000)) (.ref p1) := dn_spot (SqT.of (v1 _ _ t1))
    have s2 : Dn K G6 (spotD (1000, -1000)) (.ref p2) := dn_spot (SqT.of (v2 _ _ t2))
    have s3 : Dn K G6 (spotD (1000, 1000)) (.ref p3) := dn_spot (SqT.of (v3 _ _ t3))
    have s4 : Dn K G6 (spotD (-1000, 1000)) (.ref p4) := dn_spot (SqT.of (v4 _ _ t4))
    refine ⟨[.ref p1, .ref p2, .ref p3, .ref p4, .ref p1, .ref p2, .ref p3, .ref p4], t6, ?_, ?_⟩
    · exact dns_cons s1 (dns_cons s2 (dns_cons s3 (dns_cons s4 (dns_cons s1 (dns_cons s2 (dns_cons s3 (dns_cons s4 dns_nil)))))))
    · exact dns_cons s1 (dns_cons s2 (dns_cons s3 (dns_cons s4 dns_nil)))
  clear t1 t2 t3 t4 t5 t6 v1 v2 v3 v4 v5 u1 u2 u3 u4 u5 u6
  refine j11 _ _ _ (hold fun J12 j12 => ?_)
  refine ⟨_, rfl, lg, gs, g4 ++ g4, rfl, SqL.of hgs, dgs, great_bd, by decide, by decide, fun l zs row H1 e1 _ hl hr1 hr2 dz => ?_⟩
  obtain rfl := great_row hr1 hr2
  rw [great_hull] at dz
  refine ⟨_, rfl, _, rfl, lg, gs, rfl, SqL.of (e1 _ _ hgs), fun b hb => ?_⟩
  have eb := same_new hb (HO.lst (cutV gs none (some 4)))
  have ec : cutV gs none (some 4) = gs.take 4 := cut_take gs 4
  refine ⟨l, b, zs, gs.take 4, g4, g4, rfl, rfl, SqL.of (eb _ _ hl), SqL.of (by rw [upd_same, ec]), eb.dns dz, (e1.trans eb).dns dg4, ?_⟩
  rw [decide_eq_true (rfl : g4 = g4)]
  refine ⟨_, rfl, iteF ?_⟩
  have e2 := e1.trans eb
  refine ⟨_, rfl, lg, gs, g4 ++ g4, rfl, SqL.of (e2 _ _ hgs), e2.dns dgs, great_bd, by decide, by decide, fun row H2 e3 of => ?_⟩
  obtain rfl := great_row of.1 of.2
  rw [great_hull, great_area]
  refine ⟨rfl, _, rfl, iteF ?_⟩
  have e4 := e2.trans e3
  refine ⟨_, rfl, lg, gs, g4 ++ g4, rfl, SqL.of (e4 _ _ hgs), e4.dns dgs, great_bd, by decide, by decide, fun row t H3 e5 of ht => ?_⟩
  obtain rfl := great_row of.1 of.2
  rw [great_hull, great_held, great_edge] at ht
  refine new_t (by show 2 ≤ sizeLine; decide) fun u Hu eu _ gu => ?_
  refine ⟨(4004001, 8000), (4004001, 8000), dn_spot (SqT.of (eu _ _ ht)), dn_spot (SqT.of gu), ?_⟩
  rw [decide_eq_true (rfl : ((4004001, 8000) : Hull.P) = (4004001, 8000))]
  refine ⟨_, rfl, iteF ?_⟩
  refine j12 _ _ _ ?_
  -- the last
  refine new_t (by show 2 ≤ sizeLine; decide) fun p1 G1 u1 _ t1 => ?_
  refine new_l (by show 1 ≤ sizeLine; decide) fun p2 G2 u2 _ t2 => ?_
  refine new_t (by show 2 ≤ sizeLine; decide) fun p3 G3 u3 _ t3 => ?_
  have s1 : Dn K G3 (spotD (5, 5)) (.ref p1) := dn_spot (SqT.of ((u2.trans u3) _ _ t1))
  refine ⟨.ref p2, .ref p3, (5, 5), rfl, ⟨p2, _, rfl, SqL.of (u3 _ _ t2), dns_cons s1 dns_nil, (fun p hp => by rw [List.mem_singleton.mp hp]; exact ⟨⟨by decide, by decide⟩, by decide, by decide⟩), by decide, by decide⟩, ⟨dn_spot (SqT.of t3), ⟨⟨by decide, by decide⟩, by decide, by decide⟩⟩, fun m dx a zs H4 e4 hm ha dz => ?_⟩
  refine ⟨m, _, dx, _, _, rfl, hm, T_Mixed.cl, T_Mixed.nF, fld1_at _ _, ?_⟩
  refine new_t (by show 2 ≤ sizeLine; decide) fun p4 G4 u4 _ t4 => ?_
  refine new_t (by show 2 ≤ sizeLine; decide) fun p5 G5 u5 _ t5 => ?_
  refine new_l (by show 1 ≤ sizeLine; decide) fun p6 G6 u6 _ t6 => ?_
  have x6 := u4.trans (u5.trans u6)
  refine ⟨.list [partD (0, (1, 1))], .list [partD (0, (1, 1))], dn_lst (SqL.of (x6 _ _ ha)) (x6.dns dz), dn_lst (SqL.of t6) (dns_cons (dn_part (x := (0, (1, 1))) (SqT.of (u6 _ _ t5)) (dn_spot (SqT.of ((u5.trans u6) _ _ t4)))) dns_nil), parts_shaped [(0, (1, 1))], parts_shaped [(0, (1, 1))], ?_⟩
  have eq1 : PyData.eqv (.list [partD (0, (1, 1))]) (.list [partD (0, (1, 1))]) = true := by decide
  rw [eq1]
  refine ⟨_, rfl, iteT ?_⟩
  refine new_t (by show 2 ≤ sizeLine; decide) fun p7 G7 u7 _ t7 => ?_
  refine new_l (by show 1 ≤ sizeLine; decide) fun p8 G8 u8 _ t8 => ?_
  refine ⟨_, rfl, new_t (by show 2 ≤ sizeLine; decide) fun p9 G9 u9 _ t9 => ?_⟩
  have s7 : Dn K G9 (spotD (1, 1)) (.ref p7) := dn_spot (SqT.of ((u8.trans u9) _ _ t7))
  refine ⟨p8, .ref p9, _, [(1, 1)], (-1000, 1000), rfl, SqL.of (u9 _ _ t8), dns_cons s7 dns_nil, (fun p hp => by rw [List.mem_singleton.mp hp]; exact ⟨⟨by decide, by decide⟩, by decide, by decide⟩), by decide, by decide, ⟨dn_spot (SqT.of t9), ⟨⟨by decide, by decide⟩, by decide, by decide⟩⟩, fun lp m' H5 e5 _ m5 _ hlp => ?_⟩
  have em : m' = 0 := by simpa [dot] using m5
  subst em
  have ef : ((farIx (List.map (dot (-1000, 1000)) [(1, 1)]) 0).map fun (j : Nat) => V.int (j : Int)) = [0].map V.int := by decide
  rw [ef] at hlp
  refine new_l (by show 1 ≤ sizeLine; decide) fun p10 G10 u10 _ t10 => ?_
  refine ⟨lp, p10, [0], [0], rfl, rfl, SqL.of (u10 _ _ hlp), SqL.of t10, ?_⟩
  exact q _
end
end K8a
set_option Elab.async false
set_option linter.all false
set_option maxRecDepth 100000
set_option maxHeartbeats 4000000
namespace K8a
open PySem L2 Hull SortM Pick SepM
seal L2.PE L2.PT L2.PW L2.PA L2.PS L2.PSs L2.PG L2.PGs L2.PF L2.PI L2.PO
theorem all_mk {l : PySem.W.OpenLaw} {w : World} {K : PySem.W.Frag} {h : Heap} {mg : Str → Option Value} {fa f1 f2 f3 f4 f5 f6 f7 f8 f9 f10 f11 f12 f13 f14 f15 f16 f17 f18 f19 f20 f21 f22 f23 f24 f25 f26 f27 f28 f29 f30 f31 f32 f33 f34 f35 f36 f37 f38 f39 : Addr} (X : K.In h) (G : h.Ns mainGlobals mg) (hfa : mg "law" = some (.ref fa)) {cT tT : Addr} (T0 : TabAt "law" mg h cT tT)
    {od1 an1 od2 an2 od3 an3 od4 an4 od5 an5 od6 an6 od7 an7 od8 an8 od9 an9 od10 an10 od11 an11 od12 an12 od13 an13 od14 an14 od15 an15 od16 an16 od17 an17 od18 an18 od19 an19 od20 an20 od21 an21 od22 an22 od23 an23 od24 an24 od25 an25 od26 an26 od27 an27 od28 an28 od29 an29 od30 an30 od31 an31 od32 an32 od33 an33 od34 an34 od35 an35 od36 an36 od37 an37 od38 an38 od39 an39 : Option Addr} {sl1 sl2 sl3 sl4 sl5 sl6 sl7 sl8 sl9 sl10 sl11 sl12 sl13 sl14 sl15 sl16 sl17 sl18 sl19 sl20 sl21 sl22 sl23 sl24 sl25 sl26 sl27 sl28 sl29 sl30 sl31 sl32 sl33 sl34 sl35 sl36 sl37 sl38 sl39 : Array (Option Value)} {oc1 kV1 dc1 pm1 cd1 ct1 oc2 kV2 dc2 pm2 cd2 ct2 oc3 kV3 dc3 pm3 cd3 ct3 oc4 kV4 dc4 pm4 cd4 ct4 oc5 kV5 dc5 pm5 cd5 ct5 oc6 kV6 dc6 pm6 cd6 ct6 oc7 kV7 dc7 pm7 cd7 ct7 oc8 kV8 dc8 pm8 cd8 ct8 oc9 kV9 dc9 pm9 cd9 ct9 oc10 kV10 dc10 pm10 cd10 ct10 oc11 kV11 dc11 pm11 cd11 ct11 oc12 kV12 dc12 pm12 cd12 ct12 oc13 kV13 dc13 pm13 cd13 ct13 oc14 kV14 dc14 pm14 cd14 ct14 oc15 kV15 dc15 pm15 cd15 ct15 oc16 kV16 dc16 pm16 cd16 ct16 oc17 kV17 dc17 pm17 cd17 ct17 oc18 kV18 dc18 pm18 cd18 ct18 oc19 kV19 dc19 pm19 cd19 ct19 oc20 kV20 dc20 pm20 cd20 ct20 oc21 kV21 dc21 pm21 cd21 ct21 oc22 kV22 dc22 pm22 cd22 ct22 oc23 kV23 dc23 pm23 cd23 ct23 oc24 kV24 dc24 pm24 cd24 ct24 oc25 kV25 dc25 pm25 cd25 ct25 oc26 kV26 dc26 pm26 cd26 ct26 oc27 kV27 dc27 pm27 cd27 ct27 oc28 kV28 dc28 pm28 cd28 ct28 oc29 kV29 dc29 pm29 cd29 ct29 oc30 kV30 dc30 pm30 cd30 ct30 oc31 kV31 dc31 pm31 cd31 ct31 oc32 kV32 dc32 pm32 cd32 ct32 oc33 kV33 dc33 pm33 cd33 ct33 oc34 kV34 dc34 pm34 cd34 ct34 oc35 kV35 dc35 pm35 cd35 ct35 oc36 kV36 dc36 pm36 cd36 ct36 oc37 kV37 dc37 pm37 cd37 ct37 oc38 kV38 dc38 pm38 cd38 ct38 oc39 kV39 dc39 pm39 cd39 ct39 : Value}
    {tk_BOUND : Tok} (y_BOUND : PySem.W.nsIn K mainGlobals "BOUND" = some (some (.int 1000 tk_BOUND)))
    {tk_MOST_SPOTS : Tok} (y_MOST_SPOTS : PySem.W.nsIn K mainGlobals "MOST_SPOTS" = some (some (.int 8 tk_MOST_SPOTS)))
    {tk_FEWEST_TO_CUT : Tok} (y_FEWEST_TO_CUT : PySem.W.nsIn K mainGlobals "FEWEST_TO_CUT" = some (some (.int 4 tk_FEWEST_TO_CUT)))
    {c_Mixed : Addr}
    (aC_Mixed : PySem.W.nsIn K mainGlobals "Mixed" = some (some (.ref c_Mixed)))
    (pg_Mixed : PySem.W.plainGet K c_Mixed Str.empty = true)
    (hd_Mixed : PySem.W.hasDictIn K c_Mixed = true)
    (po_Mixed : PySem.W.plainOver K c_Mixed = true)
    (sa_Mixed : PySem.W.findIn K (.ref c_Mixed) "__setattr__" = some (some (.builtin "object.__setattr__")))
    (mk_Mixed : PySem.W.makesIn K c_Mixed = true)
    (kc_Mixed : PySem.W.keepIn K (.ref c_Mixed) = true)
    (n_parts_Mixed : PySem.W.findIn K (.ref c_Mixed) "parts" = some none)
    (ha_Mixed : PySem.W.findIn K (.ref c_Mixed) "__class__" = some (some (.builtin "object.__class__")))
    (hn_Mixed : PySem.W.specialIn K (.builtin "object.__class__") "__get__" = some (some (.builtin "getset_descriptor.__get__")))
    (htk_Mixed : PySem.W.takesIn K (.builtin "object.__class__") = some true)
    (hm_Mixed : PySem.W.mroIn K c_Mixed (.type "object") = some true)
    {c_HerdError : Addr} (aC_HerdError : PySem.W.nsIn K mainGlobals "HerdError" = some (some (.ref c_HerdError)))
    {c_BadText : Addr} (aC_BadText : PySem.W.nsIn K mainGlobals "BadText" = some (some (.ref c_BadText)))
    {c_BadHerd : Addr} (aC_BadHerd : PySem.W.nsIn K mainGlobals "BadHerd" = some (some (.ref c_BadHerd)))
    {c_BadSpot : Addr} (aC_BadSpot : PySem.W.nsIn K mainGlobals "BadSpot" = some (some (.ref c_BadSpot)))
    {c_BadWay : Addr} (aC_BadWay : PySem.W.nsIn K mainGlobals "BadWay" = some (some (.ref c_BadWay)))
    {c_TooFew : Addr} (aC_TooFew : PySem.W.nsIn K mainGlobals "TooFew" = some (some (.ref c_TooFew)))
    (xi_BadHerd : PySem.W.excIn K c_BadHerd [.type "ValueError", .type "Exception", .type "BaseException", .type "object"] "ValueError.__new__" = true) (xf_BadHerd : excF K c_HerdError c_BadHerd c_BadSpot c_BadWay c_TooFew c_BadText c_BadHerd true false false false = true)
    (xi_BadSpot : PySem.W.excIn K c_BadSpot [.type "ValueError", .type "Exception", .type "BaseException", .type "object"] "ValueError.__new__" = true) (xf_BadSpot : excF K c_HerdError c_BadHerd c_BadSpot c_BadWay c_TooFew c_BadText c_BadSpot false true false false = true)
    (xi_BadWay : PySem.W.excIn K c_BadWay [.type "ValueError", .type "Exception", .type "BaseException", .type "object"] "ValueError.__new__" = true) (xf_BadWay : excF K c_HerdError c_BadHerd c_BadSpot c_BadWay c_TooFew c_BadText c_BadWay false false true false = true)
    (xi_TooFew : PySem.W.excIn K c_TooFew [.type "ValueError", .type "Exception", .type "BaseException", .type "object"] "ValueError.__new__" = true) (xf_TooFew : excF K c_HerdError c_BadHerd c_BadSpot c_BadWay c_TooFew c_BadText c_TooFew false false false true = true)
    (hbHE : PySem.W.subIn K (.ref c_HerdError) (.type "BaseException") = some true)
    (hkHE : (PySem.W.kitCls K (.ref c_HerdError) (.ref c_HerdError)).isSome = true)
    (a1 : PySem.W.nsIn K mainGlobals "common_divisor" = some (some (.ref f1))) (l1 : K.lookup f1 = some ⟨oc1, od1, .func (PySem.W.fnOf "common_divisor" "common_divisor" (defArgs s_common_divisor) (defBody s_common_divisor) (defScope s_common_divisor) .none kV1 dc1 pm1 an1 cd1 ct1), sl1⟩) (c1 : PySem.W.codeIn K cd1 "common_divisor" = true) (k1 : PySem.W.keepIn K (.ref f1) = true)
    (a2 : PySem.W.nsIn K mainGlobals "made" = some (some (.ref f2))) (l2 : K.lookup f2 = some ⟨oc2, od2, .func (PySem.W.fnOf "made" "made" (defArgs s_made) (defBody s_made) (defScope s_made) .none kV2 dc2 pm2 an2 cd2 ct2), sl2⟩) (c2 : PySem.W.codeIn K cd2 "made" = true) (k2 : PySem.W.keepIn K (.ref f2) = true)
    (a3 : PySem.W.nsIn K mainGlobals "is_number" = some (some (.ref f3))) (l3 : K.lookup f3 = some ⟨oc3, od3, .func (PySem.W.fnOf "is_number" "is_number" (defArgs s_is_number) (defBody s_is_number) (defScope s_is_number) .none kV3 dc3 pm3 an3 cd3 ct3), sl3⟩) (c3 : PySem.W.codeIn K cd3 "is_number" = true) (k3 : PySem.W.keepIn K (.ref f3) = true)
    (a4 : PySem.W.nsIn K mainGlobals "is_pair" = some (some (.ref f4))) (l4 : K.lookup f4 = some ⟨oc4, od4, .func (PySem.W.fnOf "is_pair" "is_pair" (defArgs s_is_pair) (defBody s_is_pair) (defScope s_is_pair) .none kV4 dc4 pm4 an4 cd4 ct4), sl4⟩) (c4 : PySem.W.codeIn K cd4 "is_pair" = true) (k4 : PySem.W.keepIn K (.ref f4) = true)
    (a5 : PySem.W.nsIn K mainGlobals "is_herd" = some (some (.ref f5))) (l5 : K.lookup f5 = some ⟨oc5, od5, .func (PySem.W.fnOf "is_herd" "is_herd" (defArgs s_is_herd) (defBody s_is_herd) (defScope s_is_herd) .none kV5 dc5 pm5 an5 cd5 ct5), sl5⟩) (c5 : PySem.W.codeIn K cd5 "is_herd" = true) (k5 : PySem.W.keepIn K (.ref f5) = true)
    (a6 : PySem.W.nsIn K mainGlobals "check_herd" = some (some (.ref f6))) (l6 : K.lookup f6 = some ⟨oc6, od6, .func (PySem.W.fnOf "check_herd" "check_herd" (defArgs s_check_herd) (defBody s_check_herd) (defScope s_check_herd) .none kV6 dc6 pm6 an6 cd6 ct6), sl6⟩) (c6 : PySem.W.codeIn K cd6 "check_herd" = true) (k6 : PySem.W.keepIn K (.ref f6) = true)
    (a7 : PySem.W.nsIn K mainGlobals "check_way" = some (some (.ref f7))) (l7 : K.lookup f7 = some ⟨oc7, od7, .func (PySem.W.fnOf "check_way" "check_way" (defArgs s_check_way) (defBody s_check_way) (defScope s_check_way) .none kV7 dc7 pm7 an7 cd7 ct7), sl7⟩) (c7 : PySem.W.codeIn K cd7 "check_way" = true) (k7 : PySem.W.keepIn K (.ref f7) = true)
    (a8 : PySem.W.nsIn K mainGlobals "check_spot" = some (some (.ref f8))) (l8 : K.lookup f8 = some ⟨oc8, od8, .func (PySem.W.fnOf "check_spot" "check_spot" (defArgs s_check_spot) (defBody s_check_spot) (defScope s_check_spot) .none kV8 dc8 pm8 an8 cd8 ct8), sl8⟩) (c8 : PySem.W.codeIn K cd8 "check_spot" = true) (k8 : PySem.W.keepIn K (.ref f8) = true)
    (a9 : PySem.W.nsIn K mainGlobals "leftness" = some (some (.ref f9))) (l9 : K.lookup f9 = some ⟨oc9, od9, .func (PySem.W.fnOf "leftness" "leftness" (defArgs s_leftness) (defBody s_leftness) (defScope s_leftness) .none kV9 dc9 pm9 an9 cd9 ct9), sl9⟩) (c9 : PySem.W.codeIn K cd9 "leftness" = true) (k9 : PySem.W.keepIn K (.ref f9) = true)
    (a10 : PySem.W.nsIn K mainGlobals "reach" = some (some (.ref f10))) (l10 : K.lookup f10 = some ⟨oc10, od10, .func (PySem.W.fnOf "reach" "reach" (defArgs s_reach) (defBody s_reach) (defScope s_reach) .none kV10 dc10 pm10 an10 cd10 ct10), sl10⟩) (c10 : PySem.W.codeIn K cd10 "reach" = true) (k10 : PySem.W.keepIn K (.ref f10) = true)
    (a11 : PySem.W.nsIn K mainGlobals "left_chain" = some (some (.ref f11))) (l11 : K.lookup f11 = some ⟨oc11, od11, .func (PySem.W.fnOf "left_chain" "left_chain" (defArgs s_left_chain) (defBody s_left_chain) (defScope s_left_chain) .none kV11 dc11 pm11 an11 cd11 ct11), sl11⟩) (c11 : PySem.W.codeIn K cd11 "left_chain" = true) (k11 : PySem.W.keepIn K (.ref f11) = true)
    (a12 : PySem.W.nsIn K mainGlobals "corners" = some (some (.ref f12))) (l12 : K.lookup f12 = some ⟨oc12, od12, .func (PySem.W.fnOf "corners" "corners" (defArgs s_corners) (defBody s_corners) (defScope s_corners) .none kV12 dc12 pm12 an12 cd12 ct12), sl12⟩) (c12 : PySem.W.codeIn K cd12 "corners" = true) (k12 : PySem.W.keepIn K (.ref f12) = true)
    (a13 : PySem.W.nsIn K mainGlobals "sides" = some (some (.ref f13))) (l13 : K.lookup f13 = some ⟨oc13, od13, .func (PySem.W.fnOf "sides" "sides" (defArgs s_sides) (defBody s_sides) (defScope s_sides) .none kV13 dc13 pm13 an13 cd13 ct13), sl13⟩) (c13 : PySem.W.codeIn K cd13 "sides" = true) (k13 : PySem.W.keepIn K (.ref f13) = true)
    (a14 : PySem.W.nsIn K mainGlobals "twice_area" = some (some (.ref f14))) (l14 : K.lookup f14 = some ⟨oc14, od14, .func (PySem.W.fnOf "twice_area" "twice_area" (defArgs s_twice_area) (defBody s_twice_area) (defScope s_twice_area) .none kV14 dc14 pm14 an14 cd14 ct14), sl14⟩) (c14 : PySem.W.codeIn K cd14 "twice_area" = true) (k14 : PySem.W.keepIn K (.ref f14) = true)
    (a15 : PySem.W.nsIn K mainGlobals "steps_round" = some (some (.ref f15))) (l15 : K.lookup f15 = some ⟨oc15, od15, .func (PySem.W.fnOf "steps_round" "steps_round" (defArgs s_steps_round) (defBody s_steps_round) (defScope s_steps_round) .none kV15 dc15 pm15 an15 cd15 ct15), sl15⟩) (c15 : PySem.W.codeIn K cd15 "steps_round" = true) (k15 : PySem.W.keepIn K (.ref f15) = true)
    (a16 : PySem.W.nsIn K mainGlobals "land" = some (some (.ref f16))) (l16 : K.lookup f16 = some ⟨oc16, od16, .func (PySem.W.fnOf "land" "land" (defArgs s_land) (defBody s_land) (defScope s_land) .none kV16 dc16 pm16 an16 cd16 ct16), sl16⟩) (c16 : PySem.W.codeIn K cd16 "land" = true) (k16 : PySem.W.keepIn K (.ref f16) = true)
    (a17 : PySem.W.nsIn K mainGlobals "spots" = some (some (.ref f17))) (l17 : K.lookup f17 = some ⟨oc17, od17, .func (PySem.W.fnOf "spots" "spots" (defArgs s_spots) (defBody s_spots) (defScope s_spots) .none kV17 dc17 pm17 an17 cd17 ct17), sl17⟩) (c17 : PySem.W.codeIn K cd17 "spots" = true) (k17 : PySem.W.keepIn K (.ref f17) = true)
    (a18 : PySem.W.nsIn K mainGlobals "farthest" = some (some (.ref f18))) (l18 : K.lookup f18 = some ⟨oc18, od18, .func (PySem.W.fnOf "farthest" "farthest" (defArgs s_farthest) (defBody s_farthest) (defScope s_farthest) .none kV18 dc18 pm18 an18 cd18 ct18), sl18⟩) (c18 : PySem.W.codeIn K cd18 "farthest" = true) (k18 : PySem.W.keepIn K (.ref f18) = true)
    (a19 : PySem.W.findIn K (.ref c_Mixed) "__init__" = some (some (.ref f19))) (i19 : PySem.W.isFn K (.ref f19) = true) (l19 : K.lookup f19 = some ⟨oc19, od19, .func (PySem.W.fnOf "__init__" "Mixed.__init__" (defArgs s_Mixed___init__) (defBody s_Mixed___init__) (defScope s_Mixed___init__) .none kV19 dc19 pm19 an19 cd19 ct19), sl19⟩) (c19 : PySem.W.codeIn K cd19 "Mixed.__init__" = true) (k19 : PySem.W.keepIn K (.ref f19) = true)
    (a20 : PySem.W.nsIn K mainGlobals "ones" = some (some (.ref f20))) (l20 : K.lookup f20 = some ⟨oc20, od20, .func (PySem.W.fnOf "ones" "ones" (defArgs s_ones) (defBody s_ones) (defScope s_ones) .none kV20 dc20 pm20 an20 cd20 ct20), sl20⟩) (c20 : PySem.W.codeIn K cd20 "ones" = true) (k20 : PySem.W.keepIn K (.ref f20) = true)
    (a21 : PySem.W.nsIn K mainGlobals "grown" = some (some (.ref f21))) (l21 : K.lookup f21 = some ⟨oc21, od21, .func (PySem.W.fnOf "grown" "grown" (defArgs s_grown) (defBody s_grown) (defScope s_grown) .none kV21 dc21 pm21 an21 cd21 ct21), sl21⟩) (c21 : PySem.W.codeIn K cd21 "grown" = true) (k21 : PySem.W.keepIn K (.ref f21) = true)
    (a22 : PySem.W.nsIn K mainGlobals "twos" = some (some (.ref f22))) (l22 : K.lookup f22 = some ⟨oc22, od22, .func (PySem.W.fnOf "twos" "twos" (defArgs s_twos) (defBody s_twos) (defScope s_twos) .none kV22 dc22 pm22 an22 cd22 ct22), sl22⟩) (c22 : PySem.W.codeIn K cd22 "twos" = true) (k22 : PySem.W.keepIn K (.ref f22) = true)
    (a23 : PySem.W.nsIn K mainGlobals "threes" = some (some (.ref f23))) (l23 : K.lookup f23 = some ⟨oc23, od23, .func (PySem.W.fnOf "threes" "threes" (defArgs s_threes) (defBody s_threes) (defScope s_threes) .none kV23 dc23 pm23 an23 cd23 ct23), sl23⟩) (c23 : PySem.W.codeIn K cd23 "threes" = true) (k23 : PySem.W.keepIn K (.ref f23) = true)
    (a24 : PySem.W.nsIn K mainGlobals "step" = some (some (.ref f24))) (l24 : K.lookup f24 = some ⟨oc24, od24, .func (PySem.W.fnOf "step" "step" (defArgs s_step) (defBody s_step) (defScope s_step) .none kV24 dc24 pm24 an24 cd24 ct24), sl24⟩) (c24 : PySem.W.codeIn K cd24 "step" = true) (k24 : PySem.W.keepIn K (.ref f24) = true)
    (a25 : PySem.W.nsIn K mainGlobals "weighed" = some (some (.ref f25))) (l25 : K.lookup f25 = some ⟨oc25, od25, .func (PySem.W.fnOf "weighed" "weighed" (defArgs s_weighed) (defBody s_weighed) (defScope s_weighed) .none kV25 dc25 pm25 an25 cd25 ct25), sl25⟩) (c25 : PySem.W.codeIn K cd25 "weighed" = true) (k25 : PySem.W.keepIn K (.ref f25) = true)
    (a26 : PySem.W.nsIn K mainGlobals "line_amounts" = some (some (.ref f26))) (l26 : K.lookup f26 = some ⟨oc26, od26, .func (PySem.W.fnOf "line_amounts" "line_amounts" (defArgs s_line_amounts) (defBody s_line_amounts) (defScope s_line_amounts) .none kV26 dc26 pm26 an26 cd26 ct26), sl26⟩) (c26 : PySem.W.codeIn K cd26 "line_amounts" = true) (k26 : PySem.W.keepIn K (.ref f26) = true)
    (a27 : PySem.W.nsIn K mainGlobals "amounts_at" = some (some (.ref f27))) (l27 : K.lookup f27 = some ⟨oc27, od27, .func (PySem.W.fnOf "amounts_at" "amounts_at" (defArgs s_amounts_at) (defBody s_amounts_at) (defScope s_amounts_at) .none kV27 dc27 pm27 an27 cd27 ct27), sl27⟩) (c27 : PySem.W.codeIn K cd27 "amounts_at" = true) (k27 : PySem.W.keepIn K (.ref f27) = true)
    (a28 : PySem.W.nsIn K mainGlobals "mixture_at" = some (some (.ref f28))) (l28 : K.lookup f28 = some ⟨oc28, od28, .func (PySem.W.fnOf "mixture_at" "mixture_at" (defArgs s_mixture_at) (defBody s_mixture_at) (defScope s_mixture_at) .none kV28 dc28 pm28 an28 cd28 ct28), sl28⟩) (c28 : PySem.W.codeIn K cd28 "mixture_at" = true) (k28 : PySem.W.keepIn K (.ref f28) = true)
    (a29 : PySem.W.nsIn K mainGlobals "within" = some (some (.ref f29))) (l29 : K.lookup f29 = some ⟨oc29, od29, .func (PySem.W.fnOf "within" "within" (defArgs s_within) (defBody s_within) (defScope s_within) .none kV29 dc29 pm29 an29 cd29 ct29), sl29⟩) (c29 : PySem.W.codeIn K cd29 "within" = true) (k29 : PySem.W.keepIn K (.ref f29) = true)
    (a30 : PySem.W.nsIn K mainGlobals "written" = some (some (.ref f30))) (l30 : K.lookup f30 = some ⟨oc30, od30, .func (PySem.W.fnOf "written" "written" (defArgs s_written) (defBody s_written) (defScope s_written) .none kV30 dc30 pm30 an30 cd30 ct30), sl30⟩) (c30 : PySem.W.codeIn K cd30 "written" = true) (k30 : PySem.W.keepIn K (.ref f30) = true)
    (a31 : PySem.W.nsIn K mainGlobals "between" = some (some (.ref f31))) (l31 : K.lookup f31 = some ⟨oc31, od31, .func (PySem.W.fnOf "between" "between" (defArgs s_between) (defBody s_between) (defScope s_between) .none kV31 dc31 pm31 an31 cd31 ct31), sl31⟩) (c31 : PySem.W.codeIn K cd31 "between" = true) (k31 : PySem.W.keepIn K (.ref f31) = true)
    (a32 : PySem.W.nsIn K mainGlobals "cut" = some (some (.ref f32))) (l32 : K.lookup f32 = some ⟨oc32, od32, .func (PySem.W.fnOf "cut" "cut" (defArgs s_cut) (defBody s_cut) (defScope s_cut) .none kV32 dc32 pm32 an32 cd32 ct32), sl32⟩) (c32 : PySem.W.codeIn K cd32 "cut" = true) (k32 : PySem.W.keepIn K (.ref f32) = true)
    (a33 : PySem.W.nsIn K mainGlobals "_law_kinds" = some (some (.ref f33))) (l33 : K.lookup f33 = some ⟨oc33, od33, .func (PySem.W.fnOf "_law_kinds" "_law_kinds" (defArgs s__law_kinds) (defBody s__law_kinds) (defScope s__law_kinds) .none kV33 dc33 pm33 an33 cd33 ct33), sl33⟩) (c33 : PySem.W.codeIn K cd33 "_law_kinds" = true) (k33 : PySem.W.keepIn K (.ref f33) = true)
    (a34 : PySem.W.nsIn K mainGlobals "_law_cell_at" = some (some (.ref f34))) (l34 : K.lookup f34 = some ⟨oc34, od34, .func (PySem.W.fnOf "_law_cell_at" "_law_cell_at" (defArgs s__law_cell_at) (defBody s__law_cell_at) (defScope s__law_cell_at) .none kV34 dc34 pm34 an34 cd34 ct34), sl34⟩) (c34 : PySem.W.codeIn K cd34 "_law_cell_at" = true) (k34 : PySem.W.keepIn K (.ref f34) = true)
    (a35 : PySem.W.nsIn K mainGlobals "_law_told" = some (some (.ref f35))) (l35 : K.lookup f35 = some ⟨oc35, od35, .func (PySem.W.fnOf "_law_told" "_law_told" (defArgs s__law_told) (defBody s__law_told) (defScope s__law_told) .none kV35 dc35 pm35 an35 cd35 ct35), sl35⟩) (c35 : PySem.W.codeIn K cd35 "_law_told" = true) (k35 : PySem.W.keepIn K (.ref f35) = true)
    (a36 : PySem.W.nsIn K mainGlobals "_law_with_herd" = some (some (.ref f36))) (l36 : K.lookup f36 = some ⟨oc36, od36, .func (PySem.W.fnOf "_law_with_herd" "_law_with_herd" (defArgs s__law_with_herd) (defBody s__law_with_herd) (defScope s__law_with_herd) .none kV36 dc36 pm36 an36 cd36 ct36), sl36⟩) (c36 : PySem.W.codeIn K cd36 "_law_with_herd" = true) (k36 : PySem.W.keepIn K (.ref f36) = true)
    (a37 : PySem.W.nsIn K mainGlobals "_law_with_thing" = some (some (.ref f37))) (l37 : K.lookup f37 = some ⟨oc37, od37, .func (PySem.W.fnOf "_law_with_thing" "_law_with_thing" (defArgs s__law_with_thing) (defBody s__law_with_thing) (defScope s__law_with_thing) .none kV37 dc37 pm37 an37 cd37 ct37), sl37⟩) (c37 : PySem.W.codeIn K cd37 "_law_with_thing" = true) (k37 : PySem.W.keepIn K (.ref f37) = true)
    (a38 : PySem.W.nsIn K mainGlobals "_law_all" = some (some (.ref f38))) (l38 : K.lookup f38 = some ⟨oc38, od38, .func (PySem.W.fnOf "_law_all" "_law_all" (defArgs s__law_all) (defBody s__law_all) (defScope s__law_all) .none kV38 dc38 pm38 an38 cd38 ct38), sl38⟩) (c38 : PySem.W.codeIn K cd38 "_law_all" = true) (k38 : PySem.W.keepIn K (.ref f38) = true)
    (a39 : PySem.W.nsIn K mainGlobals "law" = some (some (.ref f39))) (l39 : K.lookup f39 = some ⟨oc39, od39, .func (PySem.W.fnOf "law" "law" (defArgs s_law) (defBody s_law) (defScope s_law) .none kV39 dc39 pm39 an39 cd39 ct39), sl39⟩) (c39 : PySem.W.codeIn K cd39 "law" = true) (k39 : PySem.W.keepIn K (.ref f39) = true)
    (z_len : PySem.W.nsIn K mainGlobals "len" = some none) (z_all : PySem.W.nsIn K mainGlobals "all" = some none) (z_any : PySem.W.nsIn K mainGlobals "any" = some none) (z_abs : PySem.W.nsIn K mainGlobals "abs" = some none) (z_sum : PySem.W.nsIn K mainGlobals "sum" = some none) (z_isinstance : PySem.W.nsIn K mainGlobals "isinstance" = some none) (z_tuple : PySem.W.nsIn K mainGlobals "tuple" = some none) (z_list : PySem.W.nsIn K mainGlobals "list" = some none) (z_bool : PySem.W.nsIn K mainGlobals "bool" = some none) (z_int : PySem.W.nsIn K mainGlobals "int" = some none) (z_set : PySem.W.nsIn K mainGlobals "set" = some none) (z_range : PySem.W.nsIn K mainGlobals "range" = some none) (z_reversed : PySem.W.nsIn K mainGlobals "reversed" = some none) (z_sorted : PySem.W.nsIn K mainGlobals "sorted" = some none) (z_min : PySem.W.nsIn K mainGlobals "min" = some none) (z_max : PySem.W.nsIn K mainGlobals "max" = some none) (z_zip : PySem.W.nsIn K mainGlobals "zip" = some none) (z_enumerate : PySem.W.nsIn K mainGlobals "enumerate" = some none) (z_ValueError : PySem.W.nsIn K mainGlobals "ValueError" = some none) :
    ∃ fd : FuncData, (∀ (s : Shared) (v : Value), BindsTo s fd ⟨[v], []⟩ [("_law_script", v)]) ∧ ∀ base : Heap, K.In base → base.Ns mainGlobals mg → PySem.W.CodeHd base cT tT → Bmain mg base → FnOk l.prog w K mg base CX0 12 fa fd ["_law_script"] (sp_law K tT) := by
  have e := hfa.symm.trans (PySem.W.mg_of X G a39)
  cases e
  have F1 := fun_mk (st := s_common_divisor) l1 c1 k1
  have b1 := F1.binds2 (ps := ["a", "b"]) rfl fun _ _ _ _ _ _ _ _ => rfl
  have F2 := fun_mk (st := s_made) l2 c2 k2
  have b2 := F2.binds2 (ps := ["a", "b"]) rfl fun _ _ _ _ _ _ _ _ => rfl
  have F3 := fun_mk (st := s_is_number) l3 c3 k3
  have b3 := F3.binds1 (ps := ["value"]) rfl fun _ _ _ _ _ _ _ => rfl
  have F4 := fun_mk (st := s_is_pair) l4 c4 k4
  have b4 := F4.binds1 (ps := ["value"]) rfl fun _ _ _ _ _ _ _ => rfl
  have F5 := fun_mk (st := s_is_herd) l5 c5 k5
  have b5 := F5.binds1 (ps := ["value"]) rfl fun _ _ _ _ _ _ _ => rfl
  have F6 := fun_mk (st := s_check_herd) l6 c6 k6
  have b6 := F6.binds1 (ps := ["herd"]) rfl fun _ _ _ _ _ _ _ => rfl
  have F7 := fun_mk (st := s_check_way) l7 c7 k7
  have b7 := F7.binds1 (ps := ["way"]) rfl fun _ _ _ _ _ _ _ => rfl
  have F8 := fun_mk (st := s_check_spot) l8 c8 k8
  have b8 := F8.binds1 (ps := ["spot"]) rfl fun _ _ _ _ _ _ _ => rfl
  have F9 := fun_mk (st := s_leftness) l9 c9 k9
  have b9 := F9.binds3 (ps := ["start", "end", "spot"]) rfl fun _ _ _ _ _ _ _ _ _ => rfl
  have F10 := fun_mk (st := s_reach) l10 c10 k10
  have b10 := F10.binds2 (ps := ["way", "spot"]) rfl fun _ _ _ _ _ _ _ _ => rfl
  have F11 := fun_mk (st := s_left_chain) l11 c11 k11
  have b11 := F11.binds1 (ps := ["row"]) rfl fun _ _ _ _ _ _ _ => rfl
  have F12 := fun_mk (st := s_corners) l12 c12 k12
  have b12 := F12.binds1 (ps := ["herd"]) rfl fun _ _ _ _ _ _ _ => rfl
  have F13 := fun_mk (st := s_sides) l13 c13 k13
  have b13 := F13.binds1 (ps := ["around"]) rfl fun _ _ _ _ _ _ _ => rfl
  have F14 := fun_mk (st := s_twice_area) l14 c14 k14
  have b14 := F14.binds1 (ps := ["around"]) rfl fun _ _ _ _ _ _ _ => rfl
  have F15 := fun_mk (st := s_steps_round) l15 c15 k15
  have b15 := F15.binds1 (ps := ["around"]) rfl fun _ _ _ _ _ _ _ => rfl
  have F16 := fun_mk (st := s_land) l16 c16 k16
  have b16 := F16.binds1 (ps := ["herd"]) rfl fun _ _ _ _ _ _ _ => rfl
  have F17 := fun_mk (st := s_spots) l17 c17 k17
  have b17 := F17.binds1 (ps := ["herd"]) rfl fun _ _ _ _ _ _ _ => rfl
  have F18 := fun_mk (st := s_farthest) l18 c18 k18
  have b18 := F18.binds2 (ps := ["herd", "way"]) rfl fun _ _ _ _ _ _ _ _ => rfl
  have F19 := fun_mk (st := s_Mixed___init__) l19 c19 k19
  have b19 := F19.binds2 (ps := ["self", "parts"]) rfl fun _ _ _ _ _ _ _ _ => rfl
  have F20 := fun_mk (st := s_ones) l20 c20 k20
  have b20 := F20.binds1 (ps := ["count"]) rfl fun _ _ _ _ _ _ _ => rfl
  have F21 := fun_mk (st := s_grown) l21 c21 k21
  have b21 := F21.binds2 (ps := ["groups", "count"]) rfl fun _ _ _ _ _ _ _ _ => rfl
  have F22 := fun_mk (st := s_twos) l22 c22 k22
  have b22 := F22.binds1 (ps := ["count"]) rfl fun _ _ _ _ _ _ _ => rfl
  have F23 := fun_mk (st := s_threes) l23 c23 k23
  have b23 := F23.binds1 (ps := ["count"]) rfl fun _ _ _ _ _ _ _ => rfl
  have F24 := fun_mk (st := s_step) l24 c24 k24
  have b24 := F24.binds2 (ps := ["start", "end"]) rfl fun _ _ _ _ _ _ _ _ => rfl
  have F25 := fun_mk (st := s_weighed) l25 c25 k25
  have b25 := F25.binds2 (ps := ["places", "amounts"]) rfl fun _ _ _ _ _ _ _ _ => rfl
  have F26 := fun_mk (st := s_line_amounts) l26 c26 k26
  have b26 := F26.binds3 (ps := ["start", "end", "spot"]) rfl fun _ _ _ _ _ _ _ _ _ => rfl
  have F27 := fun_mk (st := s_amounts_at) l27 c27 k27
  have b27 := F27.binds2 (ps := ["row", "spot"]) rfl fun _ _ _ _ _ _ _ _ => rfl
  have F28 := fun_mk (st := s_mixture_at) l28 c28 k28
  have b28 := F28.binds2 (ps := ["herd", "spot"]) rfl fun _ _ _ _ _ _ _ _ => rfl
  have F29 := fun_mk (st := s_within) l29 c29 k29
  have b29 := F29.binds2 (ps := ["herd", "spot"]) rfl fun _ _ _ _ _ _ _ _ => rfl
  have F30 := fun_mk (st := s_written) l30 c30 k30
  have b30 := F30.binds1 (ps := ["herd"]) rfl fun _ _ _ _ _ _ _ => rfl
  have F31 := fun_mk (st := s_between) l31 c31 k31
  have b31 := F31.binds2 (ps := ["one", "other"]) rfl fun _ _ _ _ _ _ _ _ => rfl
  have F32 := fun_mk (st := s_cut) l32 c32 k32
  have b32 := F32.binds1 (ps := ["herd"]) rfl fun _ _ _ _ _ _ _ => rfl
  have F33 := fun_mk (st := s__law_kinds) l33 c33 k33
  have b33 := F33.binds1 (ps := ["_law_error"]) rfl fun _ _ _ _ _ _ _ => rfl
  have F34 := fun_mk (st := s__law_cell_at) l34 c34 k34
  have b34 := F34.binds2 (ps := ["_law_script", "_law_k"]) rfl fun _ _ _ _ _ _ _ _ => rfl
  have F35 := fun_mk (st := s__law_told) l35 c35 k35
  have b35 := F35.binds3 (ps := ["_law_ask", "_law_one", "_law_other"]) rfl fun _ _ _ _ _ _ _ _ _ => rfl
  have F36 := fun_mk (st := s__law_with_herd) l36 c36 k36
  have b36 := F36.binds2 (ps := ["_law_door", "_law_herd"]) rfl fun _ _ _ _ _ _ _ _ => rfl
  have F37 := fun_mk (st := s__law_with_thing) l37 c37 k37
  have b37 := F37.binds2 (ps := ["_law_door", "_law_thing"]) rfl fun _ _ _ _ _ _ _ _ => rfl
  have F38 := fun_mk (st := s__law_all) l38 c38 k38
  have b38 := F38.binds4 (ps := ["_law_ask", "_law_doors", "_law_things", "_law_due"]) rfl fun _ _ _ _ _ _ _ _ _ _ => rfl
  have F39 := fun_mk (st := s_law) l39 c39 k39
  have b39 := F39.binds1 (ps := ["_law_script"]) rfl fun _ _ _ _ _ _ _ => rfl
  have T_Mixed : Txt_Mixed K mg c_Mixed := ⟨⟨pg_Mixed, hd_Mixed, po_Mixed, sa_Mixed⟩, n_parts_Mixed, PySem.W.mg_of X G aC_Mixed, ha_Mixed, hn_Mixed, htk_Mixed, hm_Mixed, (by unfold PySem.W.kitOne; rw [if_pos (beq_self_eq_true _)])⟩
  have T_HerdError : TxtN mg "HerdError" c_HerdError := ⟨PySem.W.mg_of X G aC_HerdError⟩
  have T_BadText : TxtN mg "BadText" c_BadText := ⟨PySem.W.mg_of X G aC_BadText⟩
  have T_BadHerd : TxtN mg "BadHerd" c_BadHerd := ⟨PySem.W.mg_of X G aC_BadHerd⟩
  have KF_BadHerd := KF.of xf_BadHerd
  have T_BadSpot : TxtN mg "BadSpot" c_BadSpot := ⟨PySem.W.mg_of X G aC_BadSpot⟩
  have KF_BadSpot := KF.of xf_BadSpot
  have T_BadWay : TxtN mg "BadWay" c_BadWay := ⟨PySem.W.mg_of X G aC_BadWay⟩
  have KF_BadWay := KF.of xf_BadWay
  have T_TooFew : TxtN mg "TooFew" c_TooFew := ⟨PySem.W.mg_of X G aC_TooFew⟩
  have KF_TooFew := KF.of xf_TooFew
  have T_HerdError : THE K mg c_HerdError := ⟨PySem.W.mg_of X G aC_HerdError, hbHE, fun z => by rw [z] at hkHE; cases hkHE⟩
  have M__law_with_herd := PySem.W.mg_of X G a36
  have M__law_with_thing := PySem.W.mg_of X G a37
  have HC := tab_code X G T0 a39 l39
  have B : Bl mg := ⟨PySem.W.mg_none_of X G z_len, PySem.W.mg_none_of X G z_all, PySem.W.mg_none_of X G z_any, PySem.W.mg_none_of X G z_abs, PySem.W.mg_none_of X G z_sum, PySem.W.mg_none_of X G z_isinstance, PySem.W.mg_none_of X G z_tuple, PySem.W.mg_none_of X G z_list, PySem.W.mg_none_of X G z_bool, PySem.W.mg_none_of X G z_int, PySem.W.mg_none_of X G z_set, PySem.W.mg_none_of X G z_range, PySem.W.mg_none_of X G z_reversed, PySem.W.mg_none_of X G z_sorted, PySem.W.mg_none_of X G z_min, PySem.W.mg_none_of X G z_max, PySem.W.mg_none_of X G z_zip, PySem.W.mg_none_of X G z_enumerate, PySem.W.mg_none_of X G z_ValueError, ⟨_, PySem.W.mg_of X G y_BOUND⟩, ⟨_, PySem.W.mg_of X G y_MOST_SPOTS⟩, ⟨_, PySem.W.mg_of X G y_FEWEST_TO_CUT⟩⟩
  refine ⟨PySem.W.fnOf "law" "law" (defArgs s_law) (defBody s_law) (defScope s_law) .none kV39 dc39 pm39 an39 cd39 ct39, fun s v => .of_eq rfl, fun base KB GB HD BM => ?_⟩
  have O_BadHerd : EO mg base "BadHerd" c_BadHerd := ⟨own_ex KB GB aC_BadHerd xi_BadHerd⟩
  have O_BadSpot : EO mg base "BadSpot" c_BadSpot := ⟨own_ex KB GB aC_BadSpot xi_BadSpot⟩
  have O_BadWay : EO mg base "BadWay" c_BadWay := ⟨own_ex KB GB aC_BadWay xi_BadWay⟩
  have O_TooFew : EO mg base "TooFew" c_TooFew := ⟨own_ex KB GB aC_TooFew xi_TooFew⟩
  have C_common_divisor := cal_mk (ok_cd (P := l.prog) (w := w) (base := base) B F1) b1 k1 (PySem.W.mg_of X G a1)
  have C_made := cal_mk (ok_made (P := l.prog) (w := w) (base := base) C_common_divisor F2) b2 k2 (PySem.W.mg_of X G a2)
  have C_is_number := cal_mk (ok_num (P := l.prog) (w := w) (base := base) B F3) b3 k3 (PySem.W.mg_of X G a3)
  have C_is_pair := cal_mk (ok_pair (P := l.prog) (w := w) (base := base) B C_is_number F4) b4 k4 (PySem.W.mg_of X G a4)
  have C_is_herd := cal_mk (ok_isherd (P := l.prog) (w := w) (base := base) B C_is_pair F5) b5 k5 (PySem.W.mg_of X G a5)
  have C_check_herd := cal_mk (ok_check (P := l.prog) (w := w) (base := base) C_is_herd F6) b6 k6 (PySem.W.mg_of X G a6)
  have C_check_way := cal_mk (ok_way (P := l.prog) (w := w) (base := base) C_is_pair F7) b7 k7 (PySem.W.mg_of X G a7)
  have C_check_spot := cal_mk (ok_chkS (P := l.prog) (w := w) (base := base) C_is_pair F8) b8 k8 (PySem.W.mg_of X G a8)
  have C_leftness := cal_mk (ok_left (P := l.prog) (w := w) (base := base)  F9) b9 k9 (PySem.W.mg_of X G a9)
  have C_reach := cal_mk (ok_reach (P := l.prog) (w := w) (base := base)  F10) b10 k10 (PySem.W.mg_of X G a10)
  have C_left_chain := cal_mk (ok_chain (P := l.prog) (w := w) (base := base) B C_leftness F11) b11 k11 (PySem.W.mg_of X G a11)
  have C_corners := cal_mk (ok_corners (P := l.prog) (w := w) (base := base) B C_check_herd C_left_chain F12) b12 k12 (PySem.W.mg_of X G a12)
  have C_sides := cal_mk (ok_sides (P := l.prog) (w := w) (base := base) B F13) b13 k13 (PySem.W.mg_of X G a13)
  have C_twice_area := cal_mk (ok_area (P := l.prog) (w := w) (base := base) B C_sides F14) b14 k14 (PySem.W.mg_of X G a14)
  have C_steps_round := cal_mk (ok_steps (P := l.prog) (w := w) (base := base) B C_sides C_common_divisor F15) b15 k15 (PySem.W.mg_of X G a15)
  have C_land := cal_mk (ok_land (P := l.prog) (w := w) (base := base) C_corners C_twice_area F16) b16 k16 (PySem.W.mg_of X G a16)
  have C_spots := cal_mk (ok_spots (P := l.prog) (w := w) (base := base) B C_corners C_twice_area C_steps_round F17) b17 k17 (PySem.W.mg_of X G a17)
  have C_farthest := cal_mk (ok_farthest (P := l.prog) (w := w) (base := base) B C_check_herd C_check_way C_reach F18) b18 k18 (PySem.W.mg_of X G a18)
  have C_Mixed := calK_mk (ok_initM (P := l.prog) (w := w) (base := base) B T_Mixed F19) b19 ⟨mk_Mixed, a19, i19, kc_Mixed⟩ T_Mixed.mg
  have C_ones := cal_mk (ok_ones (P := l.prog) (w := w) (base := base) B F20) b20 k20 (PySem.W.mg_of X G a20)
  have C_grown := cal_mk (ok_grown (P := l.prog) (w := w) (base := base) B F21) b21 k21 (PySem.W.mg_of X G a21)
  have C_twos := cal_mk (ok_twos (P := l.prog) (w := w) (base := base) C_grown C_ones F22) b22 k22 (PySem.W.mg_of X G a22)
  have C_threes := cal_mk (ok_threes (P := l.prog) (w := w) (base := base) C_grown C_twos F23) b23 k23 (PySem.W.mg_of X G a23)
  have C_step := cal_mk (ok_step (P := l.prog) (w := w) (base := base)  F24) b24 k24 (PySem.W.mg_of X G a24)
  have C_weighed := cal_mk (ok_weighed (P := l.prog) (w := w) (base := base) B C_made F25) b25 k25 (PySem.W.mg_of X G a25)
  have C_line_amounts := cal_mk (ok_line (P := l.prog) (w := w) (base := base) C_leftness C_step C_reach F26) b26 k26 (PySem.W.mg_of X G a26)
  have C_amounts_at := cal_mk (ok_amounts (P := l.prog) (w := w) (base := base) B C_leftness C_line_amounts F27) b27 k27 (PySem.W.mg_of X G a27)
  have C_mixture_at := cal_mk (ok_mix (P := l.prog) (w := w) (base := base) B C_ones C_twos C_threes C_weighed C_amounts_at F28) b28 k28 (PySem.W.mg_of X G a28)
  have C_within := cal_mk (ok_withinG (P := l.prog) (w := w) (base := base) B C_check_herd C_check_spot C_mixture_at C_Mixed F29) b29 k29 (PySem.W.mg_of X G a29)
  have CT_is_number := cal_mk (ok_numT (P := l.prog) (w := w) (base := base) B F3) b3 k3 (PySem.W.mg_of X G a3)
  have CT_is_pair := cal_mk (ok_pairT (P := l.prog) (w := w) (base := base) B CT_is_number F4) b4 k4 (PySem.W.mg_of X G a4)
  have CT_is_herd := cal_mk (ok_herdT (P := l.prog) (w := w) (base := base) B CT_is_pair F5) b5 k5 (PySem.W.mg_of X G a5)
  have C1_check_herd := cal1_mk (ok_chkH (P := l.prog) (w := w) (base := base) O_BadHerd CT_is_herd F6) b6 k6 (PySem.W.mg_of X G a6)
  have C1_check_spot := cal1_mk (ok_chkP (P := l.prog) (w := w) (base := base) O_BadSpot CT_is_pair F8) b8 k8 (PySem.W.mg_of X G a8)
  have C1_check_way := cal1_mk (ok_chkW (P := l.prog) (w := w) (base := base) O_BadWay CT_is_pair F7) b7 k7 (PySem.W.mg_of X G a7)
  have C1_corners := cal1_mk (ok_corners1 (P := l.prog) (w := w) (base := base) C1_check_herd F12) b12 k12 (PySem.W.mg_of X G a12)
  have C1_land := cal1_mk (ok_land1 (P := l.prog) (w := w) (base := base) C1_corners C_twice_area F16) b16 k16 (PySem.W.mg_of X G a16)
  have C1_spots := cal1_mk (ok_spots1 (P := l.prog) (w := w) (base := base) C1_corners F17) b17 k17 (PySem.W.mg_of X G a17)
  have C1_written := cal1_mk (ok_written1 (P := l.prog) (w := w) (base := base) C1_check_herd F30) b30 k30 (PySem.W.mg_of X G a30)
  have C1_farthest := cal1_mk (ok_farthest1 (P := l.prog) (w := w) (base := base) C1_check_herd C1_check_way F18) b18 k18 (PySem.W.mg_of X G a18)
  have C1_within := cal1_mk (ok_within1 (P := l.prog) (w := w) (base := base) C1_check_herd C1_check_spot F29) b29 k29 (PySem.W.mg_of X G a29)
  have C1_between := cal1_mk (ok_between1 (P := l.prog) (w := w) (base := base) C1_check_herd F31) b31 k31 (PySem.W.mg_of X G a31)
  have C1_cut := cal1_mk (ok_cut1 (P := l.prog) (w := w) (base := base) B O_TooFew C1_check_herd F32) b32 k32 (PySem.W.mg_of X G a32)
  have CH__law_kinds := calH_mk (ok_kinds (P := l.prog) (w := w) (base := base) (cH := c_HerdError) B T_BadHerd T_BadSpot T_BadWay T_TooFew T_BadText F33) b33 k33 (PySem.W.mg_of X G a33)
  have C__law_cell_at := cal_mk (ok_cell (P := l.prog) (w := w) (base := base) B F34) b34 k34 (PySem.W.mg_of X G a34)
  have C__law_told := cal_mk (ok_told (P := l.prog) (w := w) (base := base) T_HerdError CH__law_kinds F35) b35 k35 (PySem.W.mg_of X G a35)
  have V_herd := calV_mk (ok_wherd (P := l.prog) (w := w) (base := base) C1_corners C1_land C1_spots C1_farthest C1_within C1_between C1_cut C1_written F36) b36 k36
  have V_thing := calV_mk (ok_wthing (P := l.prog) (w := w) (base := base) C1_farthest C1_within F37) b37 k37
  have C__law_all := cal_mk (ok_all (P := l.prog) (w := w) (base := base) C__law_told F38) b38 k38 (PySem.W.mg_of X G a38)
  exact ok_law B HD BM T_Mixed M__law_with_herd M__law_with_thing V_herd V_thing KF_BadHerd KF_BadSpot KF_BadWay KF_TooFew C1_cut C__law_cell_at C__law_told C__law_all C_corners C_land C_spots C_within C_farthest HC F39
theorem walk {l : PySem.W.OpenLaw} {q : Program} {loose : List Str} {XP : (Str → Option Value) → Heap → Prop} {YP : World → Heap → Prop} {d : DefRec} {K : Params → PySem.W.Frag} (hn : l.most = some 63) (hdf : d.params.defaults = [])
    (hY : ∀ (w : World) (h : Heap), YP w h → (K w.params).In h) (hnt : ∀ w : World, PySem.W.noTabs (K w.params) = true) (hrec : ∃ d', (PyProof.Rows.recsOf q).find? (fun e => e.name == ("law" : Str)) = some d')
    (F : ∀ (w : World) (mg : Str → Option Value) (fa : Addr) (h : Heap), (K w.params).In h → h.Ns mainGlobals mg → mg d.name = some (.ref fa) → ∀ c P, TabAt "law" mg h c P →
      ∃ fd : FuncData, (∀ (s : Shared) (u : Value), BindsTo s fd ⟨[u], []⟩ [("_law_script", u)]) ∧ ∀ base : Heap, (K w.params).In base → base.Ns mainGlobals mg → PySem.W.CodeHd base c P → Bmain mg base → FnOk l.prog w (K w.params) mg base CX0 12 fa fd ["_law_script"] (sp_law (K w.params) P)) :
    PySem.W.WalkO q loose XP YP l.row.toRowW d [] (fun f vs => PySem.call f vs) :=
  L2.walk_ofT (n := 63) (k := 12) (x := "_law_script") (CX := fun _ => CX0) (sp := fun w => sp_law (K w.params)) (ln := 290) (col := 21) (qq := lamQ) hn (by decide) hdf ⟨rfl, by decide, by decide⟩ hY hnt hrec F (fun _ _ _ a ns hl hT hS => ⟨a, ns, rfl, hS, hl, hT, fun _ => rfl⟩) fun _ _ _ _ _ z => z
end K8a
open PySem PySem.W PyProof.Rows
def PySem.W.Fast.tw5850375666008185858 : Nat := 0
def PySem.W.Fast.tw18239568068678015830 : Nat := 0
def PySem.W.Fast.tw12546615142744691357 : Nat := 0
def PySem.W.Fast.tw160903162724528483 : Nat := 0
def PySem.W.Fast.tw17584395242426704275 : Nat := 0
def PySem.W.Fast.tw2468074649847530491 : Nat := 0
def PySem.W.Fast.tw12285418456039345996 : Nat := 0
def PySem.W.Fast.tw8837956434685230987 : Nat := 0
def PySem.W.Fast.tw15265431917876365977 : Nat := 0
def PySem.W.Fast.tw212273922260562560 : Nat := 0
def PySem.W.Fast.tw714983160565524411 : Nat := 0
def PySem.W.Fast.tw14920019261246451272 : Nat := 0
def PySem.W.Fast.tw10758055503022434045 : Nat := 0
set_option maxRecDepth 100000 in
set_option maxHeartbeats 0 in
theorem PySem.Challenge.cw_herdline_k08_refused_holds : PySem.Challenge.rw_herdline_k08_refused.Holds := by
  w_on; o_law; k_head; (case hw => w_witness2)
  k_fill
  refine K8a.walk (l := PySem.Challenge.rw_herdline_k08_refused) rfl rfl (fun w h Y => PySem.W.km_in_of Y) (fun w => by kernel_rfl) ⟨_, rfl⟩ ?F
  case F =>
    intro w mg fa h KX G hmg cT tT T0
    refine' K8a.all_mk KX G hmg T0 ?y_BOUND ?y_MOST_SPOTS ?y_FEWEST_TO_CUT ?aC_Mixed ?pg_Mixed ?hd_Mixed ?po_Mixed ?sa_Mixed ?mk_Mixed ?kc_Mixed ?n_parts_Mixed ?ha_Mixed ?hn_Mixed ?htk_Mixed ?hm_Mixed ?aC_HerdError ?aC_BadText ?aC_BadHerd ?aC_BadSpot ?aC_BadWay ?aC_TooFew ?xi_BadHerd ?xf_BadHerd ?xi_BadSpot ?xf_BadSpot ?xi_BadWay ?xf_BadWay ?xi_TooFew ?xf_TooFew ?hbHE ?hkHE ?a1 ?l1 ?c1 ?k1 ?a2 ?l2 ?c2 ?k2 ?a3 ?l3 ?c3 ?k3 ?a4 ?l4 ?c4 ?k4 ?a5 ?l5 ?c5 ?k5 ?a6 ?l6 ?c6 ?k6 ?a7 ?l7 ?c7 ?k7 ?a8 ?l8 ?c8 ?k8 ?a9 ?l9 ?c9 ?k9 ?a10 ?l10 ?c10 ?k10 ?a11 ?l11 ?c11 ?k11 ?a12 ?l12 ?c12 ?k12 ?a13 ?l13 ?c13 ?k13 ?a14 ?l14 ?c14 ?k14 ?a15 ?l15 ?c15 ?k15 ?a16 ?l16 ?c16 ?k16 ?a17 ?l17 ?c17 ?k17 ?a18 ?l18 ?c18 ?k18 ?a19 ?i19 ?l19 ?c19 ?k19 ?a20 ?l20 ?c20 ?k20 ?a21 ?l21 ?c21 ?k21 ?a22 ?l22 ?c22 ?k22 ?a23 ?l23 ?c23 ?k23 ?a24 ?l24 ?c24 ?k24 ?a25 ?l25 ?c25 ?k25 ?a26 ?l26 ?c26 ?k26 ?a27 ?l27 ?c27 ?k27 ?a28 ?l28 ?c28 ?k28 ?a29 ?l29 ?c29 ?k29 ?a30 ?l30 ?c30 ?k30 ?a31 ?l31 ?c31 ?k31 ?a32 ?l32 ?c32 ?k32 ?a33 ?l33 ?c33 ?k33 ?a34 ?l34 ?c34 ?k34 ?a35 ?l35 ?c35 ?k35 ?a36 ?l36 ?c36 ?k36 ?a37 ?l37 ?c37 ?k37 ?a38 ?l38 ?c38 ?k38 ?a39 ?l39 ?c39 ?k39 ?z_len ?z_all ?z_any ?z_abs ?z_sum ?z_isinstance ?z_tuple ?z_list ?z_bool ?z_int ?z_set ?z_range ?z_reversed ?z_sorted ?z_min ?z_max ?z_zip ?z_enumerate ?z_ValueError
    (case y_BOUND => k_is)
    (case y_MOST_SPOTS => k_is)
    (case y_FEWEST_TO_CUT => k_is)
    (case aC_Mixed => k_is)
    (case pg_Mixed => k_is)
    (case hd_Mixed => k_is)
    (case po_Mixed => k_is)
    (case sa_Mixed => k_is)
    (case mk_Mixed => k_is)
    (case kc_Mixed => k_is)
    (case n_parts_Mixed => k_is)
    (case ha_Mixed => k_is)
    (case hn_Mixed => k_is)
    (case htk_Mixed => k_is)
    (case hm_Mixed => k_is)
    (case aC_HerdError => k_is)
    (case aC_BadText => k_is)
    (case aC_BadHerd => k_is)
    (case aC_BadSpot => k_is)
    (case aC_BadWay => k_is)
    (case aC_TooFew => k_is)
    (case xi_BadHerd => kernel_rfl)
    (case xf_BadHerd => kernel_rfl)
    (case xi_BadSpot => kernel_rfl)
    (case xf_BadSpot => kernel_rfl)
    (case xi_BadWay => kernel_rfl)
    (case xf_BadWay => kernel_rfl)
    (case xi_TooFew => kernel_rfl)
    (case xf_TooFew => kernel_rfl)
    (case hbHE => kernel_rfl)
    (case hkHE => kernel_rfl)
    (case a1 => k_is)
    (case l1 => k_is)
    (case c1 => k_is)
    (case k1 => k_is)
    (case a2 => k_is)
    (case l2 => k_is)
    (case c2 => k_is)
    (case k2 => k_is)
    (case a3 => k_is)
    (case l3 => k_is)
    (case c3 => k_is)
    (case k3 => k_is)
    (case a4 => k_is)
    (case l4 => k_is)
    (case c4 => k_is)
    (case k4 => k_is)
    (case a5 => k_is)
    (case l5 => k_is)
    (case c5 => k_is)
    (case k5 => k_is)
    (case a6 => k_is)
    (case l6 => k_is)
    (case c6 => k_is)
    (case k6 => k_is)
    (case a7 => k_is)
    (case l7 => k_is)
    (case c7 => k_is)
    (case k7 => k_is)
    (case a8 => k_is)
    (case l8 => k_is)
    (case c8 => k_is)
    (case k8 => k_is)
    (case a9 => k_is)
    (case l9 => k_is)
    (case c9 => k_is)
    (case k9 => k_is)
    (case a10 => k_is)
    (case l10 => k_is)
    (case c10 => k_is)
    (case k10 => k_is)
    (case a11 => k_is)
    (case l11 => k_is)
    (case c11 => k_is)
    (case k11 => k_is)
    (case a12 => k_is)
    (case l12 => k_is)
    (case c12 => k_is)
    (case k12 => k_is)
    (case a13 => k_is)
    (case l13 => k_is)
    (case c13 => k_is)
    (case k13 => k_is)
    (case a14 => k_is)
    (case l14 => k_is)
    (case c14 => k_is)
    (case k14 => k_is)
    (case a15 => k_is)
    (case l15 => k_is)
    (case c15 => k_is)
    (case k15 => k_is)
    (case a16 => k_is)
    (case l16 => k_is)
    (case c16 => k_is)
    (case k16 => k_is)
    (case a17 => k_is)
    (case l17 => k_is)
    (case c17 => k_is)
    (case k17 => k_is)
    (case a18 => k_is)
    (case l18 => k_is)
    (case c18 => k_is)
    (case k18 => k_is)
    (case a19 => k_is)
    (case i19 => k_is)
    (case l19 => k_is)
    (case c19 => k_is)
    (case k19 => k_is)
    (case a20 => k_is)
    (case l20 => k_is)
    (case c20 => k_is)
    (case k20 => k_is)
    (case a21 => k_is)
    (case l21 => k_is)
    (case c21 => k_is)
    (case k21 => k_is)
    (case a22 => k_is)
    (case l22 => k_is)
    (case c22 => k_is)
    (case k22 => k_is)
    (case a23 => k_is)
    (case l23 => k_is)
    (case c23 => k_is)
    (case k23 => k_is)
    (case a24 => k_is)
    (case l24 => k_is)
    (case c24 => k_is)
    (case k24 => k_is)
    (case a25 => k_is)
    (case l25 => k_is)
    (case c25 => k_is)
    (case k25 => k_is)
    (case a26 => k_is)
    (case l26 => k_is)
    (case c26 => k_is)
    (case k26 => k_is)
    (case a27 => k_is)
    (case l27 => k_is)
    (case c27 => k_is)
    (case k27 => k_is)
    (case a28 => k_is)
    (case l28 => k_is)
    (case c28 => k_is)
    (case k28 => k_is)
    (case a29 => k_is)
    (case l29 => k_is)
    (case c29 => k_is)
    (case k29 => k_is)
    (case a30 => k_is)
    (case l30 => k_is)
    (case c30 => k_is)
    (case k30 => k_is)
    (case a31 => k_is)
    (case l31 => k_is)
    (case c31 => k_is)
    (case k31 => k_is)
    (case a32 => k_is)
    (case l32 => k_is)
    (case c32 => k_is)
    (case k32 => k_is)
    (case a33 => k_is)
    (case l33 => k_is)
    (case c33 => k_is)
    (case k33 => k_is)
    (case a34 => k_is)
    (case l34 => k_is)
    (case c34 => k_is)
    (case k34 => k_is)
    (case a35 => k_is)
    (case l35 => k_is)
    (case c35 => k_is)
    (case k35 => k_is)
    (case a36 => k_is)
    (case l36 => k_is)
    (case c36 => k_is)
    (case k36 => k_is)
    (case a37 => k_is)
    (case l37 => k_is)
    (case c37 => k_is)
    (case k37 => k_is)
    (case a38 => k_is)
    (case l38 => k_is)
    (case c38 => k_is)
    (case k38 => k_is)
    (case a39 => k_is)
    (case l39 => k_is)
    (case c39 => k_is)
    (case k39 => k_is)
    (case z_len => k_is)
    (case z_all => k_is)
    (case z_any => k_is)
    (case z_abs => k_is)
    (case z_sum => k_is)
    (case z_isinstance => k_is)
    (case z_tuple => k_is)
    (case z_list => k_is)
    (case z_bool => k_is)
    (case z_int => k_is)
    (case z_set => k_is)
    (case z_range => k_is)
    (case z_reversed => k_is)
    (case z_sorted => k_is)
    (case z_min => k_is)
    (case z_max => k_is)
    (case z_zip => k_is)
    (case z_enumerate => k_is)
    (case z_ValueError => k_is)
