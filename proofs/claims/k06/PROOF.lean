import PyProof.Rows.All
import Wide.All
import OpenK.AllK
import Wide.FinOn
import Lean
import PyProof.EqAt
import PyProof.EqKinds
import PyProof.TupleCall
import PySem.SetOps
import PyProof.ZipIter
import PyProof.CollectWalk
import PyProof.Rows.ZipGen
import KE.KLam
import KE.KMinKey
import PySem.Challenge.RW_herdline_k06_answers_by_hand
set_option Elab.async false
set_option linter.all false
set_option maxRecDepth 100000
namespace L2
open PySem PySem.Spec PyProof.Rows

abbrev Key := Sum Int Str
def keyIs : Key → Value → Bool
  | .inl k, v => Value.isInt k v
  | .inr x, v => Value.isStrOf x v
def keyH (w : World) : Key → Int
  | .inl k => hashInt k
  | .inr x => hashStr w x
theorem keyIs_shape : ∀ {k : Key} {v : Value}, keyIs k v = true → (∃ i t, k = Sum.inl i ∧ v = Value.int i t) ∨ (∃ x t, k = Sum.inr x ∧ v = Value.str x t)
  | .inl i, v, h => by
    obtain ⟨t, e⟩ := Value.isInt_shape (k := i) (v := v) h
    exact .inl ⟨i, t, rfl, e⟩
  | .inr x, v, h => by
    obtain ⟨t, e⟩ := Value.isStrOf_shape (x := x) (v := v) h
    exact .inr ⟨x, t, rfl, e⟩
theorem key_ll (a b : Int) : decide ((Sum.inl a : Key) = Sum.inl b) = (a == b) := by
  by_cases e : a = b
  · subst e; simp
  · have h : ¬ (Sum.inl a : Key) = Sum.inl b := fun q => e (Sum.inl.inj q)
    rw [decide_eq_false h]
    exact (beq_eq_false_iff_ne.mpr e).symm
theorem key_rr (a b : Str) : decide ((Sum.inr a : Key) = Sum.inr b) = decide (a = b) := by
  by_cases e : a = b
  · subst e; simp
  · have h : ¬ (Sum.inr a : Key) = Sum.inr b := fun q => e (Sum.inr.inj q)
    rw [decide_eq_false h, decide_eq_false e]
theorem key_lr (a : Int) (b : Str) : decide ((Sum.inl a : Key) = Sum.inr b) = false := decide_eq_false (fun q => nomatch q)
theorem key_rl (a : Str) (b : Int) : decide ((Sum.inr a : Key) = Sum.inl b) = false := decide_eq_false (fun q => nomatch q)

def mixKind (prog : Program) (w : World) : PySem.KeyKind prog w Key where
  is := keyIs
  hash := keyH w
  inj := fun v a b ha hb => by
    rcases keyIs_shape ha with ⟨i, t, rfl, rfl⟩ | ⟨x, t, rfl, rfl⟩
    · rcases keyIs_shape hb with ⟨j, u, rfl, e⟩ | ⟨y, u, rfl, e⟩
      · injection e with e1 _; rw [e1]
      · exact nomatch e
    · rcases keyIs_shape hb with ⟨j, u, rfl, e⟩ | ⟨y, u, rfl, e⟩
      · exact nomatch e
      · injection e with e1 _; rw [e1]
  byValue := fun k v h => by
    rcases keyIs_shape h with ⟨i, t, rfl, rfl⟩ | ⟨x, t, rfl, rfl⟩ <;> rfl
  pyHash := fun hv h => by
    rcases keyIs_shape hv with ⟨i, t, rfl, rfl⟩ | ⟨x, t, rfl, rfl⟩
    · exact wpAny_pyHash_int h
    · exact wpAny_pyHash_str h
  eqBool := fun hu hv h => by
    rcases keyIs_shape hu with ⟨i, t, rfl, rfl⟩ | ⟨x, t, rfl, rfl⟩
    · rcases keyIs_shape hv with ⟨j, u, rfl, rfl⟩ | ⟨y, u, rfl, rfl⟩
      · rw [key_ll] at h; exact wpAny_eqBool_int h
      · rw [key_lr] at h; exact SeqAt.EqAt.int_str i t y u _ _ _ _ h
    · rcases keyIs_shape hv with ⟨j, u, rfl, rfl⟩ | ⟨y, u, rfl, rfl⟩
      · rw [key_rl] at h; exact SeqAt.EqAt.str_int x t j u _ _ _ _ h
      · rw [key_rr] at h; exact wpAny_eqBool_str h
  «strs» := fun k x t v h => by
    rcases keyIs_shape h with ⟨i, u, rfl, e⟩ | ⟨y, u, rfl, e⟩
    · exact nomatch e
    · injection e with e1 _
      subst e1
      cases v <;> rfl

end L2

namespace L2
open PySem PySem.Spec PyProof.Rows

inductive V where
  | non | bl (b : Bool) | int (i : Int) | str (x : Str) | byt (b : Array UInt8) | flt (b : UInt64) | ref (a : Addr) | ty (n : String)
  deriving DecidableEq

def RelV : V → Value → Prop
  | .non, u => u = Value.none
  | .bl b, u => u = Value.bool b
  | .int i, u => ∃ t, u = Value.int i t
  | .str x, u => ∃ t, u = Value.str x t
  | .byt b, u => ∃ t, u = Value.bytes b t
  | .flt b, u => ∃ t, u = Value.float b t
  | .ref a, u => u = Value.ref a
  | .ty n, u => u = Value.type n

abbrev Vals : List V → List Value → Prop := Paired RelV
theorem Vals.length {xs : List V} {us : List Value} (r : Vals xs us) : xs.length = us.length := Paired.length r
theorem Vals.get : ∀ {xs : List V} {us : List Value} {i : Nat} {x : V}, Vals xs us → xs[i]? = some x → ∃ u, us[i]? = some u ∧ RelV x u
  | _, _, _, _, .nil, e => by simp at e
  | _, _, 0, _, .cons r _, e => by simp at e; subst e; exact ⟨_, rfl, r⟩
  | _, _, i + 1, x, .cons _ t, e => by
    obtain ⟨u, h1, h2⟩ := Vals.get (i := i) (x := x) t (by simpa using e)
    exact ⟨u, by simpa using h1, h2⟩
theorem Vals.set {x : V} {u : Value} (r : RelV x u) : ∀ {xs : List V} {us : List Value} (i : Nat), Vals xs us → Vals (xs.set i x) (us.set i u)
  | _, _, _, .nil => .nil
  | _, _, 0, .cons _ t => .cons r t
  | _, _, i + 1, .cons q t => .cons q (Vals.set r i t)
theorem Vals.append : ∀ {xs ys : List V} {us ws : List Value}, Vals xs us → Vals ys ws → Vals (xs ++ ys) (us ++ ws)
  | _, _, _, _, .nil, s => s
  | _, _, _, _, .cons r t, s => .cons r (Vals.append t s)
theorem Vals.take : ∀ {xs : List V} {us : List Value} (n : Nat), Vals xs us → Vals (xs.take n) (us.take n)
  | _, _, 0, _ => .nil
  | _, _, _ + 1, .nil => .nil
  | _, _, n + 1, .cons r t => .cons r (Vals.take n t)
theorem Vals.drop : ∀ {xs : List V} {us : List Value} (n : Nat), Vals xs us → Vals (xs.drop n) (us.drop n)
  | _, _, 0, r => r
  | _, _, _ + 1, .nil => .nil
  | _, _, n + 1, .cons _ t => Vals.drop n t
def RelO : Option V → Option Value → Prop
  | some v, some u => RelV v u
  | none, none => True
  | _, _ => False
def KV {κ : Type} : List (κ × V) → List (κ × Value) → Prop := Paired fun (p : κ × V) (q : κ × Value) => p.1 = q.1 ∧ RelV p.2 q.2

def kV : Key → V
  | .inl i => .int i
  | .inr x => .str x

inductive HO where
  /-- a list -/
  | lst (xs : List V)
  /-- a tuple (never changes) -/
  | tup (xs : List V)
  /-- a dict whose keys are ints and texts; one whose keys are tuples of ints and texts (the empty one is both) -/
  | dK (kvs : List (Key × V)) | dT (kvs : List (List Key × V))
  /-- a set of ints: its members, its size -/
  | set (S : Int → Bool) (n : Nat)
  /-- an instance of the class at C, its dict at dx, its attributes -/
  | ins (C dx : Addr) (fs : List (Str × V))
  /-- the dict of the instance at x -/
  | own (x : Addr)
  /-- the dict of an exception -/
  | xd (fs : List (Str × V))
  /-- a bound method, f of x -/
  | met (f x : Addr)
  /-- a range object lo, lo + 1, .. below hi -/
  | rng (lo hi : Int)
  /-- a thing that is known to the object (the script; a dict while a loop walks it): read, never written while it is so -/
  | frz (o : Obj) (u : HO)
  /-- a code object's table -/
  | tbl (ps : Array Value)
  /-- any other thing, by what is true of its one object (a def of one's own: SetO a S n := HO.ext fun h => ..) -/
  | ext (φ : Heap → Prop)

abbrev HO.cod (ln col : Int) (q : Str) : HO := .tbl #[rawInt ln, rawInt col, .str q 0]
abbrev Hp := Addr → Option HO
def upd (H : Hp) (a : Addr) (o : HO) : Hp := fun b => if b = a then some o else H b
theorem upd_same {H : Hp} {a : Addr} {o : HO} : upd H a o a = some o := by unfold upd; rw [if_pos rfl]
theorem upd_ne {H : Hp} {a b : Addr} {o : HO} (h : b ≠ a) : upd H a o b = H b := by unfold upd; rw [if_neg h]
theorem ne_of_none {H : Hp} {a b : Addr} {o : HO} (h : H a = some o) (h' : H b = none) : a ≠ b := by
  intro e; subst e; rw [h] at h'; cases h'

section
variable (P : Program) (w : World)
def ObjOk (H : Hp) (h : Heap) (a : Addr) : HO → Prop
  | .lst xs => xs.length ≤ sizeLine ∧ ∃ (its : List Value) (n : Nat), Vals xs its ∧ h.get? a = some { cls := .type "list", data := .seq its.toArray n }
  | .tup xs => xs.length ≤ sizeLine ∧ ∃ its : List Value, Vals xs its ∧ IsTup h a its.toArray
  | .dK kvs => kvs.length ≤ sizeLine ∧ (a == sysModules) = false ∧ ∃ vs, KV kvs vs ∧ h.DictOf (mixKind P w) a vs
  | .dT kvs => kvs.length ≤ sizeLine ∧ (a == sysModules) = false ∧ ∃ xs : List (List Key × Addr × Value),
      Paired (fun (p : List Key × V) (q : List Key × Addr × Value) => p.1 = q.1 ∧ H q.2.1 = some (.tup (p.1.map kV)) ∧ RelV p.2 q.2.2) kvs xs ∧
      ∃ o es ep, h.get? a = some o ∧ o.ExactDict ∧ o.data = .dict es ep ∧ es.toList = xs.map (entryOfKey (tupleKind (mixKind P w))) ∧ (xs.map (·.1)).Nodup
  | .set S n => h.SetOf (intKind P w) a S n
  | .ins C dx fs => H dx = some (.own a) ∧ fs.length ≤ 1000 ∧ dx ≠ a ∧ h.get? a = some (PySem.W.instObj C dx) ∧
      ∃ mA, h.Ns1 dx mA ∧ (∀ f, RelO (fs.lookup f) (mA f)) ∧ PySem.Within mA (fs.map (·.1))
  | .own _ => ∃ o, h.get? a = some o
  | .xd fs => ∃ mA, h.Ns1 a mA ∧ ∀ f, RelO (fs.lookup f) (mA f)
  | .rng lo hi => ∃ t u v, h.get? a = some { cls := .type "range", data := .fields #[.int lo t, .int hi u, .int 1 v] }
  | .frz o u => h.get? a = some o ∧ ObjOk H h a u
  | .tbl d => ∃ ps : Array Value, h.get? a = some { cls := .none, data := .fields ps } ∧ (ps = #[] ∨ ∃ (ln col : Int) (q : Str) (u : Tok) (c : Addr) (oc : Obj) (vs : Array Value) (t : Tok), d = #[rawInt ln, rawInt col, .str q u] ∧ ps = #[rawInt ln, rawInt col, .ref c] ∧ H c = some (.frz oc (.own c)) ∧ oc.data = .fields vs ∧ vs[1]? = some (.str q t))
  | .met f x => h.get? a = some (PySem.W.methodObj (.ref f) (.ref x))
  | .ext φ => φ h ∧ (∃ o, h.get? a = some o) ∧ ∀ h1 h2 : Heap, φ h1 → (∀ o, h1.get? a = some o → h2.get? a = some o) → φ h2
def HOk (H : Hp) (h : Heap) : Prop := ∀ a o, H a = some o → ObjOk P w H h a o
end

section
variable {P : Program} {w : World} {H H' : Hp} {h h' : Heap} {a : Addr} {o : HO}
theorem ObjOk.lt (x : ObjOk P w H h a o) : a < h.objs.size := by
  cases o with
  | lst xs => obtain ⟨_, _, _, _, e⟩ := x; exact Heap.lt_size e
  | tup xs => obtain ⟨_, _, _, p⟩ := x; exact p.lt
  | dK kvs => obtain ⟨_, _, _, _, o, _, _, e, _⟩ := x; exact Heap.lt_size e
  | dT kvs => obtain ⟨_, _, _, _, o, _, _, e, _⟩ := x; exact Heap.lt_size e
  | set S n => obtain ⟨o, _, _, _, e, _⟩ := x; exact Heap.lt_size e
  | ins C dx fs => obtain ⟨_, _, _, e, _⟩ := x; exact Heap.lt_size e
  | own y => obtain ⟨_, e⟩ := x; exact Heap.lt_size e
  | xd fs => obtain ⟨_, ⟨_, _, _, e, _⟩, _⟩ := x; exact Heap.lt_size e
  | rng lo hi => obtain ⟨_, _, _, e⟩ := x; exact Heap.lt_size e
  | frz ob u => obtain ⟨e, _⟩ := x; exact Heap.lt_size e
  | tbl ps => obtain ⟨_, e, _⟩ := x; exact Heap.lt_size e
  | met f y => exact Heap.lt_size (show h.get? a = some _ from x)
  | ext φ => obtain ⟨_, ⟨_, e⟩, _⟩ := x; exact Heap.lt_size e
theorem Paired.mapP {α β : Type} {F G : α → β → Prop} : ∀ {l₁ : List α} {l₂ : List β}, Paired F l₁ l₂ → (∀ a b, F a b → G a b) → Paired G l₁ l₂
  | _, _, .nil, _ => .nil
  | _, _, .cons r t, f => .cons (f _ _ r) (Paired.mapP t f)
theorem ObjOk.stay (x : ObjOk P w H h a o) (k : ∀ b u, (b = a ∨ H b = some (.own a)) → h.get? b = some u → h'.get? b = some u)
    (hz : ∀ b ob u, H b = some (.frz ob u) → H' b = some (.frz ob u))
    (ho : ∀ b, H b = some (.own a) → H' b = some (.own a)) (ht : ∀ b xs, H b = some (.tup xs) → H' b = some (.tup xs)) : ObjOk P w H' h' a o := by
  induction o with
  | lst xs => obtain ⟨z, its, n, r, e⟩ := x; exact ⟨z, its, n, r, k _ _ (.inl rfl) e⟩
  | tup xs => obtain ⟨z, its, r, ob, e, c⟩ := x; exact ⟨z, its, r, ob, k _ _ (.inl rfl) e, c⟩
  | dK kvs => obtain ⟨z, y, vs, r, ob, es, ep, e, c⟩ := x; exact ⟨z, y, vs, r, ob, es, ep, k _ _ (.inl rfl) e, c⟩
  | dT kvs =>
    obtain ⟨z, y, xs, r, ob, es, ep, e, c⟩ := x
    exact ⟨z, y, xs, Paired.mapP r fun p q z => ⟨z.1, ht _ _ z.2.1, z.2.2⟩, ob, es, ep, k _ _ (.inl rfl) e, c⟩
  | set S n => obtain ⟨ob, es, ep, t, e, c⟩ := x; exact ⟨ob, es, ep, t, k _ _ (.inl rfl) e, c⟩
  | ins C dx fs =>
    obtain ⟨d, z, ne, e, mA, ⟨od, es, ep, e2, c⟩, r⟩ := x
    exact ⟨ho _ d, z, ne, k _ _ (.inl rfl) e, mA, ⟨od, es, ep, k _ _ (.inr d) e2, c⟩, r⟩
  | own y => obtain ⟨ob, e⟩ := x; exact ⟨ob, k _ _ (.inl rfl) e⟩
  | xd fs => obtain ⟨mA, ⟨od, es, ep, e, c⟩, r⟩ := x; exact ⟨mA, ⟨od, es, ep, k _ _ (.inl rfl) e, c⟩, r⟩
  | rng lo hi => obtain ⟨t, u, v, e⟩ := x; exact ⟨t, u, v, k _ _ (.inl rfl) e⟩
  | frz ob u ih => obtain ⟨e, q⟩ := x; exact ⟨k _ _ (.inl rfl) e, ih q⟩
  | tbl d =>
    obtain ⟨ps, e, r⟩ := x
    refine ⟨ps, k _ _ (.inl rfl) e, ?_⟩
    rcases r with r | ⟨ln, col, q, u, c, oc, vs, t, r0, r1, r2, r3⟩
    · exact .inl r
    · exact .inr ⟨ln, col, q, u, c, oc, vs, t, r0, r1, hz _ _ _ r2, r3⟩
  | met f y =>
    have e : h.get? a = some (PySem.W.methodObj (.ref f) (.ref y)) := x
    show h'.get? a = some (PySem.W.methodObj (.ref f) (.ref y))
    exact k a _ (.inl rfl) e
  | ext φ => obtain ⟨p, ⟨o, e⟩, st⟩ := x; exact ⟨st _ _ p fun o q => k _ _ (.inl rfl) q, ⟨o, k _ _ (.inl rfl) e⟩, st⟩
theorem HOk.lt (x : HOk P w H h) (e : H a = some o) : a < h.objs.size := (x a o e).lt
theorem HOk.fresh (x : HOk P w H h) (e : h.objs.size ≤ a) : H a = none := by
  cases q : H a with
  | none => rfl
  | some u => exact absurd (Nat.lt_of_lt_of_le (x.lt q) e) (Nat.lt_irrefl _)
theorem HOk.kept (x : HOk P w H h) (k : ∀ b u, h.get? b = some u → h'.get? b = some u) : HOk P w H h' := fun a o e =>
  (x a o e).stay (fun b u _ q => k b u q) (fun _ _ _ q => q) (fun _ q => q) fun _ _ q => q
theorem HOk.laid (x : HOk P w H h) (k : ∀ b u, h.get? b = some u → h'.get? b = some u) (hp : h.objs.size ≤ a) (new : ObjOk P w (upd H a o) h' a o) : HOk P w (upd H a o) h' := fun b u e => by
  have hn := x.fresh hp
  by_cases hb : b = a
  · subst hb; rw [upd_same] at e; cases e; exact new
  · rw [upd_ne hb] at e
    exact (x b u e).stay (fun c v _ q => k c v q) (fun c _ _ q => by rw [upd_ne (ne_of_none q hn)]; exact q) (fun c q => by rw [upd_ne (ne_of_none q hn)]; exact q) fun c xs q => by rw [upd_ne (ne_of_none q hn)]; exact q
end

def Rd (H : Hp) (a : Addr) (u : HO) : Prop := H a = some u ∨ ∃ o, H a = some (.frz o u)
theorem Rd.ok {P : Program} {w : World} {H : Hp} {h : Heap} {a : Addr} {u : HO} (r : Rd H a u) (x : HOk P w H h) : ObjOk P w H h a u := by
  rcases r with r | ⟨o, r⟩
  · exact x a u r
  · obtain ⟨_, q⟩ := x a _ r
    exact q
def Mut : Option HO → Prop
  | some (.lst _) => True
  | some (.dK _) => True
  | some (.dT _) => True
  | some (.set _ _) => True
  | some (.ins _ _ _) => True
  | some (.ext _) => True
  | _ => False
section
variable {P : Program} {w : World} {H : Hp} {h h' : Heap} {x e : Addr} {o' : HO}
theorem HOk.write (ok : HOk P w H h) (mu : Mut (H x)) (he : e = x ∨ H e = some (.own x)) (k : ∀ b u, b ≠ e → h.get? b = some u → h'.get? b = some u) (heo : ∃ u, h'.get? e = some u)
    (new : ObjOk P w (upd H x o') h' x o') : HOk P w (upd H x o') h' := fun b u q => by
  have nown : ∀ c y, H c = some (.own y) → c ≠ x := fun c y r z => by subst z; rw [r] at mu; exact mu
  have nfrz : ∀ c ob u, H c = some (.frz ob u) → c ≠ x := fun c ob u r z => by subst z; rw [r] at mu; exact mu
  have ntup : ∀ c xs, H c = some (.tup xs) → c ≠ x := fun c xs r z => by subst z; rw [r] at mu; exact mu
  by_cases hb : b = x
  · subst hb; rw [upd_same] at q; cases q; exact new
  · rw [upd_ne hb] at q
    by_cases hbe : b = e
    · have q' : H b = some (.own x) := by
        rcases he with z | z
        · exact absurd (hbe.trans z) hb
        · rw [hbe]; exact z
      rw [q] at q'; cases q'
      obtain ⟨v, hv⟩ := heo
      exact ⟨v, by rw [hbe]; exact hv⟩
    · refine (ok b u q).stay (fun c v hc r => k c v ?_ r) (fun c _ _ r => by rw [upd_ne (nfrz c _ _ r)]; exact r) (fun c r => by rw [upd_ne (nown c b r)]; exact r) fun c xs r => by rw [upd_ne (ntup c xs r)]; exact r
      rcases hc with rfl | hc
      · exact hbe
      · rintro rfl
        rcases he with z | z
        · exact nown c b hc z
        · rw [hc] at z; cases z; exact hb rfl
end

structure Un (fs ex : List Addr) (H H' : Hp) (h h' : Heap) : Prop where
  keep : ∀ b o, h.get? b = some o → H b = none → b ∉ fs → b ∉ ex → h'.get? b = some o
  slot : ∀ b o, h.get? b = some o → H b = none → b ∈ fs → b ∉ ex → ∃ sl, h'.get? b = some { o with slots := sl }
  free : ∀ b o, h.get? b = some o → H b = none → b ∉ ex → H' b = none
  there : ∀ b o, h.get? b = some o → b ∉ ex → ∃ o', h'.get? b = some o'
  tups : ∀ b xs, H b = some (.tup xs) → H' b = some (.tup xs)
  frzs : ∀ b o u, H b = some (.frz o u) → H' b = some (.frz o u)
  tbls : ∀ b ps, H b = some (.tbl ps) → ∃ more, H' b = some (.tbl (ps ++ more))
section
variable {fs fs' ex ex' : List Addr} {H H1 H2 : Hp} {h h1 h2 h' : Heap} {a x e : Addr} {o : HO}
theorem Un.any (u : Un fs ex H H1 h h1) {b : Addr} {ob : Obj} (q : h.get? b = some ob) (n : H b = none) (hx : b ∉ ex) : ∃ sl, h1.get? b = some { ob with slots := sl } := by
  by_cases hb : b ∈ fs
  · exact u.slot b ob q n hb hx
  · exact ⟨ob.slots, u.keep b ob q n hb hx⟩
theorem Un.kept (k : ∀ b u, h.get? b = some u → h'.get? b = some u) : Un fs ex H H h h' :=
  ⟨fun b ob q _ _ _ => k b ob q, fun b ob q _ _ _ => ⟨ob.slots, k b ob q⟩, fun _ _ _ n _ => n, fun b ob q _ => ⟨ob, k b ob q⟩, fun _ _ q => q, fun _ _ _ q => q, fun _ ps q => ⟨#[], by rw [q]; simp⟩⟩
theorem Un.refl : Un fs ex H H h h := Un.kept fun _ _ q => q
theorem Un.laid (k : ∀ b u, h.get? b = some u → h'.get? b = some u) (hp : h.objs.size ≤ a) (hn : H a = none) : Un fs ex H (upd H a o) h h' where
  keep := fun b u q _ _ _ => k b u q
  slot := fun b u q _ _ _ => ⟨u.slots, k b u q⟩
  free := fun b u q n _ => by rw [upd_ne (Nat.ne_of_lt (Nat.lt_of_lt_of_le (Heap.lt_size q) hp))]; exact n
  there := fun b u q _ => ⟨u, k b u q⟩
  tups := fun b xs q => by rw [upd_ne (ne_of_none q hn)]; exact q
  frzs := fun b u xs q => by rw [upd_ne (ne_of_none q hn)]; exact q
  tbls := fun b ps q => ⟨#[], by rw [upd_ne (ne_of_none q hn), q]; simp⟩
theorem Un.write (mu : Mut (H x)) (he : e = x ∨ H e = some (.own x)) (k : ∀ b u, b ≠ e → h.get? b = some u → h'.get? b = some u) (heo : ∃ u, h'.get? e = some u) : Un fs ex H (upd H x o) h h' := by
  have hx : ∀ b, H b = none → b ≠ x := fun b n z => by subst z; rw [n] at mu; exact mu
  have hb : ∀ b, H b = none → b ≠ e := fun b n z => by
    subst z
    rcases he with r | r
    · exact hx b n r
    · rw [n] at r; cases r
  have hm : ∀ b u, H b = some u → ¬ Mut (some u) → b ≠ x := fun b u q nm z => by subst z; rw [q] at mu; exact nm mu
  refine ⟨fun b u q n _ _ => k b u (hb b n) q, fun b u q n _ _ => ⟨u.slots, k b u (hb b n) q⟩, fun b u q n _ => by rw [upd_ne (hx b n)]; exact n, fun b u q _ => ?_,
    fun b xs q => by rw [upd_ne (hm b _ q fun z => z)]; exact q, fun b u xs q => by rw [upd_ne (hm b _ q fun z => z)]; exact q, fun b ps q => ⟨#[], by rw [upd_ne (hm b _ q fun z => z), q]; simp⟩⟩
  by_cases hbe : b = e
  · subst hbe; exact heo
  · exact ⟨u, k b u hbe q⟩
end

def trk (h : Heap) (H : Hp) : List Addr := (List.range h.objs.size).filter fun a => (H a).isSome
def hidT (h : Heap) (H : Hp) : Heap := PySem.W.hideAll h (trk h H)
theorem hidT_size (h : Heap) (H : Hp) : (hidT h H).objs.size = h.objs.size := PySem.W.hideAll_size _ _
theorem hidT_get {h : Heap} {H : Hp} {b : Addr} {o : Obj} (e : h.get? b = some o) (n : H b = none) : (hidT h H).get? b = some o :=
  PySem.W.hideAll_get _ e fun hm => by
    have q : (H b).isSome = true := (List.mem_filter.mp hm).2
    rw [n] at q; simp at q
theorem of_hidT {h : Heap} {H : Hp} {b : Addr} {o : Obj} (e : (hidT h H).get? b = some o) : h.get? b = some o ∧ H b = none := by
  have e' : h.get? b = some o := PySem.W.of_hideAll (trk h H) e
  refine ⟨e', ?_⟩
  cases q : H b with
  | none => rfl
  | some x =>
    have hm : b ∈ trk h H := List.mem_filter.mpr ⟨List.mem_range.mpr (Heap.lt_size e'), by simp [q]⟩
    have z : (hidT h H).get? b = none := PySem.W.hideAll_none (trk h H) hm
    rw [z] at e; cases e

def allNews (g h : Heap) (L : Addr) : List (Addr × Obj) := (List.range h.objs.size).filterMap fun a => if a = L ∨ (g.get? a).isSome = true then none else (h.get? a).map fun o => (a, o)
def rest (g h : Heap) (L d : Addr) : List (Addr × Obj) := (allNews g h L).filter fun p => decide (p.1 ≠ d)
end L2

namespace L2
open PySem PySem.Spec PyProof.Rows

structure Mod (K : PySem.W.Frag) (mg : Str → Option Value) (base : Heap) : Prop where
  kin : K.In base
  glob : base.Ns mainGlobals mg
  blt : ∃ mb, base.Ns builtinsNs mb ∧ ∀ x : Str, x ≠ "__name__" → mb x = bootBuiltins x
  nolimit : base.NoLimit

structure Cx where
  prog : Program
  w : World
  K : PySem.W.Frag
  mg : Str → Option Value
  base : Heap
  A : Around
  N : List Str
  s₀ : Shared
  H₀ : Hp
  env : Env
  outer : List Env
  stack : List Env
  ex : List Addr
  fn : Str → Bool
  calm : Bool
  pn : List (Addr × Obj)
  xe : Value → Shared → Prop
def frs (l : List Env) : List Addr := l.filterMap (·.frame)
abbrev Cx.fs (X : Cx) : List Addr := frs X.outer

def Vis (sc : Scope) (x : Str) : Prop := sc.names.lookup x = some .local ∨ sc.names.lookup x = some .cell ∨ sc.names.lookup x = some .free
def Loc (sc : Scope) (x : Str) : Prop := sc.names.lookup x = some .local ∨ sc.names.lookup x = some .cell
def Look (env : Env) (h : Heap) (m : Str → Option Value) (x : Str) (u : Value) : Prop :=
  (env.kindOf x = some .local ∧ m x = some u) ∨ ((env.kindOf x = some .cell ∨ env.kindOf x = some .free) ∧ ∃ c, env.cells.lookup x = some c ∧ h.IsCell c (some u))

structure Cx.Ok (X : Cx) : Prop where
  mod : Mod X.K X.mg X.base
  kind : X.env.scope.kind = .function
  glob : X.env.globals = mainGlobals
  blt : X.env.builtins = builtinsNs
  above : X.s₀.heap.objs.size ≤ X.env.locals
  inj : ∀ x y c, X.env.cells.lookup x = some c → X.env.cells.lookup y = some c → x = y
  has : ∀ x, (X.env.kindOf x = some .cell ∨ X.env.kindOf x = some .free) → ∃ c, X.env.cells.lookup x = some c
  cab : ∀ x c, X.fn x = true → X.env.cells.lookup x = some c → X.s₀.heap.objs.size ≤ c
  hd : X.calm = true → X.A.handled = none
  frames : X.A.frames = some X.stack
  stk : X.stack = X.outer ∨ (X.stack = X.env :: X.outer ∧ X.env.frame = some X.env.locals)
  exf : ∀ b ∈ X.ex, b ≠ X.env.locals ∧ ∀ x c, X.env.cells.lookup x = some c → c ≠ b
  bs : ∀ b o, X.base.get? b = some o → X.s₀.heap.get? b = some o ∧ X.H₀ b = none
  bsz : X.base.objs.size ≤ X.s₀.heap.objs.size
  noex : ∀ b o, X.base.get? b = some o → b ∉ X.ex
  exfs : ∀ b ∈ X.ex, b ∉ X.fs
  funs : X.s₀.heap.FunFrames X.base X.outer
  frf : ∀ b ∈ X.fs, X.H₀ b = none

structure Inv (X : Cx) (pins : List (Addr × Obj)) (σ : List (Option V)) (H : Hp) (s : Shared) : Prop where
  ok : X.Ok
  os : s.os = X.s₀.os
  bare : AllBare s.gens
  base : Un X.fs X.ex X.H₀ H X.s₀.heap s.heap
  loc : ∃ m, s.heap.Ns X.env.locals m ∧ ∀ (i : Nat) (x : Str) (v : V), X.N[i]? = some x → σ[i]? = some (some v) → Vis X.env.scope x → ∃ u, RelV v u ∧ Look X.env s.heap m x u
  cell : ∀ x c, X.env.cells.lookup x = some c → ∃ v, s.heap.IsCell c v
  free : H X.env.locals = none
  freeC : ∀ x c, X.env.cells.lookup x = some c → H c = none
  pin : ∀ p ∈ X.pn ++ pins, s.heap.get? p.1 = some p.2 ∧ H p.1 = none ∧ p.1 ≠ X.env.locals ∧ p.1 ∉ X.fs ∧ ∀ v, p.2.data ≠ .cell v
  hok : HOk X.prog X.w H s.heap
  len : σ.length = X.N.length

section
variable {X : Cx} {pins : List (Addr × Obj)} {σ : List (Option V)} {H H' : Hp} {s : Shared} {h' : Heap}

theorem Cx.Ok.nofr (ok : X.Ok) {b : Addr} {o : Obj} (e : X.base.get? b = some o) : b ∉ X.fs := fun hb => by
  have := (ok.funs.mem hb).1
  rw [e] at this; cases this
theorem Inv.bs (I : Inv X pins σ H s) : ∀ b o, X.base.get? b = some o → s.heap.get? b = some o ∧ H b = none := fun b o e =>
  ⟨I.base.keep b o (I.ok.bs b o e).1 (I.ok.bs b o e).2 (I.ok.nofr e) (I.ok.noex b o e), I.base.free b o (I.ok.bs b o e).1 (I.ok.bs b o e).2 (I.ok.noex b o e)⟩
theorem Inv.bk (I : Inv X pins σ H s) : ∀ b o, X.base.get? b = some o → s.heap.get? b = some o := fun b o e => (I.bs b o e).1
theorem Inv.mod (I : Inv X pins σ H s) : Mod X.K X.mg X.base := I.ok.mod
theorem Inv.kIn (I : Inv X pins σ H s) : X.K.In s.heap := I.ok.mod.kin.keeps I.bk
theorem Inv.nolimit (I : Inv X pins σ H s) : s.heap.NoLimit := I.ok.mod.nolimit.keeps I.bk
theorem Inv.lt (I : Inv X pins σ H s) : X.env.locals < s.heap.objs.size := let ⟨_, hn, _⟩ := I.loc; hn.lt
theorem Inv.sz (I : Inv X pins σ H s) : X.s₀.heap.objs.size ≤ s.heap.objs.size := Nat.le_trans I.ok.above (Nat.le_of_lt I.lt)
theorem Inv.nofs (I : Inv X pins σ H s) {a : Addr} (h : s.heap.objs.size ≤ a) : a ∉ X.fs := fun hb => by
  obtain ⟨_, o, ho, _⟩ := I.ok.funs.mem hb
  exact absurd (Nat.lt_of_lt_of_le (Heap.lt_size ho) (Nat.le_trans I.sz h)) (Nat.lt_irrefl _)
theorem Inv.cne (I : Inv X pins σ H s) : ∀ x c, X.env.cells.lookup x = some c → c ≠ X.env.locals := fun x c e z => by
  obtain ⟨v, o, ho, hd⟩ := I.cell x c e
  obtain ⟨m, ⟨o', es, ep, ho', hd', _⟩, _⟩ := I.loc
  rw [z, ho'] at ho; cases ho; rw [hd'] at hd; cases hd
theorem Inv.funs (I : Inv X pins σ H s) : s.heap.FunFrames X.base X.outer := by
  have all : ∀ (l : List Env), (∀ b ∈ frs l, b ∈ X.fs) → X.s₀.heap.FunFrames X.base l → s.heap.FunFrames X.base l := by
    intro l
    induction l with
    | nil => intro _ _; trivial
    | cons env r ih =>
      intro hs hl
      obtain ⟨hk, ⟨L, o, hf, hn, ho, hd⟩, hr⟩ := hl
      have hL : L ∈ X.fs := hs L (by unfold frs; rw [List.filterMap_cons, hf]; exact List.mem_cons_self)
      obtain ⟨sl, e⟩ := I.base.slot L o ho (I.ok.frf L hL) hL fun z => I.ok.exfs L z hL
      exact ⟨hk, ⟨L, _, hf, hn, e, hd⟩, ih (fun b hb => hs b (by unfold frs; rw [List.filterMap_cons, hf]; exact List.mem_cons_of_mem _ hb)) hr⟩
  exact all X.outer (fun _ hb => hb) I.ok.funs

theorem Inv.stack (I : Inv X pins σ H s) : s.heap.FunFrames X.base X.stack := by
  rcases I.ok.stk with e | ⟨e, hf⟩
  · rw [e]; exact I.funs
  · rw [e]
    obtain ⟨m, hn, _⟩ := I.loc
    refine .cons (by rw [I.ok.kind]; decide) hf hn ?_ I.funs
    exact Heap.get?_none_of_le (Nat.le_trans I.ok.bsz I.ok.above)
theorem Inv.stkSub (I : Inv X pins σ H s) : ∀ b ∈ frs X.stack, b ∈ X.env.locals :: X.fs := fun b hb => by
  rcases I.ok.stk with e | ⟨e, hf⟩
  · rw [e] at hb; exact List.mem_cons_of_mem _ hb
  · rw [e] at hb
    unfold frs at hb
    rw [List.filterMap_cons, hf] at hb
    exact hb
theorem Inv.stkFree (I : Inv X pins σ H s) : ∀ b ∈ frs X.stack, H b = none := fun b hb => by
  rcases List.mem_cons.mp (I.stkSub b hb) with e | hb
  · rw [e]; exact I.free
  · obtain ⟨_, o, ho, _⟩ := I.ok.funs.mem hb
    exact I.base.free b o ho (I.ok.frf b hb) fun z => I.ok.exfs b z hb

theorem Inv.step {g' : Array GenState} {t' : Nat} {d' : Drawn} {ch : List Addr} (I : Inv X pins σ H s)
    (hch : ∀ b ∈ ch, (b ∈ X.ex ∨ X.s₀.heap.objs.size ≤ b) ∧ b ≠ X.env.locals ∧ (∀ x c, X.env.cells.lookup x = some c → c ≠ b) ∧ ∀ p ∈ X.pn ++ pins, p.1 ≠ b)
    (keep : ∀ b o, b ≠ X.env.locals → b ∉ X.fs → b ∉ ch → s.heap.get? b = some o → H b = none → h'.get? b = some o)
    (slot : ∀ b o, b ≠ X.env.locals → b ∈ X.fs → b ∉ ch → s.heap.get? b = some o → H b = none → ∃ sl, h'.get? b = some { o with slots := sl }) (free : ∀ b o, b ∉ ch → s.heap.get? b = some o → H b = none → H' b = none)
    (there : ∀ b o, b ∉ ch → s.heap.get? b = some o → ∃ o', h'.get? b = some o')
    (tups : ∀ b xs, H b = some (.tup xs) → H' b = some (.tup xs)) (frzs : ∀ b o u, H b = some (.frz o u) → H' b = some (.frz o u)) (tbls : ∀ b ps, H b = some (.tbl ps) → ∃ more, H' b = some (.tbl (ps ++ more)))
    (ns : ∀ m, s.heap.Ns X.env.locals m → h'.Ns X.env.locals m) (hok : HOk X.prog X.w H' h') (hg : AllBare g') :
    Inv X pins σ H' { s with heap := h', gens := g', drawn := d', toks := t' } := by
  have neL : ∀ b o, X.s₀.heap.get? b = some o → b ≠ X.env.locals := fun b o e => Nat.ne_of_lt (Nat.lt_of_lt_of_le (Heap.lt_size e) I.ok.above)
  have neC : ∀ b o, X.s₀.heap.get? b = some o → b ∉ X.ex → b ∉ ch := fun b o e hx hb => by
    rcases (hch b hb).1 with z | z
    · exact hx z
    · exact absurd (Nat.lt_of_lt_of_le (Heap.lt_size e) z) (Nat.lt_irrefl _)
  have cellK : ∀ x c, X.env.cells.lookup x = some c → ∀ v, s.heap.IsCell c v → h'.IsCell c v := fun x c e v ⟨o, ho, hd⟩ => by
    have nch : c ∉ ch := fun z => (hch c z).2.2.1 x c e rfl
    by_cases hc : c ∈ X.fs
    · obtain ⟨sl, q⟩ := slot c o (I.cne x c e) hc nch ho (I.freeC x c e)
      exact ⟨_, q, hd⟩
    · exact ⟨o, keep c o (I.cne x c e) hc nch ho (I.freeC x c e), hd⟩
  refine ⟨I.ok, I.os, hg, ⟨fun b o e n hb hx => ?_, fun b o e n hb hx => ?_, fun b o e n hx => ?_, fun b o e hx => ?_, fun b xs e => tups b xs (I.base.tups b xs e), fun b o xs e => frzs b o xs (I.base.frzs b o xs e), fun b ps e => ?_⟩, ?_, fun x c e => ?_, ?_, fun x c e => ?_, fun p hp => ?_, hok, I.len⟩
  · exact keep b o (neL b o e) hb (neC b o e hx) (I.base.keep b o e n hb hx) (I.base.free b o e n hx)
  · obtain ⟨sl, e1⟩ := I.base.slot b o e n hb hx
    obtain ⟨sl', e2⟩ := slot b _ (neL b o e) hb (neC b o e hx) e1 (I.base.free b o e n hx)
    exact ⟨sl', e2⟩
  · obtain ⟨o', e1⟩ := I.base.there b o e hx
    exact free b o' (neC b o e hx) e1 (I.base.free b o e n hx)
  · obtain ⟨o', e1⟩ := I.base.there b o e hx
    exact there b o' (neC b o e hx) e1
  · obtain ⟨m1, e1⟩ := I.base.tbls b ps e
    obtain ⟨m2, e2⟩ := tbls b _ e1
    exact ⟨m1 ++ m2, by rw [e2, Array.append_assoc]⟩
  · obtain ⟨m, hn, hl⟩ := I.loc
    refine ⟨m, ns m hn, fun i x v e1 e2 e3 => ?_⟩
    obtain ⟨u, r, l⟩ := hl i x v e1 e2 e3
    refine ⟨u, r, ?_⟩
    rcases l with l | ⟨k, c, e, z⟩
    · exact .inl l
    · exact .inr ⟨k, c, e, cellK x c e _ z⟩
  · obtain ⟨v, z⟩ := I.cell x c e
    exact ⟨v, cellK x c e v z⟩
  · obtain ⟨m, ⟨o, _, _, ho, _⟩, _⟩ := I.loc
    exact free _ o (fun z => (hch _ z).2.1 rfl) ho I.free
  · obtain ⟨v, o, ho, hd⟩ := I.cell x c e
    exact free c o (fun z => (hch c z).2.2.1 x c e rfl) ho (I.freeC x c e)
  · obtain ⟨e, n, ne, nf, d⟩ := I.pin p hp
    have nch : p.1 ∉ ch := fun z => (hch p.1 z).2.2.2 p hp rfl
    exact ⟨keep p.1 p.2 ne nf nch e n, free p.1 p.2 nch e n, ne, nf, d⟩
theorem Inv.un {t' : Nat} (I : Inv X pins σ H s) (u : Un X.fs [] H H' s.heap h') (hok : HOk X.prog X.w H' h') : Inv X pins σ H' { s with heap := h', toks := t' } := by
  obtain ⟨m, ⟨o, es, ep, ho, r⟩, _⟩ := id I.loc
  obtain ⟨sl, hL⟩ := u.any ho I.free (by simp)
  exact I.step (g' := s.gens) (d' := s.drawn) (ch := []) (fun _ z => nomatch z) (fun b o _ hb _ e n => u.keep b o e n hb (by simp)) (fun b o _ hb _ e n => u.slot b o e n hb (by simp)) (fun b o _ e n => u.free b o e n (by simp)) (fun b o _ e => u.there b o e (by simp)) u.tups u.frzs u.tbls (fun m' hm => by
    obtain ⟨o', es', ep', ho', r'⟩ := hm
    rw [ho] at ho'; cases ho'
    exact ⟨_, es', ep', hL, r'⟩) hok I.bare
theorem Inv.call {g' : Array GenState} {t' : Nat} {d' : Drawn} {ch : List Addr} (I : Inv X pins σ H s) (u : Un (frs X.stack) ch H H' s.heap h') (hok : HOk X.prog X.w H' h') (hg : AllBare g')
    (hch : ∀ b ∈ ch, (b ∈ X.ex ∨ X.s₀.heap.objs.size ≤ b) ∧ b ≠ X.env.locals ∧ (∀ x c, X.env.cells.lookup x = some c → c ≠ b) ∧ ∀ p ∈ X.pn ++ pins, p.1 ≠ b) :
    Inv X pins σ H' { s with heap := h', gens := g', drawn := d', toks := t' } := by
  obtain ⟨m, ⟨o, es, ep, ho, r⟩, _⟩ := id I.loc
  obtain ⟨sl, hL⟩ := u.any ho I.free fun z => (hch _ z).2.1 rfl
  exact I.step (ch := ch) hch (fun b o hL hb hc e n => u.keep b o e n (fun z => (List.mem_cons.mp (I.stkSub b z)).elim hL hb) hc) (fun b o _ _ hc e n => u.any e n hc) (fun b o hc e n => u.free b o e n hc) (fun b o hc e => u.there b o e hc) u.tups u.frzs u.tbls (fun m' hm => by
    obtain ⟨o', es', ep', ho', r'⟩ := hm
    rw [ho] at ho'; cases ho'
    exact ⟨_, es', ep', hL, r'⟩) hok hg
theorem Inv.turned {t' : Nat} {it : Addr} (I : Inv X pins σ H s) (k : ∀ b o, b ≠ it → s.heap.get? b = some o → h'.get? b = some o) (hn : H it = none) (hL : it ≠ X.env.locals)
    (h1 : it ∈ X.ex ∨ X.s₀.heap.objs.size ≤ it) (h2 : ∀ x c, X.env.cells.lookup x = some c → c ≠ it) (h3 : ∀ p ∈ X.pn ++ pins, p.1 ≠ it) : Inv X pins σ H { s with heap := h', toks := t' } := by
  have nit : ∀ b u, H b = some u → b ≠ it := fun b u e z => by rw [z, hn] at e; cases e
  refine I.step (g' := s.gens) (d' := s.drawn) (ch := [it]) (fun b hb => ?_) (fun b o _ _ hc e _ => k b o (fun z => hc (by simp [z])) e) (fun b o _ _ hc e _ => ⟨o.slots, k b o (fun z => hc (by simp [z])) e⟩) (fun _ _ _ _ n => n)
    (fun b o hc e => ⟨o, k b o (fun z => hc (by simp [z])) e⟩) (fun _ _ e => e) (fun _ _ _ e => e) (fun b ps e => ⟨#[], by rw [e]; simp⟩) (fun m hm => ?_) (fun b u e => ?_) I.bare
  · have e : b = it := by simpa using hb
    subst e
    exact ⟨h1, hL, h2, h3⟩
  · obtain ⟨o, es, ep, ho, r⟩ := hm
    exact ⟨o, es, ep, k _ o (Ne.symm hL) ho, r⟩
  · refine (I.hok b u e).stay (fun c v hc q => k c v ?_ q) (fun _ _ _ q => q) (fun _ q => q) fun _ _ q => q
    rcases hc with z | z
    · rw [z]; exact nit b u e
    · exact nit c _ z
theorem Inv.tok (I : Inv X pins σ H s) (t : Nat) : Inv X pins σ H { s with toks := t } := I.un (h' := s.heap) (t' := t) Un.refl I.hok
theorem Inv.kept {t' : Nat} (I : Inv X pins σ H s) (k : ∀ b u, s.heap.get? b = some u → h'.get? b = some u) : Inv X pins σ H { s with heap := h', toks := t' } := I.un (Un.kept k) (I.hok.kept k)
theorem Inv.laid {a : Addr} {o : HO} {t' : Nat} (I : Inv X pins σ H s) (k : ∀ b u, s.heap.get? b = some u → h'.get? b = some u) (hp : s.heap.objs.size ≤ a) (new : ObjOk X.prog X.w (upd H a o) h' a o) :
    Inv X pins σ (upd H a o) { s with heap := h', toks := t' } := I.un (Un.laid k hp (I.hok.fresh hp)) (I.hok.laid k hp new)
theorem Inv.write {x e : Addr} {o : HO} {t' : Nat} (I : Inv X pins σ H s) (mu : Mut (H x)) (he : e = x ∨ H e = some (.own x)) (k : ∀ b u, b ≠ e → s.heap.get? b = some u → h'.get? b = some u) (heo : ∃ u, h'.get? e = some u)
    (new : ObjOk X.prog X.w (upd H x o) h' x o) : Inv X pins σ (upd H x o) { s with heap := h', toks := t' } := I.un (Un.write mu he k heo) (I.hok.write mu he k heo new)
theorem Inv.pins_of {pins' : List (Addr × Obj)} (I : Inv X pins σ H s) (h : ∀ p ∈ pins', s.heap.get? p.1 = some p.2 ∧ H p.1 = none ∧ p.1 ≠ X.env.locals ∧ p.1 ∉ X.fs ∧ ∀ v, p.2.data ≠ .cell v) : Inv X pins' σ H s :=
  ⟨I.ok, I.os, I.bare, I.base, I.loc, I.cell, I.free, I.freeC, fun p hp => (List.mem_append.mp hp).elim (fun z => I.pin p (List.mem_append_left _ z)) (h p), I.hok, I.len⟩

theorem nodup_ix {N : List Str} (hN : N.Nodup) {i j : Nat} {x : Str} (a : N[i]? = some x) (b : N[j]? = some x) : i = j := by
  obtain ⟨h1, e1⟩ := List.getElem?_eq_some_iff.mp a
  obtain ⟨h2, e2⟩ := List.getElem?_eq_some_iff.mp b
  exact (List.getElem_inj hN).mp (e1.trans e2.symm)

theorem store_ok2 {M : Model} {A : Around} {E : Value → Shared → Prop} {i : Nat} {x : Str} {v : V} {u : Value} {Q : Unit → Shared → Prop} (I : Inv X pins σ H s) (hN : X.N.Nodup) (hi : X.N[i]? = some x) (hx : Loc X.env.scope x) (r : RelV v u)
    (h : ∀ s', Inv X pins (σ.set i (some v)) H s' → (∃ a, Heap.SameBut a s.heap s'.heap ∧ (a = X.env.locals ∨ X.env.cells.lookup x = some a)) → Q () s') (hf : X.fn x = true ∨ X.env.scope.names.lookup x = some .local := by first | exact .inl rfl | exact .inr rfl | assumption) : wpAny M A (storeName X.env x u) Q E s := by
  obtain ⟨m, hn, hl⟩ := id I.loc
  have hcls : (X.env.scope.kind == .class || (X.env.scope.kind == .module && X.env.locals != X.env.globals)) = false := by rw [I.ok.kind]; rfl
  have hiσ : i < σ.length := by rw [I.len]; exact (List.getElem?_eq_some_iff.mp hi).1
  have cne := I.cne
  have tracked : ∀ {a : Addr} {h' : Heap}, (∃ o, s.heap.get? a = some o ∧ H a = none) → Heap.SameBut a s.heap h' → HOk X.prog X.w H h' := fun {a h'} ha hs b ob e => by
    obtain ⟨_, _, hfree⟩ := ha
    refine (I.hok b ob e).stay (fun c w' hc q => (hs.2 c ?_).trans q) (fun _ _ _ q => q) (fun _ q => q) fun _ _ q => q
    rintro rfl
    rcases hc with rfl | hc
    · rw [hfree] at e; cases e
    · rw [hfree] at hc; cases hc
  rcases hx with hk | hk
  · refine wpAny_storeName_local hk hn (fun h' hn' hs => ?_) hcls
    obtain ⟨oL, _, _, hoL, _⟩ := id hn
    refine h _ ⟨I.ok, I.os, I.bare, ⟨fun b o e n hb hx => ?_, fun b o e n hb hx => ?_, I.base.free, fun b o e hx => ?_, I.base.tups, I.base.frzs, I.base.tbls⟩, ⟨_, hn', fun j y v' e1 e2 e3 => ?_⟩, fun y c e => ?_, I.free, I.freeC, fun p hp => ?_, tracked ⟨oL, hoL, I.free⟩ hs, by simpa using I.len⟩ ⟨_, hs, .inl rfl⟩
    · exact (hs.2 b (Nat.ne_of_lt (Nat.lt_of_lt_of_le (Heap.lt_size e) I.ok.above))).trans (I.base.keep b o e n hb hx)
    · obtain ⟨sl, e1⟩ := I.base.slot b o e n hb hx
      exact ⟨sl, (hs.2 b (Nat.ne_of_lt (Nat.lt_of_lt_of_le (Heap.lt_size e) I.ok.above))).trans e1⟩
    · obtain ⟨o', e1⟩ := I.base.there b o e hx
      exact ⟨o', (hs.2 b (Nat.ne_of_lt (Nat.lt_of_lt_of_le (Heap.lt_size e) I.ok.above))).trans e1⟩
    · by_cases hj : j = i
      · subst hj
        rw [hi] at e1; cases e1
        rw [List.getElem?_set_self hiσ] at e2
        cases e2
        exact ⟨u, r, .inl ⟨hk, by simp⟩⟩
      · rw [List.getElem?_set_ne (Ne.symm hj)] at e2
        obtain ⟨u', r', q⟩ := hl j y v' e1 e2 e3
        refine ⟨u', r', ?_⟩
        rcases q with ⟨k, e⟩ | ⟨k, c, e, z⟩
        · refine .inl ⟨k, ?_⟩
          have : y ≠ x := fun e => hj (nodup_ix hN e1 (e ▸ hi))
          simp [this, e]
        · exact .inr ⟨k, c, e, z.sameBut hs (cne y c e)⟩
    · obtain ⟨w', z⟩ := I.cell y c e
      exact ⟨w', z.sameBut hs (cne y c e)⟩
    · obtain ⟨e, n, ne, nf, d⟩ := I.pin p hp
      exact ⟨(hs.2 p.1 ne).trans e, n, ne, nf, d⟩
  · have hfn : X.fn x = true := by
      rcases hf with z | z
      · exact z
      · rw [z] at hk; cases hk
    obtain ⟨c, hc⟩ := I.ok.has x (.inl hk)
    obtain ⟨w', z⟩ := I.cell x c hc
    refine wpAny_storeName_cell I.ok.kind hk hc z (fun h' hc' hs => ?_)
    obtain ⟨oc, hoc, hocd⟩ := id z
    refine h { s with heap := h' } ⟨I.ok, I.os, I.bare, ⟨fun b o e n hb hx => ?_, fun b o e n hb hx => ?_, I.base.free, fun b o e hx => ?_, I.base.tups, I.base.frzs, I.base.tbls⟩, ⟨m, hn.sameBut hs (Ne.symm (cne x c hc)), fun j y v' e1 e2 e3 => ?_⟩, fun y c' e => ?_, I.free, I.freeC, fun p hp => ?_, tracked ⟨oc, hoc, I.freeC x c hc⟩ hs, by simpa using I.len⟩ ⟨c, hs, .inr hc⟩
    · exact (hs.2 b (Nat.ne_of_lt (Nat.lt_of_lt_of_le (Heap.lt_size e) (I.ok.cab x c hfn hc)))).trans (I.base.keep b o e n hb hx)
    · obtain ⟨sl, e1⟩ := I.base.slot b o e n hb hx
      exact ⟨sl, (hs.2 b (Nat.ne_of_lt (Nat.lt_of_lt_of_le (Heap.lt_size e) (I.ok.cab x c hfn hc)))).trans e1⟩
    · obtain ⟨o', e1⟩ := I.base.there b o e hx
      exact ⟨o', (hs.2 b (Nat.ne_of_lt (Nat.lt_of_lt_of_le (Heap.lt_size e) (I.ok.cab x c hfn hc)))).trans e1⟩
    · by_cases hj : j = i
      · subst hj
        rw [hi] at e1; cases e1
        rw [List.getElem?_set_self hiσ] at e2
        cases e2
        exact ⟨u, r, .inr ⟨.inl hk, c, hc, hc'⟩⟩
      · rw [List.getElem?_set_ne (Ne.symm hj)] at e2
        obtain ⟨u', r', q⟩ := hl j y v' e1 e2 e3
        refine ⟨u', r', ?_⟩
        rcases q with q | ⟨k, c', e, z'⟩
        · exact .inl q
        · refine .inr ⟨k, c', e, z'.sameBut hs ?_⟩
          rintro rfl
          exact hj (nodup_ix hN e1 (I.ok.inj _ _ _ e hc ▸ hi))
    · by_cases hcc : c' = c
      · subst hcc; exact ⟨_, hc'⟩
      · obtain ⟨w2, z2⟩ := I.cell y c' e
        exact ⟨w2, z2.sameBut hs hcc⟩
    · obtain ⟨e, n, ne, nf, d⟩ := I.pin p hp
      refine ⟨(hs.2 p.1 ?_).trans e, n, ne, nf, d⟩
      intro q
      rw [q, hoc] at e
      have q' : oc = p.2 := Option.some.inj e
      exact d w' (by rw [← q']; exact hocd)
theorem store_ok {M : Model} {A : Around} {E : Value → Shared → Prop} {i : Nat} {x : Str} {v : V} {u : Value} {Q : Unit → Shared → Prop} (I : Inv X pins σ H s) (hN : X.N.Nodup) (hi : X.N[i]? = some x) (hx : Loc X.env.scope x) (r : RelV v u)
    (h : ∀ s', Inv X pins (σ.set i (some v)) H s' → Q () s') (hf : X.fn x = true ∨ X.env.scope.names.lookup x = some .local := by first | exact .inl rfl | exact .inr rfl | assumption) : wpAny M A (storeName X.env x u) Q E s :=
  store_ok2 I hN hi hx r (fun s' I' _ => h s' I') hf
theorem Inv.call' {s' : Shared} {ch : List Addr} (I : Inv X pins σ H s) (ho : s'.os = s.os) (u : Un (frs X.stack) ch H H' s.heap s'.heap) (hok : HOk X.prog X.w H' s'.heap) (hg : AllBare s'.gens)
    (hch : ∀ b ∈ ch, (b ∈ X.ex ∨ X.s₀.heap.objs.size ≤ b) ∧ b ≠ X.env.locals ∧ (∀ x c, X.env.cells.lookup x = some c → c ≠ b) ∧ ∀ p ∈ X.pn ++ pins, p.1 ≠ b) : Inv X pins σ H' s' := by
  obtain ⟨h', g', d', t', o'⟩ := s'
  have e : o' = s.os := ho
  subst e
  exact I.call (g' := g') (t' := t') (d' := d') u hok hg hch
end

abbrev XK := Value → Option Addr → Hp → Prop
abbrev St := List (Option V)
abbrev VK := V → Hp → Prop
abbrev TE := St → Hp → VK → Prop
abbrev TT := St → Hp → (Bool → Hp → Prop) → Prop
abbrev TA := St → Hp → (List V → Hp → Prop) → Prop
structure Ends where
  nx : St → Hp → Prop
  rt : VK
  bk : St → Hp → Prop := fun _ _ => False
  ct : St → Hp → Prop := fun _ _ => False
abbrev TS := Ends → St → Hp → Prop

inductive EP (X : Cx) (pins : List (Addr × Obj)) (σ : St) (Q : VK) (u : Value) (s' : Shared) : Prop where
  | mk (v : V) (H' : Hp) (I : Inv X pins σ H' s') (r : RelV v u) (q : Q v H')
inductive TP (X : Cx) (pins : List (Addr × Obj)) (σ : St) (Q : Bool → Hp → Prop) (b : Bool) (s' : Shared) : Prop where
  | mk (H' : Hp) (I : Inv X pins σ H' s') (q : Q b H')
inductive AP (X : Cx) (pins : List (Addr × Obj)) (σ : St) (Q : List V → Hp → Prop) (us : List Value) (s' : Shared) : Prop where
  | mk (vs : List V) (H' : Hp) (I : Inv X pins σ H' s') (r : Vals vs us) (q : Q vs H')
def SP (X : Cx) (pins : List (Addr × Obj)) (D : Ends) (f : Flow) (s' : Shared) : Prop :=
  match f with
  | .next => ∃ σ' H', Inv X pins σ' H' s' ∧ D.nx σ' H'
  | .brk => ∃ σ' H', Inv X pins σ' H' s' ∧ D.bk σ' H'
  | .cont => ∃ σ' H', Inv X pins σ' H' s' ∧ D.ct σ' H'
  | .ret u => ∃ v σ' H', Inv X pins σ' H' s' ∧ RelV v u ∧ D.rt v H'

def PE (X : Cx) (e : Expr) (t : TE) : Prop :=
  ∀ (pins : List (Addr × Obj)) (s : Shared) (σ : St) (H : Hp) (Q : VK), Inv X pins σ H s → t σ H Q → wpAny (model X.prog X.w) X.A (eval e X.env) (EP X pins σ Q) X.xe s
def PT (X : Cx) (e : Expr) (t : TT) : Prop :=
  ∀ (pins : List (Addr × Obj)) (s : Shared) (σ : St) (H : Hp) (Q : Bool → Hp → Prop), Inv X pins σ H s → t σ H Q → wpAny (model X.prog X.w) X.A (isTrue e X.env (eval e X.env)) (TP X pins σ Q) X.xe s
def PW (X : Cx) (e : Expr) (t : TT) : Prop :=
  ∀ (whole : Sem Value) (pins : List (Addr × Obj)) (s : Shared) (σ : St) (H : Hp) (Q : Bool → Hp → Prop), Inv X pins σ H s → t σ H Q → wpAny (model X.prog X.w) X.A (isTrue e X.env whole) (TP X pins σ Q) X.xe s
theorem PW.pt {X : Cx} {e : Expr} {t : TT} (h : PW X e t) : PT X e t := h _
def PA (X : Cx) (es : List Expr) (t : TA) : Prop :=
  ∀ (pos : Pos) (pins : List (Addr × Obj)) (s : Shared) (σ : St) (H : Hp) (Q : List V → Hp → Prop), Inv X pins σ H s → t σ H Q → wpAny (model X.prog X.w) X.A (spliced (backTo pos (starEach es X.env))) (AP X pins σ Q) X.xe s
def PS (X : Cx) (st : Stmt) (t : TS) : Prop :=
  ∀ (pins : List (Addr × Obj)) (s : Shared) (σ : St) (H : Hp) (D : Ends), Inv X pins σ H s → t D σ H → wpAny (model X.prog X.w) X.A (exec st X.env) (SP X pins D) X.xe s
def PSs (X : Cx) (st : List Stmt) (t : TS) : Prop :=
  ∀ (pins : List (Addr × Obj)) (s : Shared) (σ : St) (H : Hp) (D : Ends), Inv X pins σ H s → t D σ H → wpAny (model X.prog X.w) X.A (execs st X.env) (SP X pins D) X.xe s
theorem thn {α : Type} {t : Sem α} {Q Q' : α → Shared → Prop} {M : Model} {A : Around} {E : Value → Shared → Prop} {s : Shared} (h : wpAny M A t Q E s) (hQ : ∀ a s, Q a s → Q' a s) : wpAny M A t Q' E s := wpAny_mono h hQ fun _ _ x => x
end L2

namespace L2
open PySem PySem.Spec PyProof.Rows
section
variable {X : Cx}

inductive IsBl (x : V) (H : Hp) (Q : Bool → Hp → Prop) : Prop where
  | mk (c : Bool) (h : x = .bl c) (q : Q c H)
inductive IsIn (x : V) (H : Hp) (Q : Option Int → Hp → Prop) : Prop where
  | mk (i : Int) (h : x = .int i) (q : Q (some i) H)
inductive NewT (xs : List V) (H : Hp) (Q : VK) : Prop where
  | mk (h : xs.length ≤ sizeLine) (q : ∀ p, H p = none → Q (.ref p) (upd H p (.tup xs)))
inductive NewL (xs : List V) (H : Hp) (Q : VK) : Prop where
  | mk (h : xs.length ≤ sizeLine) (q : ∀ p, H p = none → Q (.ref p) (upd H p (.lst xs)))
inductive tVar (i : Nat) (σ : St) (H : Hp) (Q : VK) : Prop where
  | mk (v : _) (h_0 : σ[i]? = some (some v)) (h_1 : Q v H)
def tC (v : V) : TE := fun _ H Q => Q v H
theorem pe_var {i : Nat} {x : Str} {pos : Pos} (hN : X.N[i]? = some x) (hv : Vis X.env.scope x) (hd : (x == ("__debug__" : Str)) = false := by decide) (hcd : (x == ("__classdict__" : Str)) = false := by decide) : PE X (.Name x pos) (tVar i) := by
  intro pins s σ H Q I h
  obtain ⟨v, e, h⟩ := h
  obtain ⟨m, hn, hl⟩ := I.loc
  obtain ⟨u, r, l⟩ := hl i x v hN e hv
  have fin : EP X pins σ Q u s := ⟨v, H, I, r, h⟩
  rcases l with ⟨hk, hm⟩ | ⟨hk, c, hc, hcell⟩
  · exact wpAny_Name (wpAny_loadName_local I.ok.kind hk hn hm fin) hd
  · rcases hk with hk | hk
    · exact wpAny_Name (wpAny_loadName_cell I.ok.kind hk hc hcell fin) hd
    · exact wpAny_Name (wpAny_loadName_free I.ok.kind hk hc hcell fin hcd) hd
theorem pe_int {i j pos} : PE X (.Constant (.int i) j pos) (tC (.int i)) := fun _ _ _ H _ I h => wpAny_Constant_int ⟨.int i, H, I.tok _, ⟨_, rfl⟩, h⟩
theorem pe_bl {b j pos} : PE X (.Constant (.bool b) j pos) (tC (.bl b)) := fun _ _ _ H _ I h => Constant_bool ⟨.bl b, H, I, rfl, h⟩
theorem pe_non {j pos} : PE X (.Constant .none j pos) (tC .non) := fun _ _ _ H _ I h => Constant_none ⟨.non, H, I, rfl, h⟩
def Gl (X : Cx) (x : Str) : Prop := X.env.kindOf x = some .globalImplicit
theorem ld_glob {E : Value → Shared → Prop} {pins : List (Addr × Obj)} {s : Shared} {σ : St} {H : Hp} {x : Str} {u : Value} {pos : Pos} {Q : Value → Shared → Prop} (I : Inv X pins σ H s) (hg : Gl X x) (hm : X.mg x = some u) (h : Q u s)
    (hd : (x == ("__debug__" : Str)) = false := by decide) : wpAny (model X.prog X.w) X.A (eval (.Name x pos) X.env) Q E s :=
  Calls.Name_function_global I.ok.kind hg (Calls.loadGlobal_global (by rw [I.ok.glob]; exact I.mod.glob.keeps I.bk) hm h) hd
theorem ld_blt {E : Value → Shared → Prop} {pins : List (Addr × Obj)} {s : Shared} {σ : St} {H : Hp} {x : Str} {u : Value} {pos : Pos} {Q : Value → Shared → Prop} (I : Inv X pins σ H s) (hg : Gl X x) (hm : X.mg x = none) (hv : bootBuiltins x = some u) (h : Q u s)
    (hn : x ≠ "__name__" := by decide) (hd : (x == ("__debug__" : Str)) = false := by decide) : wpAny (model X.prog X.w) X.A (eval (.Name x pos) X.env) Q E s := by
  obtain ⟨mb, h1, h2⟩ := I.mod.blt
  exact Calls.Name_function_global I.ok.kind hg (Calls.loadGlobal_builtin (by rw [I.ok.glob]; exact I.mod.glob.keeps I.bk) hm (by rw [I.ok.blt]; exact h1.keeps I.bk) ((h2 x hn).trans hv) h) hd
theorem pe_glob {x : Str} {v : V} {u : Value} {pos : Pos} (hg : Gl X x) (hm : X.mg x = some u) (r : RelV v u) (hd : (x == ("__debug__" : Str)) = false := by decide) : PE X (.Name x pos) (tC v) :=
  fun _ _ _ H _ I h => ld_glob I hg hm ⟨v, H, I, r, h⟩ hd
theorem pe_bltn {x : Str} {v : V} {u : Value} {pos : Pos} (hg : Gl X x) (hm : X.mg x = none) (hv : bootBuiltins x = some u) (r : RelV v u) (hn : x ≠ "__name__" := by decide) (hd : (x == ("__debug__" : Str)) = false := by decide) : PE X (.Name x pos) (tC v) :=
  fun _ _ _ H _ I h => ld_blt I hg hm hv ⟨v, H, I, r, h⟩ hn hd

variable {a b : Expr} {ta tb : TE} {pos : Pos}
def tB (t : TE) : TT := fun σ H Q => t σ H fun x H1 => IsBl x H1 Q
theorem pt_val {e : Expr} {t : TE} (h : PE X e t) (he : ∀ whole, isTrue e X.env whole = (do let v ← whole; standAt e.pos; holding [v] (truthy v)) := by intro _; rfl) : PT X e (tB t) := by
  intro pins s σ H Q I hw
  refine isTrue_plain (thn (h pins s σ H _ I hw) fun v s1 ⟨x, H1, I1, r1, q1⟩ => ?_) (he _)
  obtain ⟨d, rfl, q⟩ := q1
  cases r1
  exact wpAny_truthy_bool ⟨H1, I1, q⟩

variable {tA tB' : TT} {rest : List Expr}
def tAnd (t u : TT) : TT := fun σ H Q => t σ H fun c H1 => if c = true then u σ H1 Q else Q false H1
def tOr (t u : TT) : TT := fun σ H Q => t σ H fun c H1 => if c = true then Q true H1 else u σ H1 Q
def tNot (t : TT) : TT := fun σ H Q => t σ H fun c H1 => Q (!c) H1
theorem pw_and1 (ha : PT X a tA) : PW X (.BoolOp .And [a] pos) tA := by
  intro wh pins s σ H Q I h
  refine isTrue_and (thn (ha pins s σ H Q I h) fun c s1 e => ?_)
  cases c with
  | true => exact isTrue_and_nil e
  | false => exact e
theorem pw_or1 (ha : PT X a tA) : PW X (.BoolOp .Or [a] pos) tA := by
  intro wh pins s σ H Q I h
  refine isTrue_or (thn (ha pins s σ H Q I h) fun c s1 e => ?_)
  cases c with
  | false => exact isTrue_or_nil e
  | true => exact e
theorem pw_and (ha : PT X a tA) (hb : PW X (.BoolOp .And (b :: rest) pos) tB') : PW X (.BoolOp .And (a :: b :: rest) pos) (tAnd tA tB') := by
  intro wh pins s σ H Q I h
  refine isTrue_and (thn (ha pins s σ H _ I h) fun c s1 ⟨H1, I1, q1⟩ => ?_)
  cases c with
  | true => exact hb wh pins s1 σ H1 Q I1 q1
  | false => exact ⟨H1, I1, q1⟩
theorem pw_or (ha : PT X a tA) (hb : PW X (.BoolOp .Or (b :: rest) pos) tB') : PW X (.BoolOp .Or (a :: b :: rest) pos) (tOr tA tB') := by
  intro wh pins s σ H Q I h
  refine isTrue_or (thn (ha pins s σ H _ I h) fun c s1 ⟨H1, I1, q1⟩ => ?_)
  cases c with
  | true => exact ⟨H1, I1, q1⟩
  | false => exact hb wh pins s1 σ H1 Q I1 q1
theorem pt_not (ha : PT X a tA) : PT X (.UnaryOp .Not a pos) (tNot tA) := by
  intro pins s σ H Q I h
  exact isTrue_not (thn (ha pins s σ H (fun c H1 => Q (!c) H1) I h) fun c s1 ⟨H1, I1, q1⟩ => ⟨H1, I1, q1⟩)
def tAndV (ta tb : TE) : TE := fun σ H Q => ta σ H fun x H1 => IsBl x H1 fun c H2 => if c = true then tb σ H2 Q else Q (.bl false) H2
def tOrV (ta tb : TE) : TE := fun σ H Q => ta σ H fun x H1 => IsBl x H1 fun c H2 => if c = true then Q (.bl true) H2 else tb σ H2 Q
def tNotV (ta : TE) : TE := fun σ H Q => ta σ H fun x H1 => IsBl x H1 fun c H2 => Q (.bl (!c)) H2
theorem pe_one {op} {t : TE} (h : PE X a t) : PE X (.BoolOp op [a] pos) t := fun pins s σ H Q I hw => BoolOp_one (h pins s σ H Q I hw)
theorem pe_and (ha : PE X a ta) (hb : PE X (.BoolOp .And (b :: rest) pos) tb) : PE X (.BoolOp .And (a :: b :: rest) pos) (tAndV ta tb) := by
  intro pins s σ H Q I h
  refine BoolOp_and (thn (ha pins s σ H _ I h) fun v s1 ⟨x, H1, I1, r1, q1⟩ => ?_)
  obtain ⟨c, rfl, q1⟩ := q1
  cases r1
  refine wpAny_truthy_bool ?_
  cases c with
  | true => exact hb pins s1 σ H1 Q I1 q1
  | false => exact ⟨.bl false, H1, I1, rfl, q1⟩
theorem pe_or (ha : PE X a ta) (hb : PE X (.BoolOp .Or (b :: rest) pos) tb) : PE X (.BoolOp .Or (a :: b :: rest) pos) (tOrV ta tb) := by
  intro pins s σ H Q I h
  refine BoolOp_or (thn (ha pins s σ H _ I h) fun v s1 ⟨x, H1, I1, r1, q1⟩ => ?_)
  obtain ⟨c, rfl, q1⟩ := q1
  cases r1
  refine wpAny_truthy_bool ?_
  cases c with
  | false => exact hb pins s1 σ H1 Q I1 q1
  | true => exact ⟨.bl true, H1, I1, rfl, q1⟩
theorem pe_not (ha : PE X a ta) : PE X (.UnaryOp .Not a pos) (tNotV ta) := by
  intro pins s σ H Q I h
  refine UnaryOp_ (thn (ha pins s σ H _ I h) fun v s1 ⟨x, H1, I1, r1, q1⟩ => ?_)
  obtain ⟨c, rfl, q1⟩ := q1
  cases r1
  exact not_of (wpAny_truthy_bool ⟨.bl (!c), H1, I1, rfl, q1⟩)
def tIf (t : TT) (ta tb : TE) : TE := fun σ H Q => t σ H fun c H1 => if c = true then ta σ H1 Q else tb σ H1 Q
theorem pe_ifExp {c : Expr} (hc : PT X c tA) (ha : PE X a ta) (hb : PE X b tb) : PE X (.IfExp c a b pos) (tIf tA ta tb) := by
  intro pins s σ H Q I h
  refine wpAny_IfExp (thn (hc pins s σ H _ I h) fun d s1 ⟨H1, I1, q1⟩ => ?_)
  cases d with
  | true => exact ha pins s1 σ H1 Q I1 q1
  | false => exact hb pins s1 σ H1 Q I1 q1
end
end L2

namespace L2
open PySem PySem.Spec PyProof.Rows

def SqL (K : PySem.W.Frag) (H : Hp) (a : Addr) (xs : List V) : Prop :=
  Rd H a (.lst xs) ∨
    ∃ (o : Obj) (its : Array Value) (n : Nat), K.lookup a = some o ∧ o.cls = .type "list" ∧ o.dict = none ∧ o.data = .seq its n ∧ its.size ≤ sizeLine ∧ Vals xs its.toList
def SqT (K : PySem.W.Frag) (H : Hp) (a : Addr) (xs : List V) : Prop :=
  Rd H a (.tup xs) ∨
    ∃ (o : Obj) (its : Array Value) (n : Nat), K.lookup a = some o ∧ o.cls = .type "tuple" ∧ o.data = .seq its n ∧ its.size ≤ sizeLine ∧ Vals xs its.toList
def absV : Value → Option V
  | .none => some .non
  | .bool b => some (.bl b)
  | .int i _ => some (.int i)
  | .str x _ => some (.str x)
  | .bytes b _ => some (.byt b)
  | .float b _ => some (.flt b)
  | .ref a => some (.ref a)
  | .type n => some (.ty n)
  | _ => none
theorem RelV.abs {x : V} {u : Value} (r : RelV x u) : absV u = some x := by
  cases x with
  | non => cases r; rfl
  | bl _ => cases r; rfl
  | int _ => obtain ⟨t, rfl⟩ := r; rfl
  | str _ => obtain ⟨t, rfl⟩ := r; rfl
  | byt _ => obtain ⟨t, rfl⟩ := r; rfl
  | flt _ => obtain ⟨t, rfl⟩ := r; rfl
  | ref _ => cases r; rfl
  | ty _ => cases r; rfl
theorem RelV.inj {x y : V} {u : Value} (r : RelV x u) (q : RelV y u) : x = y := Option.some.inj (r.abs.symm.trans q.abs)
theorem Vals.inj : ∀ {xs ys : List V} {us : List Value}, Vals xs us → Vals ys us → xs = ys
  | _, _, _, .nil, .nil => rfl
  | _, _, _, .cons r t, .cons r' t' => by rw [r.inj r', Vals.inj t t']
section
variable {X : Cx} {pins : List (Addr × Obj)} {σ : St} {H : Hp} {s : Shared} {a : Addr} {xs ys : List V}
theorem SqL.of {K : PySem.W.Frag} (h : H a = some (.lst xs)) : SqL K H a xs := .inl (.inl h)
theorem SqT.of {K : PySem.W.Frag} (h : H a = some (.tup xs)) : SqT K H a xs := .inl (.inl h)
theorem Inv.list (I : Inv X pins σ H s) (h : SqL X.K H a xs) : ∃ its : List Value, Vals xs its ∧ PlainL s.heap a its.toArray ∧ xs.length ≤ sizeLine := by
  rcases h with h | ⟨o, its, n, hk, hc, hd, hs, hz, r⟩
  · obtain ⟨z, its, n, r, e⟩ := h.ok I.hok
    exact ⟨its, r, ⟨_, n, e, rfl, rfl, rfl⟩, z⟩
  · refine ⟨its.toList, r, ⟨o, n, I.kIn a o hk, hc, hd, by simpa using hs⟩, ?_⟩
    have e := r.length
    simp only [Array.length_toList] at e
    omega
theorem Inv.tuple (I : Inv X pins σ H s) (h : SqT X.K H a xs) : ∃ its : List Value, Vals xs its ∧ IsTup s.heap a its.toArray ∧ xs.length ≤ sizeLine := by
  rcases h with h | ⟨o, its, n, hk, hc, hs, hz, r⟩
  · obtain ⟨z, its, r, p⟩ := h.ok I.hok
    exact ⟨its, r, p, z⟩
  · refine ⟨its.toList, r, ⟨o, I.kIn a o hk, hc, n, by simpa using hs⟩, ?_⟩
    have e := r.length
    simp only [Array.length_toList] at e
    omega
theorem Inv.list_inj (I : Inv X pins σ H s) (h : SqL X.K H a xs) (h' : SqL X.K H a ys) : xs = ys := by
  obtain ⟨its, r, ⟨o, n, e, _, _, d⟩, _⟩ := I.list h
  obtain ⟨its', r', ⟨o', n', e', _, _, d'⟩, _⟩ := I.list h'
  rw [e] at e'; cases e'
  rw [d] at d'
  injection d' with d1 _
  have : its = its' := by simpa using congrArg Array.toList d1
  subst this
  exact r.inj r'
theorem Inv.tuple_inj (I : Inv X pins σ H s) (h : SqT X.K H a xs) (h' : SqT X.K H a ys) : xs = ys := by
  obtain ⟨its, r, ⟨o, e, _, n, d⟩, _⟩ := I.tuple h
  obtain ⟨its', r', ⟨o', e', _, n', d'⟩, _⟩ := I.tuple h'
  rw [e] at e'; cases e'
  rw [d] at d'
  injection d' with d1 _
  have : its = its' := by simpa using congrArg Array.toList d1
  subst this
  exact r.inj r'
end

abbrev Cx.wish (X : Cx) (E : Value → Shared → Prop) : Cx := { X with xe := E }
abbrev Cx.nox (X : Cx) : Cx := X.wish fun _ _ => False
theorem Cx.Ok.wish {X : Cx} (ok : X.Ok) (E : Value → Shared → Prop) : (X.wish E).Ok :=
  ⟨ok.mod, ok.kind, ok.glob, ok.blt, ok.above, ok.inj, ok.has, ok.cab, ok.hd, ok.frames, ok.stk, ok.exf, ok.bs, ok.bsz, ok.noex, ok.exfs, ok.funs, ok.frf⟩
theorem Cx.Ok.unwish {X : Cx} {E : Value → Shared → Prop} (ok : (X.wish E).Ok) : X.Ok :=
  ⟨ok.mod, ok.kind, ok.glob, ok.blt, ok.above, ok.inj, ok.has, ok.cab, ok.hd, ok.frames, ok.stk, ok.exf, ok.bs, ok.bsz, ok.noex, ok.exfs, ok.funs, ok.frf⟩
section
variable {X : Cx} {pins : List (Addr × Obj)} {σ : St} {H : Hp} {s : Shared} {E : Value → Shared → Prop}
theorem Inv.wish (I : Inv X pins σ H s) (E : Value → Shared → Prop) : Inv (X.wish E) pins σ H s := ⟨I.ok.wish E, I.os, I.bare, I.base, I.loc, I.cell, I.free, I.freeC, I.pin, I.hok, I.len⟩
theorem Inv.unwish (I : Inv (X.wish E) pins σ H s) : Inv X pins σ H s := ⟨I.ok.unwish, I.os, I.bare, I.base, I.loc, I.cell, I.free, I.freeC, I.pin, I.hok, I.len⟩
theorem SP.unwish {D : Ends} {f : Flow} {s' : Shared} (h : SP (X.wish E) pins D f s') : SP X pins D f s' := by
  cases f with
  | next => obtain ⟨σ', H', I, q⟩ := h; exact ⟨σ', H', I.unwish, q⟩
  | brk => obtain ⟨σ', H', I, q⟩ := h; exact ⟨σ', H', I.unwish, q⟩
  | cont => obtain ⟨σ', H', I, q⟩ := h; exact ⟨σ', H', I.unwish, q⟩
  | ret u => obtain ⟨v, σ', H', I, r, q⟩ := h; exact ⟨v, σ', H', I.unwish, r, q⟩
theorem PSs.nox {st : List Stmt} {t : TS} (h : PSs X.nox st t) : PSs X st t := fun pins s σ H D I hw =>
  wpAny_mono (h pins s σ H D (I.wish _) hw) (fun _ _ q => q.unwish) fun _ _ z => False.elim z
end

section
variable {X : Cx} {st : Stmt} {rest : List Stmt} {t u : TS} {e : Expr} {te : TE} {pos : Pos}
def tNext : TS := fun D σ H => D.nx σ H
def tSeq (t u : TS) : TS := fun D σ H => t { D with nx := u D } σ H
theorem pss_nil : PSs X [] tNext := fun _ _ σ H _ I h => wpAny_execs_nil ⟨σ, H, I, h⟩
theorem pss_cons (h1 : PS X st t) (h2 : PSs X rest u) : PSs X (st :: rest) (tSeq t u) := by
  intro pins s σ H D I h
  refine wpAny_execs_cons (thn (h1 pins s σ H { D with nx := u D } I h) fun f s1 q => ?_)
  cases f with
  | next =>
    obtain ⟨σ', H', I', q⟩ := q
    exact h2 pins s1 σ' H' D I' q
  | ret v => exact q
  | brk => exact q
  | cont => exact q
theorem pss_one (h1 : PS X st t) : PSs X [st] t := by
  intro pins s σ H D I h
  refine wpAny_execs_cons (thn (h1 pins s σ H D I h) fun f s1 q => ?_)
  cases f with
  | next => exact wpAny_execs_nil q
  | ret v => exact q
  | brk => exact q
  | cont => exact q
theorem Inv.quiet {pins : List (Addr × Obj)} {σ : St} {H : Hp} {s : Shared} (I : Inv X pins σ H s) : interactive X.env = false := by simp [interactive, I.ok.kind]
def tDrop (te : TE) : TS := fun D σ H => te σ H fun _ H1 => D.nx σ H1
theorem ps_expr (he : PE X e te) (hs : swapsWith e none pos.line X.env = pure false := by rfl) : PS X (.Expr e pos) (tDrop te) := by
  intro pins s σ H D I h
  exact wpAny_Expr_any (thn (he pins s σ H _ I h) fun v s1 ⟨x, H1, I1, r1, q1⟩ => ⟨σ, H1, I1, q1⟩) I.quiet hs
def tRet (te : TE) : TS := fun D σ H => te σ H D.rt
theorem ps_ret (he : PE X e te) : PS X (.Return (some e) pos) (tRet te) := by
  intro pins s σ H D I h
  exact wpAny_Return_some (thn (he pins s σ H _ I h) fun v s1 ⟨x, H1, I1, r1, q1⟩ => ⟨x, σ, H1, I1, r1, q1⟩)
def tIfS (c : TT) (t u : TS) : TS := fun D σ H => c σ H fun b H1 => if b = true then t D σ H1 else u D σ H1
theorem ps_if {c : Expr} {a b : List Stmt} {tc : TT} (hc : PT X c tc) (ha : PSs X a t) (hb : PSs X b u) : PS X (.If c a b pos) (tIfS tc t u) := by
  intro pins s σ H D I h
  refine wpAny_If (thn (hc pins s σ H _ I h) fun d s1 ⟨H1, I1, q1⟩ => ?_)
  cases d with
  | true => exact ha pins s1 σ H1 D I1 q1
  | false => exact hb pins s1 σ H1 D I1 q1
def tNever : TS := fun _ _ _ => False
theorem ps_never : PS X st tNever := fun _ _ _ _ _ _ h => h.elim
end

abbrev TG := V → St → Hp → (St → Hp → Prop) → Prop
abbrev TGs := List V → St → Hp → (St → Hp → Prop) → Prop
def PG (X : Cx) (target : Expr) (t : TG) : Prop :=
  ∀ (pins : List (Addr × Obj)) (s : Shared) (σ : St) (H : Hp) (v : V) (u : Value) (Q : St → Hp → Prop), Inv X pins σ H s → RelV v u → t v σ H Q →
    wpAny (model X.prog X.w) X.A (assign target X.env u) (fun _ s' => ∃ σ' H', Inv X pins σ' H' s' ∧ Q σ' H') X.xe s
def PGs (X : Cx) (ts : List Expr) (t : TGs) : Prop :=
  ∀ (pins : List (Addr × Obj)) (s : Shared) (σ : St) (H : Hp) (vs : List V) (us : List Value) (Q : St → Hp → Prop), Inv X pins σ H s → Vals vs us → t vs σ H Q →
    wpAny (model X.prog X.w) X.A (assignInOrder ((assignEach ts X.env).map (·.2)) us) (fun _ s' => ∃ σ' H', Inv X pins σ' H' s' ∧ Q σ' H') X.xe s
abbrev TSet := V → V → V → Hp → (Hp → Prop) → Prop
def PSet (X : Cx) (t : TSet) : Prop :=
  ∀ (pins : List (Addr × Obj)) (s : Shared) (σ : St) (H : Hp) (o i v : V) (ov iv u : Value) (Q : Hp → Prop), Inv X pins σ H s → RelV o ov → RelV i iv → RelV v u → t o i v H Q →
    wpAny (model X.prog X.w) X.A (setItem ov iv u) (fun _ s' => ∃ H', Inv X pins σ H' s' ∧ Q H') X.xe s
section
variable {X : Cx} {pos : Pos}
def gName (i : Nat) : TG := fun v σ H Q => Q (σ.set i (some v)) H
theorem pg_name {i : Nat} {x : Str} (hN : X.N.Nodup) (hi : X.N[i]? = some x) (hx : Loc X.env.scope x) (hf : X.fn x = true ∨ X.env.scope.names.lookup x = some .local := by first | exact .inl rfl | exact .inr rfl | assumption) : PG X (.Name x pos) (gName i) := by
  intro pins s σ H v u Q I r h
  exact wpAny_assign_Name (store_ok I hN hi hx r (fun s' I' => ⟨_, H, I', h⟩) hf)
inductive gNil (vs : List V) (σ : St) (H : Hp) (Q : St → Hp → Prop) : Prop where
  | mk  (h_0 : vs = []) (h_1 : Q σ H)
inductive gCons (t : TG) (u : TGs) (vs : List V) (σ : St) (H : Hp) (Q : St → Hp → Prop) : Prop where
  | mk (v : _) (r : _) (h_0 : vs = v :: r) (h_1 : t v σ H fun σ' H' => u r σ' H' Q)
theorem pgs_nil : PGs X [] gNil := by
  intro pins s σ H vs us Q I r h
  obtain ⟨e, h⟩ := h
  subst e
  cases r
  exact assignInOrder_nil ⟨σ, H, I, h⟩
theorem pgs_cons {e : Expr} {es : List Expr} {t : TG} {u : TGs} (h1 : PG X e t) (h2 : PGs X es u)
    (hs : (assignEach (e :: es) X.env).map (·.2) = assign e X.env :: (assignEach es X.env).map (·.2) := by rfl) : PGs X (e :: es) (gCons t u) := by
  intro pins s σ H vs us Q I r h
  obtain ⟨v, vr, e1, h⟩ := h
  subst e1
  cases r with
  | cons r rr =>
    rw [hs]
    refine assignInOrder_cons (thn (h1 pins s σ H _ _ _ I r h) fun _ s1 ⟨σ1, H1, I1, q1⟩ => ?_)
    exact h2 pins s1 σ1 H1 _ _ Q I1 rr q1
inductive gTup (K : PySem.W.Frag) (n : Nat) (t : TGs) (v : V) (σ : St) (H : Hp) (Q : St → Hp → Prop) : Prop where
  | mk (a : _) (xs : _) (h_0 : v = .ref a) (h_1 : SqT K H a xs) (h_2 : xs.length = n) (h_3 : t xs σ H Q)
theorem pg_tup {es : List Expr} {k : Nat} {t : TGs} {n : Nat} (hc : X.calm = true) (h : PGs X es t)
    (hn : (assignEach es X.env).length = n := by rfl) (hst : (assignEach es X.env).findIdx? (·.1) = none := by rfl) : PG X (.Tuple es k pos) (gTup X.K n t) := by
  intro pins s σ H v u Q I r hw
  obtain ⟨a, xs, e1, hq, hl, hw⟩ := hw
  subst e1
  cases r
  obtain ⟨its, rv, ht, hz⟩ := I.tuple hq
  refine assign_Tuple_tuple (I.ok.hd hc) ht (by simp [hn, ← hl, rv.length]) hst fun h' hx => ?_
  have I1 : Inv X pins σ H { s with heap := h' } := I.kept (t' := s.toks) fun b o e => hx b o (Nat.ne_of_lt (Heap.lt_size e)) e
  exact h pins _ σ H xs _ Q I1 (by simpa using rv) hw
def gSub (to ti : TE) (t : TSet) : TG := fun v σ H Q => to σ H fun o H1 => ti σ H1 fun i H2 => t o i v H2 fun H3 => Q σ H3
theorem pg_sub {o i : Expr} {to ti : TE} {t : TSet} (ho : PE X o to) (hi : PE X i ti) (hs : PSet X t)
    (ha : ∀ v, assign (.Subscript o i pos) X.env v = (do
      let ov ← holding [v] (eval o X.env)
      let iv ← holding [v, ov] (eval i X.env)
      standAt pos
      holding [v, ov, iv] (setItem ov iv v)
      release [v, ov, iv] []) := by intro _; rfl) : PG X (.Subscript o i pos) (gSub to ti t) := by
  intro pins s σ H v u Q I r h
  rw [ha]
  refine wpAny_bind (wpAny_holding (thn (ho pins s σ H _ I h) fun ov s1 ⟨x, H1, I1, r1, q1⟩ => ?_))
  refine wpAny_bind (wpAny_holding (thn (hi pins s1 σ H1 _ I1 q1) fun iv s2 ⟨y, H2, I2, r2, q2⟩ => ?_))
  refine wpAny_bind (wpAny_standAt (wpAny_bind (wpAny_holding (thn (hs pins s2 σ H2 x y v ov iv u _ I2 r1 r2 r q2) fun _ s3 ⟨H3, I3, q3⟩ => ?_))))
  exact wpAny_release ⟨σ, H3, I3, q3⟩
def tAsg (te : TE) (g : TG) : TS := fun D σ H => te σ H fun x H1 => g x σ H1 D.nx
theorem ps_asg {tg e : Expr} {te : TE} {g : TG} (he : PE X e te) (hg : PG X tg g) (hs : swapsWithSole [tg] e pos.line X.env = pure false := by rfl) (hw : swappedStores [tg] e X.env = pure none := by rfl)
    (h1 : (assignEach [tg] X.env).map (·.2) = [assign tg X.env] := by rfl) : PS X (.Assign [tg] e pos) (tAsg te g) := by
  intro pins s σ H D I h
  refine wpAny_Assign_stores (thn (he pins s σ H _ I h) fun v s1 ⟨x, H1, I1, r1, q1⟩ => ?_) hs hw
  rw [h1]
  exact thn (hg pins s1 σ H1 x v _ I1 r1 q1) fun _ s2 q => q
theorem ps_set {i : Nat} {x : Str} {e : Expr} {te : TE} {pos' : Pos} (hN : X.N.Nodup) (hi : X.N[i]? = some x) (hx : Loc X.env.scope x) (he : PE X e te) (hs : swapsWith e (some (.Name x pos')) pos.line X.env = pure false := by rfl) (hf : X.fn x = true ∨ X.env.scope.names.lookup x = some .local := by first | exact .inl rfl | exact .inr rfl | assumption) :
    PS X (.Assign [.Name x pos'] e pos) (tAsg te (gName i)) := by
  intro pins s σ H D I h
  refine wpAny_Assign_Name (thn (he pins s σ H _ I h) fun v s1 ⟨y, H1, I1, r1, q1⟩ => ?_) hs
  exact store_ok I1 hN hi hx r1 (fun s2 I2 => ⟨_, H1, I2, q1⟩) hf
def tPar (i j : Nat) (ta : TA) : TS := fun D σ H => ta σ H fun vs H1 => ∃ v w, vs = [v, w] ∧ D.nx ((σ.set i (some v)).set j (some w)) H1
theorem ps_par {i j : Nat} {x y : Str} {a b : Expr} {ta : TA} {px py pt : Pos} {kt k2 pt2} (hc : X.calm = true) (hN : X.N.Nodup) (hi : X.N[i]? = some x) (hj : X.N[j]? = some y) (hij : i ≠ j)
    (hx : X.env.scope.names.lookup x = some .local) (hy : X.env.scope.names.lookup y = some .local) (ha : PA X [a, b] ta)
    (hw : swappedStores [.Tuple [.Name x px, .Name y py] kt pt] (.Tuple [a, b] k2 pt2) X.env = pure (some [x, y]))
    (hs : swapsWithSole [.Tuple [.Name x px, .Name y py] kt pt] (.Tuple [a, b] k2 pt2) pos.line X.env = pure false := by rfl) :
    PS X (.Assign [.Tuple [.Name x px, .Name y py] kt pt] (.Tuple [a, b] k2 pt2) pos) (tPar i j ta) := by
  intro pins s σ H D I h
  rw [exec_Assign_arm]
  refine wpAny_bind (wpAny_standAt ?_)
  rw [hs]
  refine wpAny_bind (wpAny_pure ?_)
  rw [if_neg (by decide)]
  refine wpAny_bind (Tuple_ (thn (ha _ pins s σ H _ I h) fun us s1 ⟨vs, H1, I1, r1, q1⟩ => ?_))
  obtain ⟨v, w, e1, q1⟩ := q1
  subst e1
  obtain ⟨u1, u2, rfl, rv, rw'⟩ : ∃ u1 u2, us = [u1, u2] ∧ RelV v u1 ∧ RelV w u2 := by
    cases r1 with
    | cons p q =>
      cases q with
      | cons p' q' =>
        cases q'
        exact ⟨_, _, rfl, p, p'⟩
  refine wpAny_newObj_type ?_ (by show 2 ≤ sizeLine; decide)
  have I2 : Inv X pins σ H1 { s1 with heap := s1.heap.push { cls := .type "tuple", data := .seq [u1, u2].toArray } } := I1.kept (t' := s1.toks) fun b o e => Heap.get?_push_of_some _ e
  rw [hw]
  refine wpAny_bind (wpAny_pure ?_)
  show wpAny (model X.prog X.w) X.A (do rule "assign.swapped-stores"; let items ← unpackItems (.ref s1.heap.objs.size) 2 none; assignInOrder [fun v => bindName X.env y v, fun v => bindName X.env x v] items.reverse; pure Flow.next) _ _ _
  refine wpAny_bind (wpAny_rule (wpAny_bind (unpackItems_tuple (items := #[u1, u2]) (I.ok.hd hc) (IsTup.new s1.heap _) fun h' hx' => ?_)))
  have I3 := I2.kept (h' := h') (t' := s1.toks) fun b o e => hx' b o (Nat.ne_of_lt (Heap.lt_size e)) e
  show wpAny _ _ (assignInOrder [fun v => bindName X.env y v, fun v => bindName X.env x v] [u2, u1] >>= fun _ => pure Flow.next) _ _ _
  refine wpAny_bind (assignInOrder_cons (wpAny_bindName (store_ok I3 hN hj (.inl hy) rw' (fun s2 I4 => ?_) (.inr hy))))
  refine assignInOrder_cons (wpAny_bindName (store_ok I4 hN hi (.inl hx) rv (fun s3 I5 => assignInOrder_nil (wpAny_pure ?_)) (.inr hx)))
  rw [List.set_comm _ _ (Ne.symm hij)] at I5
  exact ⟨_, H1, I5, q1⟩
end

section
variable {X : Cx} {pos : Pos}
def tWhile (c : TT) (tb : TS) : TS := fun D σ H => ∃ W : Nat → St → Hp → Prop, (∃ m, W m σ H) ∧ ∀ m σ H, W m σ H →
  c σ H fun b H1 => if b = true then ∃ N : St → Hp → Prop, (∀ σ' H', N σ' H' → ∃ m', m' < m ∧ W m' σ' H') ∧ tb { D with nx := N, ct := N, bk := D.nx } σ H1 else D.nx σ H1
theorem ps_while {c : Expr} {body : List Stmt} {tc : TT} {tb : TS} (hp : PassesOwn (model X.prog X.w) X.A X.env X.xe) (hc : PT X c tc) (hb : PSs X body tb) : PS X (.While c body [] pos) (tWhile tc tb) := by
  intro pins s σ H D I h
  obtain ⟨W, ⟨m0, w0⟩, turn⟩ := h
  refine wpAny_While (codeAny_whileLoop (fun n s' => ∃ σ' H', Inv X pins σ' H' s' ∧ W n σ' H') ?_ m0 ⟨σ, H, I, w0⟩)
  rintro n s1 ⟨σ1, H1, I1, w1⟩
  refine wpAny_passesOwn hp (thn (hc pins s1 σ1 H1 _ I1 (turn n σ1 H1 w1)) fun b s2 ⟨H2, I2, q2⟩ => ?_)
  cases b with
  | true =>
    obtain ⟨N, hN, q2⟩ := q2
    rw [if_pos rfl]
    refine wpAny_passesOwn hp (thn (hb pins s2 σ1 H2 _ I2 q2) fun f s3 q3 => ?_)
    cases f with
    | next =>
      obtain ⟨σ3, H3, I3, n3⟩ := q3
      obtain ⟨m', hm, w3⟩ := hN σ3 H3 n3
      exact ⟨m', hm, σ3, H3, I3, w3⟩
    | cont =>
      obtain ⟨σ3, H3, I3, n3⟩ := q3
      obtain ⟨m', hm, w3⟩ := hN σ3 H3 n3
      exact ⟨m', hm, σ3, H3, I3, w3⟩
    | brk => exact q3
    | ret v => exact q3
  | false =>
    rw [if_neg Bool.false_ne_true]
    exact wpAny_execs_nil ⟨σ1, H2, I2, q2⟩
end

structure It where
  go : Nat → Hp → Prop
  yld : Nat → Hp → V → Hp → Prop
  stop : Nat → Hp → Prop
def FpOk (X : Cx) (pins : List (Addr × Obj)) (H : Hp) (b : Addr) : Prop :=
  H b = none ∧ b ≠ X.env.locals ∧ b ∉ X.fs ∧ (b ∈ X.ex ∨ X.s₀.heap.objs.size ≤ b) ∧ (∀ x c, X.env.cells.lookup x = some c → c ≠ b) ∧ ∀ p ∈ X.pn ++ pins, p.1 ≠ b
theorem Inv.fpOk {X : Cx} {pins : List (Addr × Obj)} {σ : St} {H H' : Hp} {s : Shared} {b : Addr} (I : Inv X pins σ H s) (hb : s.heap.objs.size ≤ b) (hn : H' b = none) : FpOk X pins H' b := by
  refine ⟨hn, Nat.ne_of_gt (Nat.lt_of_lt_of_le I.lt hb), I.nofs hb, .inr (Nat.le_trans I.sz hb), fun x c e z => ?_, fun p hp z => ?_⟩
  · obtain ⟨v, q⟩ := I.cell x c e
    exact absurd (Nat.lt_of_lt_of_le q.lt (by rw [z]; exact hb)) (Nat.lt_irrefl _)
  · exact absurd (Nat.lt_of_lt_of_le (Heap.lt_size (I.pin p hp).1) (by rw [z]; exact hb)) (Nat.lt_irrefl _)
structure Turn (P : Program) (w : World) (K : PySem.W.Frag) (tg : Expr) (J : It) (fp : List Addr) (it : Addr) (tn : Nat → Heap → Prop) : Prop where
  mem : it ∈ fp
  obj : ∀ i h, tn i h → ∀ b ∈ fp, ∃ o, h.get? b = some o ∧ ∀ v, o.data ≠ .cell v
  keep : ∀ i h h', tn i h → (∀ b ∈ fp, ∀ o, h.get? b = some o → h'.get? b = some o) → tn i h'
  item : ∀ (X : Cx), X.prog = P → X.w = w → X.K = K → X.calm = true → ∀ (i : Nat) (pins : List (Addr × Obj)) (s : Shared) (σ : St) (H : Hp) (E : Value → Shared → Prop), Inv X pins σ H s → (∀ b ∈ fp, FpOk X pins H b) → tn i s.heap → J.go i H →
    wpAny (model P w) X.A (pyNext (.ref it)) (fun r s1 => ∃ u, r = some u ∧
      wpAny (model P w) X.A (letOwnedTupleGo tg (.ref it) u) (fun _ s2 => ∃ x H', Inv X pins σ H' s2 ∧ RelV x u ∧ J.yld i H x H' ∧ tn (i + 1) s2.heap ∧ ∀ b ∈ fp, H' b = none) E s1) E s
  done : ∀ (X : Cx), X.prog = P → X.w = w → X.K = K → X.calm = true → ∀ (i : Nat) (pins : List (Addr × Obj)) (s : Shared) (σ : St) (H : Hp) (E : Value → Shared → Prop), Inv X pins σ H s → (∀ b ∈ fp, FpOk X pins H b) → tn i s.heap → J.stop i H →
    wpAny (model P w) X.A (pyNext (.ref it)) (fun r s1 => r = none ∧ Inv X pins σ H s1) E s
  self : ∀ (A : Around) (i : Nat) (s : Shared) (Q : Value → Shared → Prop) (E : Value → Shared → Prop), tn i s.heap → Q (.ref it) s → wpAny (model P w) A (pyIter (.ref it)) Q E s
abbrev TI := St → Hp → (It → Hp → Prop) → Prop
def PIE (X : Cx) (pins : List (Addr × Obj)) (σ : St) (tg : Expr) (R : It → Hp → Prop) (itv : Value) (s2 : Shared) : Prop :=
  ∃ (it : Addr) (fp : List Addr) (tn : Nat → Heap → Prop) (J : It) (H' : Hp), itv = .ref it ∧ Inv X pins σ H' s2 ∧ Turn X.prog X.w X.K tg J fp it tn ∧ tn 0 s2.heap ∧ (∀ b ∈ fp, FpOk X pins H' b) ∧ R J H'
def PI (X : Cx) (tg iter : Expr) (wi : TI) : Prop :=
  ∀ (pins : List (Addr × Obj)) (s : Shared) (σ : St) (H : Hp) (R : It → Hp → Prop), Inv X pins σ H s → wi σ H R →
    wpAny (model X.prog X.w) X.A (eval iter X.env) (fun v s1 => wpAny (model X.prog X.w) X.A (pyIter v) (PIE X pins σ tg R) X.xe s1) X.xe s

theorem go_of {M : Model} {A : Around} {E : Value → Shared → Prop} {s : Shared} {tg : Expr} {it : Addr} {u : Value} {o : Obj} {n : String} {vs : Array Value} {Q : Unit → Shared → Prop} (ho : s.heap.get? it = some o) (hc : o.cls = .type n) (hd : o.data = .fields vs)
    (hn : ["enumerate", "zip", "dict_itemiterator", "dict_reverseitemiterator", "odict_iterator", "itertools.zip_longest", "itertools.pairwise"].contains n = false) (hQ : Q () s) : wpAny M A (letOwnedTupleGo tg (.ref it) u) Q E s := by
  unfold letOwnedTupleGo
  cases tg <;> first
    | exact wpAny_pure hQ
    | (cases u <;> first
        | exact wpAny_pure hQ
        | (refine wpAny_bind (wpAny_load ho ?_)
           rw [hc, hd]
           show wpAny M A (if (["enumerate", "zip", "dict_itemiterator", "dict_reverseitemiterator", "odict_iterator", "itertools.zip_longest", "itertools.pairwise"].contains n && vs[0]? == some (rawInt _)) = true then _ else _) Q E s
           rw [if_neg (by intro h; rw [hn, Bool.false_and] at h; cases h)]
           exact wpAny_pure hQ))

def Itl (K : PySem.W.Frag) (a : Addr) : It :=
  ⟨fun i H => ∃ xs x, SqL K H a xs ∧ xs[i]? = some x, fun i H x H' => H' = H ∧ ∀ xs, SqL K H a xs → xs[i]? = some x, fun i H => ∃ xs, SqL K H a xs ∧ xs.length ≤ i⟩
def Itt (K : PySem.W.Frag) (a : Addr) : It :=
  ⟨fun i H => ∃ xs x, SqT K H a xs ∧ xs[i]? = some x, fun i H x H' => H' = H ∧ ∀ xs, SqT K H a xs → xs[i]? = some x, fun i H => ∃ xs, SqT K H a xs ∧ xs.length ≤ i⟩
def Itr (lo : Int) (n : Nat) : It := ⟨fun i _ => i < n, fun i H x H' => H' = H ∧ x = .int (lo + i), fun i _ => n ≤ i⟩
theorem turn_list {P : Program} {w : World} {K : PySem.W.Frag} {tg : Expr} (a it : Addr) : Turn P w K tg (Itl K a) [it] it (fun i h => h.IsListIter it a i) where
  mem := by simp
  obj := fun i h st b hb => by
    have e : b = it := by simpa using hb
    subst e
    obtain ⟨o, e, c, d⟩ := st
    exact ⟨o, e, fun v z => by rw [d] at z; cases z⟩
  keep := fun i h h' st k => st.at fun o e => k it (by simp) o e
  item := by
    intro X hP hw hK hc i pins s σ H E I hf st hg
    subst hP hw hK
    obtain ⟨xs, x, hq, hx⟩ := hg
    obtain ⟨its, rv, p, hz⟩ := I.list hq
    obtain ⟨u, hu, ru⟩ := rv.get hx
    obtain ⟨f0, f1, f2, f3, f4, f5⟩ := hf it (by simp)
    refine wpAny_pyNext_list_item st p.isList (x := u) (by simpa using hu) fun h' st' sb => ?_
    have I1 : Inv X pins σ H { s with heap := h' } := I.turned (t' := s.toks) (fun b o hb e => (sb.2 b hb).trans e) f0 f1 f3 f4 f5
    obtain ⟨o, e, c, d⟩ := id st'
    exact ⟨u, rfl, go_of (s := { s with heap := h' }) e c d (by decide) ⟨x, H, I1, ru, ⟨rfl, fun ys hy => by rw [I.list_inj hy hq]; exact hx⟩, st', fun b hb => (hf b hb).1⟩⟩
  done := by
    intro X hP hw hK hc i pins s σ H E I hf st hg
    subst hP hw hK
    obtain ⟨xs, hq, hx⟩ := hg
    obtain ⟨its, rv, p, hz⟩ := I.list hq
    obtain ⟨f0, f1, f2, f3, f4, f5⟩ := hf it (by simp)
    have hl := rv.length
    exact wpAny_pyNext_list_end (I.ok.hd hc) st p.isList (by simp; omega) fun h' eb => ⟨rfl, I.turned (t' := s.toks) (fun b o hb e => eb b o hb e) f0 f1 f3 f4 f5⟩
  self := fun _ _ _ _ _ st h => wpAny_pyIter_listiter st h
theorem turn_tuple {P : Program} {w : World} {K : PySem.W.Frag} {tg : Expr} (a it : Addr) : Turn P w K tg (Itt K a) [it] it (fun i h => h.IsTupleIter it a i) where
  mem := by simp
  obj := fun i h st b hb => by
    have e : b = it := by simpa using hb
    subst e
    obtain ⟨o, e, c, d⟩ := st
    exact ⟨o, e, fun v z => by rw [d] at z; cases z⟩
  keep := fun i h h' st k => st.at fun o e => k it (by simp) o e
  item := by
    intro X hP hw hK hc i pins s σ H E I hf st hg
    subst hP hw hK
    obtain ⟨xs, x, hq, hx⟩ := hg
    obtain ⟨its, rv, p, hz⟩ := I.tuple hq
    obtain ⟨u, hu, ru⟩ := rv.get hx
    obtain ⟨f0, f1, f2, f3, f4, f5⟩ := hf it (by simp)
    refine wpAny_pyNext_tuple_item st (show s.heap.IsTuple a its.toArray from p) (x := u) (by simpa using hu) fun h' st' sb => ?_
    have I1 : Inv X pins σ H { s with heap := h' } := I.turned (t' := s.toks) (fun b o hb e => (sb.2 b hb).trans e) f0 f1 f3 f4 f5
    obtain ⟨o, e, c, d⟩ := id st'
    exact ⟨u, rfl, go_of (s := { s with heap := h' }) e c d (by decide) ⟨x, H, I1, ru, ⟨rfl, fun ys hy => by rw [I.tuple_inj hy hq]; exact hx⟩, st', fun b hb => (hf b hb).1⟩⟩
  done := by
    intro X hP hw hK hc i pins s σ H E I hf st hg
    subst hP hw hK
    obtain ⟨xs, hq, hx⟩ := hg
    obtain ⟨its, rv, p, hz⟩ := I.tuple hq
    obtain ⟨f0, f1, f2, f3, f4, f5⟩ := hf it (by simp)
    have hl := rv.length
    exact wpAny_pyNext_tuple_end (I.ok.hd hc) st (show s.heap.IsTuple a its.toArray from p) (by simp; omega) fun h' eb => ⟨rfl, I.turned (t' := s.toks) (fun b o hb e => eb b o hb e) f0 f1 f3 f4 f5⟩
  self := fun _ _ _ _ _ st h => wpAny_pyIter_tupleiter st h
theorem turn_range {P : Program} {w : World} {K : PySem.W.Frag} {tg : Expr} (it : Addr) (lo : Int) (n : Nat) : Turn P w K tg (Itr lo n) [it] it (fun i h => IsRangeIter h it (lo + (i : Nat) * 1) ((n : Int) - (i : Nat)) 1) where
  mem := by simp
  obj := fun i h st b hb => by
    have e : b = it := by simpa using hb
    subst e
    exact ⟨_, st, fun v z => by
      have z' : Data.fields _ = Data.cell v := z
      cases z'⟩
  keep := fun i h h' st k => k it (by simp) _ st
  item := by
    intro X hP hw hK hc i pins s σ H E I hf st hg
    subst hP hw hK
    obtain ⟨f0, f1, f2, f3, f4, f5⟩ := hf it (by simp)
    have W := Walks.range (prog := X.prog) (w := X.w) (I.ok.hd hc) it lo 1 n
    refine W.item i s _ _ hg st fun v h' tk hv st' kk => ?_
    obtain ⟨t, rfl⟩ := hv
    have I1 : Inv X pins σ H { s with heap := h', toks := tk } := I.turned (fun b o hb e => kk b o (by simpa using hb) e) f0 f1 f3 f4 f5
    refine ⟨_, rfl, go_of (s := { s with heap := h', toks := tk }) (n := "range_iterator") st' rfl rfl (by decide) ⟨.int (lo + i), H, I1, ⟨t, ?_⟩, ⟨rfl, rfl⟩, st', fun b hb => (hf b hb).1⟩⟩
    rw [Int.mul_one]
  done := by
    intro X hP hw hK hc i pins s σ H E I hf st hg
    subst hP hw hK
    obtain ⟨f0, f1, f2, f3, f4, f5⟩ := hf it (by simp)
    exact wpAny_pyNext_range_end (I.ok.hd hc) st (by have : n ≤ i := hg; omega) fun h' eb => ⟨rfl, I.turned (t' := s.toks) (fun b o hb e => eb b o hb e) f0 f1 f3 f4 f5⟩
  self := fun _ _ _ _ _ st h => wpAny_pyIter_rangeiter st h
end L2

namespace L2
open PySem PySem.Spec PyProof.Rows
section
variable {X : Cx} {tg : Expr}
inductive IsLs (K : PySem.W.Frag) (x : V) (H : Hp) (R : It → Hp → Prop) : Prop where
  | mk (a : _) (h : x = .ref a) (g : ∃ xs, SqL K H a xs) (q : R (Itl K a) H)
inductive IsTs (K : PySem.W.Frag) (x : V) (H : Hp) (R : It → Hp → Prop) : Prop where
  | mk (a : _) (h : x = .ref a) (g : ∃ xs, SqT K H a xs) (q : R (Itt K a) H)
def iList (K : PySem.W.Frag) (tl : TE) : TI := fun σ H R => tl σ H fun x H1 => IsLs K x H1 R
def iTup (K : PySem.W.Frag) (tl : TE) : TI := fun σ H R => tl σ H fun x H1 => IsTs K x H1 R
theorem pi_list {l : Expr} {tl : TE} (hl : PE X l tl) : PI X tg l (iList X.K tl) := by
  intro pins s σ H R I h
  refine thn (hl pins s σ H _ I h) fun v s1 ⟨x, H1, I1, r1, q1⟩ => ?_
  obtain ⟨a, e, ⟨xs, hq⟩, q⟩ := q1
  subst e
  cases r1
  obtain ⟨its, rv, p, hz⟩ := I1.list hq
  refine wpAny_pyIter_list p.isList ?_
  refine ⟨s1.heap.objs.size, [s1.heap.objs.size], _, _, H1, rfl, I1.kept (t' := s1.toks) fun b o e => Heap.get?_push_of_some _ e, turn_list a _, ⟨_, Heap.get?_push_size _ rfl, rfl, rfl⟩, fun b hb => ?_, q⟩
  have e : b = s1.heap.objs.size := by simpa using hb
  subst e
  exact I1.fpOk (Nat.le_refl _) (I1.hok.fresh (Nat.le_refl _))
theorem pi_tup {l : Expr} {tl : TE} (hl : PE X l tl) : PI X tg l (iTup X.K tl) := by
  intro pins s σ H R I h
  refine thn (hl pins s σ H _ I h) fun v s1 ⟨x, H1, I1, r1, q1⟩ => ?_
  obtain ⟨a, e, ⟨xs, hq⟩, q⟩ := q1
  subst e
  cases r1
  obtain ⟨its, rv, p, hz⟩ := I1.tuple hq
  refine wpAny_pyIter_tuple (show s1.heap.IsTuple a its.toArray from p) ?_
  refine ⟨s1.heap.objs.size, [s1.heap.objs.size], _, _, H1, rfl, I1.kept (t' := s1.toks) fun b o e => Heap.get?_push_of_some _ e, turn_tuple a _, ⟨_, Heap.get?_push_size _ rfl, rfl, rfl⟩, fun b hb => ?_, q⟩
  have e : b = s1.heap.objs.size := by simpa using hb
  subst e
  exact I1.fpOk (Nat.le_refl _) (I1.hok.fresh (Nat.le_refl _))
theorem range_it {pins : List (Addr × Obj)} {σ : St} {H : Hp} {s : Shared} {R : It → Hp → Prop} {E : Value → Shared → Prop} {lo hi : Int} {t u v : Tok} {tk : Nat} (I : Inv X pins σ H s) (h1 : -(2 ^ 62) ≤ lo) (h2 : lo < 2 ^ 62) (h3 : -(2 ^ 62) ≤ hi) (h4 : hi < 2 ^ 62)
    (q : R (Itr lo (hi - lo).toNat) H) : wpAny (model X.prog X.w) X.A (pyIter (.ref s.heap.objs.size)) (PIE X pins σ tg R) E { s with heap := s.heap.push { cls := .type "range", data := .fields #[.int lo t, .int hi u, .int 1 v] }, toks := tk } := by
  refine wpAny_pyIter_range (IsRange.new ..) (small_one h1 h2 h3 h4) ?_
  have I1 : Inv X pins σ H { s with heap := s.heap.push { cls := .type "range", data := .fields #[.int lo t, .int hi u, .int 1 v] }, toks := tk } := I.kept fun b o e => Heap.get?_push_of_some _ e
  refine ⟨(s.heap.push { cls := .type "range", data := .fields #[.int lo t, .int hi u, .int 1 v] }).objs.size, [(s.heap.push { cls := .type "range", data := .fields #[.int lo t, .int hi u, .int 1 v] }).objs.size], _, _, H, rfl,
    I1.kept (t' := tk) fun b o e => Heap.get?_push_of_some _ e, turn_range _ lo (hi - lo).toNat, ?_, fun b hb => ?_, q⟩
  · have e1 : lo + ((0 : Nat) : Int) * 1 = lo := by simp
    have e2 : (((hi - lo).toNat : Nat) : Int) - ((0 : Nat) : Int) = Builtin.Range.rangeSize lo hi 1 := by rw [rangeSize_one]; split <;> omega
    show IsRangeIter _ _ (lo + ((0 : Nat) : Int) * 1) ((((hi - lo).toNat : Nat) : Int) - ((0 : Nat) : Int)) 1
    rw [e1, e2]
    exact Heap.get?_push_size _ rfl
  · have e : b = (s.heap.push { cls := .type "range", data := .fields #[.int lo t, .int hi u, .int 1 v] }).objs.size := by simpa using hb
    subst e
    exact I1.fpOk (Nat.le_refl _) (I1.hok.fresh (Nat.le_refl _))
def iRng1 (ta : TA) : TI := fun σ H R => ta σ H fun vs H1 => ∃ j : Int, vs = [.int j] ∧ -(2 ^ 62) ≤ j ∧ j < 2 ^ 62 ∧ R (Itr 0 j.toNat) H1
def iRng2 (ta : TA) : TI := fun σ H R => ta σ H fun vs H1 => ∃ i j : Int, vs = [.int i, .int j] ∧ (-(2 ^ 62) ≤ i ∧ i < 2 ^ 62 ∧ -(2 ^ 62) ≤ j ∧ j < 2 ^ 62) ∧ R (Itr i (j - i).toNat) H1
theorem pi_range1 {a : Expr} {ta : TA} {p pos : Pos} (hg : Gl X "range") (hm : X.mg "range" = none) (ha : PA X [a] ta) (hs : starEach [a] X.env = [(false, eval a X.env)] := by rfl) : PI X tg (.Call (.Name "range" p) [a] [] pos) (iRng1 ta) := by
  intro pins s σ H R I h
  refine Call_ (ld_blt I hg hm boot_range (PyProof.Rows.callWith_type1 (thn (ha pos pins s σ H _ I h) fun us s1 ⟨vs, H1, I1, r1, q1⟩ => ?_) hs rfl))
  obtain ⟨j, e, q1, q2, q⟩ := q1
  subst e
  cases r1 with
  | cons r rr =>
    cases rr
    obtain ⟨t, rfl⟩ := r
    exact call_range_1 (range_it I1 (by omega) (by omega) q1 q2 (by simpa using q))
theorem pi_range2 {a b : Expr} {ta : TA} {p pos : Pos} (hg : Gl X "range") (hm : X.mg "range" = none) (ha : PA X [a, b] ta) (hs : starEach [a, b] X.env = [(false, eval a X.env), (false, eval b X.env)] := by rfl) (hs2 : starEach [b] X.env = [(false, eval b X.env)] := by rfl) :
    PI X tg (.Call (.Name "range" p) [a, b] [] pos) (iRng2 ta) := by
  intro pins s σ H R I h
  refine Call_ (ld_blt I hg hm boot_range (PyProof.Rows.callWith_type1 (thn (ha pos pins s σ H _ I h) fun us s1 ⟨vs, H1, I1, r1, q1⟩ => ?_) (by rw [hs, hs2]) (by rw [hs2]; rfl)))
  obtain ⟨i, j, e, ⟨q1, q2, q3, q4⟩, q⟩ := q1
  subst e
  cases r1 with
  | cons r rr =>
    cases rr with
    | cons r' rr =>
      cases rr
      obtain ⟨t, rfl⟩ := r
      obtain ⟨t', rfl⟩ := r'
      exact call_range_2 (range_it I1 q1 q2 q3 q4 q)

def tFor (wi : TI) (g : TG) (tb : TS) : TS := fun D σ H => wi σ H fun J H1 => ∃ W : Nat → Nat → St → Hp → Prop, (∃ m, W 0 m σ H1) ∧ ∀ i m σ H, W i m σ H →
  (J.stop i H ∧ D.nx σ H) ∨ (J.go i H ∧ ∃ N : St → Hp → Prop, (∀ σ' H', N σ' H' → ∃ m', m' < m ∧ W (i + 1) m' σ' H') ∧ ∀ x H', J.yld i H x H' → g x σ H' fun σ2 H2 => tb { D with nx := N, ct := N, bk := D.nx } σ2 H2)
def pinsAt (fp : List Addr) (h : Heap) : List (Addr × Obj) := fp.filterMap fun b => (h.get? b).map fun o => (b, o)
theorem mem_pinsAt {fp : List Addr} {h : Heap} {b : Addr} {o : Obj} (hb : b ∈ fp) (e : h.get? b = some o) : (b, o) ∈ pinsAt fp h := List.mem_filterMap.mpr ⟨b, hb, by rw [e]; rfl⟩
theorem of_pinsAt {fp : List Addr} {h : Heap} {p : Addr × Obj} (hp : p ∈ pinsAt fp h) : p.1 ∈ fp ∧ h.get? p.1 = some p.2 := by
  obtain ⟨b, hb, e⟩ := List.mem_filterMap.mp hp
  cases q : h.get? b with
  | none => rw [q] at e; cases e
  | some o =>
    rw [q] at e
    have e' : (b, o) = p := Option.some.inj e
    subst e'
    exact ⟨hb, q⟩
theorem Inv.pinned {pins : List (Addr × Obj)} {σ : St} {H : Hp} {s : Shared} {fp : List Addr} (I : Inv X pins σ H s) (hf : ∀ b ∈ fp, FpOk X pins H b) (ho : ∀ b ∈ fp, ∃ o, s.heap.get? b = some o ∧ ∀ v, o.data ≠ .cell v) : Inv X (pins ++ pinsAt fp s.heap) σ H s :=
  I.pins_of fun p hp => (List.mem_append.mp hp).elim (fun z => I.pin p (List.mem_append_right _ z)) fun z => by
    obtain ⟨hb, e⟩ := of_pinsAt z
    obtain ⟨f0, f1, f2, _⟩ := hf p.1 hb
    obtain ⟨o, e', d⟩ := ho p.1 hb
    rw [e] at e'; cases e'
    exact ⟨e, f0, f1, f2, d⟩
theorem Inv.unpinned {pins pl : List (Addr × Obj)} {σ : St} {H : Hp} {s : Shared} (I : Inv X (pins ++ pl) σ H s) : Inv X pins σ H s := I.pins_of fun p hp => I.pin p (List.mem_append_right _ (List.mem_append_left _ hp))
theorem ps_for {iter : Expr} {body : List Stmt} {wi : TI} {g : TG} {tb : TS} {pos : Pos} (hp : PassesOwn (model X.prog X.w) X.A X.env X.xe) (hc : X.calm = true) (hi : PI X tg iter wi) (hg : PG X tg g) (hb : PSs X body tb)
    (hs : ∀ x, foldedSetIterable iter X.env x = pure x := by intro _; rfl) : PS X (.For tg iter body [] pos) (tFor wi g tb) := by
  intro pins s σ H D I h
  refine wpAny_For (thn (hi pins s σ H _ I h) fun v s1 h1 => thn h1 fun itv s2 h2 => ?_) hs
  obtain ⟨it, fp, tn, J, H2, e, I2, T, st2, f2, W, ⟨m0, w0⟩, turn⟩ := h2
  subst e
  -- what stays true of the iterator's objects through the loop
  have stat : ∀ {H' : Hp}, (∀ b ∈ fp, H' b = none) → ∀ b ∈ fp, FpOk X pins H' b := fun hn b hb => ⟨hn b hb, (f2 b hb).2⟩
  refine codeAny_forLoop_any (fun n s' => ∃ i σ' H', Inv X pins σ' H' s' ∧ tn i s'.heap ∧ (∀ b ∈ fp, H' b = none) ∧ W i n σ' H') ?_ m0 ⟨0, σ, H2, I2, st2, fun b hb => (f2 b hb).1, w0⟩
  rintro n s3 ⟨i, σ3, H3, I3, st3, fr3, w3⟩
  rcases turn i n σ3 H3 w3 with ⟨stop, qn⟩ | ⟨go, N, hN, step⟩
  · refine wpAny_passesOwn hp (thn (T.done X rfl rfl rfl hc i pins s3 σ3 H3 X.xe I3 (stat fr3) st3 stop) fun r s4 ⟨hr, I4⟩ => ?_)
    subst hr
    exact wpAny_execs_nil ⟨σ3, H3, I4, qn⟩
  · refine wpAny_passesOwn hp (thn (T.item X rfl rfl rfl hc i pins s3 σ3 H3 X.xe I3 (stat fr3) st3 go) fun r s4 ⟨u, hr, h4⟩ => ?_)
    subst hr
    refine wpAny_passesOwn hp (thn h4 fun _ s5 ⟨x, H5, I5, r5, y5, st5, fr5⟩ => ?_)
    have I5' := I5.pinned (stat fr5) (T.obj _ _ st5)
    refine wpAny_passesOwn hp (thn (hg _ s5 σ3 H5 x u _ I5' r5 (step x H5 y5)) fun _ s6 ⟨σ6, H6, I6, q6⟩ => ?_)
    refine wpAny_passesOwn hp (thn (hb _ s6 σ6 H6 _ I6 q6) fun f s7 q7 => ?_)
    have again : ∀ {σ7 : St} {H7 : Hp}, Inv X (pins ++ pinsAt fp s5.heap) σ7 H7 s7 → N σ7 H7 → ∃ m, m < n ∧ ∃ i σ' H', Inv X pins σ' H' s7 ∧ tn i s7.heap ∧ (∀ b ∈ fp, H' b = none) ∧ W i m σ' H' := fun {σ7 H7} I7 n7 => by
      obtain ⟨m', hm, w7⟩ := hN σ7 H7 n7
      refine ⟨m', hm, i + 1, σ7, H7, I7.unpinned, T.keep _ _ _ st5 fun b hb o e => (I7.pin (b, o) (List.mem_append_right _ (List.mem_append_right _ (mem_pinsAt hb e)))).1, fun b hb => ?_, w7⟩
      obtain ⟨o, e, d⟩ := T.obj _ _ st5 b hb
      exact (I7.pin (b, o) (List.mem_append_right _ (List.mem_append_right _ (mem_pinsAt hb e)))).2.1
    cases f with
    | next => obtain ⟨σ7, H7, I7, n7⟩ := q7; exact again I7 n7
    | cont => obtain ⟨σ7, H7, I7, n7⟩ := q7; exact again I7 n7
    | brk => obtain ⟨σ7, H7, I7, q7⟩ := q7; exact ⟨σ7, H7, I7.unpinned, q7⟩
    | ret v => obtain ⟨x7, σ7, H7, I7, r7, q7⟩ := q7; exact ⟨x7, σ7, H7, I7.unpinned, r7, q7⟩
end

theorem for_list {K : PySem.W.Frag} {a : Addr} {xs : List V} {g : TG} {tb : TS} {D : Ends} {σ : St} {H : Hp} (Pv : Nat → St → Hp → Prop) (h0 : Pv 0 σ H) (hl : ∀ i σ H, i ≤ xs.length → Pv i σ H → SqL K H a xs)
    (hs : ∀ i x σ H, xs[i]? = some x → Pv i σ H → g x σ H fun σ2 H2 => tb { D with nx := Pv (i + 1), ct := Pv (i + 1), bk := D.nx } σ2 H2) (hd : ∀ σ H, Pv xs.length σ H → D.nx σ H) :
    ∃ W : Nat → Nat → St → Hp → Prop, (∃ m, W 0 m σ H) ∧ ∀ i m σ H, W i m σ H →
      ((Itl K a).stop i H ∧ D.nx σ H) ∨ ((Itl K a).go i H ∧ ∃ N : St → Hp → Prop, (∀ σ' H', N σ' H' → ∃ m', m' < m ∧ W (i + 1) m' σ' H') ∧ ∀ x H', (Itl K a).yld i H x H' → g x σ H' fun σ2 H2 => tb { D with nx := N, ct := N, bk := D.nx } σ2 H2) := by
  refine ⟨fun i m σ H => m = xs.length - i ∧ i ≤ xs.length ∧ Pv i σ H, ⟨xs.length, by simp, Nat.zero_le _, h0⟩, ?_⟩
  rintro i m σ H ⟨rfl, hi, p⟩
  have q := hl i σ H hi p
  by_cases hlt : i < xs.length
  · refine .inr ⟨⟨xs, xs[i], q, by simp [hlt]⟩, Pv (i + 1), fun σ' H' p' => ⟨xs.length - (i + 1), by omega, rfl, hlt, p'⟩, fun x H' y => ?_⟩
    obtain ⟨e, y⟩ := y
    subst e
    exact hs i x σ _ (y xs q) p
  · have e : i = xs.length := by omega
    subst e
    exact .inl ⟨⟨xs, q, Nat.le_refl _⟩, hd σ H p⟩
theorem for_tup {K : PySem.W.Frag} {a : Addr} {xs : List V} {g : TG} {tb : TS} {D : Ends} {σ : St} {H : Hp} (Pv : Nat → St → Hp → Prop) (h0 : Pv 0 σ H) (hl : ∀ i σ H, i ≤ xs.length → Pv i σ H → SqT K H a xs)
    (hs : ∀ i x σ H, xs[i]? = some x → Pv i σ H → g x σ H fun σ2 H2 => tb { D with nx := Pv (i + 1), ct := Pv (i + 1), bk := D.nx } σ2 H2) (hd : ∀ σ H, Pv xs.length σ H → D.nx σ H) :
    ∃ W : Nat → Nat → St → Hp → Prop, (∃ m, W 0 m σ H) ∧ ∀ i m σ H, W i m σ H →
      ((Itt K a).stop i H ∧ D.nx σ H) ∨ ((Itt K a).go i H ∧ ∃ N : St → Hp → Prop, (∀ σ' H', N σ' H' → ∃ m', m' < m ∧ W (i + 1) m' σ' H') ∧ ∀ x H', (Itt K a).yld i H x H' → g x σ H' fun σ2 H2 => tb { D with nx := N, ct := N, bk := D.nx } σ2 H2) := by
  refine ⟨fun i m σ H => m = xs.length - i ∧ i ≤ xs.length ∧ Pv i σ H, ⟨xs.length, by simp, Nat.zero_le _, h0⟩, ?_⟩
  rintro i m σ H ⟨rfl, hi, p⟩
  have q := hl i σ H hi p
  by_cases hlt : i < xs.length
  · refine .inr ⟨⟨xs, xs[i], q, by simp [hlt]⟩, Pv (i + 1), fun σ' H' p' => ⟨xs.length - (i + 1), by omega, rfl, hlt, p'⟩, fun x H' y => ?_⟩
    obtain ⟨e, y⟩ := y
    subst e
    exact hs i x σ _ (y xs q) p
  · have e : i = xs.length := by omega
    subst e
    exact .inl ⟨⟨xs, q, Nat.le_refl _⟩, hd σ H p⟩
theorem for_range {lo : Int} {n : Nat} {g : TG} {tb : TS} {D : Ends} {σ : St} {H : Hp} (Pv : Nat → St → Hp → Prop) (h0 : Pv 0 σ H)
    (hs : ∀ i σ H, i < n → Pv i σ H → g (.int (lo + i)) σ H fun σ2 H2 => tb { D with nx := Pv (i + 1), ct := Pv (i + 1), bk := D.nx } σ2 H2) (hd : ∀ σ H, Pv n σ H → D.nx σ H) :
    ∃ W : Nat → Nat → St → Hp → Prop, (∃ m, W 0 m σ H) ∧ ∀ i m σ H, W i m σ H →
      ((Itr lo n).stop i H ∧ D.nx σ H) ∨ ((Itr lo n).go i H ∧ ∃ N : St → Hp → Prop, (∀ σ' H', N σ' H' → ∃ m', m' < m ∧ W (i + 1) m' σ' H') ∧ ∀ x H', (Itr lo n).yld i H x H' → g x σ H' fun σ2 H2 => tb { D with nx := N, ct := N, bk := D.nx } σ2 H2) := by
  refine ⟨fun i m σ H => m = n - i ∧ i ≤ n ∧ Pv i σ H, ⟨n, by simp, Nat.zero_le _, h0⟩, ?_⟩
  rintro i m σ H ⟨rfl, hi, p⟩
  by_cases hlt : i < n
  · refine .inr ⟨hlt, Pv (i + 1), fun σ' H' p' => ⟨n - (i + 1), by omega, rfl, hlt, p'⟩, fun x H' y => ?_⟩
    obtain ⟨e, y⟩ := y
    subst e y
    exact hs i σ _ hlt p
  · have e : i = n := by omega
    subst e
    exact .inl ⟨Nat.le_refl _, hd σ H p⟩
end L2

namespace L2
open PySem PySem.Spec PyProof.Rows

abbrev R2 := V → V → Hp → VK → Prop
def OpR (X : Cx) (f : Value → Value → Sem Value) (r : R2) : Prop :=
  ∀ (pins : List (Addr × Obj)) (s : Shared) (σ : St) (H : Hp) (x y : V) (v u : Value) (Q : VK), Inv X pins σ H s → RelV x v → RelV y u → r x y H Q →
    wpAny (model X.prog X.w) X.A (f v u) (EP X pins σ Q) X.xe s
def UnR (X : Cx) (f : Value → Sem Value) (r : V → Hp → VK → Prop) : Prop :=
  ∀ (pins : List (Addr × Obj)) (s : Shared) (σ : St) (H : Hp) (x : V) (v : Value) (Q : VK), Inv X pins σ H s → RelV x v → r x H Q →
    wpAny (model X.prog X.w) X.A (f v) (EP X pins σ Q) X.xe s
def CallR (X : Cx) (f : Value) (r : List V → Hp → VK → Prop) : Prop :=
  ∀ (pins : List (Addr × Obj)) (s : Shared) (σ : St) (H : Hp) (xs : List V) (us : List Value) (Q : VK), Inv X pins σ H s → Vals xs us → r xs H Q →
    wpAny (model X.prog X.w) X.A (call f us) (EP X pins σ Q) X.xe s
def tOp (r : R2) (ta tb : TE) : TE := fun σ H Q => ta σ H fun x H1 => tb σ H1 fun y H2 => r x y H2 Q
def tUn (r : V → Hp → VK → Prop) (ta : TE) : TE := fun σ H Q => ta σ H fun x H1 => r x H1 Q
inductive rI (C : Int → Int → Prop) (g : Int → Int → V) (x : V) (y : V) (H : Hp) (Q : VK) : Prop where
  | mk (i : _) (j : _) (h_0 : x = .int i) (h_1 : y = .int j) (h_2 : C i j) (h_3 : Q (g i j) H)
inductive rI0 (g : Int → Int → V) (x : V) (y : V) (H : Hp) (Q : VK) : Prop where
  | mk (i : _) (j : _) (h_0 : x = .int i) (h_1 : y = .int j) (h_2 : Q (g i j) H)
inductive rU (g : Int → V) (x : V) (H : Hp) (Q : VK) : Prop where
  | mk (i : _) (h_0 : x = .int i) (h_1 : Q (g i) H)

section
variable {X : Cx} {a b c : Expr} {ta tb tc : TE} {pos : Pos}

theorem binT (ha : PE X a ta) (hb : PE X b tb) {pins : List (Addr × Obj)} {s : Shared} {σ : St} {H : Hp} {R : V → V → Hp → Prop} (I : Inv X pins σ H s)
    (h : ta σ H fun x H1 => tb σ H1 fun y H2 => R x y H2) {Q : Value → Shared → Prop} {f : Value → Value → Sem Value}
    (hf : ∀ v u s2 x y H2, Inv X pins σ H2 s2 → RelV x v → RelV y u → R x y H2 → wpAny (model X.prog X.w) X.A (f v u) Q X.xe s2) :
    wpAny (model X.prog X.w) X.A (eval a X.env) (fun v s₁ => wpAny (model X.prog X.w) X.A (eval b X.env) (fun u s₂ => wpAny (model X.prog X.w) X.A (f v u) Q X.xe s₂) X.xe s₁) X.xe s := by
  refine thn (ha pins s σ H _ I h) fun v s1 ⟨x, H1, I1, r1, q1⟩ => ?_
  refine thn (hb pins s1 σ H1 _ I1 q1) fun u s2 ⟨y, H2, I2, r2, q2⟩ => ?_
  exact hf v u s2 x y H2 I2 r1 r2 q2

theorem pe_op {op : Operator} {r : R2} (ho : OpR X (binaryOp op) r) (ha : PE X a ta) (hb : PE X b tb) : PE X (.BinOp a op b pos) (tOp r ta tb) := by
  intro pins s σ H Q I h
  exact wpAny_BinOp (binT ha hb I h fun v u s2 x y H2 I2 rx ry q => ho pins s2 σ H2 x y v u Q I2 rx ry q)
theorem pe_un {op : UnaryOp} {r : V → Hp → VK → Prop} (ho : UnR X (unaryOp op) r) (ha : PE X a ta) : PE X (.UnaryOp op a pos) (tUn r ta) := by
  intro pins s σ H Q I h
  exact UnaryOp_ (thn (ha pins s σ H _ I h) fun v s1 ⟨x, H1, I1, r1, q1⟩ => ho pins s1 σ H1 x v Q I1 r1 q1)
theorem opI {f : Value → Value → Sem Value} {C : Int → Int → Prop} {g : Int → Int → Int}
    (rule : ∀ (i j : Int) (t u : Tok) (s : Shared) (Q : Value → Shared → Prop) (E : Value → Shared → Prop), C i j → Q (.int (g i j) s.toks) { s with toks := s.toks + 1 } → wpAny (model X.prog X.w) X.A (f (.int i t) (.int j u)) Q E s) :
    OpR X f (rI C fun i j => .int (g i j)) := by
  intro pins s σ H x y v u Q I rx ry h
  obtain ⟨i, j, rfl, rfl, hc, q⟩ := h
  obtain ⟨t, rfl⟩ := rx
  obtain ⟨t', rfl⟩ := ry
  exact rule i j t t' s _ _ hc ⟨.int (g i j), H, I.tok _, ⟨_, rfl⟩, q⟩
theorem opI0 {f : Value → Value → Sem Value} {g : Int → Int → Int}
    (rule : ∀ (i j : Int) (t u : Tok) (s : Shared) (Q : Value → Shared → Prop) (E : Value → Shared → Prop), Q (.int (g i j) s.toks) { s with toks := s.toks + 1 } → wpAny (model X.prog X.w) X.A (f (.int i t) (.int j u)) Q E s) :
    OpR X f (rI0 fun i j => .int (g i j)) := by
  intro pins s σ H x y v u Q I rx ry h
  obtain ⟨i, j, rfl, rfl, q⟩ := h
  obtain ⟨t, rfl⟩ := rx
  obtain ⟨t', rfl⟩ := ry
  exact rule i j t t' s _ _ ⟨.int (g i j), H, I.tok _, ⟨_, rfl⟩, q⟩
theorem opB0 {f : Value → Value → Sem Value} {g : Int → Int → Bool}
    (rule : ∀ (i j : Int) (t u : Tok) (s : Shared) (Q : Value → Shared → Prop) (E : Value → Shared → Prop), Q (.bool (g i j)) s → wpAny (model X.prog X.w) X.A (f (.int i t) (.int j u)) Q E s) :
    OpR X f (rI0 fun i j => .bl (g i j)) := by
  intro pins s σ H x y v u Q I rx ry h
  obtain ⟨i, j, rfl, rfl, q⟩ := h
  obtain ⟨t, rfl⟩ := rx
  obtain ⟨t', rfl⟩ := ry
  exact rule i j t t' s _ _ ⟨.bl (g i j), H, I, rfl, q⟩

def CDiv (i j : Int) : Prop := 0 < j ∧ j < 1073741824
def CMul (i j : Int) : Prop := (-(2 ^ 64) < i ∧ i < 2 ^ 64) ∨ (-(2 ^ 64) < j ∧ j < 2 ^ 64)
theorem CMul.ok {i j : Int} (h : CMul i j) : IntMulOk i j := by
  rcases h with ⟨h1, h2⟩ | ⟨h1, h2⟩
  · exact .of_left (intBits_le_64 h1 h2)
  · exact .of_right (intBits_le_64 h1 h2)
theorem op_add : OpR X (binaryOp .Add) (rI0 fun i j => .int (i + j)) := opI0 fun _ _ _ _ _ _ _ q => add_int q
theorem op_sub : OpR X (binaryOp .Sub) (rI0 fun i j => .int (i - j)) := opI0 fun _ _ _ _ _ _ _ q => sub_int q
theorem op_mul : OpR X (binaryOp .Mult) (rI CMul fun i j => .int (i * j)) := opI fun _ _ _ _ _ _ _ hc q => mul_int q hc.ok
theorem op_fdiv : OpR X (binaryOp .FloorDiv) (rI CDiv fun i j => .int (i / j)) := opI fun i j _ _ _ _ _ hc q => by
  have h1 : (0 : Int) < j := hc.1
  have h2 : j < 1073741824 := hc.2
  exact floordiv_int (by omega) (by rw [Int.fdiv_eq_ediv_of_nonneg i (by omega)]; exact q) (.inl (PyProof.noPylong_small (by omega)))
theorem op_mod : OpR X (binaryOp .Mod) (rI (fun _ j => 0 < j) fun i j => .int (i % j)) := opI fun i j _ _ _ _ _ hc q => by
  have h1 : (0 : Int) < j := hc
  exact mod_int' (by omega) (by rw [Int.fmod_eq_emod_of_nonneg i (by omega)]; exact q)
theorem unI {f : Value → Sem Value} {g : Int → Int}
    (rule : ∀ (i : Int) (t : Tok) (s : Shared) (Q : Value → Shared → Prop) (E : Value → Shared → Prop), Q (.int (g i) s.toks) { s with toks := s.toks + 1 } → wpAny (model X.prog X.w) X.A (f (.int i t)) Q E s) :
    UnR X f (rU fun i => .int (g i)) := by
  intro pins s σ H x v Q I rx h
  obtain ⟨i, rfl, q⟩ := h
  obtain ⟨t, rfl⟩ := rx
  exact rule i t s _ _ ⟨.int (g i), H, I.tok _, ⟨_, rfl⟩, q⟩
theorem un_neg : UnR X (unaryOp .USub) (rU fun i => .int (-i)) := unI fun _ _ _ _ _ q => neg_int q
end

def scal : V → V → Bool
  | .non, .non => true | .non, .int _ => true | .int _, .non => true | .non, .bl _ => true | .bl _, .non => true | .non, .str _ => true | .str _, .non => true
  | .int _, .int _ => true | .bl _, .bl _ => true | .str _, .str _ => true | .byt _, .byt _ => true
  | .int _, .str _ => true | .str _, .int _ => true | .bl _, .str _ => true | .str _, .bl _ => true
  | _, _ => false
inductive rEq (x : V) (y : V) (H : Hp) (Q : VK) : Prop where
  | mk  (h_0 : scal x y = true) (h_1 : Q (.bl (decide (x = y))) H)
inductive rNe (x : V) (y : V) (H : Hp) (Q : VK) : Prop where
  | mk  (h_0 : scal x y = true) (h_1 : Q (.bl (!decide (x = y))) H)

theorem dec_int {i j : Int} : decide (V.int i = V.int j) = (i == j) := by
  rw [Bool.eq_iff_iff]
  simp
theorem dec_bl {i j : Bool} : decide (V.bl i = V.bl j) = (i == j) := by
  rw [Bool.eq_iff_iff]
  simp
theorem dec_str {i j : Str} : decide (V.str i = V.str j) = (i == j) := by
  rw [Bool.eq_iff_iff]
  simp
theorem dec_byt {i j : Array UInt8} : decide (V.byt i = V.byt j) = (i.toList == j.toList) := by
  rw [Bool.eq_iff_iff]
  cases i
  cases j
  simp

section
variable {X : Cx} {a b c : Expr} {ta tb tc : TE} {pos : Pos}
theorem fin_bl {pins : List (Addr × Obj)} {σ : St} {H : Hp} {s : Shared} {Q : VK} {k k' : Bool} (I : Inv X pins σ H s) (q : Q (.bl k) H) (e : k = k') : EP X pins σ Q (.bool k') s := by
  subst e
  exact ⟨.bl k, H, I, rfl, q⟩
theorem op_eq : OpR X (compareOp .Eq) rEq := by
  intro pins s σ H x y v u Q I rx ry h
  obtain ⟨hs, q⟩ := h
  cases x with
  | non =>
    cases rx
    cases y with
    | non => cases ry; exact PySem.EqNone.eq_none_none (fin_bl I q (by simp))
    | bl j => cases ry; exact PySem.EqNone.eq_none_bool (fin_bl I q (by simp))
    | int j => obtain ⟨t', rfl⟩ := ry; exact PySem.EqNone.eq_none_int (fin_bl I q (by simp))
    | str j => obtain ⟨t', rfl⟩ := ry; exact PySem.EqNone.eq_none_str (fin_bl I q (by simp))
    | _ => exact absurd (show false = true from hs) Bool.false_ne_true
  | bl i =>
    cases rx
    cases y with
    | non => cases ry; exact PySem.EqNone.eq_bool_none (fin_bl I q (by simp))
    | bl j => cases ry; exact eq_bool (fin_bl I q dec_bl)
    | str j => obtain ⟨t', rfl⟩ := ry; exact PySem.EqMixed.eq_bool_str (fin_bl I q (by simp))
    | _ => exact absurd (show false = true from hs) Bool.false_ne_true
  | int i =>
    obtain ⟨t, rfl⟩ := rx
    cases y with
    | non => cases ry; exact PySem.EqNone.eq_int_none (fin_bl I q (by simp))
    | int j => obtain ⟨t', rfl⟩ := ry; exact eq_int (fin_bl I q dec_int)
    | str j => obtain ⟨t', rfl⟩ := ry; exact PySem.EqMixed.eq_int_str (fin_bl I q (by simp))
    | _ => exact absurd (show false = true from hs) Bool.false_ne_true
  | str i =>
    obtain ⟨t, rfl⟩ := rx
    cases y with
    | non => cases ry; exact PySem.EqNone.eq_str_none (fin_bl I q (by simp))
    | bl j => cases ry; exact PySem.EqMixed.eq_str_bool (fin_bl I q (by simp))
    | int j => obtain ⟨t', rfl⟩ := ry; exact PySem.EqMixed.eq_str_int (fin_bl I q (by simp))
    | str j => obtain ⟨t', rfl⟩ := ry; exact eq_str (fin_bl I q dec_str)
    | _ => exact absurd (show false = true from hs) Bool.false_ne_true
  | byt i =>
    obtain ⟨t, rfl⟩ := rx
    cases y with
    | byt j => obtain ⟨t', rfl⟩ := ry; exact PySem.W.eq_bytes (fin_bl I q dec_byt)
    | _ => exact absurd (show false = true from hs) Bool.false_ne_true
  | _ => cases y <;> exact absurd (show false = true from hs) Bool.false_ne_true
theorem op_ne : OpR X (compareOp .NotEq) rNe := by
  intro pins s σ H x y v u Q I rx ry h
  obtain ⟨hs, q⟩ := h
  cases x with
  | non =>
    cases rx
    cases y with
    | non => cases ry; exact PySem.EqNone.ne_none_none (fin_bl I q (by simp))
    | bl j => cases ry; exact PySem.EqNone.ne_none_bool (fin_bl I q (by simp))
    | int j => obtain ⟨t', rfl⟩ := ry; exact PySem.EqNone.ne_none_int (fin_bl I q (by simp))
    | str j => obtain ⟨t', rfl⟩ := ry; exact PySem.EqNone.ne_none_str (fin_bl I q (by simp))
    | _ => exact absurd (show false = true from hs) Bool.false_ne_true
  | bl i =>
    cases rx
    cases y with
    | non => cases ry; exact PySem.EqNone.ne_bool_none (fin_bl I q (by simp))
    | bl j => cases ry; exact ne_bool (fin_bl I q (congrArg not dec_bl))
    | str j => obtain ⟨t', rfl⟩ := ry; exact PySem.EqMixed.ne_bool_str (fin_bl I q (by simp))
    | _ => exact absurd (show false = true from hs) Bool.false_ne_true
  | int i =>
    obtain ⟨t, rfl⟩ := rx
    cases y with
    | non => cases ry; exact PySem.EqNone.ne_int_none (fin_bl I q (by simp))
    | int j => obtain ⟨t', rfl⟩ := ry; exact ne_int (fin_bl I q (congrArg not dec_int))
    | str j => obtain ⟨t', rfl⟩ := ry; exact PySem.EqMixed.ne_int_str (fin_bl I q (by simp))
    | _ => exact absurd (show false = true from hs) Bool.false_ne_true
  | str i =>
    obtain ⟨t, rfl⟩ := rx
    cases y with
    | non => cases ry; exact PySem.EqNone.ne_str_none (fin_bl I q (by simp))
    | bl j => cases ry; exact PySem.EqMixed.ne_str_bool (fin_bl I q (by simp))
    | int j => obtain ⟨t', rfl⟩ := ry; exact PySem.EqMixed.ne_str_int (fin_bl I q (by simp))
    | str j => obtain ⟨t', rfl⟩ := ry; exact ne_str (fin_bl I q (congrArg not dec_str))
    | _ => exact absurd (show false = true from hs) Bool.false_ne_true
  | byt i =>
    obtain ⟨t, rfl⟩ := rx
    cases y with
    | byt j => obtain ⟨t', rfl⟩ := ry; exact PySem.W.ne_bytes (fin_bl I q (congrArg not dec_byt))
    | _ => exact absurd (show false = true from hs) Bool.false_ne_true
  | _ => cases y <;> exact absurd (show false = true from hs) Bool.false_ne_true

theorem op_lt : OpR X (compareOp .Lt) (rI0 fun i j => .bl (decide (i < j))) := opB0 fun _ _ _ _ _ _ _ q => lt_int q
theorem op_le : OpR X (compareOp .LtE) (rI0 fun i j => .bl (decide (i ≤ j))) := opB0 fun _ _ _ _ _ _ _ q => le_int q
theorem op_gt : OpR X (compareOp .Gt) (rI0 fun i j => .bl (decide (j < i))) := opB0 fun _ _ _ _ _ _ _ q => gt_int q
theorem op_isN : OpR X (compareOp .Is) (fun x y H Q => y = .non ∧ Q (.bl (decide (x = .non))) H) := by
  intro pins s σ H x y v u Q I rx ry h
  obtain ⟨rfl, q⟩ := h
  cases ry
  refine is_none_gen (fin_bl I q ?_)
  cases x <;> first
    | (cases rx; rfl)
    | (obtain ⟨t, rfl⟩ := rx; rfl)
theorem nomark (b : Expr) {op : CmpOp} (h : op ≠ .In := by decide) (h2 : op ≠ .NotIn := by decide) : behindInMarks op b = false := by
  have e1 : (op == CmpOp.In) = false := by cases op <;> first | rfl | exact absurd rfl h
  have e2 : (op == CmpOp.NotIn) = false := by cases op <;> first | rfl | exact absurd rfl h2
  cases b <;> simp [behindInMarks, e1, e2]
theorem pe_cmpR {op : CmpOp} {r : R2} (ho : OpR X (compareOp op) r) (ha : PE X a ta) (hb : PE X b tb) (hm : behindInMarks op b = false) : PE X (.Compare a [op] [b] pos) (tOp r ta tb) := by
  intro pins s σ H Q I h
  exact wpAny_Compare1 (binT ha hb I h fun v u s2 x y H2 I2 rx ry q => ho pins s2 σ H2 x y v u Q I2 rx ry q) hm
def tTest (t : TE) : TT := fun σ H Q => t σ H fun x H1 => IsBl x H1 Q
theorem pt_cmpR {op : CmpOp} {r : R2} (ho : OpR X (compareOp op) r) (ha : PE X a ta) (hb : PE X b tb) (hm : behindInMarks op b = false) : PT X (.Compare a [op] [b] pos) (tTest (tOp r ta tb)) := by
  intro pins s σ H Q I h
  refine wpAny_isTrue_Compare1 (thn (ha pins s σ H _ I h) fun v s1 ⟨x, H1, I1, r1, q1⟩ => thn (hb pins s1 σ H1 _ I1 q1) fun u s2 ⟨y, H2, I2, r2, q2⟩ =>
    thn (ho pins s2 σ H2 x y v u _ I2 r1 r2 q2) fun c s3 ⟨z, H3, I3, r3, k, e, q3⟩ => ?_) hm
  subst e
  cases r3
  exact wpAny_truthy_bool ⟨H3, I3, q3⟩
def tChain (r r' : R2) (ta tb tc : TE) : TE := fun σ H Q => ta σ H fun x H1 => tb σ H1 fun y H2 => r x y H2 fun z H3 => ∃ k, z = .bl k ∧
  (if k = true then tc σ H3 fun w' H4 => r' y w' H4 Q else Q (.bl false) H3)
theorem pe_chain {op op' : CmpOp} {r r' : R2} (ho : OpR X (compareOp op) r) (ho' : OpR X (compareOp op') r') (ha : PE X a ta) (hb : PE X b tb) (hc : PE X c tc)
    (hm : lastMarks [op, op'] [b, c] = false := by with_unfolding_all rfl) : PE X (.Compare a [op, op'] [b, c] pos) (tChain r r' ta tb tc) := by
  intro pins s σ H Q I h
  refine Compare_chain (thn (ha pins s σ H _ I h) fun v s1 ⟨x, H1, I1, r1, q1⟩ => chain_link (thn (hb pins s1 σ H1 _ I1 q1) fun u s2 ⟨y, H2, I2, r2, q2⟩ =>
    thn (ho pins s2 σ H2 x y v u _ I2 r1 r2 q2) fun d s3 ⟨z, H3, I3, r3, k, e, q3⟩ => ?_)) hm
  subst e
  cases r3
  refine wpAny_truthy_bool ?_
  cases k with
  | false => exact ite_ff ⟨.bl false, H3, I3, rfl, q3⟩
  | true => exact ite_tt (chain_last (thn (hc pins s3 σ H3 _ I3 q3) fun w' s4 ⟨z', H4, I4, r4, q4⟩ => ho' pins s4 σ H4 y z' u w' Q I4 r2 r4 q4))
theorem pt_chain {op op' : CmpOp} {r r' : R2} (ho : OpR X (compareOp op) r) (ho' : OpR X (compareOp op') r') (ha : PE X a ta) (hb : PE X b tb) (hc : PE X c tc)
    (hm : lastMarks [op, op'] [b, c] = false := by with_unfolding_all rfl) : PT X (.Compare a [op, op'] [b, c] pos) (tTest (tChain r r' ta tb tc)) := by
  intro pins s σ H Q I h
  refine isTrue_chain (thn (ha pins s σ H _ I h) fun v s1 ⟨x, H1, I1, r1, q1⟩ => test_link (thn (hb pins s1 σ H1 _ I1 q1) fun u s2 ⟨y, H2, I2, r2, q2⟩ =>
    thn (ho pins s2 σ H2 x y v u _ I2 r1 r2 q2) fun d s3 ⟨z, H3, I3, r3, k, e, q3⟩ => ?_)) hm
  subst e
  cases r3
  refine wpAny_truthy_bool ?_
  cases k with
  | false =>
    obtain ⟨k', e', q'⟩ := q3
    cases e'
    exact ite_ff ⟨H3, I3, q'⟩
  | true =>
    refine ite_tt (test_last (thn (hc pins s3 σ H3 _ I3 q3) fun w' s4 ⟨z', H4, I4, r4, q4⟩ => thn (ho' pins s4 σ H4 y z' u w' _ I4 r2 r4 q4) fun d' s5 ⟨z2, H5, I5, r5, k2, e2, q5⟩ => ?_))
    subst e2
    cases r5
    exact wpAny_truthy_bool ⟨H5, I5, q5⟩

theorem line63 : (sizeLine : Nat) < 2 ^ 63 := by rw [sizeLine_eq]; decide
theorem vals1 {x : V} {us : List Value} (r : Vals [x] us) : ∃ u, us = [u] ∧ RelV x u := by
  cases r with
  | cons r1 r2 => cases r2; exact ⟨_, rfl, r1⟩
theorem vals2 {x y : V} {us : List Value} (r : Vals [x, y] us) : ∃ u w', us = [u, w'] ∧ RelV x u ∧ RelV y w' := by
  cases r with
  | cons r1 r2 =>
    cases r2 with
    | cons r3 r4 => cases r4; exact ⟨_, _, rfl, r1, r3⟩
theorem call_abs : CallR X (.builtin "abs") (fun xs H Q => ∃ i, xs = [.int i] ∧ Q (.int (if i < 0 then -i else i)) H) := by
  intro pins s σ H xs us Q I r h
  obtain ⟨i, rfl, q⟩ := h
  obtain ⟨u, rfl, t, rfl⟩ := vals1 r
  exact call_abs_int fun u tk => ⟨.int (if i < 0 then -i else i), H, I.tok _, ⟨_, rfl⟩, q⟩
theorem call_max2 (hc : X.calm = true) : CallR X (.builtin "max") (fun xs H Q => ∃ i j, xs = [.int i, .int j] ∧ Q (.int (if j > i then j else i)) H) := by
  intro pins s σ H xs us Q I r h
  obtain ⟨i, j, rfl, q⟩ := h
  obtain ⟨u, w', rfl, ⟨t, rfl⟩, ⟨t', rfl⟩⟩ := vals2 r
  refine max_two_ints (I.ok.hd hc) fun h' tk k => ⟨_, H, I.kept k, ?_, q⟩
  by_cases hj : j > i
  · rw [if_pos hj, if_pos hj]; exact ⟨_, rfl⟩
  · rw [if_neg hj, if_neg hj]; exact ⟨_, rfl⟩
end
end L2

namespace L2
open PySem PySem.Spec PyProof.Rows

structure ObjM (h : Heap) (x dx C : Addr) (mA : Str → Option Value) : Prop where
  obj : h.get? x = some (PySem.W.instObj C dx)
  ns : h.Ns1 dx mA
  ne : dx ≠ x

theorem lookIn_ns {h : Heap} {dx : Addr} {mA : Str → Option Value} (n : h.Ns1 dx mA) : ∃ od, h.get? dx = some od ∧ ∀ name, PySem.W.lookIn name od = some (mA name) := by
  obtain ⟨o, es, ep, ho, hd, hk, _, hm⟩ := n
  refine ⟨o, ho, fun name => ?_⟩
  have e := hm name
  unfold nsFind findBy at e
  rw [← Array.find?_toList] at e
  unfold PySem.W.lookIn
  rw [hd]
  dsimp only
  split
  · rename_i y q
    rw [q] at e
    exact congrArg some e
  · rename_i q
    rw [q] at e
    have a : es.toList.any (·.refKey) = false := by
      rw [List.any_eq_false]
      intro y hy
      obtain ⟨z, t, hkey⟩ := hk y (Array.mem_toList_iff.mp hy)
      simp [DictEntry.refKey, hkey]
    have a' : ¬ es.toList.any (·.refKey) = true := by rw [a]; exact Bool.false_ne_true
    rw [if_neg a']
    exact congrArg some e

theorem ObjM.look {h : Heap} {x dx C : Addr} {mA : Str → Option Value} (I : ObjM h x dx C mA) : ∃ od, PySem.W.InstAt h x (PySem.W.instObj C dx) C (some od) ∧ ∀ name, PySem.W.lookIn name od = some (mA name) :=
  let ⟨od, ho, hl⟩ := lookIn_ns I.ns
  ⟨od, ⟨I.obj, rfl, rfl, ho⟩, hl⟩

section
variable {prog : Program} {w : World} {A : Around} {E : Value → Shared → Prop} {s : Shared} {K : PySem.W.Frag} {x dx C f : Addr} {mA : Str → Option Value} {name : Str} {v : Value}

theorem get_map {expr : Bool} {Q : Value → Shared → Prop} (X : K.In s.heap) (I : ObjM s.heap x dx C mA) (hg : PySem.W.plainGet K C name = true) (hh : PySem.W.hasDictIn K C = true)
    (ha : PySem.W.findIn K (.ref C) name = some none) (hv : mA name = some v) (hv' : PySem.W.handedIn v = true) (h : Q v { s with toks := s.toks + 1 }) :
    wpAny (model prog w) A (getAttr (.ref x) name expr) Q E s := by
  obtain ⟨od, J, hl⟩ := I.look
  exact PySem.W.get_value X J (PySem.W.plainGet_of hg).1 (PySem.W.findObj_own hh ha rfl (by rw [hl, hv])) hv' h

theorem get_meth {pl : Sem Bool} {Q : Value × List Value → Shared → Prop} (X : K.In s.heap) (I : ObjM s.heap x dx C mA) (hg : PySem.W.plainGet K C name = true)
    (hf : PySem.W.findIn K (.ref C) name = some (some (.ref f))) (ht : PySem.W.isFn K (.ref f) = true) (hv : mA name = none) (h : Q (.ref f, [.ref x]) s) :
    wpAny (model prog w) A (getMethod (.ref x) name pl) Q E s := by
  obtain ⟨od, J, hl⟩ := I.look
  exact PySem.W.method_fn X J (PySem.W.plainGet_of hg).1 (PySem.W.plainGet_of hg).2 hf (beq_iff_eq.mp ht) (by show (PySem.W.lookIn name od).map (·.isSome) = some false; rw [hl, hv]; rfl) h

theorem set_map {ns : List Str} {Q : Unit → Shared → Prop} (X : K.In s.heap) (I : ObjM s.heap x dx C mA)
    (hs : PySem.W.findIn K (.ref C) "__setattr__" = some (some (.builtin "object.__setattr__"))) (hp : PySem.W.plainOver K C = true) (ht : PySem.W.takerIn K C name = some none) (hh : PySem.W.hasDictIn K C = true)
    (hw : PySem.Within mA ns) (hsz : ns.length ≤ sizeLine)
    (h : ∀ h', ObjM h' x dx C (fun y => if y = name then some v else mA y) → Heap.SameBut dx s.heap h' → Q () { s with heap := h', toks := s.toks + 2 }) :
    wpAny (model prog w) A (setAttr (.ref x) name v) Q E s := by
  obtain ⟨od, J, hl⟩ := I.look
  refine PySem.W.set_plain X J hs (PySem.W.osa_open (s := { s with toks := s.toks + 1 }) (r := none) X J hp ht fun b => ?_)
  obtain ⟨cd, hc, hd'⟩ := PySem.W.any_some hh
  have hx : s.heap.get? x = some ⟨.ref C, some dx, .plain, #[]⟩ := I.obj
  refine wpAny_bind (wpAny_pure (wpAny_bind (wpAny_bind (wpAny_loadPart hx (wpAny_bind (PySem.W.Looks.here (s := { s with toks := s.toks + 1 }) (PySem.W.looks_clsIn X hc) ?_))))))
  rw [hd']
  refine wpAny_pure (a := some dx) (wpAny_bind (wpAny_pure (wpAny_bind ?_)))
  refine wpAny_nsSet1 (s := { s with toks := s.toks + 1 }) I.ns fun h' hn2 hs2 => ?_
  obtain ⟨oD, esD, epD, hoD, hdD, hcD⟩ := hn2.count (PySem.Within.cons name v hw)
  refine wpAny_bind (wpAny_lookBehind hoD (by rw [hdD]; exact pastItsLine_dict (Nat.le_trans hcD (by rw [List.length_cons]; omega))) ?_)
  exact wpAny_pure (h _ ⟨(hs2.2 _ (Ne.symm I.ne)).trans I.obj, hn2, I.ne⟩ hs2)

theorem make_map {R : Result → Shared → Prop} {vs : List Value} {kw : List (Str × Value)} (X : K.In s.heap) (hm : PySem.W.makesIn K C = true)
    (hi : PySem.W.findIn K (.ref C) "__init__" = some (some (.ref f))) (hf : PySem.W.typeIn K (.ref f) = some (.type "function"))
    (h : codeAny (model prog w) (A.under (.builtin "type.__call__" ⟨.ref C :: vs, kw⟩)) (.call (.ref f) ⟨.ref (s.heap.objs.size + 1) :: vs, kw⟩) (PySem.W.InitBack (s.heap.objs.size + 1) R)
      { s with heap := (s.heap.push PySem.W.emptyDict).push (PySem.W.instObj C s.heap.objs.size) }) :
    codeAny (model prog w) A (.call (.ref C) ⟨vs, kw⟩) R s := by
  obtain ⟨hh, g, d, t, os⟩ := s
  exact PySem.W.make_core (PySem.W.makes_of X hm) (PySem.W.looks_findIn X hi) (fun self => PySem.W.bind_fn X self hf) (.inl rfl) h
end

def putF (f : Str) (v : V) : List (Str × V) → List (Str × V)
  | [] => [(f, v)]
  | (g, x) :: r => if g = f then (g, v) :: r else (g, x) :: putF f v r
theorem lookup_putF (f g : Str) (v : V) : ∀ fs : List (Str × V), (putF f v fs).lookup g = if g = f then some v else fs.lookup g
  | [] => by
    show List.lookup g [(f, v)] = _
    by_cases h : g = f
    · have hb : (g == f) = true := beq_iff_eq.mpr h
      simp only [List.lookup, hb, if_pos h]
    · have hb : (g == f) = false := beq_eq_false_iff_ne.mpr h
      simp only [List.lookup, hb, if_neg h]
  | (k, x) :: r => by
    have ih := lookup_putF f g v r
    rw [show putF f v ((k, x) :: r) = (if k = f then (k, v) :: r else (k, x) :: putF f v r) from rfl]
    by_cases hk : k = f
    · rw [if_pos hk]
      by_cases h : g = k
      · have hb : (g == k) = true := beq_iff_eq.mpr h
        simp only [List.lookup, hb, if_pos (h.trans hk)]
      · have hb : (g == k) = false := beq_eq_false_iff_ne.mpr h
        simp only [List.lookup, hb, if_neg (fun e : g = f => h (e.trans hk.symm))]
    · rw [if_neg hk]
      by_cases h : g = k
      · have hb : (g == k) = true := beq_iff_eq.mpr h
        simp only [List.lookup, hb, if_neg (fun e : g = f => hk (h.symm.trans e))]
      · have hb : (g == k) = false := beq_eq_false_iff_ne.mpr h
        simp only [List.lookup, hb]
        exact ih
theorem keys_putF (f : Str) (v : V) : ∀ fs : List (Str × V), f ∈ (putF f v fs).map (·.1) ∧ ∀ g, g ∈ fs.map (·.1) → g ∈ (putF f v fs).map (·.1)
  | [] => ⟨by simp [putF], fun g h => by simp at h⟩
  | (k, x) :: r => by
    obtain ⟨i1, i2⟩ := keys_putF f v r
    rw [show putF f v ((k, x) :: r) = (if k = f then (k, v) :: r else (k, x) :: putF f v r) from rfl]
    by_cases hk : k = f
    · rw [if_pos hk]
      subst hk
      exact ⟨by simp, fun g h => by simpa using h⟩
    · rw [if_neg hk]
      refine ⟨?_, fun g h => ?_⟩
      · rw [List.map_cons]
        exact List.mem_cons_of_mem _ i1
      · rw [List.map_cons] at h ⊢
        rcases List.mem_cons.mp h with e | e
        · exact List.mem_cons.mpr (.inl e)
        · exact List.mem_cons_of_mem _ (i2 g e)
theorem length_putF (f : Str) (v : V) : ∀ fs : List (Str × V), (putF f v fs).length ≤ fs.length + 1
  | [] => by simp [putF]
  | (k, x) :: r => by
    have ih := length_putF f v r
    rw [show putF f v ((k, x) :: r) = (if k = f then (k, v) :: r else (k, x) :: putF f v r) from rfl]
    by_cases hk : k = f
    · rw [if_pos hk, List.length_cons, List.length_cons]; omega
    · rw [if_neg hk, List.length_cons, List.length_cons]; omega

theorem RelO.some_of {v : V} {o : Option Value} (r : RelO (some v) o) : ∃ u, o = some u ∧ RelV v u := by
  cases o with
  | none => exact (show False from r).elim
  | some u => exact ⟨u, rfl, r⟩
theorem RelO.none_of {o : Option Value} (r : RelO none o) : o = none := by
  cases o with
  | none => rfl
  | some u => exact (show False from r).elim
theorem handed_of {v : V} {u : Value} (r : RelV v u) : PySem.W.handedIn u = true := by
  cases v with
  | non => cases (show u = Value.none from r); rfl
  | bl b => cases (show u = Value.bool b from r); rfl
  | int i => obtain ⟨t, e⟩ := (show ∃ t, u = Value.int i t from r); cases e; rfl
  | str x => obtain ⟨t, e⟩ := (show ∃ t, u = Value.str x t from r); cases e; rfl
  | byt b => obtain ⟨t, e⟩ := (show ∃ t, u = Value.bytes b t from r); cases e; rfl
  | flt b => obtain ⟨t, e⟩ := (show ∃ t, u = Value.float b t from r); cases e; rfl
  | ref a => cases (show u = Value.ref a from r); rfl
  | ty n => cases (show u = Value.type n from r); rfl

section
variable {P : Program} {w : World} {H H' : Hp} {h h' : Heap} {a C dx : Addr} {fs fs' : List (Str × V)}
theorem ins_get (hok : HOk P w H h) (e : H a = some (.ins C dx fs)) : ∃ mA, ObjM h a dx C mA ∧ (∀ f, RelO (fs.lookup f) (mA f)) ∧ PySem.Within mA (fs.map (·.1)) ∧ fs.length ≤ 1000 ∧ H dx = some (.own a) := by
  obtain ⟨d, z, ne, ob, mA, n, r, q⟩ := (show ObjOk P w H h a (.ins C dx fs) from hok a _ e)
  exact ⟨mA, ⟨ob, n, ne⟩, r, q, z, d⟩
end

structure Cls (K : PySem.W.Frag) (C : Addr) : Prop where
  pg : PySem.W.plainGet K C Str.empty = true
  hd : PySem.W.hasDictIn K C = true
  po : PySem.W.plainOver K C = true
  sa : PySem.W.findIn K (.ref C) "__setattr__" = some (some (.builtin "object.__setattr__"))
theorem Cls.get {K : PySem.W.Frag} {C : Addr} (c : Cls K C) (f : Str) : PySem.W.plainGet K C f = true := c.pg
def NoAttr (K : PySem.W.Frag) (C : Addr) (f : Str) : Prop := PySem.W.findIn K (.ref C) f = some none
theorem NoAttr.taker {K : PySem.W.Frag} {C : Addr} {f : Str} (n : NoAttr K C f) : PySem.W.takerIn K C f = some none := by
  unfold PySem.W.takerIn
  rw [show PySem.W.findIn K (.ref C) f = some none from n]
  rfl
structure Meth (K : PySem.W.Frag) (C : Addr) (m : Str) (f : Addr) : Prop where
  at_ : PySem.W.findIn K (.ref C) m = some (some (.ref f))
  fn : PySem.W.isFn K (.ref f) = true
  kp : PySem.W.keepIn K (.ref f) = true

section
variable {X : Cx} {pins : List (Addr × Obj)} {σ : St} {H : Hp} {s : Shared} {a C dx : Addr} {fs : List (Str × V)} {f : Str} {v : V} {A : Around} {E : Value → Shared → Prop}

theorem getattr_ok {b : Bool} {Q : Value → Shared → Prop} (I : Inv X pins σ H s) (e : H a = some (.ins C dx fs)) (c : Cls X.K C) (n : NoAttr X.K C f) (l : fs.lookup f = some v)
    (h : ∀ u s', Inv X pins σ H s' → RelV v u → Q u s') : wpAny (model X.prog X.w) A (getAttr (.ref a) f b) Q E s := by
  obtain ⟨mA, O, r, _, _, _⟩ := ins_get I.hok e
  obtain ⟨u, hu, ru⟩ := RelO.some_of (v := v) (o := mA f) (by rw [← l]; exact r f)
  exact get_map I.kIn O (c.get f) c.hd n hu (handed_of ru) (h u _ (I.tok _) ru)

theorem getmeth_ok {m : Str} {g : Addr} {pl : Sem Bool} {Q : Value × List Value → Shared → Prop} (I : Inv X pins σ H s) (e : H a = some (.ins C dx fs)) (c : Cls X.K C) (k : Meth X.K C m g) (l : fs.lookup m = none)
    (h : Q (.ref g, [.ref a]) s) : wpAny (model X.prog X.w) A (getMethod (.ref a) m pl) Q E s := by
  obtain ⟨mA, O, r, _, _, _⟩ := ins_get I.hok e
  have hn : mA m = none := RelO.none_of (by rw [← l]; exact r m)
  exact get_meth I.kIn O (c.get m) k.at_ k.fn hn h

theorem setattr_ok {y : V} {u : Value} {Q : Unit → Shared → Prop} (I : Inv X pins σ H s) (e : H a = some (.ins C dx fs)) (c : Cls X.K C) (n : NoAttr X.K C f) (hl : fs.length < 1000) (ry : RelV y u)
    (h : ∀ s', Inv X pins σ (upd H a (.ins C dx (putF f y fs))) s' → Q () s') : wpAny (model X.prog X.w) A (setAttr (.ref a) f u) Q E s := by
  obtain ⟨mA, O, r, wi, _, ho⟩ := ins_get I.hok e
  have hz : (fs.map (·.1)).length ≤ sizeLine := by rw [List.length_map, sizeLine_eq]; omega
  refine set_map I.kIn O c.sa c.po n.taker c.hd wi hz fun h' O' sb => h _ ?_
  have hd : ∃ o, h'.get? dx = some o := let ⟨o, _, _, e', _⟩ := O'.ns; ⟨o, e'⟩
  refine I.write (x := a) (e := dx) (by rw [e]; exact True.intro) (.inr ho) (fun b q hb z => (sb.2 b hb).trans z) hd ?_
  refine ⟨by rw [upd_ne O.ne]; exact ho, ?_, O.ne, O'.obj, _, O'.ns, fun g => ?_, fun g hg => ?_⟩
  · have := length_putF f y fs; omega
  · show RelO ((putF f y fs).lookup g) (if g = f then some u else mA g)
    rw [lookup_putF]
    by_cases q : g = f
    · rw [if_pos q, if_pos q]; exact ry
    · rw [if_neg q, if_neg q]; exact r g
  · by_cases q : g = f
    · rw [q]; exact (keys_putF f y fs).1
    · refine (keys_putF f y fs).2 g (wi g fun z => hg ?_)
      show (if g = f then some u else mA g) = none
      rw [if_neg q]; exact z

theorem Inv.made (I : Inv X pins σ H s) : Inv X pins σ (upd (upd H s.heap.objs.size (.own (s.heap.objs.size + 1))) (s.heap.objs.size + 1) (.ins C s.heap.objs.size []))
    { s with heap := (s.heap.push PySem.W.emptyDict).push (PySem.W.instObj C s.heap.objs.size) } := by
  have e1 : (s.heap.push PySem.W.emptyDict).get? s.heap.objs.size = some PySem.W.emptyDict := Heap.get?_push_size s.heap rfl
  have e2 : ((s.heap.push PySem.W.emptyDict).push (PySem.W.instObj C s.heap.objs.size)).get? (s.heap.objs.size + 1) = some (PySem.W.instObj C s.heap.objs.size) := by
    have := Heap.get?_push_size (s.heap.push PySem.W.emptyDict) (o := PySem.W.instObj C s.heap.objs.size) rfl
    rwa [Heap.size_push] at this
  have e3 : (s.heap.push PySem.W.emptyDict).Ns s.heap.objs.size (fun _ => none) := ⟨PySem.W.emptyDict, #[], _, e1, rfl, (fun e he => absurd he (by simp)), fun _ => rfl⟩
  have I1 := I.laid (a := s.heap.objs.size) (o := .own (s.heap.objs.size + 1)) (h' := s.heap.push PySem.W.emptyDict) (t' := s.toks) (fun b u q => Heap.get?_push_of_some _ q) (Nat.le_refl _) ⟨_, e1⟩
  refine I1.laid (a := s.heap.objs.size + 1) (o := .ins C s.heap.objs.size []) (t' := s.toks) (fun b u q => Heap.get?_push_of_some _ q) (Nat.le_of_eq (Heap.size_push _ _)) ?_
  have ne : s.heap.objs.size ≠ s.heap.objs.size + 1 := Nat.ne_of_lt (Nat.lt_succ_self _)
  refine ⟨by rw [upd_ne ne, upd_same], Nat.zero_le _, ne, e2, fun _ => none, (Heap.Ns1.of_empty e3).at fun o q => Heap.get?_push_of_some _ q, fun _ => True.intro, fun y hy => absurd rfl hy⟩

theorem attr_of {prog : Program} {w : World} {env : Env} {e : Expr} {f : Str} {pos : Pos} {s : Shared} {Q : Value → Shared → Prop} (hb : attributeBase e f env (eval e env) = eval e env)
    (h : wpAny (model prog w) A (eval e env) (fun o s₁ => wpAny (model prog w) A (getAttr o f true) Q E s₁) E s) : wpAny (model prog w) A (eval (.Attribute e f pos) env) Q E s :=
  Attribute_any_ h (by rw [arm_eval_Attribute, hb])
end

inductive IsFd (K : PySem.W.Frag) (f : Str) (x : V) (H : Hp) (Q : VK) : Prop where
  | mk (a : _) (C : _) (dx : _) (fs : _) (v : _) (h1 : x = .ref a) (h2 : H a = some (.ins C dx fs)) (h3 : Cls K C) (h4 : NoAttr K C f) (h5 : fs.lookup f = some v) (q : Q v H)
def tFld (K : PySem.W.Frag) (ta : TE) (f : Str) : TE := fun σ H Q => ta σ H fun x H1 => IsFd K f x H1 Q
def sFld (K : PySem.W.Frag) (ta tv : TE) (f : Str) : TS := fun D σ H => tv σ H fun y H1 => ta σ H1 fun x H2 => ∃ a C dx fs, x = .ref a ∧ H2 a = some (.ins C dx fs) ∧ Cls K C ∧ NoAttr K C f ∧ fs.length < 1000 ∧
  D.nx σ (upd H2 a (.ins C dx (putF f y fs)))
section
variable {X : Cx} {o e value : Expr} {f : Str} {pos pos' tpos : Pos} {ta tv : TE}
theorem pe_fld (he : PE X e ta) (hb : attributeBase e f X.env (eval e X.env) = eval e X.env) : PE X (.Attribute e f pos) (tFld X.K ta f) := by
  intro pins s σ H Q I h
  refine attr_of hb (thn (he pins s σ H _ I h) fun u s1 ⟨x, H1, I1, rx, a, C, dx, fs, v, ex, ea, c, n, l, q⟩ => ?_)
  subst ex
  obtain rfl : u = Value.ref a := rx
  exact getattr_ok I1 ea c n l fun u' s2 I2 ru => ⟨v, H1, I2, ru, q⟩
theorem ps_fld (ha : PE X o ta) (hv : PE X value tv) (hs : swapsWith value (some (.Attribute o f pos')) pos.line X.env = pure false) : PS X (.Assign [.Attribute o f pos'] value pos) (sFld X.K ta tv f) := by
  intro pins s σ H D I h
  refine plainObj_wpAny_Assign_Attribute (thn (hv pins s σ H _ I h) fun u s1 ⟨y, H1, I1, ry, q⟩ => thn (ha pins s1 σ H1 _ I1 q) fun ov s2 ⟨x, H2, I2, rx, a, C, dx, fs, ex, ea, c, n, l, q2⟩ => ?_) hs
  subst ex
  obtain rfl : ov = Value.ref a := rx
  exact setattr_ok I2 ea c n l ry fun s3 I3 => ⟨σ, _, I3, q2⟩
end

section
variable {X : Cx} {pins : List (Addr × Obj)} {σ : St} {H : Hp} {s : Shared} {A : Around} {E : Value → Shared → Prop} {Q : Value → Shared → Prop} {c : Value} {b : Bool}
inductive TyOf (K : PySem.W.Frag) (H : Hp) : V → Value → Prop where
  | non : TyOf K H .non (.type "NoneType")
  | bl (x : Bool) : TyOf K H (.bl x) (.type "bool")
  | int (i : Int) : TyOf K H (.int i) (.type "int")
  | str (x : Str) : TyOf K H (.str x) (.type "str")
  | flt (x : UInt64) : TyOf K H (.flt x) (.type "float")
  | lst {a : Addr} {xs : List V} (e : H a = some (.lst xs)) : TyOf K H (.ref a) (.type "list")
  | frz {a : Addr} {o : Obj} {xs : List V} (e : H a = some (.frz o (.lst xs))) : TyOf K H (.ref a) (.type "list")
  | tup {a : Addr} {xs : List V} (e : H a = some (.tup xs)) : TyOf K H (.ref a) (.type "tuple")
  | dK {a : Addr} {kvs : List (Key × V)} (e : H a = some (.dK kvs)) : TyOf K H (.ref a) (.type "dict")
  | dT {a : Addr} {kvs : List (List Key × V)} (e : H a = some (.dT kvs)) : TyOf K H (.ref a) (.type "dict")
  | ins {a C dx : Addr} {fs : List (Str × V)} (e : H a = some (.ins C dx fs)) (cl : Cls K C) (ha : PySem.W.findIn K (.ref C) "__class__" = some (some (.builtin "object.__class__")))
      (hn : PySem.W.specialIn K (.builtin "object.__class__") "__get__" = some (some (.builtin "getset_descriptor.__get__"))) (htk : PySem.W.takesIn K (.builtin "object.__class__") = some true)
      (hm : PySem.W.mroIn K C (.type "object") = some true) : TyOf K H (.ref a) (.ref C)
theorem isinst_ok {x : V} {u t : Value} (I : Inv X pins σ H s) (rx : RelV x u) (ty : TyOf X.K H x t) (e : PySem.W.kitOne X.K t c = some b) (h : ∀ tk, Q (.bool b) { s with toks := tk }) :
    wpAny (model X.prog X.w) A (call (.builtin "isinstance") [u, c]) Q E s := by
  cases ty with
  | non => cases (show u = Value.none from rx); exact PySem.W.kia_one PySem.W.kitx_none I.kIn True.intro e (fun z => nomatch z) h
  | bl y => cases (show u = Value.bool y from rx); exact PySem.W.kia_one PySem.W.kitx_bool I.kIn True.intro e (fun z => nomatch z) h
  | int i => obtain ⟨t, q⟩ := (show ∃ t, u = Value.int i t from rx); cases q; exact PySem.W.kia_one PySem.W.kitx_int I.kIn True.intro e (fun z => nomatch z) h
  | str y => obtain ⟨t, q⟩ := (show ∃ t, u = Value.str y t from rx); cases q; exact PySem.W.kia_one PySem.W.kitx_str I.kIn True.intro e (fun z => nomatch z) h
  | flt y => obtain ⟨t, q⟩ := (show ∃ t, u = Value.float y t from rx); cases q; exact PySem.W.kia_one PySem.W.kitx_float I.kIn True.intro e (fun z => nomatch z) h
  | @lst a xs ea =>
    cases (show u = Value.ref a from rx)
    obtain ⟨_, _, n, _, h1⟩ := (show ObjOk X.prog X.w H s.heap a (.lst xs) from I.hok a _ ea)
    exact PySem.W.kia_one PySem.W.kitx_list I.kIn ⟨_, h1, rfl⟩ e (fun z => nomatch z) h
  | @frz a ob xs ea =>
    cases (show u = Value.ref a from rx)
    obtain ⟨_, _, _, n, _, h1⟩ := (show ObjOk X.prog X.w H s.heap a (.frz ob (.lst xs)) from I.hok a _ ea)
    exact PySem.W.kia_one PySem.W.kitx_list I.kIn ⟨_, h1, rfl⟩ e (fun z => nomatch z) h
  | @tup a xs ea =>
    cases (show u = Value.ref a from rx)
    obtain ⟨_, _, _, p⟩ := (show ObjOk X.prog X.w H s.heap a (.tup xs) from I.hok a _ ea)
    obtain ⟨o, h1, h2, _⟩ := p
    exact PySem.W.kia_one PySem.W.kitx_tuple I.kIn ⟨o, h1, h2⟩ e (fun z => nomatch z) h
  | @dK a kvs ea =>
    cases (show u = Value.ref a from rx)
    obtain ⟨_, _, vs, _, p⟩ := (show ObjOk X.prog X.w H s.heap a (.dK kvs) from I.hok a _ ea)
    obtain ⟨o, es, ep, h1, h2, _⟩ := p
    exact PySem.W.kia_one PySem.W.kitx_dict I.kIn ⟨o, h1, h2.1⟩ e (fun z => nomatch z) h
  | @dT a kvs ea =>
    cases (show u = Value.ref a from rx)
    obtain ⟨_, _, xs, _, o, es, ep, h1, h2, _⟩ := (show ObjOk X.prog X.w H s.heap a (.dT kvs) from I.hok a _ ea)
    exact PySem.W.kia_one PySem.W.kitx_dict I.kIn ⟨o, h1, h2.1⟩ e (fun z => nomatch z) h
  | @ins a C dx fs ea cl ha hn htk hm =>
    cases (show u = Value.ref a from rx)
    obtain ⟨mA, O, _⟩ := ins_get I.hok ea
    obtain ⟨od, J, _⟩ := O.look
    exact PySem.W.kia_one (PySem.W.kitx_own (cl.get _) cl.hd ha hn htk hm) I.kIn J e (fun z => nomatch z) h
end
end L2

namespace L2
open PySem PySem.Spec PyProof.Rows

structure Room (k : Nat) (A : Around) : Prop where
  hd : A.handled = none
  dp : A.depth + 3 * k + 5 < recursionLimit
  un : A.units + 16 * k + 200 < cLine
theorem Room.mono {j k : Nat} {A : Around} (r : Room k A) (h : j ≤ k) : Room j A := ⟨r.hd, by have := r.dp; omega, by have := r.un; omega⟩
theorem Room.deeper {k : Nat} {A : Around} (r : Room (k + 1) A) (env : Env) : Room k (A.deeper env) :=
  ⟨r.hd, by have := r.dp; show A.depth + 1 + 3 * k + 5 < _; omega, by have := r.un; show A.units + 3 + 16 * k + 200 < _; omega⟩
theorem Room.in1 {k : Nat} {A : Around} (r : Room (k + 1) A) : Room k A.in1 :=
  ⟨r.hd, by have := r.dp; show A.depth + 3 * k + 5 < _; omega, by have := r.un; show A.units + 1 + 16 * k + 200 < _; omega⟩
theorem make_depth {A : Around} {C : Addr} {us : List Value} {kw : List (Str × Value)} : (A.under (.builtin "type.__call__" ⟨.ref C :: us, kw⟩)).depth = A.depth + 1 := by
  first | rfl | simp [Around.under, Code.weight, Code.isCreation, Code.isGuard, Code.isCaller, Code.frames, Code.isFrame, guardIds]
theorem make_units {A : Around} {C : Addr} {us : List Value} {kw : List (Str × Value)} : (A.under (.builtin "type.__call__" ⟨.ref C :: us, kw⟩)).units = A.units + 1 := by
  first | rfl | simp [Around.under, Code.cUnits, Code.frames, Code.isFrame]
theorem Room.make {k : Nat} {A : Around} (r : Room (k + 1) A) (C : Addr) (us : List Value) (kw : List (Str × Value)) : Room k (A.under (.builtin "type.__call__" ⟨.ref C :: us, kw⟩)) :=
  ⟨r.hd, by have := r.dp; rw [make_depth]; omega, by have := r.un; rw [make_units]; omega⟩
theorem Room.depth {k : Nat} {A : Around} (r : Room k A) : A.depth < recursionLimit := by have := r.dp; omega
theorem Room.units {k : Nat} {A : Around} (r : Room k A) : A.units + 64 < cLine := by have := r.un; omega
def tNil : TA := fun _ H Q => Q [] H
def tCons (ta : TE) (tr : TA) : TA := fun σ H Q => ta σ H fun x H1 => tr σ H1 fun xs H2 => Q (x :: xs) H2
section
variable {X : Cx} {e : Expr} {es : List Expr} {te : TE} {t : TA} {pos : Pos}
theorem pa_nil : PA X [] tNil := fun _ _ _ _ H Q I h => Calls.spliced_nil ⟨[], H, I, .nil, h⟩
theorem pa_cons (ha : PE X e te) (hr : PA X es t) (hs : starEach (e :: es) X.env = (false, eval e X.env) :: starEach es X.env := by rfl) : PA X (e :: es) (tCons te t) := by
  intro pos pins s σ H Q I h
  rw [hs]
  show wpAny _ _ (spliced ((false, eval e X.env) :: backTo pos (starEach es X.env))) _ _ s
  refine Calls.spliced_cons (thn (ha pins s σ H _ I h) fun u s1 ⟨x, H1, I1, r1, q1⟩ => ?_)
  exact thn (hr pos pins s1 σ H1 _ I1 q1) fun us s2 ⟨xs, H2, I2, r2, q2⟩ => ⟨x :: xs, H2, I2, .cons r1 r2, q2⟩

def tTup (t : TA) : TE := fun σ H Q => t σ H fun xs H1 => NewT xs H1 Q
def tLst (t : TA) : TE := fun σ H Q => t σ H fun xs H1 => NewL xs H1 Q
theorem pe_tup {x1} (h : PA X es t) : PE X (.Tuple es x1 pos) (tTup t) := by
  intro pins s σ H Q I hq
  refine wpAny_Tuple_spliced (thn (h pos pins s σ H _ I hq) fun us s1 ⟨xs, H1, I1, r, z, q⟩ => ⟨by rw [← r.length]; exact z, ?_⟩)
  have hf : H1 s1.heap.objs.size = none := I1.hok.fresh (Nat.le_refl _)
  refine ⟨.ref s1.heap.objs.size, upd H1 s1.heap.objs.size (.tup xs), I1.laid (t' := s1.toks) (fun b u e => Heap.get?_push_of_some _ e) (Nat.le_refl _) ?_, rfl, q _ hf⟩
  exact ⟨z, us, r, ⟨_, Heap.get?_push_size _ rfl, rfl, _, rfl⟩⟩
theorem pe_lst (h : PA X es t) : PE X (.List es pos) (tLst t) := by
  intro pins s σ H Q I hq
  refine wpAny_List_spliced (thn (h pos pins s σ H _ I hq) fun us s1 ⟨xs, H1, I1, r, z, q⟩ => ⟨by rw [← r.length]; exact z, ?_⟩)
  have hf : H1 s1.heap.objs.size = none := I1.hok.fresh (Nat.le_refl _)
  refine ⟨.ref s1.heap.objs.size, upd H1 s1.heap.objs.size (.lst xs), I1.laid (t' := s1.toks) (fun b u e => Heap.get?_push_of_some _ e) (Nat.le_refl _) ?_, rfl, q _ hf⟩
  exact ⟨z, us, 0, r, Heap.get?_push_size _ rfl⟩
end

abbrev Sp := List V → Hp → VK → XK → Prop
abbrev CXT := List Env → Hp → Shared → XK → Value → Shared → Prop

structure Env0 (P : Program) (w : World) (K : PySem.W.Frag) (mg : Str → Option Value) (base : Heap) (A : Around) (outer : List Env) (s : Shared) (H : Hp) : Prop where
  frames : A.frames = some outer
  mod : Mod K mg base
  bs : ∀ b o, base.get? b = some o → s.heap.get? b = some o ∧ H b = none
  bsz : base.objs.size ≤ s.heap.objs.size
  funs : s.heap.FunFrames base outer
  frf : ∀ b ∈ frs outer, H b = none
  hok : HOk P w H s.heap
  bare : AllBare s.gens
def CE (outer : List Env) (P : Program) (w : World) (H : Hp) (s : Shared) (Q : VK) (u : Value) (s' : Shared) : Prop :=
  ∃ v H', s'.os = s.os ∧ AllBare s'.gens ∧ Un (frs outer) [] H H' s.heap s'.heap ∧ HOk P w H' s'.heap ∧ RelV v u ∧ Q v H'
def CR (CX : CXT) (outer : List Env) (P : Program) (w : World) (H : Hp) (s : Shared) (Q : VK) (E : XK) (r : Result) (s' : Shared) : Prop :=
  match r with
  | .ok (.ret u) => CE outer P w H s Q u s'
  | .ok _ => False
  | .error e => CX outer H s E e s'
structure FnOk (P : Program) (w : World) (K : PySem.W.Frag) (mg : Str → Option Value) (base : Heap) (CX : CXT) (k : Nat) (f : Addr) (fd : FuncData) (ps : List Str) (sp : Sp) : Prop where
  len : ∀ vs H Q E, sp vs H Q E → vs.length = ps.length
  run : ∀ (A : Around) (outer : List Env) (s : Shared) (H : Hp) (args : Args) (us : List Value) (vs : List V) (Q : VK) (E : XK), Room k A → Env0 P w K mg base A outer s H → BindsTo s fd args (ps.zip us) → Vals vs us → sp vs H Q E →
    codeAny (model P w) A (.call (.ref f) args) (CR CX outer P w H s Q E) s
theorem FnOk.imp {P : Program} {w : World} {K : PySem.W.Frag} {mg : Str → Option Value} {base : Heap} {CX : CXT} {k : Nat} {f : Addr} {fd : FuncData} {ps : List Str} {sp sp' : Sp} (F : FnOk P w K mg base CX k f fd ps sp)
    (h : ∀ vs H Q E, sp' vs H Q E → sp vs H Q E) : FnOk P w K mg base CX k f fd ps sp' :=
  ⟨fun vs H Q E q => F.len vs H Q E (h _ _ _ _ q), fun A outer s H args us vs Q E hr he hb hv hs => F.run A outer s H args us vs Q E hr he hb hv (h _ _ _ _ hs)⟩

theorem Env0.make {P : Program} {w : World} {K : PySem.W.Frag} {mg : Str → Option Value} {base : Heap} {A : Around} {outer : List Env} {s : Shared} {H : Hp} (e : Env0 P w K mg base A outer s H) (C : Addr) (us : List Value) (kw : List (Str × Value)) :
    Env0 P w K mg base (A.under (.builtin "type.__call__" ⟨.ref C :: us, kw⟩)) outer s H := ⟨by first | exact e.frames | (simpa [Around.under, Code.envs, Code.isFrame, pushEnvs] using e.frames), e.mod, e.bs, e.bsz, e.funs, e.frf, e.hok, e.bare⟩
section
variable {X : Cx} {pins : List (Addr × Obj)} {σ : St} {H : Hp} {s s' : Shared}
theorem Inv.env0 (I : Inv X pins σ H s) : Env0 X.prog X.w X.K X.mg X.base X.A X.stack s H :=
  ⟨I.ok.frames, I.ok.mod, I.bs, Nat.le_trans I.ok.bsz I.sz, I.stack, I.stkFree, I.hok, I.bare⟩
theorem Inv.after {Q : VK} {u : Value} (I : Inv X pins σ H s) (h : CE X.stack X.prog X.w H s Q u s') : EP X pins σ Q u s' := by
  obtain ⟨v, H', os, bare, un, hok, r, q⟩ := h
  obtain ⟨hh, g, d, t, os'⟩ := s'
  obtain rfl : os' = s.os := os
  exact ⟨v, H', I.call (h' := hh) (g' := g) (d' := d) (t' := t) (ch := []) un hok bare (fun b z => absurd z (by simp)), r, q⟩
end

def tCall (sp : Sp) (dvs : List V) (E : XK) (t : TA) : TE := fun σ H Q => t σ H fun vs H1 => sp (vs ++ dvs) H1 Q E
def tMeth (C : Addr) (m : Str) (sp : Sp) (dvs : List V) (E : XK) (ta : TE) (t : TA) : TE := fun σ H Q => ta σ H fun x H1 => ∃ a dx fs, x = .ref a ∧ H1 a = some (.ins C dx fs) ∧ fs.lookup m = none ∧
  t σ H1 fun vs H2 => sp (x :: (vs ++ dvs)) H2 Q E
def tMake (C : Addr) (sp : Sp) (dvs : List V) (E : XK) (t : TA) : TE := fun σ H Q => t σ H fun vs H1 => ∀ x dx, H1 x = none → H1 dx = none → dx ≠ x →
  sp (.ref x :: (vs ++ dvs)) (upd (upd H1 dx (.own x)) x (.ins C dx [])) (fun v H2 => v = .non ∧ Q (.ref x) H2) E

def Binds (K : PySem.W.Frag) (fd : FuncData) (ps : List Str) (ds : List Value) : Prop :=
  ∀ (s : Shared) (us : List Value), K.In s.heap → (us ++ ds).length = ps.length → BindsTo s fd ⟨us, []⟩ (ps.zip (us ++ ds))
theorem Binds.all {K : PySem.W.Frag} {fd : FuncData} {ps : List Str} (h : ∀ us : List Value, us.length = ps.length → bindArgs fd ⟨us, []⟩ = pure (ps.zip us)) : Binds K fd ps [] := fun s us _ hl => by
  rw [List.append_nil] at hl ⊢
  exact .of_eq (h us hl)

def Passes (CX : CXT) (X : Cx) (E : XK) : Prop := ∀ (pins : List (Addr × Obj)) (σ : St) (H : Hp) (s : Shared) (e : Value) (s' : Shared), Inv X pins σ H s → CX X.stack H s E e s' → X.xe e s'

section
variable {X : Cx} {CX : CXT} {k : Nat} {f C : Addr} {fd : FuncData} {ps : List Str} {sp : Sp} {dvs : List V} {ds : List Value} {E : XK} {x m : Str} {p pos apos : Pos} {e o : Expr} {es : List Expr} {ta : TE} {t : TA}

theorem run_fn {pins : List (Addr × Obj)} {σ : St} {H : Hp} {s : Shared} {Q : VK} {us : List Value} {vs : List V} (F : FnOk X.prog X.w X.K X.mg X.base CX k f fd ps sp) (hr : Room k X.A) (hb : Binds X.K fd ps ds) (hd : Vals dvs ds) (hx : Passes CX X E)
    (I : Inv X pins σ H s) (r : Vals vs us) (h : sp (vs ++ dvs) H Q E) : wpAny (model X.prog X.w) X.A (call (.ref f) us) (EP X pins σ Q) X.xe s := by
  have r2 : Vals (vs ++ dvs) (us ++ ds) := r.append hd
  have hl : (us ++ ds).length = ps.length := by rw [← r2.length]; exact F.len _ _ _ _ h
  refine wpAny_call (codeAny_mono (F.run X.A X.stack s H ⟨us, []⟩ (us ++ ds) (vs ++ dvs) Q E hr I.env0 (hb s us I.kIn hl) r2 h) fun r s' hq => ?_)
  cases r with
  | error e => exact hx pins σ H s e s' I hq
  | ok fl =>
    cases fl with
    | ret u => exact I.after hq
    | next => exact False.elim hq
    | brk => exact False.elim hq
    | cont => exact False.elim hq

theorem pe_call (F : FnOk X.prog X.w X.K X.mg X.base CX k f fd ps sp) (hr : Room k X.A) (hg : Gl X x) (hm : X.mg x = some (.ref f)) (hk : PySem.W.keepIn X.K (.ref f) = true) (hb : Binds X.K fd ps ds) (hd : Vals dvs ds) (hx : Passes CX X E)
    (ha : PA X (e :: es) t) (hdb : (x == ("__debug__" : Str)) = false := by decide) (he : starEach (e :: es) X.env = (false, eval e X.env) :: starEach es X.env := by rfl) (hpl : (backTo pos (starEach es X.env)).any (·.1) = false := by rfl) :
    PE X (.Call (.Name x p) (e :: es) [] pos) (tCall sp dvs E t) := by
  intro pins s σ H Q I h
  refine wpAny_Call_Name_kw (ld_glob I hg hm ?_ hdb)
  refine PySem.W.callWith_K (h₀ := X.base) I.ok.mod.kin hk (thn (ha pos pins s σ H _ I h) fun us s1 ⟨vs, H1, I1, r, q⟩ => ⟨I1.kIn, ?_⟩) he hpl
  exact run_fn F hr hb hd hx I1 r q
theorem pe_meth {pl : Sem Bool} (he : PE X o ta) (c : Cls X.K C) (hm : Meth X.K C m f) (F : FnOk X.prog X.w X.K X.mg X.base CX k f fd ps sp) (hr : Room k X.A) (hb : Binds X.K fd ps ds) (hd : Vals dvs ds) (hx : Passes CX X E) (ha : PA X (e :: es) t)
    (hst : starEach (e :: es) X.env = (false, eval e X.env) :: starEach es X.env := by rfl) (hpl : (backTo pos (starEach es X.env)).any (·.1) = false := by rfl)
    (ht : eval (.Call (.Attribute o m apos) (e :: es) [] pos) X.env = (do
      let ov ← eval o X.env
      standAt apos.atName
      let (f, first) ← holding [ov] (getMethod ov m pl)
      callWith pos f first (backTo pos (starEach (e :: es) X.env)) (backToKw pos (keywordEach [] X.env))) := by rfl) :
    PE X (.Call (.Attribute o m apos) (e :: es) [] pos) (tMeth C m sp dvs E ta t) := by
  intro pins s σ H Q I h
  refine PySem.W.methodCall_KW (pl := pl) (thn (he pins s σ H _ I h) fun u s1 ⟨x, H1, I1, rx, a, dx, fs, ex, ea, l, q⟩ => ?_) ht
  subst ex
  obtain rfl : u = Value.ref a := rx
  refine getmeth_ok I1 ea c hm l ?_
  refine PySem.W.callWith_K (first := [.ref a]) (h₀ := X.base) I.ok.mod.kin hm.kp (thn (ha pos pins s1 σ H1 _ I1 q) fun us s2 ⟨vs, H2, I2, r, q2⟩ => ⟨I2.kIn, ?_⟩) hst hpl
  exact run_fn (us := .ref a :: us) (vs := .ref a :: vs) F hr hb hd hx I2 (.cons rfl r) q2
structure Mk (K : PySem.W.Frag) (C f : Addr) : Prop where
  makes : PySem.W.makesIn K C = true
  init : PySem.W.findIn K (.ref C) "__init__" = some (some (.ref f))
  fn : PySem.W.isFn K (.ref f) = true
  kp : PySem.W.keepIn K (.ref C) = true

theorem run_make {pins : List (Addr × Obj)} {σ : St} {H : Hp} {s : Shared} {Q : VK} {us : List Value} {vs : List V} (M : Mk X.K C f) (F : FnOk X.prog X.w X.K X.mg X.base CX k f fd ps sp) (hr : Room (k + 1) X.A) (hb : Binds X.K fd ps ds) (hd : Vals dvs ds)
    (hx : Passes CX X E) (I : Inv X pins σ H s) (r : Vals vs us)
    (h : ∀ x dx, H x = none → H dx = none → dx ≠ x → sp (.ref x :: (vs ++ dvs)) (upd (upd H dx (.own x)) x (.ins C dx [])) (fun v H2 => v = .non ∧ Q (.ref x) H2) E) :
    wpAny (model X.prog X.w) X.A (call (.ref C) us) (EP X pins σ Q) X.xe s := by
  have hq := h (s.heap.objs.size + 1) s.heap.objs.size (I.hok.fresh (Nat.le_succ _)) (I.hok.fresh (Nat.le_refl _)) (Nat.ne_of_lt (Nat.lt_succ_self _))
  have I2 := Inv.made (C := C) I
  have r2 : Vals (V.ref (s.heap.objs.size + 1) :: (vs ++ dvs)) (Value.ref (s.heap.objs.size + 1) :: (us ++ ds)) := .cons rfl (r.append hd)
  have hl : (Value.ref (s.heap.objs.size + 1) :: us ++ ds).length = ps.length := by
    have e := r2.length
    rw [F.len _ _ _ _ hq] at e
    exact e.symm
  refine wpAny_call (make_map (f := f) I.kIn M.makes M.init (beq_iff_eq.mp M.fn) (codeAny_mono (F.run _ X.stack _ _ ⟨Value.ref (s.heap.objs.size + 1) :: us, []⟩ (Value.ref (s.heap.objs.size + 1) :: (us ++ ds)) _ _ E (hr.make C us [])
    (I2.env0.make C us []) (hb _ (Value.ref (s.heap.objs.size + 1) :: us) I2.kIn hl) r2 hq) fun r s' hq' => ?_))
  cases r with
  | error e => exact hx pins σ _ _ e s' I2 hq'
  | ok fl =>
    cases fl with
    | ret u =>
      obtain ⟨v, H', I3, rv, ev, q3⟩ := I2.after hq'
      subst ev
      exact ⟨rv, ⟨V.ref (s.heap.objs.size + 1), H', I3, rfl, q3⟩⟩
    | next => exact False.elim hq'
    | brk => exact False.elim hq'
    | cont => exact False.elim hq'
theorem pe_make (M : Mk X.K C f) (F : FnOk X.prog X.w X.K X.mg X.base CX k f fd ps sp) (hr : Room (k + 1) X.A) (hg : Gl X x) (hm : X.mg x = some (.ref C)) (hb : Binds X.K fd ps ds) (hd : Vals dvs ds) (hx : Passes CX X E)
    (ha : PA X (e :: es) t) (hdb : (x == ("__debug__" : Str)) = false := by decide) (he : starEach (e :: es) X.env = (false, eval e X.env) :: starEach es X.env := by rfl) (hpl : (backTo pos (starEach es X.env)).any (·.1) = false := by rfl) :
    PE X (.Call (.Name x p) (e :: es) [] pos) (tMake C sp dvs E t) := by
  intro pins s σ H Q I h
  refine wpAny_Call_Name_kw (ld_glob I hg hm ?_ hdb)
  refine PySem.W.callWith_K (h₀ := X.base) I.ok.mod.kin M.kp (thn (ha pos pins s σ H _ I h) fun us s1 ⟨vs, H1, I1, r, q⟩ => ⟨I1.kIn, ?_⟩) he hpl
  exact run_make M F hr hb hd hx I1 r q
end

section
variable {X : Cx} {CX : CXT} {k : Nat} {f C : Addr} {fd : FuncData} {ps ks : List Str} {sp : Sp} {E : XK} {x m : Str} {p pos apos kpos : Pos} {e o : Expr} {es : List Expr} {kws : List Keyword} {te ta : TE} {t tk : TA} {nm : Option Str}
variable {g : List Value → List Value → List Value} {gV : List V → List V → List V}
end

structure FnScope (N P : List Str) (sc : Scope) : Prop where
  kind : sc.kind = .function
  co : sc.isCoroutine = false
  gen : sc.isGenerator = false
  nd : N.Nodup
  pre : N.take P.length = P
  par : ∀ x ∈ P, sc.names.lookup x = some .local ∨ sc.names.lookup x = some .cell
  nofree : ∀ y ∈ sc.names, y.2 ≠ .free

theorem bindL_out {kindOf : Str → Option NameKind} {x : Str} : ∀ {binds : List (Str × Value)} {m : Str → Option Value}, (∀ v, (x, v) ∉ binds) → bindL kindOf binds m x = m x
  | [], _, _ => rfl
  | (n, v) :: r, m, h => by
    unfold bindL
    rw [bindL_out fun w hw => h w (List.mem_cons_of_mem _ hw)]
    split
    · have : x ≠ n := by rintro rfl; exact h v List.mem_cons_self
      simp [this]
    · rfl
theorem bindC_out {kindOf : Str → Option NameKind} {x : Str} : ∀ {binds : List (Str × Value)} {m : Str → Option Value}, (∀ v, (x, v) ∉ binds) → bindC kindOf binds m x = m x
  | [], _, _ => rfl
  | (n, v) :: r, m, h => by
    unfold bindC
    rw [bindC_out fun w hw => h w (List.mem_cons_of_mem _ hw)]
    split
    · rfl
    · have : x ≠ n := by rintro rfl; exact h v List.mem_cons_self
      simp [this]
theorem bindL_get {kindOf : Str → Option NameKind} {x : Str} {v : Value} : ∀ {P : List Str} {vs : List Value} {i : Nat} {m : Str → Option Value}, P.Nodup → P[i]? = some x → vs[i]? = some v → kindOf x = some .local →
    bindL kindOf (P.zip vs) m x = some v
  | [], _, _, _, _, h, _, _ => by simp at h
  | _ :: _, [], _, _, _, _, h, _ => by simp at h
  | p :: P, w :: vs, 0, m, nd, h1, h2, hk => by
    simp at h1 h2; subst h1; subst h2
    show bindL kindOf ((p, w) :: P.zip vs) m p = _
    unfold bindL
    rw [bindL_out fun v hv => (List.nodup_cons.mp nd).1 (List.of_mem_zip hv).1, if_pos hk]
    simp
  | p :: P, w :: vs, i + 1, m, nd, h1, h2, hk => by
    show bindL kindOf ((p, w) :: P.zip vs) m x = _
    unfold bindL
    exact bindL_get (i := i) (List.nodup_cons.mp nd).2 (by simpa using h1) (by simpa using h2) hk
theorem bindC_get {kindOf : Str → Option NameKind} {x : Str} {v : Value} : ∀ {P : List Str} {vs : List Value} {i : Nat} {m : Str → Option Value}, P.Nodup → P[i]? = some x → vs[i]? = some v → kindOf x ≠ some .local →
    bindC kindOf (P.zip vs) m x = some v
  | [], _, _, _, _, h, _, _ => by simp at h
  | _ :: _, [], _, _, _, _, h, _ => by simp at h
  | p :: P, w :: vs, 0, m, nd, h1, h2, hk => by
    simp at h1 h2; subst h1; subst h2
    show bindC kindOf ((p, w) :: P.zip vs) m p = _
    unfold bindC
    rw [bindC_out fun v hv => (List.nodup_cons.mp nd).1 (List.of_mem_zip hv).1, if_neg hk]
    simp
  | p :: P, w :: vs, i + 1, m, nd, h1, h2, hk => by
    show bindC kindOf ((p, w) :: P.zip vs) m x = _
    unfold bindC
    exact bindC_get (i := i) (List.nodup_cons.mp nd).2 (by simpa using h1) (by simpa using h2) hk

def start (N : List Str) (vs : List V) : St := vs.map some ++ List.replicate (N.length - vs.length) none

def cxOf (CX : CXT) (P : Program) (w : World) (K : PySem.W.Frag) (mg : Str → Option Value) (base : Heap) (N : List Str) (qual : Str) (scope : Scope) (f : Addr) (cd : Value) (A : Around) (outer : List Env) (s : Shared) (H : Hp) (E : XK) : Cx where
  prog := P
  w := w
  K := K
  mg := mg
  base := base
  A := A.deeper (envOfC qual scope s.heap.objs.size f cd)
  N := N
  s₀ := s
  H₀ := H
  env := envOfC qual scope s.heap.objs.size f cd
  outer := outer
  stack := envOfC qual scope s.heap.objs.size f cd :: outer
  ex := []
  calm := true
  fn := fun _ => true
  pn := []
  xe := fun e s' => wpAny (model P w) (A.deeper (envOfC qual scope s.heap.objs.size f cd)) (leaving (envOfC qual scope s.heap.objs.size f cd) e) (fun _ s'' => CX outer H s E e s'') (fun e' s'' => CX outer H s E e' s'') s'

theorem cell_has {sc : Scope} {n : Nat} {x : Str} (h : sc.names.lookup x = some .cell) : ∃ c, (cellsFrom n sc.names []).lookup x = some c := by
  have q := PySem.W.cellsFrom_some sc.names n [] (.inl h)
  exact Option.isSome_iff_exists.mp q

theorem inv_start {CX : CXT} {P : Program} {w : World} {K : PySem.W.Frag} {mg : Str → Option Value} {base : Heap} {N ps : List Str} {qual : Str} {scope : Scope} {f : Addr} {cd : Value} {A : Around} {outer : List Env} {s s1 : Shared} {H : Hp} {E : XK} {us : List Value} {vs : List V}
    (S : FnScope N ps scope) (hd : A.handled = none) (e0 : Env0 P w K mg base A outer s H) (hl : vs.length = ps.length) (r : Vals vs us)
    (x : InCallC s s.heap.objs.size (bindL (envOfC qual scope s.heap.objs.size f cd).kindOf (ps.zip us) fun _ => none) (cellsFrom (s.heap.objs.size + 1) scope.names []) (bindC (envOfC qual scope s.heap.objs.size f cd).kindOf (ps.zip us) fun _ => none) s1) :
    Inv (cxOf CX P w K mg base N qual scope f cd A outer s H E) [] (start N vs) H s1 := by
  have hpl : ps.length ≤ N.length := by have := congrArg List.length S.pre; rw [List.length_take] at this; omega
  obtain ⟨h1, tk, rfl, hk⟩ := x.done
  have noA : ∀ b : Addr, b ∉ (cxOf CX P w K mg base N qual scope f cd A outer s H E).ex := fun b z => absurd (show b ∈ ([] : List Addr) from z) (by simp)
  refine ⟨⟨e0.mod, S.kind, rfl, rfl, Nat.le_refl _, fun y z c h1 h2 => ?_, fun y hy => ?_, fun y c _ h => ?_, fun _ => hd, Around.frames_deeper e0.frames, .inr ⟨rfl, rfl⟩, fun b z => absurd z (noA b), e0.bs, e0.bsz, fun b _ _ => noA b, fun b z => absurd z (noA b), e0.funs, e0.frf⟩,
    rfl, e0.bare, Un.kept hk, ⟨_, x.toInCall.ns, fun i y v h1 h2 h3 => ?_⟩, fun y c h => ⟨_, x.cell y c h⟩, e0.hok.fresh (Nat.le_refl _), fun y c h => ?_, fun p hp => absurd (show p ∈ ([] : List (Addr × Obj)) from hp) (by simp), e0.hok.kept hk, ?_⟩
  · exact name_of_addr x.apart (PySem.mem_of_lookup h1) (PySem.mem_of_lookup h2)
  · have hy : scope.names.lookup y = some .cell ∨ scope.names.lookup y = some .free := hy
    rcases hy with hy | hy
    · exact cell_has hy
    · exact absurd rfl (S.nofree _ (PySem.mem_of_lookup hy))
  · exact Nat.le_of_lt (x.above y c (PySem.mem_of_lookup h))
  · have hi : i < vs.length := by
      unfold start at h2
      by_cases hi : i < vs.length
      · exact hi
      · rw [List.getElem?_append_right (by simpa using hi)] at h2
        rw [List.getElem?_replicate] at h2
        split at h2 <;> cases h2
    have ha : vs[i]? = some v := by
      unfold start at h2
      rw [List.getElem?_append_left (by simpa using hi), List.getElem?_map] at h2
      cases e : vs[i]? with
      | none => rw [e] at h2; cases h2
      | some a => rw [e] at h2; cases h2; rfl
    obtain ⟨u, hu, rv⟩ := r.get ha
    have hp : ps[i]? = some y := by
      rw [← S.pre, List.getElem?_take_of_lt (by omega)]; exact h1
    have ndP : ps.Nodup := by rw [← S.pre]; exact S.nd.sublist (List.take_sublist _ _)
    refine ⟨u, rv, ?_⟩
    rcases S.par y (List.mem_of_getElem? hp) with k | k
    · exact .inl ⟨k, bindL_get ndP hp hu k⟩
    · obtain ⟨c, e⟩ := cell_has (n := s.heap.objs.size + 1) k
      refine .inr ⟨.inl k, c, e, ?_⟩
      have q := x.cell y c e
      rw [bindC_get ndP hp hu (by show scope.names.lookup y ≠ _; rw [k]; decide)] at q
      exact q
  · exact e0.hok.fresh (Nat.le_of_lt (x.above y c (PySem.mem_of_lookup h)))
  · unfold start
    show _ = N.length
    rw [List.length_append, List.length_map, List.length_replicate]
    omega

theorem fn_of {CX : CXT} {P : Program} {w : World} {K : PySem.W.Frag} {mg : Str → Option Value} {base : Heap} {k : Nat} {f : Addr} {name qual : Str} {params : Arguments} {body : List Stmt} {scope : Scope} {dV kV doc pm cdv ct oc : Value} {an od : Option Addr}
    {osl : Array (Option Value)} {N ps : List Str} {sp : Sp} (lk : K.lookup f = some ⟨oc, od, .func (PySem.W.fnOf name qual params body scope dV kV doc pm an cdv ct), osl⟩) (hcd : PySem.W.codeIn K cdv qual = true) (S : FnScope N ps scope)
    (len : ∀ vs H Q E, sp vs H Q E → vs.length = ps.length)
    (hbody : ∀ (A : Around) (outer : List Env) (s : Shared) (H : Hp) (vs : List V) (Q : VK) (E : XK), Room k (A.deeper (envOfC qual scope s.heap.objs.size f cdv)) → sp vs H Q E →
      ∃ t, PSs (cxOf CX P w K mg base N qual scope f cdv A outer s H E) body t ∧ t { nx := fun _ H' => Q .non H', rt := Q } (start N vs) H) :
    FnOk P w K mg base CX (k + 1) f (PySem.W.fnOf name qual params body scope dV kV doc pm an cdv ct) ps sp := by
  refine ⟨len, fun A outer s H args us vs Q E hr e0 hb r hsp => ?_⟩
  have hl := len _ _ _ _ hsp
  have KX : K.In s.heap := e0.mod.kin.keeps fun b o e => (e0.bs b o e).1
  have lim : s.heap.NoLimit := e0.mod.nolimit.keeps fun b o e => (e0.bs b o e).1
  have hkind : ∀ y ∈ ps.zip us, scope.names.lookup y.1 = some .local ∨ (scope.names.lookup y.1 = some .cell ∧ ((cellsFrom (s.heap.objs.size + 1) scope.names []).lookup y.1).isSome = true) := fun ⟨n, v⟩ hy => by
    rcases S.par n (List.of_mem_zip hy).1 with q | q
    · exact .inl q
    · exact .inr ⟨q, PySem.W.cellsFrom_some _ _ _ (.inl q)⟩
  refine codeAny_call_function hr.depth (KX _ _ lk) rfl S.co S.gen rfl (PySem.W.codeRec_of KX hcd) (hb _ _ _ _ ?_)
  refine wpAny_newFunctionEnv_cells S.kind hkind fun env he s1 x => ?_
  subst he
  refine ⟨lim.keeps x.toInCall.keep, codeAny_func ?_⟩
  obtain ⟨t, ht, hq⟩ := hbody A outer s H vs Q E (hr.deeper _) hsp
  have I : Inv (cxOf CX P w K mg base N qual scope f cdv A outer s H E) [] (start N vs) H s1 := inv_start S hr.hd e0 hl r x
  refine wpAny_mono (ht [] s1 (start N vs) H _ I hq) (fun fl s' hs => ?_) fun e s' hs => hs
  have fin : ∀ {σ' : St} {H' : Hp} {v : V} {u : Value}, Inv (cxOf CX P w K mg base N qual scope f cdv A outer s H E) [] σ' H' s' → RelV v u → Q v H' → CE outer P w H s Q u s' :=
    fun {σ' H' v u} J rv q => ⟨v, H', J.os, J.bare, J.base, J.hok, rv, q⟩
  cases fl with
  | ret u =>
    obtain ⟨v, σ', H', J, rv, q⟩ := hs
    exact fin J rv q
  | next =>
    obtain ⟨σ', H', J, q⟩ := hs
    exact fin (v := V.non) (u := Value.none) J rfl q
  | brk =>
    obtain ⟨_, _, _, q⟩ := hs
    exact False.elim q
  | cont =>
    obtain ⟨_, _, _, q⟩ := hs
    exact False.elim q
end L2

namespace L2
open PySem PySem.Spec PyProof.Rows
section
variable {X : Cx} {x : Str} {p pos : Pos} {e : Expr} {es : List Expr} {t : TA} {id T : String} {r : List V → Hp → VK → Prop}

def tCB (r : List V → Hp → VK → Prop) (t : TA) : TE := fun σ H Q => t σ H fun vs H1 => r vs H1 Q
theorem pe_callB (hc : CallR X (.builtin id) r) (hg : Gl X x) (hm : X.mg x = none) (hv : bootBuiltins x = some (.builtin id)) (ha : PA X (e :: es) t) (hn : x ≠ "__name__" := by decide) (hdb : (x == ("__debug__" : Str)) = false := by decide)
    (he : starEach (e :: es) X.env = (false, eval e X.env) :: starEach es X.env := by rfl) (hpl : (backTo pos (starEach es X.env)).any (·.1) = false := by rfl) : PE X (.Call (.Name x p) (e :: es) [] pos) (tCB r t) := by
  intro pins s σ H Q I h
  refine wpAny_Call_Name_kw (ld_blt I hg hm hv ?_ hn hdb)
  exact PyProof.Rows.callWith_builtin1 (thn (ha pos pins s σ H _ I h) fun us s1 ⟨vs, H1, I1, r1, q1⟩ => hc pins s1 σ H1 vs us Q I1 r1 q1) he hpl
theorem pe_callTy (hc : CallR X (.type T) r) (hg : Gl X x) (hm : X.mg x = none) (hv : bootBuiltins x = some (.type T)) (ha : PA X (e :: es) t) (hn : x ≠ "__name__" := by decide) (hdb : (x == ("__debug__" : Str)) = false := by decide)
    (he : starEach (e :: es) X.env = (false, eval e X.env) :: starEach es X.env := by rfl) (hpl : (backTo pos (starEach es X.env)).any (·.1) = false := by rfl) : PE X (.Call (.Name x p) (e :: es) [] pos) (tCB r t) := by
  intro pins s σ H Q I h
  refine wpAny_Call_Name_kw (ld_blt I hg hm hv ?_ hn hdb)
  exact PyProof.Rows.callWith_type1 (thn (ha pos pins s σ H _ I h) fun us s1 ⟨vs, H1, I1, r1, q1⟩ => hc pins s1 σ H1 vs us Q I1 r1 q1) he hpl
end
end L2

namespace HT
open PySem PyProof.Rows

section
open PySem.SeqAt
open PySem.AutoSeq1 (wpAny_loadPart')
open PySem.MeetsSeq PySem.MeetsSeq2 PySem.MeetsSeq3

end

section
variable {prog : Program} {w : World} {A : Around} {E : Value → Shared → Prop} {s : Shared}

def sIx (n d : Nat) : Option Int → Nat
  | none => d
  | some v => if v < 0 then (v + (n : Int)).toNat else min v.toNat n
theorem sIx_le (n d : Nat) (hd : d ≤ n) (o : Option Int) : sIx n d o ≤ n := by
  cases o with
  | none => exact hd
  | some v =>
    show (if v < 0 then (v + (n : Int)).toNat else min v.toNat n) ≤ n
    by_cases hv : v < 0
    · rw [if_pos hv]; omega
    · rw [if_neg hv]; exact Nat.min_le_right _ _
theorem clip_eq (v : Int) (n d : Nat) : (if v < 0 then max (v + (n : Int)) 0 else min v (n : Int)) = ((sIx n d (some v) : Nat) : Int) := by
  show (if v < 0 then max (v + (n : Int)) 0 else min v (n : Int)) = (((if v < 0 then (v + (n : Int)).toNat else min v.toNat n) : Nat) : Int)
  by_cases hv : v < 0
  · simp only [if_pos hv]; omega
  · simp only [if_neg hv]; omega
theorem adjust_gen (lo hi : Option Int) (n : Nat) : Builtin.Slice.sliceAdjust lo hi 1 (n : Int) = (((sIx n 0 lo : Nat) : Int), ((sIx n n hi : Nat) : Int)) := by
  have h1 : ¬ ((1 : Int) < 0) := by omega
  unfold Builtin.Slice.sliceAdjust
  simp only [h1, if_false]
  refine Prod.ext ?_ ?_
  · cases lo with
    | none => rfl
    | some v => exact clip_eq v n 0
  · cases hi with
    | none => rfl
    | some v => exact clip_eq v n n
theorem places_gen (i j : Nat) : Builtin.Slice.slicePlaces (i : Int) (j : Int) 1 = j - i := by
  unfold Builtin.Slice.slicePlaces
  have h1 : (1 : Int) > 0 := by omega
  simp only [h1, if_true, Int.ediv_one]
  split <;> omega
theorem slicePart_ {v : Value} {o : Option Int} {Q : Option Int → Shared → Prop} (p : IsPart v o) (h : Q o s) : wpAny (model prog w) A (Builtin.Slice.slicePartIndex v) Q E s := by
  cases p with
  | none => exact slicePart_none h
  | int i t => exact slicePart_int h
theorem sliceApplied_gen {sl : Addr} {vl vu : Value} {lo hi : Option Int} {n : Nat} {Q : Int × Int × Nat → Shared → Prop} (hs : s.heap.IsSliceOf sl vl vu .none) (pl : IsPart vl lo) (pu : IsPart vu hi)
    (h : Q (((sIx n 0 lo : Nat) : Int), 1, sIx n n hi - sIx n 0 lo) s) : wpAny (model prog w) A (Builtin.Slice.sliceApplied (.ref sl) (pure (n : Int))) Q E s := by
  obtain ⟨os, hos, hcs, hds⟩ := id hs
  unfold Builtin.Slice.sliceApplied Builtin.Slice.sliceFields
  refine wpAny_bind (wpAny_bind (wpAny_field hos hds (x := vl) rfl (wpAny_bind (wpAny_field hos hds (x := vu) rfl (wpAny_bind (wpAny_field hos hds (x := .none) rfl (wpAny_pure ?_)))))))
  refine wpAny_bind (slicePart_none ?_)
  show wpAny _ _ (if ((1 : Int) == 0) = true then _ else _) _ _ s
  rw [if_neg (by decide)]
  refine wpAny_bind (slicePart_ pl (wpAny_bind (slicePart_ pu (wpAny_bind (wpAny_pure ?_)))))
  show wpAny _ _ (match Builtin.Slice.sliceAdjust lo hi 1 (n : Int) with | (lo, hi) => pure (lo, (1 : Int), Builtin.Slice.slicePlaces lo hi 1)) _ _ s
  rw [adjust_gen lo hi n]
  show wpAny _ _ (pure (((sIx n 0 lo : Nat) : Int), (1 : Int), Builtin.Slice.slicePlaces ((sIx n 0 lo : Nat) : Int) ((sIx n n hi : Nat) : Int) 1)) _ _ s
  rw [places_gen]
  exact wpAny_pure h
theorem pick_gen (xs : Array Value) (i k : Nat) : ((List.range k).filterMap fun (m : Nat) => xs[((i : Int) + (m : Int) * 1).toNat]?).toArray = ((xs.toList.drop i).take k).toArray := by
  have e : (fun (m : Nat) => xs[((i : Int) + (m : Int) * 1).toNat]?) = fun m => xs[i + m]? := by
    funext m
    have : ((i : Int) + (m : Int) * 1).toNat = i + m := by omega
    rw [this]
  rw [e]
  have := pick_run xs i k
  rw [List.filterMap_map] at this
  have e2 : ((fun x => xs[x]?) ∘ fun x => i + x) = fun m => xs[i + m]? := rfl
  rw [e2] at this
  rw [this]

theorem getItem_tuple_cut {t sl : Addr} {items : Array Value} {vl vu : Value} {lo hi : Option Int} {Q : Value → Shared → Prop} (ht : IsTup s.heap t items) (hs : s.heap.IsSliceOf sl vl vu .none) (pl : IsPart vl lo) (pu : IsPart vu hi)
    (hw : ¬ (sIx items.size 0 lo = 0 ∧ sIx items.size items.size hi = items.size))
    (h : Q (.ref s.heap.objs.size) { s with heap := s.heap.push { cls := .type "tuple", data := .seq ((items.toList.drop (sIx items.size 0 lo)).take (sIx items.size items.size hi - sIx items.size 0 lo)).toArray } })
    (hsz : items.size ≤ sizeLine) : wpAny (model prog w) A (getItem (.ref t) (.ref sl)) Q E s := by
  have htake : sizeOk (.seq ((items.toList.drop (sIx items.size 0 lo)).take (sIx items.size items.size hi - sIx items.size 0 lo)).toArray) := by
    show ((items.toList.drop (sIx items.size 0 lo)).take (sIx items.size items.size hi - sIx items.size 0 lo)).toArray.size ≤ sizeLine
    rw [List.size_toArray, List.length_take, List.length_drop, Array.length_toList]
    omega
  have hj : sIx items.size items.size hi ≤ items.size := sIx_le _ _ (Nat.le_refl _) hi
  obtain ⟨os, hos, hcs, hds⟩ := id hs
  have hTs : s.TypeIs (.ref sl) "slice" := ⟨os, hos, hcs⟩
  unfold getItem
  try with_reducible refine wpAny_holding ?_
  first | refine wpAny_bind (wpAny_pure ?_) | skip
  refine wpAny_bind (wpAny_sequenceKey ht.typeIs (by decide) ?_)
  refine wpAny_bind (wpAny_callSpecial?_slot (name := Str.ofString "__getitem__") ht.typeIs PyProof.Rows.slot_tuple_getitem
    (wpAny_call_entry PyProof.Rows.slot_tuple_getitem ht.typeIs entry_tuple_getitem ?_ (args_tuple_getitem _ _)))
  show wpAny _ _ (Builtin.Tuple.tupleItemsOf (.ref t) >>= _) _ _ s
  refine wpAny_bind (tupleItemsOf_ ht ?_)
  refine wpAny_bind (wpAny_typeOf hTs ?_)
  rw [if_pos (by decide)]
  refine wpAny_bind (sliceApplied_gen hs pl pu ?_)
  have hno : ¬ ((((sIx items.size 0 lo : Nat) : Int) == 0 && (1 : Int) == 1 && (sIx items.size items.size hi - sIx items.size 0 lo) == items.size) = true) := by
    intro q
    rw [Bool.and_eq_true, Bool.and_eq_true] at q
    have q1 : ((sIx items.size 0 lo : Nat) : Int) = 0 := eq_of_beq q.1.1
    have q2 : sIx items.size items.size hi - sIx items.size 0 lo = items.size := eq_of_beq q.2
    exact hw ⟨by omega, by omega⟩
  show wpAny _ _ (if (((sIx items.size 0 lo : Nat) : Int) == 0 && (1 : Int) == 1 && (sIx items.size items.size hi - sIx items.size 0 lo) == items.size) = true then _ else _) _ _ s
  rw [if_neg hno, pick_gen]
  first
    | exact wpAny_bind (m := Builtin.Tuple.tupleExact _) (wpAny_newObj_type (wpAny_pure ⟨_, rfl, wpAny_pure h⟩) htake)
    | exact wpAny_bind (m := Builtin.Tuple.tupleExact _) (wpAny_newObj_type (wpAny_bind (wpAny_pure (wpAny_pure ⟨_, rfl, wpAny_pure h⟩))) htake)
    | exact wpAny_bind (wpAny_bind (m := Builtin.Tuple.tupleExact _) (wpAny_newObj_type (wpAny_pure (wpAny_pure ⟨_, rfl, wpAny_pure h⟩)) htake))
    | exact wpAny_bind (wpAny_bind (m := Builtin.Tuple.tupleExact _) (wpAny_newObj_type (wpAny_pure ⟨_, rfl, wpAny_pure h⟩) htake))
end
end HT

namespace L2
open PySem PySem.Spec PyProof.Rows

abbrev TO := St → Hp → (Option Int → Hp → Prop) → Prop
def PO (X : Cx) (e : Option Expr) (t : TO) : Prop :=
  ∀ (pins : List (Addr × Obj)) (s : Shared) (σ : St) (H : Hp) (Q : Option Int → Hp → Prop), Inv X pins σ H s → t σ H Q →
    wpAny (model X.prog X.w) X.A (evalPart e X.env) (fun u s' => ∃ o H', Inv X pins σ H' s' ∧ IsPart u o ∧ Q o H') X.xe s
def tNoPart : TO := fun _ H Q => Q none H
def tPart (t : TE) : TO := fun σ H Q => t σ H fun x H1 => IsIn x H1 Q

section
variable {X : Cx} {e : Expr} {te : TE} {lo hi : Option Expr} {tl th : TO} {pos p2 : Pos}

theorem po_none : PO X none tNoPart := by
  intro pins s σ H Q I h
  rw [evalPart_none]
  exact wpAny_pure ⟨none, H, I, .none, h⟩
theorem po_some (h : PE X e te) : PO X (some e) (tPart te) := by
  intro pins s σ H Q I hw
  rw [evalPart_some]
  refine thn (h pins s σ H _ I hw) fun u s1 ⟨x, H1, I1, r1, q1⟩ => ?_
  obtain ⟨i, rfl, q⟩ := q1
  obtain ⟨t, rfl⟩ := r1
  exact ⟨some i, H1, I1, .int i t, q⟩

def SlR (X : Cx) (r : V → Option Int → Option Int → Hp → VK → Prop) : Prop :=
  ∀ (pins : List (Addr × Obj)) (s : Shared) (σ : St) (H : Hp) (x : V) (v vl vu : Value) (lo hi : Option Int) (sl : Addr) (Q : VK), Inv X pins σ H s → RelV x v → s.heap.IsSliceOf sl vl vu .none → IsPart vl lo → IsPart vu hi → r x lo hi H Q →
    ∃ T id, typeLookup (.type T) "__getitem__" = pure (some (.builtin id)) ∧ s.TypeIs v T ∧ wpAny (model X.prog X.w) X.A (getItem v (.ref sl)) (EP X pins σ Q) X.xe s
def tSl (r : V → Option Int → Option Int → Hp → VK → Prop) (te : TE) (tl th : TO) : TE := fun σ H Q => te σ H fun x H1 => tl σ H1 fun l H2 => th σ H2 fun u H3 => r x l u H3 Q
theorem pe_slice {r : V → Option Int → Option Int → Hp → VK → Prop} (hr : SlR X r) (he : PE X e te) (hl : PO X lo tl) (hu : PO X hi th) : PE X (.Subscript e (.Slice lo hi none p2) pos) (tSl r te tl th) := by
  intro pins s σ H Q I h
  refine Subscript_ (thn (he pins s σ H _ I h) fun v s1 ⟨x, H1, I1, r1, q1⟩ => ?_)
  refine wpAny_Slice (thn (hl pins s1 σ H1 _ I1 q1) fun vl s2 ⟨l, H2, I2, pl, q2⟩ => thn (hu pins s2 σ H2 _ I2 q2) fun vu s3 ⟨u, H3, I3, pu, q3⟩ => ?_)
  rw [evalPart_none]
  refine wpAny_pure ?_
  have I4 : Inv X pins σ H3 { s3 with heap := s3.heap.push { cls := .type "slice", data := .fields #[vl, vu, .none] } } := I3.kept (t' := s3.toks) fun b ob q => Heap.get?_push_of_some _ q
  obtain ⟨T, id, hT, ht, hg⟩ := hr pins { s3 with heap := s3.heap.push { cls := .type "slice", data := .fields #[vl, vu, .none] } } σ H3 x v vl vu l u s3.heap.objs.size Q I4 r1 (Heap.IsSliceOf.new ..) pl pu q3
  show wpAny (model X.prog X.w) X.A (subscriptTail e (.Slice lo hi none p2) v (.ref s3.heap.objs.size)) (EP X pins σ Q) X.xe { s3 with heap := s3.heap.push { cls := .type "slice", data := .fields #[vl, vu, .none] } }
  exact tail_any (ops := [.ref s3.heap.objs.size, v]) ht hT hg (by with_unfolding_all rfl)

def cutV (xs : List V) (lo hi : Option Int) : List V := (xs.drop (HT.sIx xs.length 0 lo)).take (HT.sIx xs.length xs.length hi - HT.sIx xs.length 0 lo)
theorem cutV_length (xs : List V) (lo hi : Option Int) : (cutV xs lo hi).length ≤ xs.length := by
  unfold cutV
  rw [List.length_take, List.length_drop]
  omega
inductive rSlT (K : PySem.W.Frag) (x : V) (lo : Option Int) (hi : Option Int) (H : Hp) (Q : VK) : Prop where
  | mk (a : _) (xs : _) (h_0 : x = .ref a) (h_1 : SqT K H a xs) (h_2 : ¬ (HT.sIx xs.length 0 lo = 0 ∧ HT.sIx xs.length xs.length hi = xs.length)) (h_3 : ∀ p, H p = none → Q (.ref p) (upd H p (.tup (cutV xs lo hi))))
theorem sl_tup : SlR X (rSlT X.K) := by
  intro pins s σ H x v vl vu lo hi sl Q I rx hs pl pu h
  obtain ⟨a, xs, rfl, hx, hw, q⟩ := h
  cases rx
  obtain ⟨its, r, ht, hz⟩ := I.tuple hx
  have hlen : its.toArray.size = xs.length := by rw [List.size_toArray]; exact r.length.symm
  refine ⟨"tuple", _, PyProof.Rows.slot_tuple_getitem.lookup, ht.typeIs, ?_⟩
  refine HT.getItem_tuple_cut ht hs pl pu (by rw [hlen]; exact hw) ?_ (by rw [hlen]; exact hz)
  rw [hlen]
  refine ⟨.ref s.heap.objs.size, _, I.laid (t' := s.toks) (o := .tup (cutV xs lo hi)) (fun b ob q => Heap.get?_push_of_some _ q) (Nat.le_refl _) ?_, rfl, q _ (I.hok.fresh (Nat.le_refl _))⟩
  exact ⟨Nat.le_trans (cutV_length xs lo hi) hz, _, (r.drop (HT.sIx xs.length 0 lo)).take (HT.sIx xs.length xs.length hi - HT.sIx xs.length 0 lo), IsTup.new _ _⟩

end
end L2

namespace L2
open PySem PySem.Spec PyProof.Rows

def ixN (n : Nat) (i : Int) : Option Nat := if 0 ≤ i then (if i < n then some i.toNat else none) else if -(n : Int) ≤ i then some (i + n).toNat else none
def atI {α : Type} (xs : List α) (i : Int) : Option α := (ixN xs.length i).bind fun j => xs[j]?
theorem ixN_seq {n : Nat} {i : Int} {j : Nat} (h : ixN n i = some j) : seqIndex? i n = some j ∧ j < n ∧ -(n : Int) ≤ i ∧ i < n := by
  unfold ixN at h
  by_cases h0 : 0 ≤ i
  · rw [if_pos h0] at h
    by_cases h1 : i < n
    · rw [if_pos h1] at h
      have e : i.toNat = j := Option.some.inj h
      exact ⟨by rw [seqIndex_of h0 h1, e], by omega, by omega, h1⟩
    · rw [if_neg h1] at h; cases h
  · rw [if_neg h0] at h
    by_cases h1 : -(n : Int) ≤ i
    · rw [if_pos h1] at h
      have e : (i + n).toNat = j := Option.some.inj h
      exact ⟨by rw [seqIndex_neg (by omega) h1, e], by omega, h1, by omega⟩
    · rw [if_neg h1] at h; cases h
theorem atI_get {α : Type} {xs : List α} {i : Int} {v : α} (h : atI xs i = some v) : ∃ j, seqIndex? i xs.length = some j ∧ xs[j]? = some v ∧ j < xs.length ∧ -(xs.length : Int) ≤ i ∧ i < xs.length := by
  unfold atI at h
  cases e : ixN xs.length i with
  | none => rw [e] at h; cases h
  | some j =>
    rw [e] at h
    obtain ⟨h1, h2, h3, h4⟩ := ixN_seq e
    exact ⟨j, h1, h, h2, h3, h4⟩
theorem atI_nat {α : Type} {xs : List α} {j : Nat} {v : α} (h : xs[j]? = some v) : atI xs (j : Int) = some v := by
  have hj : j < xs.length := (List.getElem?_eq_some_iff.mp h).1
  have e : ixN xs.length (j : Int) = some j := by
    unfold ixN
    rw [if_pos (by omega), if_pos (by omega)]; simp
  unfold atI; rw [e]; exact h
theorem atI_last {α : Type} (xs : List α) (v : α) : atI (xs ++ [v]) (-1) = some v := by
  have hl : (xs ++ [v]).length = xs.length + 1 := by simp
  have e : ixN (xs ++ [v]).length (-1) = some xs.length := by
    unfold ixN
    rw [hl, if_neg (by decide), if_pos (by omega)]
    congr 1
    omega
  unfold atI
  rw [e]
  show (xs ++ [v])[xs.length]? = some v
  simp

def PlainIx (b : Expr) : Prop := ∀ o i, subscripted b false o i = operate [o, i] (getItem o i)
def IxR (X : Cx) (r : R2) : Prop :=
  ∀ (value slice : Expr) (pins : List (Addr × Obj)) (s : Shared) (σ : St) (H : Hp) (x y : V) (v u : Value) (Q : VK), Inv X pins σ H s → RelV x v → RelV y u → r x y H Q →
    subscripted slice false v u = operate [v, u] (getItem v u) → wpAny (model X.prog X.w) X.A (subscriptTail value slice v u) (EP X pins σ Q) X.xe s
def MtR (X : Cx) (id : String) (r : V → List V → Hp → VK → Prop) : Prop :=
  ∀ (pins : List (Addr × Obj)) (s : Shared) (σ : St) (H : Hp) (x : V) (xs : List V) (v : Value) (us : List Value) (Q : VK), Inv X pins σ H s → RelV x v → Vals xs us → r x xs H Q →
    wpAny (model X.prog X.w) X.A (call (.builtin id) (v :: us)) (EP X pins σ Q) X.xe s
section
variable {X : Cx} {a b : Expr} {ta tb : TE} {pos : Pos}
theorem pe_ix {r : R2} (hr : IxR X r) (ha : PE X a ta) (hb : PE X b tb) (hs : PlainIx b) : PE X (.Subscript a b pos) (tOp r ta tb) := by
  intro pins s σ H Q I h
  exact Subscript_ (binT ha hb I h fun v u s2 x y H2 I2 rx ry q => hr a b pins s2 σ H2 x y v u Q I2 rx ry q (hs _ _))

inductive rIxL (K : PySem.W.Frag) (x : V) (y : V) (H : Hp) (Q : VK) : Prop where
  | mk (p : _) (xs : _) (i : _) (v : _) (h_0 : x = .ref p) (h_1 : y = .int i) (h_2 : SqL K H p xs) (h_3 : atI xs i = some v) (h_4 : Q v H)
inductive rIxT (K : PySem.W.Frag) (x : V) (y : V) (H : Hp) (Q : VK) : Prop where
  | mk (p : _) (xs : _) (i : _) (v : _) (h_0 : x = .ref p) (h_1 : y = .int i) (h_2 : SqT K H p xs) (h_3 : atI xs i = some v) (h_4 : Q v H)
theorem ix_list : IxR X (rIxL X.K) := by
  intro value slice pins s σ H x y v u Q I rx ry h hs
  obtain ⟨p, xs, i, z, rfl, rfl, hq, he, q⟩ := h
  cases rx
  obtain ⟨t, rfl⟩ := ry
  obtain ⟨its, r, pl, hz⟩ := I.list hq
  obtain ⟨j, h1, h2, h3, h4, h5⟩ := atI_get he
  obtain ⟨w, ew, rw'⟩ := r.get h2
  have hl := r.length
  have hn := line63
  have fin : EP X pins σ Q w s := ⟨z, H, I, rw', q⟩
  by_cases h0 : 0 ≤ i
  · have hj : i.toNat = j := by
      rw [seqIndex_of h0 h5] at h1
      exact Option.some.inj h1
    exact item_listR pl.isList h0 (by omega) (by rw [hj]; simpa using ew) fin hs
  · have hj : (i + (its.toArray.size : Int)).toNat = j := by
      rw [seqIndex_neg (by omega) h4] at h1
      rw [List.size_toArray, ← hl]
      exact Option.some.inj h1
    exact subscriptTail_builtinR (x := w) pl.isList.typeIs slot_list_getitem.lookup
      (wpAny_getItem_list_neg (Q := fun r s' => r = w ∧ EP X pins σ Q r s') pl.isList (by omega) (by rw [List.size_toArray] <;> omega) (by omega) (by rw [hj]; simpa using ew) ⟨rfl, fin⟩) hs
theorem ix_tup : IxR X (rIxT X.K) := by
  intro value slice pins s σ H x y v u Q I rx ry h hs
  obtain ⟨p, xs, i, z, rfl, rfl, hq, he, q⟩ := h
  cases rx
  obtain ⟨t, rfl⟩ := ry
  obtain ⟨its, r, pl, hz⟩ := I.tuple hq
  obtain ⟨j, h1, h2, h3, h4, h5⟩ := atI_get he
  obtain ⟨w, ew, rw'⟩ := r.get h2
  have hl := r.length
  have hn := line63
  have fin : EP X pins σ Q w s := ⟨z, H, I, rw', q⟩
  exact subscriptTail_builtinR (x := w) pl.typeIs slot_tuple_getitem.lookup
    (getItem_tuple (j := j) (Q := fun r s' => r = w ∧ EP X pins σ Q r s') pl (by omega) (by omega) (by rw [List.size_toArray, ← hl]; exact h1) (by simpa using ew) ⟨rfl, fin⟩) hs
theorem mapSeq_set (its : List Value) (n j : Nat) (u : Value) : Obj.mapSeq (·.setIfInBounds j u) { cls := .type "list", data := .seq its.toArray n } = { cls := .type "list", data := .seq (its.set j u).toArray n } := by
  simp [Obj.mapSeq]
theorem Inv.lst {pins : List (Addr × Obj)} {σ : St} {H : Hp} {s : Shared} {p : Addr} {xs : List V} (I : Inv X pins σ H s) (h : H p = some (.lst xs)) :
    ∃ (its : List Value) (n : Nat), Vals xs its ∧ s.heap.get? p = some { cls := .type "list", data := .seq its.toArray n } ∧ xs.length ≤ sizeLine := by
  obtain ⟨z, its, n, r, e⟩ := I.hok p _ h
  exact ⟨its, n, r, e, z⟩
theorem Inv.lstUpd {pins : List (Addr × Obj)} {σ : St} {H : Hp} {s : Shared} {p : Addr} {xs ys : List V} {its its' : List Value} {n n' : Nat} {f : Obj → Obj} (I : Inv X pins σ H s) (h : H p = some (.lst xs))
    (ho : s.heap.get? p = some { cls := .type "list", data := .seq its.toArray n }) (hf : f { cls := .type "list", data := .seq its.toArray n } = { cls := .type "list", data := .seq its'.toArray n' }) (r : Vals ys its') (hz : ys.length ≤ sizeLine) (t : Nat) :
    Inv X pins σ (upd H p (.lst ys)) { s with heap := s.heap.update p f, toks := t } := by
  have e : (s.heap.update p f).get? p = some { cls := .type "list", data := .seq its'.toArray n' } := by
    rw [Heap.get?_update_self f ho (by rw [hf] <;> rfl), hf]
  refine I.write (x := p) (e := p) (by rw [h]; trivial) (.inl rfl) (fun b u hb q => (Heap.get?_update_other _ _ (Ne.symm hb)).trans q) ⟨_, e⟩ ?_
  exact ⟨hz, its', n', r, e⟩
inductive rSetL (o : V) (i : V) (v : V) (H : Hp) (Q : Hp → Prop) : Prop where
  | mk (p : _) (xs : _) (k : _) (j : _) (h_0 : o = .ref p) (h_1 : i = .int k) (h_2 : H p = some (.lst xs)) (h_3 : ixN xs.length k = some j) (h_4 : Q (upd H p (.lst (xs.set j v))))
theorem set_list : PSet X rSetL := by
  intro pins s σ H o i v ov iv u Q I ro ri rv h
  obtain ⟨p, xs, k, j, rfl, rfl, hp, hj, q⟩ := h
  cases ro
  obtain ⟨t, rfl⟩ := ri
  obtain ⟨its, n, r, ho, hz⟩ := I.lst hp
  obtain ⟨h1, h2, h3, h4⟩ := ixN_seq hj
  have hl := r.length
  have hn := line63
  have I' : Inv X pins σ (upd H p (.lst (xs.set j v))) { s with heap := s.heap.update p (Obj.mapSeq (·.setIfInBounds j u)) } :=
    I.lstUpd hp ho (mapSeq_set its n j u) (r.set rv j) (by rw [List.length_set]; exact hz) s.toks
  by_cases h0 : 0 ≤ k
  · have hk : k.toNat = j := by
      rw [seqIndex_of h0 h4] at h1
      exact Option.some.inj h1
    exact PySem.W.ki_setAt ho h0 (by omega) (by rw [List.size_toArray, ← hl]; exact h4) (by rw [hk]; exact ⟨_, I', q⟩)
  · have hk : (k + (its.toArray.size : Int)).toNat = j := by
      rw [seqIndex_neg (by omega) h3] at h1
      rw [List.size_toArray, ← hl]
      exact Option.some.inj h1
    exact PySem.W.ki_setBack ho (by omega) (by rw [List.size_toArray, ← hl]; exact h3) (by omega) (by rw [hk]; exact ⟨_, I', q⟩)

theorem slice_bounds (lo hi : Option Int) (n : Nat) : (sliceBounds lo hi none n).1 = ((HT.sIx n 0 lo : Nat) : Int) ∧ (sliceBounds lo hi none n).2.1 = ((HT.sIx n n hi : Nat) : Int) ∧ (sliceBounds lo hi none n).2.2 = 1 := by
  refine ⟨?_, ?_, rfl⟩
  · cases lo with
    | none => simp [sliceBounds, HT.sIx]
    | some i =>
      simp only [sliceBounds, HT.sIx, Option.getD_none, show (1 : Int) > 0 by decide, if_true]
      by_cases h : i < 0
      · simp only [h, if_true] <;> omega
      · simp only [h, if_false] <;> omega
  · cases hi with
    | none => simp [sliceBounds, HT.sIx]
    | some i =>
      simp only [sliceBounds, HT.sIx, Option.getD_none, show (1 : Int) > 0 by decide, if_true]
      by_cases h : i < 0
      · simp only [h, if_true] <;> omega
      · simp only [h, if_false] <;> omega
theorem slicePick_cut (its : List Value) (lo hi : Option Int) : slicePick its.toArray lo hi none = ((its.drop (HT.sIx its.length 0 lo)).take (HT.sIx its.length its.length hi - HT.sIx its.length 0 lo)).toArray := by
  obtain ⟨h1, h2, h3⟩ := slice_bounds lo hi its.toArray.size
  unfold slicePick
  rw [h1, h2, h3]
  simp only [sliceRange_one, pick_run, List.size_toArray] <;> rfl
inductive rSlL (K : PySem.W.Frag) (x : V) (lo : Option Int) (hi : Option Int) (H : Hp) (Q : VK) : Prop where
  | mk (a : _) (xs : _) (h_0 : x = .ref a) (h_1 : SqL K H a xs) (h_2 : ∀ p, H p = none → Q (.ref p) (upd H p (.lst (cutV xs lo hi))))
theorem sl_list : SlR X (rSlL X.K) := by
  intro pins s σ H x v vl vu lo hi sl Q I rx hs pl pu h
  obtain ⟨a, xs, rfl, hx, q⟩ := h
  cases rx
  obtain ⟨its, r, ht, hz⟩ := I.list hx
  have hlen := r.length
  refine ⟨"list", _, slot_list_getitem.lookup, ht.isList.typeIs, ?_⟩
  refine wpAny_getItem_list_slice ht.isList hs pl pu .none (by simp) ?_ (by rw [List.size_toArray] <;> omega)
  rw [slicePick_cut, ← hlen]
  refine ⟨.ref s.heap.objs.size, _, I.laid (t' := s.toks) (o := .lst (cutV xs lo hi)) (fun b ob q => Heap.get?_push_of_some _ q) (Nat.le_refl _) ?_, rfl, q _ (I.hok.fresh (Nat.le_refl _))⟩
  exact ⟨Nat.le_trans (cutV_length xs lo hi) hz, _, 0, (r.drop (HT.sIx xs.length 0 lo)).take (HT.sIx xs.length xs.length hi - HT.sIx xs.length 0 lo), Heap.get?_push_size _ rfl⟩

theorem call_len_seq : CallR X (.builtin "len") (fun xs H Q => ∃ p ys, xs = [.ref p] ∧ (SqL X.K H p ys ∨ SqT X.K H p ys) ∧ Q (.int ys.length) H) := by
  intro pins s σ H xs us Q I r h
  obtain ⟨p, ys, rfl, hq, q⟩ := h
  obtain ⟨u, rfl, rx⟩ := vals1 r
  cases rx
  have hn := line63
  rcases hq with hq | hq
  · obtain ⟨its, r', pl, hz⟩ := I.list hq
    have hlen := r'.length
    exact Calls.call_len_list pl.isList (by simp only [List.size_toArray] <;> omega) ⟨.int ys.length, H, I.tok _, ⟨s.toks + 1, by rw [List.size_toArray, hlen]⟩, q⟩
  · obtain ⟨its, r', pl, hz⟩ := I.tuple hq
    have hlen := r'.length
    exact len_tuple pl (by simp only [List.size_toArray] <;> omega) ⟨.int ys.length, H, I.tok _, ⟨s.toks + 1, by rw [List.size_toArray, hlen]⟩, q⟩
theorem call_list_of : CallR X (.type "list") (fun xs H Q => ∃ p ys, xs = [.ref p] ∧ (SqL X.K H p ys ∨ SqT X.K H p ys) ∧ ∀ l, H l = none → Q (.ref l) (upd H l (.lst ys))) := by
  intro pins s σ H xs us Q I r h
  obtain ⟨p, ys, rfl, hq, q⟩ := h
  obtain ⟨u, rfl, rx⟩ := vals1 r
  cases rx
  have fin : ∀ (its : List Value), Vals ys its → ys.length ≤ sizeLine → ∀ (h' : Heap) (c' : Nat), (∀ b o', s.heap.get? b = some o' → h'.get? b = some o') →
      h'.get? s.heap.objs.size = some { cls := .type "list", dict := none, data := .seq its.toArray c', slots := #[] } → EP X pins σ Q (.ref s.heap.objs.size) { s with heap := h' } := fun its r' hz h' c' kp e =>
    ⟨.ref s.heap.objs.size, _, I.laid (t' := s.toks) kp (Nat.le_refl _) (show ObjOk X.prog X.w _ h' _ (.lst ys) from ⟨hz, its, c', r', e⟩), rfl, q _ (I.hok.fresh (Nat.le_refl _))⟩
  rcases hq with hq | hq
  · obtain ⟨its, r', pl, hz⟩ := I.list hq
    have hlen := r'.length
    obtain ⟨o, ho, hc, n, hd⟩ := pl.isList
    exact call_list_seq p (.inl rfl) ho hc hd (fun h' c' kp e => fin its r' hz h' c' kp e) (by simp only [List.size_toArray] <;> omega)
  · obtain ⟨its, r', pl, hz⟩ := I.tuple hq
    have hlen := r'.length
    obtain ⟨o, ho, hc, n, hd⟩ := pl
    exact call_list_seq p (.inr rfl) ho hc hd (fun h' c' kp e => fin its r' hz h' c' kp e) (by simp only [List.size_toArray] <;> omega)
def tyV (K : PySem.W.Frag) (T : String) (x : V) (H : Hp) : Prop := match x with
  | .str _ => T = "str"
  | .int _ => T = "int"
  | .ref p => (T = "list" ∧ ∃ xs, SqL K H p xs) ∨ (T = "tuple" ∧ ∃ o, K.lookup p = some o ∧ o.cls = .type "tuple" ∧ o.dict = none) ∨
      (T = "dict" ∧ ((∃ kvs, H p = some (.dK kvs)) ∨ ∃ kvs, H p = some (.dT kvs))) ∨ (T = "set" ∧ ∃ S n, H p = some (.set S n))
  | _ => False
theorem tyV_is {pins : List (Addr × Obj)} {σ : St} {H : Hp} {s : Shared} {T : String} {x : V} {v : Value} (I : Inv X pins σ H s) (r : RelV x v) (ty : tyV X.K T x H) :
    s.TypeIs v T ∧ ∀ a, v = .ref a → ∃ ob, s.heap.get? a = some ob ∧ ob.dict = none := by
  cases x with
  | str z =>
    obtain ⟨t, rfl⟩ := r
    cases (show T = "str" from ty)
    exact ⟨typeIs_str s z t, fun _ e => nomatch e⟩
  | int i =>
    obtain ⟨t, rfl⟩ := r
    cases (show T = "int" from ty)
    exact ⟨typeIs_int s i t, fun _ e => nomatch e⟩
  | ref p =>
    cases r
    rcases ty with ⟨rfl, xs, hq⟩ | ⟨rfl, o, hk, hc, hd⟩ | ⟨rfl, hk⟩ | ⟨rfl, S, n, hk⟩
    · obtain ⟨its, _, pl, _⟩ := I.list hq
      refine ⟨pl.isList.typeIs, fun a e => ?_⟩
      cases e
      obtain ⟨o, n, e, c, hd, _⟩ := pl
      exact ⟨o, e, hd⟩
    · refine ⟨⟨o, I.kIn p o hk, hc⟩, fun a e => ?_⟩
      cases e
      exact ⟨o, I.kIn _ o hk, hd⟩
    · have z : ∃ o, s.heap.get? p = some o ∧ o.ExactDict := by
        rcases hk with ⟨kvs, hk⟩ | ⟨kvs, hk⟩
        · obtain ⟨_, _, _, _, o, _, _, e, ex, _⟩ := I.hok p _ hk
          exact ⟨o, e, ex⟩
        · obtain ⟨_, _, _, _, o, _, _, e, ex, _⟩ := I.hok p _ hk
          exact ⟨o, e, ex⟩
      obtain ⟨o, e, ex⟩ := z
      refine ⟨⟨o, e, ex.1⟩, fun a e2 => ?_⟩
      cases e2
      exact ⟨o, e, ex.2.1⟩
    · obtain ⟨o, _, _, _, e, ex, _⟩ := I.hok p _ hk
      refine ⟨⟨o, e, ex.1⟩, fun a e2 => ?_⟩
      cases e2
      exact ⟨o, e, ex.2.1⟩
  | _ => exact False.elim ty
def tBM (K : PySem.W.Frag) (T : String) (r : V → List V → Hp → VK → Prop) (to : TE) (t : TA) : TE := fun σ H Q => to σ H fun x H1 => tyV K T x H1 ∧ t σ H1 fun xs H2 => r x xs H2 Q
variable {o e : Expr} {es : List Expr} {to : TE} {t : TA} {name : Str} {apos cpos : Pos} {T id : String} {r : V → List V → Hp → VK → Prop}
theorem pe_bm (pa : PlainAttrs T) (slot : Slot T name id) (hty : typeOf (.builtin id) = pure (.type "method_descriptor")) (hm : MtR X id r) (ho : PE X o to) (ha : PA X (e :: es) t)
    (hbase : attributeBase o name X.env (eval o X.env) = eval o X.env := by rfl)
    (hfew : ((backTo cpos (starEach (e :: es) X.env)).all (fun x => !x.1) && (backToKw cpos (keywordEach [] X.env)).all (fun x => x.1.isSome)
      && decide ((e :: es).length + ([] : List Keyword).length + (if ([] : List Keyword).isEmpty then 0 else 1) < 30)) = true := by rfl)
    (hline : (apos.endLine == cpos.line) = true := by rfl) (hs : starEach (e :: es) X.env = (false, eval e X.env) :: starEach es X.env := by rfl) (hplain : (backTo cpos (starEach es X.env)).any (·.1) = false := by rfl) :
    PE X (.Call (.Attribute o name apos) (e :: es) [] cpos) (tBM X.K T r to t) := by
  intro pins s σ H Q I h
  refine wpAny_Call_method_late hbase hfew hline rfl (thn (ho pins s σ H _ I h) fun v s1 ⟨x, H1, I1, r1, ty, q1⟩ => ?_)
  obtain ⟨h1, h2⟩ := tyV_is I1 r1 ty
  refine ⟨T, id, pa, slot, hty, h1, h2, ?_⟩
  have hA := ha cpos pins s1 σ H1 _ I1 q1
  rw [hs] at hA ⊢
  refine Calls.callWith_builtin (by show (false || (backTo cpos (starEach es X.env)).any (·.1)) = false; rw [hplain] <;> rfl) (Calls.evalArgs_plain ?_)
  exact thn hA fun us s2 ⟨vs, H2, I2, r2, q2⟩ => hm pins s2 σ H2 x vs v us Q I2 r1 r2 q2
/- xs.append(e), list.index on a module's tuple .. are MtR facts of 06m -/
end
end L2

namespace L2
open PySem PySem.Spec PyProof.Rows

def MtM (X : Cx) (id : String) (r : V → List V → Hp → VK → Prop) : Prop :=
  ∀ (pins : List (Addr × Obj)) (s : Shared) (σ : St) (H : Hp) (x : V) (xs : List V) (v : Value) (us : List Value) (Q : VK), Inv X pins σ H s → RelV x v → Vals xs us → r x xs H Q →
    wpAny (model X.prog X.w) X.A (call (.builtin id) (v :: us)) (EP X pins σ Q) X.xe s

theorem Vals.one : ∀ {x : V} {us : List Value}, Vals [x] us → ∃ u, us = [u] ∧ RelV x u
  | _, _, .cons r .nil => ⟨_, rfl, r⟩
section
variable {X : Cx} {pins : List (Addr × Obj)} {σ : St} {H : Hp} {s : Shared} {l b : Addr} {xs ys zs : List V}

theorem Inv.lset {its its' : List Value} {n : Nat} {f : Array Value → Array Value} {t' : Nat} (I : Inv X pins σ H s) (hH : H l = some (.lst xs))
    (e : s.heap.get? l = some { cls := .type "list", data := .seq its.toArray n }) (hf : f its.toArray = its'.toArray) (hv : Vals ys its') (hz : ys.length ≤ sizeLine) :
    Inv X pins σ (upd H l (.lst ys)) { s with heap := s.heap.update l (Obj.mapSeq f), toks := t' } := by
  have q := PySem.IsL.update e f
  rw [hf] at q
  refine I.write (x := l) (e := l) (by rw [hH]; exact trivial) (.inl rfl) (fun b' u hb hu => (Heap.get?_update_other s.heap (Obj.mapSeq f) (Ne.symm hb)).trans hu) ⟨_, q⟩ ?_
  exact ⟨hz, its', _, hv, q⟩
theorem Inv.lnew {its : List Value} {t' : Nat} (I : Inv X pins σ H s) (hv : Vals ys its) (hz : ys.length ≤ sizeLine) :
    Inv X pins σ (upd H s.heap.objs.size (.lst ys)) { s with heap := s.heap.push { cls := .type "list", data := .seq its.toArray }, toks := t' } :=
  I.laid (fun _ _ q => Heap.get?_push_of_some _ q) (Nat.le_refl _) ⟨hz, its, 0, hv, Heap.get?_push_size _ rfl⟩
theorem Inv.fresh (I : Inv X pins σ H s) : H s.heap.objs.size = none := I.hok.fresh (Nat.le_refl _)
theorem Inv.lstM (I : Inv X pins σ H s) (hH : H l = some (.lst xs)) : xs.length ≤ sizeLine ∧ ∃ (its : List Value) (n : Nat), Vals xs its ∧ xs.length = its.length ∧ s.heap.get? l = some { cls := .type "list", data := .seq its.toArray n } := by
  obtain ⟨z, its, n, r, e⟩ := I.hok l _ hH
  exact ⟨z, its, n, r, r.length, e⟩

theorem notLongL {n : Nat} (h : n ≤ sizeLine) : Builtin.List.listTooLong n = false := by
  unfold Builtin.List.listTooLong
  exact decide_eq_false (by omega)
end

section
variable {X : Cx}

inductive rAppend (x : V) (vs : List V) (H : Hp) (Q : VK) : Prop where
  | mk (l : _) (xs : _) (y : _) (h_0 : x = .ref l) (h_1 : vs = [y]) (h_2 : H l = some (.lst xs)) (h_3 : xs.length < sizeLine) (h_4 : Q .non (upd H l (.lst (xs ++ [y]))))
theorem mt_append : MtM X "list.append" rAppend := by
  intro pins s σ H x vs v us Q I rx rv h
  obtain ⟨l, xs, y, rfl, rfl, hH, hz, q⟩ := h
  cases rx
  obtain ⟨u, rfl, ru⟩ := rv.one
  obtain ⟨z, its, n, r, hl, e⟩ := I.lstM hH
  refine call_meets F.slot_list_append ⟨_, e, rfl⟩ F.entry_list_append (F.args_list_append_2 _ _) (PySem.list_append l its.toArray n u (by rw [List.size_toArray]; omega)) ⟨e, ?_⟩
  refine ⟨.non, _, I.lset (its' := its ++ [u]) hH e (by simp) (r.append (.cons ru .nil)) ?_, rfl, q⟩
  rw [List.length_append, List.length_singleton]
  omega

inductive rExtend (x : V) (vs : List V) (H : Hp) (Q : VK) : Prop where
  | mk (l : _) (b : _) (xs : _) (zs : _) (h_0 : x = .ref l) (h_1 : vs = [.ref b]) (h_2 : H l = some (.lst xs)) (h_3 : H b = some (.lst zs)) (h_4 : xs.length + zs.length ≤ sizeLine) (h_5 : Q .non (upd H l (.lst (xs ++ zs))))
theorem mt_extend : MtM X "list.extend" rExtend := by
  intro pins s σ H x vs v us Q I rx rv h
  obtain ⟨l, b, xs, zs, rfl, rfl, hH, hB, hz, q⟩ := h
  cases rx
  obtain ⟨u, rfl, ru⟩ := rv.one
  cases ru
  obtain ⟨z, its, n, r, hl, e⟩ := I.lstM hH
  obtain ⟨z2, its2, n2, r2, hl2, e2⟩ := I.lstM hB
  have hsz : its.toArray.size + its2.toArray.size ≤ sizeLine := by rw [List.size_toArray, List.size_toArray]; omega
  have hlong : ¬ (!its.toArray.isEmpty && Builtin.List.listTooLong (its.toArray.size + its2.toArray.size)) = true := by
    rw [notLongL hsz, Bool.and_false]
    exact Bool.false_ne_true
  refine call_meets F.slot_list_extend ⟨_, e, rfl⟩ F.entry_list_extend (F.args_list_extend_2 _ _)
    (AutoSeq1.list_extend_list_list_0 l its.toArray n b its2.toArray n2 hlong (by rw [List.size_toArray]; omega) (by omega)) ⟨e, e2, ?_⟩
  refine ⟨.non, _, I.lset (its' := its ++ its2) hH e (by simp) (r.append r2) ?_, rfl, q⟩
  rw [List.length_append]
  omega

inductive rCat (x : V) (y : V) (H : Hp) (Q : VK) : Prop where
  | mk (l : _) (b : _) (xs : _) (zs : _) (h_0 : x = .ref l) (h_1 : y = .ref b) (h_2 : H l = some (.lst xs)) (h_3 : H b = some (.lst zs)) (h_4 : xs.length + zs.length ≤ sizeLine) (h_5 : ∀ p, H p = none → Q (.ref p) (upd H p (.lst (xs ++ zs))))
theorem op_cat : OpR X (binaryOp .Add) rCat := by
  intro pins s σ H x y v u Q I rx ry h
  obtain ⟨l, b, xs, zs, rfl, rfl, hH, hB, hz, q⟩ := h
  cases rx
  cases ry
  obtain ⟨z, its, n, r, hl, e⟩ := I.lstM hH
  obtain ⟨z2, its2, n2, r2, hl2, e2⟩ := I.lstM hB
  refine PySem.P.add_list e e2 ?_ (by rw [List.size_toArray, List.size_toArray]; omega)
  have ea : its.toArray ++ its2.toArray = (its ++ its2).toArray := by simp
  rw [ea]
  exact ⟨.ref _, _, I.lnew (t' := s.toks) (r.append r2) (by rw [List.length_append]; omega), rfl, q _ I.fresh⟩
end

section
variable {prog : Program} {w : World} {A : Around} {E : Value → Shared → Prop} {s : Shared}
end

section
variable {X : Cx}
end
end L2

namespace Att
open PySem PySem.W PySem.Calls PyProof.Rows

theorem ints_of_wellAll {P : Params} {h : Heap} : ∀ (ns : List Int) (vs : List Value), WellAll P h vs (ns.map WData.int) → IntsAre vs ns := by
  intro ns
  induction ns with
  | nil =>
    intro vs w
    rw [List.map_nil] at w
    cases w
    exact .nil
  | cons n ns ih =>
    intro vs w
    rw [List.map_cons] at w
    cases w with
    | cons a b =>
      cases a
      exact .cons _ _ (ih _ b)

theorem script_of {l : OpenLaw} {n : Nat} (hn : l.most = some n) {P : Params} {h : Heap} {args : List WData} {vals : List Value}
    (hpre : l.row.toRowW.claim.pre args = true) (hwl : WellAll P h vals args) :
    ∃ a vs ns, vals = [Value.ref a] ∧ args = [WData.list (ns.map WData.int)] ∧ h.get? a = some { cls := .type "list", data := .seq vs.toArray } ∧ IntsAre vs ns ∧ ns.length ≤ n := by
  have hsh : WShape.hasAll [] args [.list .int] = true := (pre_splitW hpre).1
  have hc : l.pre.holds [] { args := args } = true := (pre_splitW hpre).2
  obtain ⟨d, r, rfl, h1, h2⟩ := hasAllW_cons hsh
  obtain rfl := hasAllW_nil h2
  obtain ⟨xs, rfl, h3⟩ := hasW_list h1
  obtain ⟨ns, rfl⟩ := items_int h3
  have hlen : ns.length ≤ n := by
    unfold OpenLaw.pre at hc
    have h4 : (WTm.not (.lt (.lit (.int (n : Int))) (.len (.arg 0)))).holds [] { args := [.list (ns.map .int)] } = true := by
      have h4 := (holds_andW hc).1
      rw [hn] at h4
      exact h4
    have h5 := condW_of h4 (w_not (w_lt w_lit (w_len_list (w_arg rfl))))
    rw [List.length_map] at h5
    refine Nat.le_of_not_lt fun q => ?_
    have q' : (n : Int) < ((ns.length : Nat) : Int) := by omega
    first
      | (rw [decide_eq_true q'] at h5; exact absurd h5 (by decide))
      | (simp at h5; omega)
  cases hwl with
  | cons w1 w2 =>
    cases w2
    cases w1 with
    | list ho hall => exact ⟨_, _, ns, rfl, rfl, ho, ints_of_wellAll ns _ hall, hlen⟩

theorem post_true (l : OpenLaw) (args : List WData) : l.row.toRowW.claim.post args (.bool true) args = true :=
  postW_of (r := l.row.toRowW) (X := (true == true))
    (show WShape.has [] (.bool true) .bool = true by first | rfl | decide | simp [WShape.has, WShape.arms, WShape.armsAll])
    (show (WTm.eq .res (.lit (.bool true))).value [] { args := args, res := some (.bool true), after := args } = some (.bool (true == true)) from w_eq_bool (w_res rfl) w_lit) rfl

theorem attach_call {l : OpenLaw} {n : Nat} {q : Program} {loose : List Str} {XP : (Str → Option Value) → Heap → Prop} {YP : World → Heap → Prop} {d : DefRec}
    (hn : l.most = some n) (hdf : d.params.defaults = [])
    (call : ∀ (w : World) (s₀ s₁ : Shared) (mg mb : Str → Option Value) (fa : Addr) (o : Obj) (pm cd doc : Value) (a : Addr) (vs : List Value) (ns : List Int),
      Ground q loose [] XP w s₀ mg mb s₁.heap → YP w s₁.heap →
      s₁.heap.get? fa = some o → o.data = .func (docDef d.name d.params d.body d.scope pm cd doc) → s₁.heap.CodeRec cd d.name → mg d.name = some (.ref fa) →
      s₁.heap.get? a = some { cls := .type "list", data := .seq vs.toArray } → IntsAre vs ns → ns.length ≤ n → s₁.gens = #[] →
      codeAny (model l.prog w) callerA (.call (.ref fa) ⟨[.ref a], []⟩) (fun r s' => r = .ok (.ret (.bool true)) ∧ OldK s₁.heap s'.heap ∧ s'.os = s₁.os ∧ AllBare s'.gens) s₁) :
    WalkO q loose XP YP l.row.toRowW d [] (fun f vs => PySem.call f vs) := by
  intro w s₀ s₁ mg mb G Y fa o pm cd doc dV kV ho hd hcd hD hmg hg args vals as hpre hlay hrd hwl hlo
  obtain rfl : dV = .none := Dflts.none hD hdf
  obtain rfl : kV = .none := Dflts.noKw hD
  obtain ⟨a, vs, ns, rfl, rfl, hobj, hints, hlen⟩ := script_of hn hpre hwl
  refine enter_call (codeAny_mono (call w s₀ s₁ mg mb fa o pm cd doc a vs ns G Y ho (fd_plain hd) hcd hmg hobj hints hlen hg) fun r s' hq => ?_)
  obtain ⟨rfl, h2, h3, h4⟩ := hq
  exact ⟨.inl ⟨.bool true, .bool true, [], rfl, fun _ => rfl, .bool true, post_true l _, fun _ => ⟨List.Pairwise.nil, fun _ hm => (nomatch hm)⟩⟩, h2, h3, h4⟩

section
variable {prog : Program} {w : World} {A : Around} {E : Value → Shared → Prop} {s : Shared} {K : Frag}

end
end Att

namespace L2
open PySem PySem.Spec PyProof.Rows

theorem vals_ints : ∀ {vs : List Value} {ns : List Int}, IntsAre vs ns → Vals (ns.map V.int) vs
  | _, _, .nil => .nil
  | _, _, .cons n t h => .cons ⟨t, rfl⟩ (vals_ints h)

end L2

namespace L2
open PySem PySem.Spec PyProof.Rows

end L2

/- THE LAST THEOREM (shape; LID, My.* are yours):
   My.Adr: a structure of the addresses that your layer names (classes, functions); My.Txt K t: a structure (Prop) of the equations over K;
   My.txt_mk : {K} {implicit addresses ..} (e1 : nsIn K mainGlobals "law" = some (some (.ref f))) (e2 : K.lookup f = some ⟨oc, od, .func (fnOf "law" "law" params body scope dV kV doc pm an cdv ct), sl⟩) (e3 : codeIn K cdv "law" = true) .. : ∃ t, My.Txt K t

(the tactic k_is has no namespace: write k_is) -/

namespace L2
open PySem PySem.Spec PyProof.Rows

def inClass (s : Stmt) (j : Nat) : Stmt := match s with
  | .ClassDef _ _ _ body _ _ _ _ _ _ _ => body.getD j (.Pass ⟨0, 0, 0, 0⟩)
  | _ => .Pass ⟨0, 0, 0, 0⟩
def defArgs (s : Stmt) : Arguments := match s with
  | .FunctionDef _ a _ _ _ _ _ _ _ _ => a
  | _ => { posonlyargs := [], args := [], vararg := none, kwonlyargs := [], kw_defaults := [], kwarg := none, defaults := [] }
def defBody (s : Stmt) : List Stmt := match s with
  | .FunctionDef _ _ b _ _ _ _ _ _ _ => b
  | _ => []
def defScope (s : Stmt) : Scope := match s with
  | .FunctionDef _ _ _ _ _ _ sc _ _ _ => sc
  | _ => { kind := .function, names := [], isGenerator := false, isCoroutine := false }

abbrev CX0 : CXT := fun _ _ _ _ _ _ => False
abbrev E0 : XK := fun _ _ _ => False
theorem pass0 {X : Cx} : Passes CX0 X E0 := fun _ _ _ _ _ _ _ h => h.elim

structure Fun (K : PySem.W.Frag) (x qual : Str) (st : Stmt) (f : Addr) (fd : FuncData) : Prop where
  ex : ∃ (oc : Value) (od : Option Addr) (kV doc pm : Value) (an : Option Addr) (cdv ct : Value) (osl : Array (Option Value)),
    fd = PySem.W.fnOf x qual (defArgs st) (defBody st) (defScope st) .none kV doc pm an cdv ct ∧ K.lookup f = some ⟨oc, od, .func fd, osl⟩ ∧ PySem.W.codeIn K cdv qual = true
  kp : PySem.W.keepIn K (.ref f) = true
section
variable {P : Program} {w : World} {K : PySem.W.Frag} {mg : Str → Option Value} {base : Heap}
theorem Fun.ok {x qual : Str} {st : Stmt} {f : Addr} {fd : FuncData} {N ps : List Str} {k : Nat} {sp : Sp} (F : Fun K x qual st f fd) (S : FnScope N ps (defScope st)) (len : ∀ vs H Q E, sp vs H Q E → vs.length = ps.length)
    (hbody : ∀ (cdv : Value) (A : Around) (outer : List Env) (s : Shared) (H : Hp) (vs : List V) (Q : VK) (E : XK), Room k (A.deeper (envOfC qual (defScope st) s.heap.objs.size f cdv)) → sp vs H Q E →
      ∃ t, PSs (cxOf CX0 P w K mg base N qual (defScope st) f cdv A outer s H E).nox (defBody st) t ∧ t { nx := fun _ H' => Q .non H', rt := Q } (start N vs) H) : FnOk P w K mg base CX0 (k + 1) f fd ps sp := by
  obtain ⟨oc, od, kV, doc, pm, an, cdv, ct, osl, rfl, lk, hcd⟩ := F.ex
  refine fn_of lk hcd S len fun A outer s H vs Q E hr hsp => ?_
  obtain ⟨t, h, q⟩ := hbody cdv A outer s H vs Q E hr hsp
  exact ⟨t, h.nox, q⟩
theorem Fun.binds {x qual : Str} {st : Stmt} {f : Addr} {fd : FuncData} {ps : List Str} (F : Fun K x qual st f fd)
    (h : ∀ (kV doc pm : Value) (an : Option Addr) (cdv ct : Value) (us : List Value), us.length = ps.length → bindArgs (PySem.W.fnOf x qual (defArgs st) (defBody st) (defScope st) .none kV doc pm an cdv ct) ⟨us, []⟩ = pure (ps.zip us)) : Binds K fd ps [] := by
  obtain ⟨oc, od, kV, doc, pm, an, cdv, ct, osl, rfl, lk, hcd⟩ := F.ex
  exact .all (h kV doc pm an cdv ct)
theorem fun_mk {x qual : Str} {st : Stmt} {f : Addr} {oc : Value} {od an : Option Addr} {osl : Array (Option Value)} {kV doc pm cdv ct : Value} (l : K.lookup f = some ⟨oc, od, .func (PySem.W.fnOf x qual (defArgs st) (defBody st) (defScope st) .none kV doc pm an cdv ct), osl⟩)
    (c : PySem.W.codeIn K cdv qual = true) (k : PySem.W.keepIn K (.ref f) = true) : Fun K x qual st f (PySem.W.fnOf x qual (defArgs st) (defBody st) (defScope st) .none kV doc pm an cdv ct) := ⟨⟨oc, od, kV, doc, pm, an, cdv, ct, osl, rfl, l, c⟩, k⟩
end
section
variable {X : Cx}
theorem pv (i : Nat) {x : Str} {pos : Pos} (hN : X.N[i]? = some x := by rfl) (hv : Vis X.env.scope x := by first | exact Or.inl rfl | exact Or.inr (Or.inl rfl) | exact Or.inr (Or.inr rfl)) (hd : (x == ("__debug__" : Str)) = false := by decide)
    (hcd : (x == ("__classdict__" : Str)) = false := by decide) : PE X (.Name x pos) (tVar i) := pe_var hN hv hd hcd
end

theorem iteF {A B : Prop} (h : B) : if false = true then A else B := by
  rw [if_neg Bool.false_ne_true]
  exact h
theorem iteT {A B : Prop} (h : A) : if true = true then A else B := by
  rw [if_pos rfl]
  exact h
theorem ite2 {c A B : Prop} [Decidable c] (h1 : c → A) (h2 : ¬ c → B) : if c then A else B := by
  by_cases h : c
  · rw [if_pos h]
    exact h1 h
  · rw [if_neg h]
    exact h2 h
def Same (H H' : Hp) : Prop := ∀ b o, H b = some o → H' b = some o
theorem Same.refl (H : Hp) : Same H H := fun _ _ h => h
theorem Same.trans {H H1 H2 : Hp} (a : Same H H1) (b : Same H1 H2) : Same H H2 := fun c o h => b c o (a c o h)
theorem Same.free {H H' : Hp} (e : Same H H') {l : Addr} (h : H' l = Option.none) : H l = Option.none := by
  cases q : H l with
  | none => rfl
  | some o =>
    rw [e l o q] at h
    cases h
theorem Same.seq {K : PySem.W.Frag} {H H' : Hp} {a : Addr} {xs : List V} (e : Same H H') (h : SqL K H a xs) : SqL K H' a xs := by
  rcases h with (h | ⟨o, h⟩) | h
  · exact .inl (.inl (e _ _ h))
  · exact .inl (.inr ⟨o, e _ _ h⟩)
  · exact .inr h

end L2
set_option linter.all false
namespace Hull
abbrev P := Int × Int
def turn (a b c : P) : Int := (b.1 - a.1) * (c.2 - a.2) - (b.2 - a.2) * (c.1 - a.1)
def lt (a b : P) : Prop := a.1 < b.1 ∨ (a.1 = b.1 ∧ a.2 < b.2)
instance (a b : P) : Decidable (lt a b) := by unfold lt; infer_instance
def pos (u : P) : Prop := 0 < u.1 ∨ (u.1 = 0 ∧ 0 < u.2)
def sb (a b : P) : P := (a.1 - b.1, a.2 - b.2)
def pops (t : P) : List P → List P
  | b :: a :: r => if turn a b t ≤ 0 then pops t (a :: r) else b :: a :: r
  | l => l
def push (st : List P) (t : P) : List P := t :: pops t st
def ng (a : P) : P := (-a.1, -a.2)
end Hull
set_option linter.all false
namespace Hull
section
variable {row : List P} (hrow : row.Pairwise lt)
include hrow

end
end Hull
set_option linter.all false
namespace Hull
section
variable {row : List P} (hrow : row.Pairwise lt)
include hrow

end
end Hull
set_option linter.all false
namespace Hull
def mn (a b : P) : P := if lt b a then b else a
def mx (a b : P) : P := if lt a b then b else a
def le (a b : P) : Prop := ¬ lt b a
def On (a b s : P) : Prop := turn a b s = 0 ∧ le (mn a b) s ∧ le s (mx a b)
def Tri (a b c s : P) : Prop := (0 < turn a b s ∧ 0 < turn b c s ∧ 0 < turn c a s) ∨ (turn a b s < 0 ∧ turn b c s < 0 ∧ turn c a s < 0)
def HeldIx (others : List P) (s : P) : Prop :=
  ∃ (k n : Nat) (a b : P), k < n ∧ others[k]? = some a ∧ others[n]? = some b ∧ (On a b s ∨ ∃ (m : Nat) (c : P), n < m ∧ others[m]? = some c ∧ Tri a b c s)
def others (row : List P) (s : P) : List P := row.filter fun x => decide (x ≠ s)
section
open Classical
noncomputable def due (row : List P) : List P := row.filter fun s => decide (¬ HeldIx (others row s) s)
end
end Hull
set_option linter.all false
set_option maxRecDepth 100000
namespace SetM
open PySem PySem.SetTable

def adv (mask : Nat) (p : Probe) : Probe :=
  if p.more > 0 then { p with j := p.j + 1, more := p.more - 1 } else
  let (i, perturb) := leap mask p.i p.perturb
  { p with j := i, more := runEnd mask i - i, i, perturb }
def iter (mask : Nat) (p : Probe) : Nat → Probe
  | 0 => p
  | k + 1 => adv mask (iter mask p k)
end SetM
set_option linter.all false
set_option maxRecDepth 100000
namespace SetM
open PySem PySem.SetTable
section
variable {α : Type} {t : SetTable} {es : List (Int × α)} {Z : List (Nat × (Int × α))}
end
end SetM
set_option linter.all false
set_option maxRecDepth 100000
namespace SetM
open PySem PySem.SetTable
end SetM
set_option linter.all false
set_option maxRecDepth 100000
namespace SortM
open PySem PySem.W PyProof.Rows
def run {α : Type} (T : Nat → Nat → Bool) : KasT α → α
  | .ret a => a
  | .ask i j k => run T (k (T i j))
structure Ord (n : Nat) (T : Nat → Nat → Bool) : Prop where
  irr : ∀ i, T i i = false
  tr : ∀ i j k, T i j = true → T j k = true → T i k = true
  tot : ∀ i j, i < n → j < n → i ≠ j → T i j = true ∨ T j i = true
section
variable {n : Nat} {T : Nat → Nat → Bool} (O : Ord n T)
include O
end
section
variable {n : Nat} {T : Nat → Nat → Bool} (O : Ord n T)
include O
end
section
variable {n : Nat} {T : Nat → Nat → Bool} (O : Ord n T)
include O
end
end SortM
set_option linter.all false
set_option maxRecDepth 100000
set_option maxHeartbeats 4000000
namespace SortM
open PySem PySem.W PyProof.Rows
section
variable {n : Nat} (h1 : 1 ≤ n)
include h1
end
open Hull
section
variable {prog : Program} {w : World} {A : Around} {E : Value → Shared → Prop} {s : Shared}
end
end SortM
set_option linter.all false
set_option maxRecDepth 100000
set_option maxHeartbeats 4000000
namespace SetX
open PySem PySem.W PyProof.Rows Hull SortM SetM
section
variable {prog : Program} {w : World} {A : Around} {E : Value → Shared → Prop} {s : Shared}
end
end SetX
set_option linter.all false
set_option maxRecDepth 100000
set_option maxHeartbeats 4000000
namespace SetX
open PySem PySem.W PyProof.Rows Hull SortM SetM
abbrev VP := Value × P
section
variable {prog : Program} {w : World} {A : Around} {E : Value → Shared → Prop} {s : Shared}
end
end SetX
set_option linter.all false
set_option maxRecDepth 100000
set_option maxHeartbeats 4000000
namespace SetX
open PySem PySem.W PyProof.Rows Hull SortM SetM
section
variable {prog : Program} {w : World} {A : Around} {E : Value → Shared → Prop} {s : Shared}
end
end SetX
set_option linter.all false
set_option maxRecDepth 100000
set_option maxHeartbeats 8000000
namespace SetX
open PySem PySem.W PyProof.Rows Hull SortM SetM
section
variable {prog : Program} {w : World} {A : Around} {R : Result → Shared → Prop} {I : Addr} {fp wr : List Addr} {G : Array GenState → Array GenState → Prop} {n : Nat} {Pv : Nat → Value → Prop} {St : Nat → Shared → Prop}
end
section
variable {prog : Program} {w : World} {A : Around} {E : Value → Shared → Prop} {s : Shared}
end
end SetX
set_option linter.all false
set_option maxRecDepth 100000
set_option maxHeartbeats 8000000
namespace SetX
open PySem PySem.W PyProof.Rows Hull SortM SetM
section
variable {prog : Program} {w : World} {A : Around} {E : Value → Shared → Prop} {s : Shared}
end
end SetX
set_option linter.all false
set_option maxRecDepth 100000
set_option maxHeartbeats 8000000
namespace SetX
open PySem PySem.W PyProof.Rows Hull SortM SetM
namespace F
end F
def byText (w : World) : Bool := w.params.followText "set-order"
def sl (w : World) (t : SetTable) (i : Nat) : Nat := if byText w then 0 else if i = 0 then 0 else t.place.getD (i - 1) 0 + 1
section
variable {prog : Program} {w : World} {A : Around} {E : Value → Shared → Prop} {s : Shared} {a : Addr} {es : Array (Int × Value)} {ep : Nat} {t : SetTable} {L : List VP}
end
end SetX
set_option linter.all false
set_option maxRecDepth 100000
set_option maxHeartbeats 8000000
namespace SetX
open PySem PySem.W PyProof.Rows Hull SortM SetM
section
variable {prog : Program} {w : World} {A : Around} {E : Value → Shared → Prop} {s : Shared} {a it : Addr} {es : Array (Int × Value)} {ep : Nat} {t : SetTable} {L : List VP}
end
end SetX
set_option linter.all false
set_option maxRecDepth 100000
set_option maxHeartbeats 8000000
namespace SetX
open PySem PySem.W PyProof.Rows Hull SortM SetM
section
variable {prog : Program} {w : World} {A : Around} {E : Value → Shared → Prop} {s : Shared} {a it : Addr} {es : Array (Int × Value)} {ep : Nat} {t : SetTable} {L : List VP}
end
end SetX
set_option linter.all false
set_option maxRecDepth 100000
set_option maxHeartbeats 4000000
namespace SpotC
open PySem PySem.W PyProof.Rows Hull SortM
section
variable {prog : Program} {w : World} {A : Around} {E : Value → Shared → Prop} {s : Shared}
end
end SpotC
set_option linter.all false
set_option maxRecDepth 100000
set_option maxHeartbeats 4000000
namespace SpotC
open PySem PySem.W PyProof.Rows Hull SortM
end SpotC
set_option linter.all false
set_option maxRecDepth 100000
set_option maxHeartbeats 8000000
namespace RevX
open PySem PySem.W PyProof.Rows
namespace F
theorem mro : mroOf (.type "reversed") = pure [.type "reversed", .type "object"] := by rw [mroOf_type]; kernel_rfl
theorem lookup_new : typeLookup (.type "reversed") "__new__" = pure (some (.builtin "reversed.__new__")) := by rw [typeLookup_type, builtinLookup_eq_fast]; kernel_rfl
theorem notType : (Value.type "reversed" == Value.type "type") = false := by decide +kernel
theorem canCreate : ((Manifest.find? "reversed").bind (·.mro.findSome? fun t => (Manifest.find? t).bind fun b => if b.noNew then some true else if b.attrs.any (·.1 == "__new__") then some false else none)).getD false = false := by decide +kernel
theorem made : Bind.madeBy (.type "reversed") = pure (some "reversed.__new__") := madeBy_type mro lookup_new (by decide +kernel)
theorem plain_new : plainId "reversed.__new__" = true := by decide +kernel
theorem sub : isSubtype (.type "reversed") (.type "reversed") = pure true := by rw [isSubtype_type]; kernel_rfl
theorem sub_other : isSubtype (.type "list_reverseiterator") (.type "reversed") = pure false := by rw [isSubtype_type]; kernel_rfl
theorem typeCall (a : Value) : checkTypeCall "reversed" ⟨[a], []⟩ = pure () := by kernel_rfl
theorem newCall (a : Value) : checkBuiltinCall "reversed.__new__" ⟨[.type "reversed", a], []⟩ = pure () := by kernel_rfl
theorem entry_new : entryFor table "reversed.__new__" = some Builtin.«reversed.__new__» := entryFor_of_tree (by kernel_rfl)
end F
def revObj (l : Addr) (i : Int) : Obj := { cls := .type "list_reverseiterator", data := .fields #[.ref l, .int i 0] }
section
variable {prog : Program} {w : World} {A : Around} {E : Value → Shared → Prop} {s : Shared}
theorem rev_new {l : Addr} {items : Array Value} {n : Nat} {Q₁ : Value → Shared → Prop} (hl : s.heap.get? l = some { cls := .type "list", dict := none, data := .seq items n, slots := #[] })
    (h : Q₁ (.ref s.heap.objs.size) { s with heap := s.heap.push (revObj l ((items.size : Int) - 1)) }) :
    codeAny (model prog w) A (.call (.builtin "reversed.__new__") ⟨[.type "reversed", .ref l], []⟩) (wants Q₁ E) s := by
  refine codeAny_of_tree ?_
  show wpAny _ A.in1 (do checkBuiltinCall "reversed.__new__" ⟨[.type "reversed", .ref l], []⟩; again (.builtin "reversed.__new__" ⟨[.type "reversed", .ref l], []⟩)) _ _ s
  refine wpAny_bind (wpAny_of_eq (F.newCall _) (wpAny_pure ⟨plainId_quiet F.plain_new _, codeAny_builtin F.entry_new ?_⟩))
  rw [Around.under_plainId F.plain_new _]
  have hT : s.TypeIs (.ref l) "list" := ⟨_, hl, rfl⟩
  have hsub := F.sub
  unfold Builtin.«reversed.__new__» Builtin.SmallTypes.newClass Builtin.SmallTypes.refuseKeywords
  wp_walk
  refine wpAny_of_eq PySem.F.slot_list_reversed.lookup ?_
  dsimp only
  refine wpAny_bind (wpAny_of_eq (PySem.F.slot_list_reversed.bind (.ref l)) ?_)
  dsimp only
  rw [if_neg (by decide)]
  refine wpAny_bind (wpAny_rule ?_)
  show wpAny _ _ (call (.builtin "list.__reversed__") [.ref l] >>= _) _ _ _
  refine wpAny_bind (call_meets PySem.F.slot_list_reversed hT PySem.F.entry_list_reversed (PySem.F.args_list_reversed_1 _) (AutoListH.list___reversed___list_0 l items n) ⟨hl, ?_⟩)
  exact wpAny_pure h
theorem call_rev {l : Addr} {items : Array Value} {n : Nat} {Q : Value → Shared → Prop} (hl : s.heap.get? l = some { cls := .type "list", dict := none, data := .seq items n, slots := #[] })
    (h : Q (.ref s.heap.objs.size) { s with heap := s.heap.push (revObj l ((items.size : Int) - 1)) }) :
    wpAny (model prog w) A (call (.type "reversed") [.ref l]) Q E s := by
  have hmro := F.mro
  have hmade := F.made
  have hsub := F.sub
  refine wpAny_call (codeAny_of_tree ?_)
  show wpAny _ _ (callAny (.type "reversed") _) _ _ _
  refine wpAny_pure ⟨Code.quiet_builtin _ (by decide +kernel), codeAny_builtin PySem.F.entry_type_call ?_⟩
  rw [Around.under_plain (weight_type_call_type "reversed" [.ref l] []) rfl]
  have h1 := F.notType
  have h2 := F.canCreate
  have hct := F.typeCall (.ref l)
  repeat (any_goals (first | assumption | wp_step))
  refine codeAny_mono (rev_new (E := E) (Q₁ := fun obj s₁ => obj = .ref s.heap.objs.size ∧ s₁ = { s with heap := s.heap.push (revObj l ((items.size : Int) - 1)) }) hl ⟨rfl, rfl⟩) fun r s₁ hr => ?_
  cases r with
  | error e => exact hr
  | ok fl =>
    cases fl with
    | ret obj =>
      obtain ⟨rfl, rfl⟩ := hr
      have hT : Shared.TypeIs { s with heap := s.heap.push (revObj l ((items.size : Int) - 1)) } (.ref s.heap.objs.size) "list_reverseiterator" := ⟨_, Heap.get?_push_size _ rfl, rfl⟩
      have hso := F.sub_other
      repeat (any_goals (first | assumption | wp_step))
    | _ => exact hr.elim
end
end RevX
set_option linter.all false
set_option maxRecDepth 100000
set_option maxHeartbeats 8000000
namespace RevX
open PySem PySem.W PyProof.Rows
namespace F
theorem slot_next : Slot "list_reverseiterator" "__next__" "list_reverseiterator.__next__" :=
  .of (owner := "list_reverseiterator") (n := "__next__") (by rw [typeLookup_type, builtinLookup_eq_fast]; kernel_rfl) (by decide +kernel) (by decide +kernel) (by decide +kernel)
    (by first | exact .inl (by decide +kernel) | exact .inr (by decide +kernel)) (by rw [isSubtype_type]; kernel_rfl)
theorem entry_next : entryFor table "list_reverseiterator.__next__" = some Builtin.«list_reverseiterator.__next__» := entryFor_of_tree (by kernel_rfl)
theorem args_next (a : Value) : argsOk "list_reverseiterator.__next__" ⟨[a], []⟩ := by unfold argsOk; kernel_rfl
theorem slot_self : Slot "list_reverseiterator" "__iter__" "list_reverseiterator.__iter__" :=
  .of (owner := "list_reverseiterator") (n := "__iter__") (by rw [typeLookup_type, builtinLookup_eq_fast]; kernel_rfl) (by decide +kernel) (by decide +kernel) (by decide +kernel)
    (by first | exact .inl (by decide +kernel) | exact .inr (by decide +kernel)) (by rw [isSubtype_type]; kernel_rfl)
theorem args_self (a : Value) : argsOk "list_reverseiterator.__iter__" ⟨[a], []⟩ := by unfold argsOk; kernel_rfl
theorem nolen : typeLookup (.type "list_reverseiterator") "__len__" = pure none := by rw [typeLookup_type, builtinLookup_eq_fast]; kernel_rfl
theorem hint : typeLookup (.type "list_reverseiterator") "__length_hint__" = pure (some (.builtin "list_reverseiterator.__length_hint__")) := by rw [typeLookup_type, builtinLookup_eq_fast]; kernel_rfl
end F
end RevX
set_option linter.all false
set_option maxRecDepth 100000
set_option maxHeartbeats 8000000
namespace RevX
open PySem PySem.W PyProof.Rows
theorem F.entry_self : entryFor table "list_reverseiterator.__iter__" = some Builtin.«dict_keyiterator.__iter__» :=
  entryFor_alias (id' := "dict_keyiterator.__iter__") (by kernel_rfl) rfl (by decide +kernel) (by kernel_rfl)
def IsRev (h : Heap) (it l : Addr) (i : Int) : Prop := ∃ o, h.get? it = some o ∧ o.cls = .type "list_reverseiterator" ∧ o.data = .fields #[.ref l, .int i 0]
section
variable {prog : Program} {w : World} {A : Around} {E : Value → Shared → Prop} {s : Shared} {it l : Addr} {items : Array Value}
theorem IsRev.typeIs {i : Int} (x : IsRev s.heap it l i) : s.TypeIs (.ref it) "list_reverseiterator" := let ⟨o, ho, hc, _⟩ := x; ⟨o, ho, hc⟩
theorem rev_item {i : Nat} {v : Value} {Q : Option Value → Shared → Prop} (hit : IsRev s.heap it l i) (hl : s.heap.IsList l items) (hv : items[i]? = some v)
    (hQ : ∀ h', IsRev h' it l ((i : Int) - 1) → Heap.SameBut it s.heap h' → Q (some v) { s with heap := h' }) : wpAny (model prog w) A (pyNext (.ref it)) Q E s := by
  obtain ⟨o, ho, hc, hd⟩ := id hit
  obtain ⟨ol, hol, hcl, n, hdl⟩ := hl
  unfold pyNext
  refine wpAny_bind (wpAny_attempt (wpAny_callSpecial?_slot (name := Str.ofString "__next__") hit.typeIs F.slot_next (wpAny_call_entry F.slot_next hit.typeIs F.entry_next ?_ (F.args_next _))))
  unfold Builtin.«list_reverseiterator.__next__»
  refine wpAny_bind (m := slotArgs _ _ _) (wpAny_pure ?_)
  refine wpAny_bind (wpAny_field (x := .int i 0) ho hd rfl ?_)
  dsimp only
  rw [if_neg (by omega)]
  refine wpAny_bind (wpAny_field (x := .ref l) ho hd rfl ?_)
  refine wpAny_bind (wpAny_seqItems hol hdl ?_)
  dsimp only
  rw [Int.toNat_natCast, hv]
  dsimp only
  refine wpAny_bind (wpAny_setField ho hd (by simp) ?_)
  refine wpAny_pure ⟨_, rfl, wpAny_pure (hQ _ ⟨_, Heap.get?_update_self _ ho (Obj.isFreed_of_fields (Obj.data_mapFields hd _)), ?_, ?_⟩ (Heap.SameBut.update ..))⟩
  · rw [Obj.cls_mapFields]; exact hc
  · rw [Obj.data_mapFields hd]; simp [rawInt]
theorem rev_end {Q : Option Value → Shared → Prop} (hh : A.handled = none) (hit : IsRev s.heap it l (-1))
    (hQ : ∀ h', Heap.ExtBut it s.heap h' → Q none { s with heap := h' }) : wpAny (model prog w) A (pyNext (.ref it)) Q E s := by
  obtain ⟨o, ho, hc, hd⟩ := id hit
  unfold pyNext
  refine wpAny_bind (wpAny_attempt (wpAny_callSpecial?_slot (name := Str.ofString "__next__") hit.typeIs F.slot_next (wpAny_call_entry F.slot_next hit.typeIs F.entry_next ?_ (F.args_next _))))
  unfold Builtin.«list_reverseiterator.__next__»
  refine wpAny_bind (m := slotArgs _ _ _) (wpAny_pure ?_)
  refine wpAny_bind (wpAny_field (x := .int (-1) 0) ho hd rfl ?_)
  dsimp only
  rw [if_pos (by decide)]
  refine wpAny_bind (wpAny_rule ?_)
  refine wpAny_bind ?_
  unfold Builtin.SmallTypes.stopIteration
  refine wpAny_bind ?_
  simp only [newExc, newTuple]
  refine wpAny_bind (wpAny_newObj_type ?_ (by size_fits))
  refine wpAny_bind (m := firstArgMember _ _) (wpAny_of_eq (a := Value.none) (by first | rfl | (simp only [firstArgMember]; rfl)) ?_)
  refine wpAny_newObj_type ?_ (by size_fits)
  simp only [raiseNew]
  refine wpAny_bind (wpAny_handled ?_)
  rw [show A.in1.handled = none from hh]
  refine wpAny_bind (wpAny_pure (wpAny_throw ?_))
  refine wpAny_bind (wpAny_isInstance (T := "StopIteration") (b := true) ⟨_, Heap.get?_push_size _ rfl, rfl⟩ isSubtype_stop ?_)
  exact wpAny_pure (hQ _ (((Heap.ExtBut.refl _ _).push _).push _))
theorem rev_self {i : Int} {Q : Value → Shared → Prop} (hit : IsRev s.heap it l i) (h : Q (.ref it) s) : wpAny (model prog w) A (pyIter (.ref it)) Q E s := by
  refine wpAny_pyIter_slot hit.typeIs F.slot_self (wpAny_call_entry F.slot_self hit.typeIs F.entry_self ?_ (F.args_self _))
  show wpAny _ _ (ret (.ref it)) _ _ s
  exact wpAny_pure ⟨_, rfl, "list_reverseiterator", _, hit.typeIs, F.slot_next.lookup, h⟩
theorem walks_rev (hh : A.handled = none) (I : Addr) (hne : l ≠ I) :
    Walks prog w A I [I, l] [I] items.size (fun i v => items[items.size - 1 - i]? = some v) (fun i h => IsRev h I l ((items.size : Int) - 1 - i) ∧ h.IsList l items) where
  sub := fun b hb => by simp at hb; simp [hb]
  frame := fun i h h' st hk => by
    obtain ⟨⟨o, e, r⟩, hl⟩ := st
    exact ⟨⟨o, hk I (by simp) o e, r⟩, hl.at fun o e => hk l (by simp) o e⟩
  item := fun i s Q E hi st hQ => by
    obtain ⟨hit, hl⟩ := st
    have e : ((items.size : Int) - 1 - i) = ((items.size - 1 - i : Nat) : Int) := by omega
    rw [e] at hit
    refine rev_item hit hl (v := items[items.size - 1 - i]'(by omega)) (by simp) fun h' hit' hs' => ?_
    have e2 : (((items.size - 1 - i : Nat) : Int) - 1) = (items.size : Int) - 1 - (i + 1 : Nat) := by omega
    rw [e2] at hit'
    exact hQ _ h' s.toks (by simp) ⟨hit', hl.extBut hs'.extBut hne⟩ fun b o hb e => hs'.extBut b o (fun h => hb (by simp [h])) e
  done := fun s Q E st hQ => by
    obtain ⟨hit, hl⟩ := st
    have e : ((items.size : Int) - 1 - (items.size : Nat)) = -1 := by omega
    rw [e] at hit
    exact rev_end hh hit fun h' he' => hQ h' s.toks fun b o hb e => he' b o (fun h => hb (by simp [h])) e
  self := fun _ _ _ _ st hQ => rev_self st.1 hQ
theorem list_rev {Q : Value → Shared → Prop} (hh : A.handled = none) (hit : IsRev s.heap it l ((items.size : Int) - 1)) (hl : s.heap.IsList l items) (hne : l ≠ it) (hsz : items.size ≤ sizeLine)
    (hQ : ∀ h' tk c', (∀ b o', b ≠ it → s.heap.get? b = some o' → h'.get? b = some o') → h'.get? s.heap.objs.size = some { cls := .type "list", dict := none, data := .seq items.reverse c', slots := #[] } → Q (.ref s.heap.objs.size) { s with heap := h', toks := tk }) :
    wpAny (model prog w) A (call (.type "list") [.ref it]) Q E s := by
  have hlt : it < s.heap.objs.size := let ⟨_, ho, _⟩ := hit; Heap.lt_size ho
  have hll : l < s.heap.objs.size := let ⟨_, ho, _⟩ := hl; Heap.lt_size ho
  have hneS : it ≠ s.heap.objs.size := Nat.ne_of_lt hlt
  refine callType_codes (Q₁ := fun obj s₁ => obj = .ref s.heap.objs.size ∧ s₁ = { s with heap := s.heap.push { cls := .type "list", data := .seq #[] } }) PySem.F.called_list (PySem.F.typeCall_list_1 _) PySem.F.entry_list_init
    (code_list_new _ ⟨rfl, rfl⟩) fun obj s₁ h₁ => ?_
  obtain ⟨rfl, rfl⟩ := h₁
  have hS : (s.heap.push { cls := .type "list", data := .seq #[] }).get? s.heap.objs.size = some { cls := .type "list", data := .seq #[] } := Heap.get?_push_size _ rfl
  refine ⟨⟨_, hS, rfl⟩, PySem.F.args_list_init_2 _ _, ?_⟩
  show wpAny _ _ (do let old ← Builtin.List.listItems (.ref s.heap.objs.size); Builtin.List.listUpdate (.ref s.heap.objs.size) (fun _ => #[]); letGo old.toList.reverse; Builtin.List.listExtendWith (.ref s.heap.objs.size) (.ref it) .none) _ _ _
  refine wpAny_bind ?_
  unfold Builtin.List.listItems
  refine wpAny_bind (wpAny_seqItems hS rfl (wpAny_pure ?_))
  show wpAny _ _ (updateSeq s.heap.objs.size (fun _ => #[]) >>= fun _ => letGo (#[] : Array Value).toList.reverse >>= fun _ => Builtin.List.listExtendWith (.ref s.heap.objs.size) (.ref it) .none) _ _ _
  refine wpAny_bind (wpAny_updateSeq hS rfl ?_)
  have hS₂ := Heap.get?_update_self (Obj.mapSeq (fun _ => (#[] : Array Value))) hS rfl
  refine wpAny_bind (wpAny_letGo ?_)
  generalize hH : (s.heap.push { cls := .type "list", data := .seq #[] }).update s.heap.objs.size (Obj.mapSeq (fun _ => (#[] : Array Value))) = H at *
  have old : ∀ b o, s.heap.get? b = some o → H.get? b = some o := fun b o e => by
    rw [← hH]; exact (Heap.get?_update_other _ _ (Ne.symm (Nat.ne_of_lt (Heap.lt_size e)))).trans (Heap.get?_push_of_some _ e)
  have hit1 : IsRev H it l ((items.size : Int) - 1) := let ⟨o, ho, r⟩ := hit; ⟨o, old _ _ ho, r⟩
  have hl1 : H.IsList l items := hl.at fun o e => old _ _ e
  have hT : Shared.TypeIs { s with heap := H } (.ref it) "list_reverseiterator" := IsRev.typeIs (s := { s with heap := H }) hit1
  have h1 : Builtin.List.listSameRef (.ref s.heap.objs.size) (.ref it) = false := by simp [Builtin.List.listSameRef, Ne.symm hneS]
  unfold Builtin.List.listExtendWith
  refine wpAny_bind (wpAny_typeOf hT ?_)
  rw [if_neg (by rw [h1]; decide)]
  refine wpAny_bind (rev_self (s := { s with heap := H }) hit1 ?_)
  refine wpAny_bind (wpAny_holding ?_)
  unfold Builtin.List.listLengthHint
  refine wpAny_bind (wpAny_specialOf hT F.nolen ?_)
  show wpAny _ _ (specialOf (Value.ref it) (Str.ofString "__length_hint__") >>= _) _ _ _
  refine wpAny_bind (wpAny_specialOf hT F.hint ?_)
  generalize hid : ("list_reverseiterator.__length_hint__" : String) = id0
  dsimp only
  rw [show splitId id0 = some ("list_reverseiterator", "__length_hint__") from by subst hid; decide +kernel]
  subst hid
  dsimp only
  refine wpAny_bind (wpAny_isInstance (b := true) hT (by rw [isSubtype_type]; kernel_rfl) ?_)
  refine wpAny_pure ?_
  rw [if_neg (by decide)]
  have hSf : s.heap.objs.size ∉ [it, l] := by
    simp only [List.mem_cons, List.mem_singleton, List.not_mem_nil, or_false, not_or]
    exact ⟨Ne.symm hneS, Nat.ne_of_gt hll⟩
  have hst : IsRev H it l ((items.size : Int) - 1 - (0 : Nat)) ∧ H.IsList l items := ⟨by simpa using hit1, hl1⟩
  refine wpAny_pure ⟨plainId_quiet PySem.F.plain_extend_loop _, codeAny_extend_loopS ((walks_rev (by simp [hh]) it hne).toS) hsz _ hSf _ items.size 0 { s with heap := H } _ _ rfl (Nat.zero_le _) hst hS₂ (ItemsOf.nil _) fun s' acc' c' hm hS' hacc => ?_⟩
  obtain ⟨h', g', d', tk', os'⟩ := s'
  have eg : g' = s.gens := hm.gens
  have ed : d' = s.drawn := hm.drawn
  have eo : os' = s.os := hm.os
  subst eg; subst ed; subst eo
  refine ⟨rfl, hQ h' tk' c' (fun b o hb e => hm.heap b o ?_ (old b o e)) ?_⟩
  · simp only [List.mem_cons, List.mem_singleton, List.not_mem_nil, or_false, not_or]
    exact ⟨Nat.ne_of_lt (Heap.lt_size e), hb⟩
  · have : acc' = items.reverse := by
      apply Array.ext_getElem?
      intro j
      rcases Nat.lt_or_ge j items.size with g | g
      · have hj : j < acc'.size := by rw [hacc.1]; exact g
        have hx : items[items.size - 1 - j]? = some acc'[j] := hacc.2 j acc'[j] (by simp [hj])
        rw [Array.getElem?_reverse g, hx]; simp [hj]
      · rw [Array.getElem?_eq_none (by rw [hacc.1]; exact g), Array.getElem?_eq_none (by simpa using g)]
    rw [← this]; exact hS'
end
end RevX
set_option Elab.async false
set_option linter.all false
set_option maxRecDepth 100000
set_option maxHeartbeats 4000000
namespace L2
open PySem PySem.Spec PyProof.Rows

theorem cells_look : ∀ (names : List (Str × NameKind)) (h : Heap) (acc : List (Str × Addr)) (x : Str) (c : Addr), (cellsFrom h.objs.size names acc).lookup x = some c →
    acc.lookup x = some c ∨ ((pushCells h names).IsCell c none ∧ h.objs.size ≤ c)
  | [], _, _, _, _, e => .inl e
  | (name, kind) :: r, h, acc, x, c, e => by
    unfold cellsFrom at e
    unfold pushCells
    split at e
    · rename_i hk
      rw [if_pos hk]
      have q := cells_look r (h.push { cls := .type "cell", data := .cell none }) ((name, h.objs.size) :: acc) x c (by rw [Heap.size_push]; exact e)
      rcases q with q | ⟨q, z⟩
      · rw [List.lookup_cons] at q
        cases hb : x == name with
        | true =>
          rw [hb] at q; cases q
          exact .inr ⟨⟨_, pushCells_keeps r _ _ _ (Heap.get?_push_size _ rfl), rfl⟩, Nat.le_refl _⟩
        | false => rw [hb] at q; exact .inl q
      · exact .inr ⟨q, by rw [Heap.size_push] at z; omega⟩
    · rename_i hk
      rw [if_neg hk]
      exact cells_look r h acc x c e
theorem cells_inj : ∀ (names : List (Str × NameKind)) (n : Nat) (acc : List (Str × Addr)), (∀ x c, acc.lookup x = some c → c < n) → (∀ x y c, acc.lookup x = some c → acc.lookup y = some c → x = y) →
    ∀ x y c, (cellsFrom n names acc).lookup x = some c → (cellsFrom n names acc).lookup y = some c → x = y
  | [], _, _, _, h => h
  | (name, kind) :: r, n, acc, hl, h => by
    unfold cellsFrom
    split
    · refine cells_inj r (n + 1) ((name, n) :: acc) (fun x c e => ?_) (fun x y c e1 e2 => ?_)
      · rw [List.lookup_cons] at e
        cases hb : x == name with
        | true => rw [hb] at e; cases e; exact Nat.lt_succ_self _
        | false => rw [hb] at e; exact Nat.lt_succ_of_lt (hl x c e)
      · rw [List.lookup_cons] at e1 e2
        cases hb : x == name with
        | true =>
          rw [hb] at e1; cases e1
          cases hb' : y == name with
          | true => rw [beq_iff_eq.mp hb, beq_iff_eq.mp hb']
          | false => rw [hb'] at e2; exact absurd (hl y _ e2) (Nat.lt_irrefl _)
        | false =>
          rw [hb] at e1
          cases hb' : y == name with
          | true => rw [hb'] at e2; cases e2; exact absurd (hl x _ e1) (Nat.lt_irrefl _)
          | false => rw [hb'] at e2; exact h x y c e1 e2
    · exact cells_inj r n acc hl h
theorem cells_own : ∀ (names : List (Str × NameKind)) (n : Nat) (acc : List (Str × Addr)) (x : Str) (c : Addr), (names.lookup x = some .cell ∨ ∀ c, acc.lookup x = some c → n ≤ c) → (cellsFrom n names acc).lookup x = some c → n ≤ c
  | [], _, _, x, c, h, e => by
    rcases h with h | h
    · cases h
    · exact h c e
  | (name, kind) :: r, n, acc, x, c, h, e => by
    unfold cellsFrom at e
    rw [List.lookup_cons] at h
    split at e
    · rename_i hk
      have : n ≤ c := by
        have q := cells_low r (n + 1) ((name, n) :: acc) n x c (by omega) ?_ e
        · exact q
        · cases hb : x == name with
          | true => exact .inr fun c' e' => by rw [List.lookup_cons, hb] at e'; cases e'; exact Nat.le_refl _
          | false =>
            rw [hb] at h
            rcases h with h | h
            · exact .inl h
            · exact .inr fun c' e' => by rw [List.lookup_cons, hb] at e'; exact h c' e'
      exact this
    · rename_i hk
      refine cells_own r n acc x c ?_ e
      cases hb : x == name with
      | true =>
        rw [hb] at h
        rcases h with h | h
        · cases h; exact absurd rfl hk
        · exact .inr h
      | false => rw [hb] at h; exact h
where
  cells_low : ∀ (names : List (Str × NameKind)) (n : Nat) (acc : List (Str × Addr)) (lo : Nat) (x : Str) (c : Addr), lo ≤ n → (names.lookup x = some .cell ∨ ∀ c, acc.lookup x = some c → lo ≤ c) → (cellsFrom n names acc).lookup x = some c → lo ≤ c
  | [], _, _, _, x, c, _, h, e => by
    rcases h with h | h
    · cases h
    · exact h c e
  | (name, kind) :: r, n, acc, lo, x, c, hl, h, e => by
    unfold cellsFrom at e
    rw [List.lookup_cons] at h
    split at e
    · refine cells_low r (n + 1) ((name, n) :: acc) lo x c (by omega) ?_ e
      cases hb : x == name with
      | true => exact .inr fun c' e' => by rw [List.lookup_cons, hb] at e'; cases e'; exact hl
      | false =>
        rw [hb] at h
        rcases h with h | h
        · exact .inl h
        · exact .inr fun c' e' => by rw [List.lookup_cons, hb] at e'; exact h c' e'
    · rename_i hk
      refine cells_low r n acc lo x c hl ?_ e
      cases hb : x == name with
      | true =>
        rw [hb] at h
        rcases h with h | h
        · cases h; exact absurd rfl hk
        · exact .inr h
      | false => rw [hb] at h; exact h
theorem cells_old : ∀ (names : List (Str × NameKind)) (n : Nat) (acc : List (Str × Addr)) (x : Str), (∀ k, (x, k) ∈ names → k ≠ .cell) → (cellsFrom n names acc).lookup x = acc.lookup x
  | [], _, _, _, _ => rfl
  | (name, kind) :: r, n, acc, x, h => by
    unfold cellsFrom
    split
    · rename_i hk
      rw [cells_old r (n + 1) _ x fun k hm => h k (List.mem_cons_of_mem _ hm), List.lookup_cons]
      cases hb : x == name with
      | true => exact absurd (beq_iff_eq.mp hk) (h kind (by rw [beq_iff_eq.mp hb]; exact List.mem_cons_self))
      | false => rfl
    · exact cells_old r n acc x fun k hm => h k (List.mem_cons_of_mem _ hm)

theorem newEnv_comp {M : Model} {A : Around} {E : Value → Shared → Prop} {s : Shared} {scope : Scope} {env : Env} {cl : List (Str × Addr)} {Q : Env → Shared → Prop}
    (hQ : ∀ h', (∀ b o, s.heap.get? b = some o → h'.get? b = some o) → h'.Ns s.heap.objs.size (fun _ => none) →
      (∀ x c, (cellsFrom (s.heap.objs.size + 1) scope.names cl).lookup x = some c → cl.lookup x = some c ∨ (h'.IsCell c none ∧ s.heap.objs.size + 1 ≤ c)) →
      Q (newEnv scope s.heap.objs.size env.globals (cellsFrom (s.heap.objs.size + 1) scope.names cl) env.qual none .none (some env) builtinsNs) { s with heap := h' }) :
    wpAny M A (newFunctionEnv scope env.globals cl [] env.qual none .none (some env)) Q E s := by
  simp only [newFunctionEnv, Option.isSome_some, if_true]
  refine wpAny_bind (wpAny_alloc ?_)
  refine wpAny_bind (wpAny_layCells _ (fun name kind cells => by cases hkc : kind == NameKind.cell <;> simp [hkc]) _ _ _ _ ?_)
  rw [show ({ s with heap := s.heap.push { cls := .type "dict", data := .dict #[] } } : Shared).heap.objs.size = s.heap.objs.size + 1 from Heap.size_push ..]
  refine wpAny_bind (wpAny_pure (wpAny_pure ?_))
  have look := cells_look scope.names (s.heap.push { cls := .type "dict", data := .dict #[] }) cl
  rw [Heap.size_push] at look
  exact hQ _ (fun b o e => pushCells_keeps _ _ b o (Heap.get?_push_of_some _ e)) ((Heap.Ns.new s.heap (.type "dict")).keeps (pushCells_keeps _ _)) look

structure CompSc (env : Env) (scope : Scope) (cl : List (Str × Addr)) : Prop where
  kind : scope.kind = .function
  names : ∀ y ∈ scope.names, y.2 = .local → scope.names.lookup y.1 = some .local
  clos : closureFor scope env = pure cl
  sub : ∀ x c, cl.lookup x = some c → env.cells.lookup x = some c
  has : ∀ x, scope.names.lookup x = some .free → ∃ c, cl.lookup x = some c
  nocell : ∀ x, scope.names.lookup x = some .free → ∀ k, (x, k) ∈ scope.names → k ≠ .cell

def clOf (env : Env) : List (Str × NameKind) → List (Str × Addr) → List (Str × Addr)
  | [], acc => acc
  | (n, k) :: r, acc => if k == .free then clOf env r ((n, (env.cells.lookup n).getD 0) :: acc) else clOf env r acc
def freeB (env : Env) (names : List (Str × NameKind)) : Bool := names.all fun y => !(y.2 == .free) || (env.cells.lookup y.1).isSome
def nameB (names : List (Str × NameKind)) : Bool := names.all fun y => (!(y.2 == .local) || names.lookup y.1 == some .local) && (!(y.2 == .cell) || !(names.lookup y.1 == some .free))
theorem closureFor_go (env : Env) (f : Str × NameKind → List (Str × Addr) → Sem (ForInStep (List (Str × Addr))))
    (hf : ∀ name kind cs, f (name, kind) cs = if kind == .free then (do let c ← cellOf env name; pure (.yield ((name, c) :: cs))) else pure (.yield cs)) : ∀ (names : List (Str × NameKind)) (acc : List (Str × Addr)), freeB env names = true →
    (forIn names acc f : Sem (List (Str × Addr))) = pure (clOf env names acc)
  | [], acc, _ => rfl
  | (n, k) :: r, acc, h => by
    have h' : ((!(k == .free) || (env.cells.lookup n).isSome) && freeB env r) = true := h
    obtain ⟨h1, h2⟩ := Bool.and_eq_true_iff.mp h'
    rw [List.forIn_cons, hf]
    unfold clOf
    by_cases hk : (k == NameKind.free) = true
    · rw [hk, Bool.not_true, Bool.false_or] at h1
      obtain ⟨c, hc⟩ := Option.isSome_iff_exists.mp h1
      have e : cellOf env n = pure c := by unfold cellOf; rw [hc]
      rw [if_pos hk, if_pos hk, e, pure_bind, pure_bind]
      have := closureFor_go env f hf r ((n, c) :: acc) h2
      rw [hc]
      exact this
    · rw [if_neg hk, if_neg hk, pure_bind]
      exact closureFor_go env f hf r acc h2
theorem closureFor_all {env : Env} {scope : Scope} (h : freeB env scope.names = true) : closureFor scope env = pure (clOf env scope.names []) := by
  unfold closureFor
  dsimp only
  rw [closureFor_go env _ (fun name kind cs => by cases hk : kind == NameKind.free <;> simp [hk]) scope.names [] h, pure_bind]
theorem clOf_look (env : Env) : ∀ (names : List (Str × NameKind)) (acc : List (Str × Addr)), freeB env names = true → (∀ x c, acc.lookup x = some c → env.cells.lookup x = some c) → ∀ x c, (clOf env names acc).lookup x = some c → env.cells.lookup x = some c
  | [], _, _, h, x, c, e => h x c e
  | (n, k) :: r, acc, hf, h, x, c, e => by
    have h' : ((!(k == .free) || (env.cells.lookup n).isSome) && freeB env r) = true := hf
    obtain ⟨h1, h2⟩ := Bool.and_eq_true_iff.mp h'
    unfold clOf at e
    split at e
    · rename_i hk
      rw [hk, Bool.not_true, Bool.false_or] at h1
      obtain ⟨c0, hc0⟩ := Option.isSome_iff_exists.mp h1
      refine clOf_look env r _ h2 (fun y d q => ?_) x c e
      rw [List.lookup_cons] at q
      cases hb : y == n with
      | true => rw [hb] at q; rw [beq_iff_eq.mp hb, hc0]; rw [hc0] at q; exact q
      | false => rw [hb] at q; exact h y d q
    · exact clOf_look env r _ h2 h x c e
theorem clOf_has (env : Env) (x : Str) : ∀ (names : List (Str × NameKind)) (acc : List (Str × Addr)), (names.lookup x = some .free ∨ ∃ c, acc.lookup x = some c) → ∃ c, (clOf env names acc).lookup x = some c
  | [], _, h => by
    rcases h with h | h
    · cases h
    · exact h
  | (n, k) :: r, acc, h => by
    unfold clOf
    split
    · refine clOf_has env x r _ ?_
      rw [List.lookup_cons] at h
      cases hb : x == n with
      | true => exact .inr ⟨_, by rw [List.lookup_cons, hb]⟩
      | false =>
        rw [hb] at h
        rcases h with h | ⟨c, h⟩
        · exact .inl h
        · exact .inr ⟨c, by rw [List.lookup_cons, hb]; exact h⟩
    · rename_i hk
      refine clOf_has env x r _ ?_
      rw [List.lookup_cons] at h
      cases hb : x == n with
      | true =>
        rw [hb] at h
        rcases h with h | h
        · cases h; exact absurd rfl hk
        · exact .inr h
      | false => rw [hb] at h; exact h
theorem comp_sc {env : Env} {scope : Scope} (hk : scope.kind = .function) (hn : nameB scope.names = true) (hf : freeB env scope.names = true) : CompSc env scope (clOf env scope.names []) := by
  have hn' : ∀ y ∈ scope.names, ((!(y.2 == .local) || scope.names.lookup y.1 == some .local) && (!(y.2 == .cell) || !(scope.names.lookup y.1 == some .free))) = true := List.all_eq_true.mp hn
  refine ⟨hk, fun y hy e => ?_, closureFor_all hf, clOf_look env scope.names [] hf (fun x c h => by cases h), fun x h => clOf_has env x scope.names [] (.inl h), fun x h k hm e => ?_⟩
  · have := (Bool.and_eq_true_iff.mp (hn' y hy)).1
    rw [e] at this
    simpa using this
  · have := (Bool.and_eq_true_iff.mp (hn' (x, k) hm)).2
    subst e
    rw [h] at this
    simp at this

def cxComp (X : Cx) (Nc : List Str) (scope : Scope) (cl : List (Str × Addr)) (fp : List Addr) (pins : List (Addr × Obj)) (s3 : Shared) (H3 : Hp) : Cx where
  prog := X.prog
  w := X.w
  K := X.K
  mg := X.mg
  base := X.base
  A := X.A
  N := Nc
  s₀ := s3
  H₀ := H3
  env := compEnvC scope (cellsFrom (s3.heap.objs.size + 1) scope.names cl) s3.heap.objs.size X.env
  outer := X.stack
  stack := X.stack
  ex := fp
  calm := X.calm
  fn := fun x => decide (scope.names.lookup x = some .cell)
  pn := X.pn ++ pins
  xe := fun _ _ => False

theorem relabel_look {env : Env} : ∀ {names : List (Str × NameKind)} {x : Str} {k : NameKind}, (names.map fun (n, k) => if (k == NameKind.free && env.scope.kind == .function && env.kindOf n == some .cell) then (n, NameKind.cell) else (n, k)).lookup x = some k →
    names.lookup x = some k ∨ names.lookup x = some .free
  | [], _, _, h => by simp at h
  | (n, j) :: r, x, k, h => by
    have ih := @relabel_look env r x k
    rw [List.map_cons] at h
    by_cases hc : (j == NameKind.free && env.scope.kind == .function && env.kindOf n == some .cell) = true
    · simp only [hc, if_true] at h
      rw [List.lookup_cons] at h ⊢
      cases hx : x == n with
      | true =>
        simp only [Bool.and_eq_true] at hc
        right
        rw [beq_iff_eq.mp hc.1.1]
      | false => rw [hx] at h; exact ih h
    · have hc' : (j == NameKind.free && env.scope.kind == .function && env.kindOf n == some .cell) = false := by simpa using hc
      simp only [hc', Bool.false_eq_true, if_false] at h
      rw [List.lookup_cons] at h ⊢
      cases hx : x == n with
      | true => rw [hx] at h; exact .inl h
      | false => rw [hx] at h; exact ih h

section
variable {X : Cx} {pins : List (Addr × Obj)} {σ : St} {H : Hp} {s : Shared} {scope : Scope} {cl : List (Str × Addr)} {fp : List Addr} {Nc : List Str} {σc : St}

theorem comp_ok (S : CompSc X.env scope cl) (I : Inv X pins σ H s) (hf : ∀ b ∈ fp, FpOk X pins H b) (hfp : ∀ b ∈ fp, b < s.heap.objs.size) : (cxComp X Nc scope cl fp pins s H).Ok := by
  have clt : ∀ x c, cl.lookup x = some c → c < s.heap.objs.size + 1 := fun x c e => by
    obtain ⟨v, q⟩ := I.cell x c (S.sub x c e)
    exact Nat.lt_succ_of_lt q.lt
  refine ⟨I.ok.mod, S.kind, I.ok.glob, I.ok.blt, Nat.le_refl _, ?_, ?_, ?_, I.ok.hd, I.ok.frames, .inl rfl, ?_, I.bs, Nat.le_trans I.ok.bsz I.sz, ?_, ?_, I.stack, I.stkFree⟩
  · exact cells_inj scope.names _ cl clt fun x y c e1 e2 => I.ok.inj x y c (S.sub x c e1) (S.sub y c e2)
  · intro x hx
    have hx' : (relabel scope X.env).names.lookup x = some .cell ∨ (relabel scope X.env).names.lookup x = some .free := hx
    have : scope.names.lookup x = some .cell ∨ scope.names.lookup x = some .free := by
      rcases hx' with h | h
      · exact relabel_look h
      · rcases relabel_look h with h | h <;> exact .inr h
    rcases this with h | h
    · exact Option.isSome_iff_exists.mp (PySem.W.cellsFrom_some scope.names _ cl (.inl h))
    · obtain ⟨c, e⟩ := S.has x h
      exact Option.isSome_iff_exists.mp (PySem.W.cellsFrom_some scope.names _ cl (.inr (by rw [e]; rfl)))
  · intro x c hx e
    have hx' : scope.names.lookup x = some .cell := of_decide_eq_true hx
    have := cells_own scope.names _ cl x c (.inl hx') e
    exact Nat.le_of_succ_le this
  · intro b hb
    obtain ⟨f0, f1, f2, f3, f4, f5⟩ := hf b hb
    refine ⟨Nat.ne_of_lt (hfp b hb), fun x c e => ?_⟩
    have e' : (cellsFrom (s.heap.objs.size + 1) scope.names cl).lookup x = some c := e
    rcases cells_look scope.names (s.heap.push { cls := .type "dict", data := .dict #[] }) cl x c (by rw [Heap.size_push]; exact e') with q | ⟨_, q⟩
    · exact f4 x c (S.sub x c q)
    · rw [Heap.size_push] at q
      exact fun e => absurd (Nat.lt_of_lt_of_le (hfp b hb) (Nat.le_of_succ_le q)) (by rw [e]; exact Nat.lt_irrefl _)
  · intro b o e hb
    obtain ⟨f0, f1, f2, f3, f4, f5⟩ := hf b hb
    rcases f3 with z | z
    · exact I.ok.noex b o e z
    · exact absurd (Nat.lt_of_lt_of_le (Heap.lt_size e) (Nat.le_trans I.ok.bsz z)) (Nat.lt_irrefl _)
  · intro b hb hs
    obtain ⟨f0, f1, f2, f3, f4, f5⟩ := hf b hb
    rcases List.mem_cons.mp (I.stkSub b hs) with z | z
    · exact f1 z
    · exact f2 z

theorem comp_inv (S : CompSc X.env scope cl) (I : Inv X pins σ H s) (hf : ∀ b ∈ fp, FpOk X pins H b) (hfp : ∀ b ∈ fp, b < s.heap.objs.size) (hlen : σc.length = Nc.length)
    (hσ : ∀ (i : Nat) (x : Str) (v : V), Nc[i]? = some x → σc[i]? = some (some v) → scope.names.lookup x = some .free ∧ X.env.kindOf x ≠ some .local ∧ Vis X.env.scope x ∧ ∃ j : Nat, X.N[j]? = some x ∧ σ[j]? = some (some v))
    {h' : Heap} (hk : ∀ b o, s.heap.get? b = some o → h'.get? b = some o) (hns : h'.Ns s.heap.objs.size (fun _ => none))
    (hcl : ∀ x c, (cellsFrom (s.heap.objs.size + 1) scope.names cl).lookup x = some c → cl.lookup x = some c ∨ (h'.IsCell c none ∧ s.heap.objs.size + 1 ≤ c)) :
    Inv (cxComp X Nc scope cl fp pins s H) [] σc H { s with heap := h' } := by
  have cellOf : ∀ x c, cl.lookup x = some c → ∃ v, h'.IsCell c v ∧ H c = none := fun x c e => by
    obtain ⟨v, q⟩ := I.cell x c (S.sub x c e)
    exact ⟨v, q.keeps hk, I.freeC x c (S.sub x c e)⟩
  refine ⟨comp_ok S I hf hfp, rfl, I.bare, Un.kept hk, ⟨_, hns, fun i x v e1 e2 e3 => ?_⟩, fun x c e => ?_, I.hok.fresh (Nat.le_refl _), fun x c e => ?_, fun p hp => ?_, I.hok.kept hk, hlen⟩
  · obtain ⟨hx, hnl, hv, j, j1, j2⟩ := hσ i x v e1 e2
    obtain ⟨m, hn, hl⟩ := I.loc
    obtain ⟨u, r, l⟩ := hl j x v j1 j2 hv
    refine ⟨u, r, ?_⟩
    rcases l with ⟨k, _⟩ | ⟨k, c, ec, q⟩
    · exact absurd k hnl
    · obtain ⟨c', ec'⟩ := S.has x hx
      have := S.sub x c' ec'
      rw [ec] at this; cases this
      refine .inr ⟨?_, c, ?_, q.keeps hk⟩
      · -- its kind: relabelled, or free
        show (relabel scope X.env).names.lookup x = some .cell ∨ (relabel scope X.env).names.lookup x = some .free
        have look : ∀ {names : List (Str × NameKind)}, names.lookup x = some .free → (names.map fun (n, k) => if (k == NameKind.free && X.env.scope.kind == .function && X.env.kindOf n == some .cell) then (n, NameKind.cell) else (n, k)).lookup x = some .cell ∨
            (names.map fun (n, k) => if (k == NameKind.free && X.env.scope.kind == .function && X.env.kindOf n == some .cell) then (n, NameKind.cell) else (n, k)).lookup x = some .free := by
          intro names
          induction names with
          | nil => intro h; cases h
          | cons y r ih =>
            obtain ⟨n, j⟩ := y
            intro h
            rw [List.lookup_cons] at h
            rw [List.map_cons]
            cases hx : x == n with
            | true =>
              rw [hx] at h; cases h
              by_cases hc : (NameKind.free == NameKind.free && X.env.scope.kind == .function && X.env.kindOf n == some .cell) = true
              · simp only [hc, if_true, List.lookup_cons, hx]; exact .inl trivial
              · have hc' : (NameKind.free == NameKind.free && X.env.scope.kind == .function && X.env.kindOf n == some .cell) = false := by simpa using hc
                simp only [hc', Bool.false_eq_true, if_false, List.lookup_cons, hx]; exact .inr trivial
            | false =>
              rw [hx] at h
              have q := ih h
              by_cases hc : (j == NameKind.free && X.env.scope.kind == .function && X.env.kindOf n == some .cell) = true
              · simp only [hc, if_true, List.lookup_cons, hx]; exact q
              · have hc' : (j == NameKind.free && X.env.scope.kind == .function && X.env.kindOf n == some .cell) = false := by simpa using hc
                simp only [hc', Bool.false_eq_true, if_false, List.lookup_cons, hx]; exact q
        exact look hx
      · show (cellsFrom (s.heap.objs.size + 1) scope.names cl).lookup x = some c
        rw [cells_old _ _ _ _ (S.nocell x hx)]; exact ec'
  · rcases hcl x c e with q | q
    · obtain ⟨v, z, _⟩ := cellOf x c q
      exact ⟨v, z⟩
    · exact ⟨none, q.1⟩
  · rcases hcl x c e with q | q
    · obtain ⟨v, _, z⟩ := cellOf x c q
      exact z
    · exact I.hok.fresh (Nat.le_of_succ_le q.2)
  · have hp' : p ∈ X.pn ++ pins := by
      have : p ∈ (X.pn ++ pins) ++ [] := hp
      simpa using this
    obtain ⟨e, n, ne, nf, d⟩ := I.pin p hp'
    refine ⟨hk _ _ e, n, Nat.ne_of_lt (Heap.lt_size e), fun z => ?_, d⟩
    rcases List.mem_cons.mp (I.stkSub p.1 z) with z | z
    · exact ne z
    · exact nf z
end

def PF (X : Cx) (ifs : List Expr) (t : TT) : Prop :=
  ∀ (pins : List (Addr × Obj)) (s : Shared) (σ : St) (H : Hp) (Q : Bool → Hp → Prop), Inv X pins σ H s → t σ H Q →
    wpAny (model X.prog X.w) X.A (forIn ifs true fun c r => if r = true then do let ok ← isTrue c X.env (eval c X.env); pure (ForInStep.yield ok) else pure (ForInStep.yield r)) (TP X pins σ Q) X.xe s
def tYes : TT := fun _ H Q => Q true H
theorem pf_nil {X : Cx} : PF X [] tYes := fun _ _ _ H _ I h => wpAny_pure ⟨H, I, h⟩
theorem compLoop_gen {prog : Program} {w : World} {A : Around} {R : Result → Shared → Prop} {s : Shared} {elt target iter : Expr} {ifs : List Expr} {scope : Scope} {pos : Pos} {it acc : Value} {env : Env} (I : Nat → Shared → Prop)
    (turn : ∀ n s, I n s → wpAny (model prog w) A (pyNext it) (fun r s₁ => match r with
      | none => R (.ok .next) s₁
      | some v => wpAny (model prog w) A (letOwnedTupleGo target it v) (fun _ s₁' => wpAny (model prog w) A (assign target env v) (fun _ s₂ =>
          wpAny (model prog w) A (forIn ifs true fun c r => if r = true then do let ok ← isTrue c env (eval c env); pure (ForInStep.yield ok) else pure (ForInStep.yield r)) (fun ok s₃ =>
            if ok = true then wpAny (model prog w) A (eval elt env) (fun x s₄ =>
              wpAny (model prog w) A (call (.builtin "list.append") [acc, x]) (fun _ s₅ => ∃ m, m < n ∧ I m s₅) (fun _ _ => False) s₄) (fun _ _ => False) s₃
            else ∃ m, m < n ∧ I m s₃) (fun _ _ => False) s₂) (fun _ _ => False) s₁') (fun _ _ => False) s₁) (fun _ _ => False) s)
    (n : Nat) (h : I n s) :
    codeAny (model prog w) A (.compLoop (.ListComp elt [⟨target, iter, ifs, 0⟩] scope pos) 0 it acc env) R s := by
  refine codeAny_loop rfl I (fun n s hI => ?_) n h
  show wpAny _ A ((compTurn (.ListComp elt [⟨target, iter, ifs, 0⟩] scope pos) 0 it acc env).onRaise (fun x => do noteFrame x env; theTreesLotGoes x)) _ _ s
  refine wpAny_noted ?_
  rw [compTurn_list]
  refine wpAny_bind (wpAny_standAt (wpAny_bind (wpAny_mono (turn n s hI) (fun r s₁ h₁ => ?_) fun _ _ h' => h'.elim)))
  cases r with
  | none => exact wpAny_pure h₁
  | some v =>
    refine wpAny_bind (wpAny_mono h₁ (fun _ s₁' h₁' => ?_) fun _ _ h' => h'.elim)
    refine wpAny_bind (wpAny_mono h₁' (fun _ s₂ h₂ => wpAny_bind (wpAny_mono h₂ (fun ok s₃ h₃ => ?_) fun _ _ h' => h'.elim)) fun _ _ h' => h'.elim)
    cases ok with
    | false => exact wpAny_pure ⟨rfl, h₃⟩
    | true =>
      exact wpAny_bind (wpAny_bind (wpAny_mono h₃ (fun x s₄ h₄ => wpAny_bind (wpAny_mono h₄ (fun _ s₅ h₅ => wpAny_pure (wpAny_pure ⟨rfl, h₅⟩)) fun _ _ h' => h'.elim)) fun _ _ h' => h'.elim))

def compSt (fi : List (Option Nat)) (σ : St) : St := fi.map fun o => match o with
  | none => none
  | some j => (σ[j]?).join
abbrev CT (α : Type) := List Addr → List (Addr × Obj) → Shared → Hp → α
def CompW (J : It) (a : Addr) (σ0 : St) (H1 : Hp) (g : TG) (tc : TT) (te : TE) (Q : VK) : Prop :=
  ∃ W : Nat → Nat → St → Hp → Prop, (∃ m, W 0 m σ0 (upd H1 a (.lst []))) ∧ ∀ i m σc Hc, W i m σc Hc →
    (J.stop i Hc ∧ Q (.ref a) Hc) ∨ (J.go i Hc ∧ ∀ x H', J.yld i Hc x H' → g x σc H' fun σ2 H2 => tc σ2 H2 fun b H3' =>
      if b = true then te σ2 H3' fun y H4 => ∃ ys, H4 a = some (.lst ys) ∧ ys.length < sizeLine ∧ ∃ m', m' < m ∧ W (i + 1) m' σ2 (upd H4 a (.lst (ys ++ [y])))
      else ∃ m', m' < m ∧ W (i + 1) m' σ2 H3')
def tComp (fi : List (Option Nat)) (wi : TI) (g : CT TG) (tc : CT TT) (te : CT TE) : TE := fun σ H Q => wi σ H fun J H1 => ∀ fp pins s3 H3 a, H1 a = none →
  CompW J a (compSt fi σ) H1 (g fp pins s3 H3) (tc fp pins s3 H3) (te fp pins s3 H3) Q
def CompFrom (X : Cx) (scope : Scope) (Nc : List Str) (fi : List (Option Nat)) : Prop :=
  fi.length = Nc.length ∧ ∀ (i : Nat) (x : Str) (j : Nat), Nc[i]? = some x → fi[i]? = some (some j) → scope.names.lookup x = some .free ∧ X.env.kindOf x ≠ some .local ∧ Vis X.env.scope x ∧ X.N[j]? = some x

def cfB (sc : Scope) (env : Env) (N : List Str) : List Str → List (Option Nat) → Bool
  | [], [] => true
  | _ :: xs, none :: os => cfB sc env N xs os
  | x :: xs, some j :: os => (sc.names.lookup x == some .free) && ((env.scope.names.lookup x == some .cell) || (env.scope.names.lookup x == some .free)) && (N[j]? == some x) && cfB sc env N xs os
  | _, _ => false
theorem comp_from_go {X : Cx} {scope : Scope} : ∀ {Nc : List Str} {fi : List (Option Nat)}, cfB scope X.env X.N Nc fi = true → CompFrom X scope Nc fi
  | [], [], _ => ⟨rfl, fun i x j e => by simp at e⟩
  | _ :: xs, none :: os, h => by
    obtain ⟨h1, h2⟩ := comp_from_go (X := X) (scope := scope) (Nc := xs) (fi := os) h
    refine ⟨by rw [List.length_cons, List.length_cons, h1], fun i x j e1 e2 => ?_⟩
    cases i with
    | zero => simp at e2
    | succ i => exact h2 i x j (by simpa using e1) (by simpa using e2)
  | x :: xs, some k :: os, h => by
    have h' : ((scope.names.lookup x == some .free) && ((X.env.scope.names.lookup x == some .cell) || (X.env.scope.names.lookup x == some .free)) && (X.N[k]? == some x) && cfB scope X.env X.N xs os) = true := h
    simp only [Bool.and_eq_true, Bool.or_eq_true, beq_iff_eq] at h'
    obtain ⟨⟨⟨a1, a2⟩, a3⟩, a4⟩ := h'
    obtain ⟨h1, h2⟩ := comp_from_go (X := X) (scope := scope) (Nc := xs) (fi := os) a4
    refine ⟨by rw [List.length_cons, List.length_cons, h1], fun i y j e1 e2 => ?_⟩
    cases i with
    | zero =>
      simp at e1 e2
      subst e1; subst e2
      refine ⟨a1, ?_, ?_, a3⟩
      · show X.env.scope.names.lookup x ≠ some .local
        rcases a2 with a2 | a2 <;> rw [a2] <;> decide
      · rcases a2 with a2 | a2
        · exact .inr (.inl a2)
        · exact .inr (.inr a2)
    | succ i => exact h2 i y j (by simpa using e1) (by simpa using e2)
  | [], _ :: _, h => by cases h
  | _ :: _, [], h => by cases h

section
variable {X : Cx} {elt tg iter : Expr} {ifs : List Expr} {scope : Scope} {pos : Pos} {cl : List (Str × Addr)} {Nc : List Str} {fi : List (Option Nat)} {wi : TI} {g : CT TG} {tc : CT TT} {te : CT TE}

theorem comp_block (S : CompSc X.env scope cl) (hc : X.calm = true) (hfr : CompFrom X scope Nc fi)
    (hb : ∀ fp pins s3 H3, PG (cxComp X Nc scope cl fp pins s3 H3) tg (g fp pins s3 H3) ∧ PF (cxComp X Nc scope cl fp pins s3 H3) ifs (tc fp pins s3 H3) ∧ PE (cxComp X Nc scope cl fp pins s3 H3) elt (te fp pins s3 H3))
    {pins : List (Addr × Obj)} {σ : St} {Q : VK} {itv : Value} {s2 : Shared} {RR : Value → Addr → Result → Shared → Prop}
    (h2 : PIE X pins σ tg (fun J H1 => ∀ fp pins s3 H3 a, H1 a = none → CompW J a (compSt fi σ) H1 (g fp pins s3 H3) (tc fp pins s3 H3) (te fp pins s3 H3) Q) itv s2)
    (hRR : ∀ a C s' H' m, s'.heap.Ns C m → (∀ h', Heap.SameBut C s'.heap h' → Inv X pins σ H' { s' with heap := h' }) → FpOk X pins H' C → Q (.ref a) H' → RR (.ref a) C (.ok .next) s') :
    wpAny (model X.prog X.w) X.A (newList []) (fun acc s₃ => wpAny (model X.prog X.w) X.A (newFunctionEnv scope X.env.globals cl [] X.env.qual none .none (some X.env)) (fun cenv s₄ =>
      codeAny (model X.prog X.w) X.A (.compStart (.ListComp elt [⟨tg, iter, ifs, 0⟩] scope pos) 0 itv acc { cenv with scope := relabel scope X.env }) (RR acc cenv.locals) s₄) X.xe s₃) X.xe s2 := by
  obtain ⟨it, fp, tn, J, H2, e, I2, T, st2, f2, hR⟩ := h2
  subst e
  refine wpAny_newObj_type ?_
  have hfr2 : H2 s2.heap.objs.size = none := I2.hok.fresh (Nat.le_refl _)
  -- the list, tracked
  have I3 : Inv X pins σ (upd H2 s2.heap.objs.size (.lst [])) { s2 with heap := s2.heap.push { cls := .type "list", dict := none, data := .seq ([] : List Value).toArray } } :=
    I2.laid (t' := s2.toks) (fun b u e => Heap.get?_push_of_some _ e) (Nat.le_refl _) ⟨Nat.zero_le _, [], 0, .nil, Heap.get?_push_size _ rfl⟩
  obtain ⟨W, ⟨m0, w0⟩, turn⟩ := hR fp pins { s2 with heap := s2.heap.push { cls := .type "list", dict := none, data := .seq ([] : List Value).toArray } } (upd H2 s2.heap.objs.size (.lst [])) s2.heap.objs.size hfr2
  generalize hH3 : upd H2 s2.heap.objs.size (.lst []) = H3 at I3 w0 turn
  generalize hs3 : ({ s2 with heap := s2.heap.push { cls := .type "list", dict := none, data := .seq ([] : List Value).toArray } } : Shared) = s3 at I3 turn
  have hheap3 : s3.heap = s2.heap.push { cls := .type "list", dict := none, data := .seq ([] : List Value).toArray } := by rw [← hs3]
  have hsz3 : s3.heap.objs.size = s2.heap.objs.size + 1 := by rw [hheap3, Heap.size_push]
  have keep3 : ∀ b o, s2.heap.get? b = some o → s3.heap.get? b = some o := fun b o e => by rw [hheap3]; exact Heap.get?_push_of_some _ e
  have st3 : tn 0 s3.heap := T.keep _ _ _ st2 fun b _ o e => keep3 b o e
  have hfp : ∀ b ∈ fp, b < s2.heap.objs.size := fun b hb => by
    obtain ⟨o, e, _⟩ := T.obj _ _ st2 b hb
    exact Heap.lt_size e
  have f3 : ∀ b ∈ fp, FpOk X pins H3 b := fun b hb => by
    obtain ⟨f0, fr⟩ := f2 b hb
    refine ⟨?_, fr⟩
    rw [← hH3, upd_ne (Nat.ne_of_lt (hfp b hb))]; exact f0
  have hfp3 : ∀ b ∈ fp, b < s3.heap.objs.size := fun b hb => by rw [hsz3]; exact Nat.lt_succ_of_lt (hfp b hb)
  show wpAny _ _ _ _ _ s3
  refine newEnv_comp fun h4 hk4 hns4 hcl4 => ?_
  have hlen : (compSt fi σ).length = Nc.length := by rw [← hfr.1]; simp [compSt]
  have I4 : Inv (cxComp X Nc scope cl fp pins s3 H3) [] (compSt fi σ) H3 { s3 with heap := h4 } := by
    refine comp_inv S I3 f3 hfp3 hlen (fun i x v e1 e2 => ?_) hk4 hns4 hcl4
    unfold compSt at e2
    rw [List.getElem?_map] at e2
    cases ef : fi[i]? with
    | none => rw [ef] at e2; cases e2
    | some o =>
      rw [ef] at e2
      cases o with
      | none => cases e2
      | some j =>
        obtain ⟨q1, q2, q3, q4⟩ := hfr.2 i x j e1 ef
        have e2' : (σ[j]?).join = some v := Option.some.inj e2
        refine ⟨q1, q2, q3, j, q4, ?_⟩
        cases es : σ[j]? with
        | none => rw [es] at e2'; cases e2'
        | some z => rw [es] at e2'; cases z with
          | none => cases e2'
          | some z => cases e2'; rfl
  have st4 : tn 0 h4 := T.keep _ _ _ st3 fun b _ o e => hk4 b o e
  obtain ⟨pg, pf, pe⟩ := hb fp pins s3 H3
  -- the loop
  have loop : codeAny (model X.prog X.w) X.A (.compLoop (.ListComp elt [⟨tg, iter, ifs, 0⟩] scope pos) 0 (.ref it) (.ref s2.heap.objs.size) (cxComp X Nc scope cl fp pins s3 H3).env) (RR (.ref s2.heap.objs.size) s3.heap.objs.size) { s3 with heap := h4 } := by
    have stat : ∀ {H' : Hp}, (∀ b ∈ fp, H' b = none) → ∀ b ∈ fp, FpOk (cxComp X Nc scope cl fp pins s3 H3) [] H' b := fun hn b hb => by
      obtain ⟨f0, f1, f2', f3', f4, f5⟩ := f3 b hb
      have ok := I4.ok
      refine ⟨hn b hb, (ok.exf b hb).1, ok.exfs b hb, .inl hb, (ok.exf b hb).2, fun p hp => ?_⟩
      have : p ∈ X.pn ++ pins := by
        have : p ∈ (X.pn ++ pins) ++ [] := hp
        simpa using this
      exact f5 p this
    refine compLoop_gen (fun n s' => ∃ i σ' H', Inv (cxComp X Nc scope cl fp pins s3 H3) [] σ' H' s' ∧ tn i s'.heap ∧ (∀ b ∈ fp, H' b = none) ∧ W i n σ' H') ?_ m0 ⟨0, _, H3, I4, st4, fun b hb => (f3 b hb).1, w0⟩
    rintro n s5 ⟨i, σ5, H5, I5, st5, fr5, w5⟩
    rcases turn i n σ5 H5 w5 with ⟨stop, q⟩ | ⟨go, step⟩
    · refine thn (T.done (cxComp X Nc scope cl fp pins s3 H3) rfl rfl rfl hc i [] s5 σ5 H5 _ I5 (stat fr5) st5 stop) fun r s6 ⟨hr, I6⟩ => ?_
      subst hr
      obtain ⟨m, hn, _⟩ := id I6.loc
      refine hRR _ _ s6 H5 m hn (fun h' hs' => ?_) (I3.fpOk (Nat.le_refl _) I6.free) q
      · -- back in the body
        have ub : Un (frs X.stack) fp H3 H5 s3.heap s6.heap := I6.base
        have neC : ∀ b o, s3.heap.get? b = some o → b ≠ s3.heap.objs.size := fun b o e => Nat.ne_of_lt (Heap.lt_size e)
        have ub' : Un (frs X.stack) fp H3 H5 s3.heap h' :=
          ⟨fun b o e n hb hx => (hs'.2 b (neC b o e)).trans (ub.keep b o e n hb hx), fun b o e n hb hx => (ub.slot b o e n hb hx).imp fun sl z => (hs'.2 b (neC b o e)).trans z, ub.free, fun b o e hx => (ub.there b o e hx).imp fun o' z => (hs'.2 b (neC b o e)).trans z, ub.tups, ub.frzs, ub.tbls⟩
        have hok' : HOk X.prog X.w H5 h' := fun b ob e => by
          refine (I6.hok b ob e).stay (fun c w' hcc z => (hs'.2 c ?_).trans z) (fun _ _ _ z => z) (fun _ z => z) fun _ _ z => z
          rintro rfl
          have hfree : H5 s3.heap.objs.size = none := I6.free
          rcases hcc with z | z
          · have z' : s3.heap.objs.size = b := z
            rw [← z', hfree] at e; cases e
          · have z' : H5 s3.heap.objs.size = some (.own b) := z
            rw [hfree] at z'; cases z'
        exact I3.call' (s' := { s6 with heap := h' }) (ch := fp) I6.os ub' hok' I6.bare fun b hb => by
          obtain ⟨f0, f1, f2', f3', f4, f5⟩ := f3 b hb
          exact ⟨f3', f1, f4, f5⟩
    · refine thn (T.item (cxComp X Nc scope cl fp pins s3 H3) rfl rfl rfl hc i [] s5 σ5 H5 _ I5 (stat fr5) st5 go) fun r s6 ⟨u, hr, h6⟩ => ?_
      subst hr
      refine thn h6 fun _ s7 ⟨x, H7, I7, r7, y7, st7, fr7⟩ => ?_
      have I7' := I7.pinned (stat fr7) (T.obj _ _ st7)
      refine thn (pg _ s7 σ5 H7 x u _ I7' r7 (step x H7 y7)) fun _ s8 ⟨σ8, H8, I8, q8⟩ => ?_
      refine thn (pf _ s8 σ8 H8 _ I8 q8) fun ok s9 ⟨H9, I9, q9⟩ => ?_
      have again : ∀ {σ' : St} {H' : Hp} {s' : Shared}, Inv (cxComp X Nc scope cl fp pins s3 H3) ([] ++ pinsAt fp s7.heap) σ' H' s' → (∃ m', m' < n ∧ W (i + 1) m' σ' H') →
          ∃ m, m < n ∧ ∃ i σ' H', Inv (cxComp X Nc scope cl fp pins s3 H3) [] σ' H' s' ∧ tn i s'.heap ∧ (∀ b ∈ fp, H' b = none) ∧ W i m σ' H' := fun {σ' H' s'} I' ⟨m', hm, w'⟩ => by
        refine ⟨m', hm, i + 1, σ', H', I'.unpinned, T.keep _ _ _ st7 fun b hb o e => (I'.pin (b, o) (List.mem_append_right _ (List.mem_append_right _ (mem_pinsAt hb e)))).1, fun b hb => ?_, w'⟩
        obtain ⟨o, e, d⟩ := T.obj _ _ st7 b hb
        exact (I'.pin (b, o) (List.mem_append_right _ (List.mem_append_right _ (mem_pinsAt hb e)))).2.1
      cases ok with
      | false => exact again I9 q9
      | true =>
        rw [if_pos rfl]
        refine thn (pe _ s9 σ8 H9 _ I9 q9) fun y s10 ⟨yv, H10, I10, r10, ys, ha, hz, q10⟩ => ?_
        refine thn (mt_append _ s10 σ8 H10 (.ref s2.heap.objs.size) [yv] (.ref s2.heap.objs.size) [y] (fun _ H' => ∃ m', m' < n ∧ W (i + 1) m' σ8 H') I10 rfl (.cons r10 .nil) ⟨_, ys, yv, rfl, rfl, ha, hz, q10⟩) fun _ s11 ⟨_, H11, I11, _, q11⟩ => ?_
        exact again I11 q11
  exact codeAny_compStart_list loop (T.self X.A 0 _ _ _ st4 loop)

theorem pe_comp (S : CompSc X.env scope cl) (hc : X.calm = true) (hfr : CompFrom X scope Nc fi) (hi : PI X tg iter wi)
    (hb : ∀ fp pins s3 H3, PG (cxComp X Nc scope cl fp pins s3 H3) tg (g fp pins s3 H3) ∧ PF (cxComp X Nc scope cl fp pins s3 H3) ifs (tc fp pins s3 H3) ∧ PE (cxComp X Nc scope cl fp pins s3 H3) elt (te fp pins s3 H3))
    (hs : ∀ x, foldedSetIterable iter X.env x = pure x := by intro _; rfl) : PE X (.ListComp elt [⟨tg, iter, ifs, 0⟩] scope pos) (tComp fi wi g tc te) := by
  intro pins s σ H Q I h
  rw [eval_ListComp]
  refine wpAny_comprehension_free (use := none) rfl hs S.clos S.kind S.names (thn (hi pins s σ H _ I h) fun v s1 h1 => thn h1 fun itv s2 h2 => ?_)
  refine comp_block (Q := Q) (RR := fun acc C => compPost (model X.prog X.w) X.A X.xe none (EP X pins σ Q) acc C) S hc hfr hb h2 ?_
  intro a C s' H' m hn hI _ q
  exact ⟨m, hn, fun h' hs' => ⟨.ref a, H', hI h' hs', rfl, q⟩⟩

theorem ps_setComp {i : Nat} {y : Str} {py spos : Pos} (S : CompSc X.env scope cl) (hc : X.calm = true) (hfr : CompFrom X scope Nc fi) (hN : X.N.Nodup) (hiy : X.N[i]? = some y) (hy : X.env.kindOf y = some .local) (hi : PI X tg iter wi)
    (hb : ∀ fp pins s3 H3, PG (cxComp X Nc scope cl fp pins s3 H3) tg (g fp pins s3 H3) ∧ PF (cxComp X Nc scope cl fp pins s3 H3) ifs (tc fp pins s3 H3) ∧ PE (cxComp X Nc scope cl fp pins s3 H3) elt (te fp pins s3 H3))
    (hsw : swapsWith (.ListComp elt [⟨tg, iter, ifs, 0⟩] scope pos) (some (.Name y py)) spos.line X.env = pure true)
    (hs : ∀ x, foldedSetIterable iter X.env x = pure x := by intro _; rfl) : PS X (.Assign [.Name y py] (.ListComp elt [⟨tg, iter, ifs, 0⟩] scope pos) spos) (tAsg (tComp fi wi g tc te) (gName i)) := by
  intro pins s σ H D I h
  rw [exec_Assign_Name_used _ _ _ _ hsw]
  refine wpAny_bind (wpAny_standAt (wpAny_bind ?_))
  show wpAny _ X.A (do let _ ← comprehension (.ListComp elt [⟨tg, iter, ifs, 0⟩] scope pos) scope X.env _ (newList []) false (eval iter X.env) (some (assign (.Name y py) X.env))) _ _ s
  refine wpAny_bind (wpAny_mono (wpAny_comprehension_free (use := some (assign (.Name y py) X.env)) (Q := fun _ s' => SP X pins D .next s') rfl hs S.clos S.kind S.names
    (thn (hi pins s σ H _ I h) fun v s1 h1 => thn h1 fun itv s2 h2 => ?_)) (fun _ s' hq => wpAny_pure (wpAny_pure hq)) fun _ _ e => e)
  refine comp_block (Q := fun v H' => gName i v σ H' D.nx) (RR := fun acc C => compPost (model X.prog X.w) X.A X.xe (some (assign (.Name y py) X.env)) (fun _ s' => SP X pins D .next s') acc C) S hc hfr hb h2 ?_
  intro a C s' H' m hn hI ⟨f0, f1, f2, f3, f4, f5⟩ q
  show wpAny _ X.A (assign (.Name y py) X.env (.ref a)) _ _ _
  have I' : Inv X pins σ H' s' := hI s'.heap (Heap.SameBut.refl ..)
  obtain ⟨mL, hnL, _⟩ := id I'.loc
  refine wpAny_assign_Name (store_ok2 I' hN hiy (.inl hy) (v := .ref a) rfl (fun s'' I'' ⟨b, sb, hbL⟩ => ?_) (.inr hy))
  have hb' : b ≠ C := by
    rcases hbL with z | z
    · rw [z]; exact Ne.symm f1
    · intro e
      exact f4 y b z e
  refine ⟨m, hn.sameBut sb (Ne.symm hb'), fun h3 hs3 => ?_⟩
  refine ⟨σ.set i (some (.ref a)), H', ?_, q⟩
  -- the frame of the comprehension changed behind the store
  have keep : ∀ b o, b ≠ C → s''.heap.get? b = some o → h3.get? b = some o := fun b o hb e => (hs3.2 b hb).trans e
  exact Inv.turned (t' := s''.toks) (it := C) I'' keep f0 f1 f3 f4 f5
end
end L2
set_option Elab.async false
set_option linter.all false
set_option maxRecDepth 100000
set_option maxHeartbeats 4000000
namespace PySem.L3
open PySem
theorem boot_len : bootBuiltins "len" = some (.builtin "len") := by decide +kernel
theorem boot_abs : bootBuiltins "abs" = some (.builtin "abs") := by decide +kernel
theorem boot_all : bootBuiltins "all" = some (.builtin "all") := by decide +kernel
theorem boot_sum : bootBuiltins "sum" = some (.builtin "sum") := by decide +kernel
theorem boot_min : bootBuiltins "min" = some (.builtin "min") := by decide +kernel
theorem boot_max : bootBuiltins "max" = some (.builtin "max") := by decide +kernel
theorem boot_isinstance : bootBuiltins "isinstance" = some (.builtin "isinstance") := by decide +kernel
theorem boot_tuple : bootBuiltins "tuple" = some (.type "tuple") := by decide +kernel
theorem boot_list : bootBuiltins "list" = some (.type "list") := by decide +kernel
theorem boot_bool : bootBuiltins "bool" = some (.type "bool") := by decide +kernel
theorem boot_int : bootBuiltins "int" = some (.type "int") := by decide +kernel
theorem boot_reversed : bootBuiltins "reversed" = some (.type "reversed") := by decide +kernel
theorem boot_zip : bootBuiltins "zip" = some (.type "zip") := by decide +kernel
theorem boot_enumerate : bootBuiltins "enumerate" = some (.type "enumerate") := by decide +kernel
end PySem.L3

namespace L2
open PySem PySem.Spec PyProof.Rows

def Cal (P : Program) (w : World) (K : PySem.W.Frag) (mg : Str → Option Value) (base : Heap) (k : Nat) (x : Str) (sp : Sp) : Prop :=
  ∃ f fd ps, FnOk P w K mg base CX0 k f fd ps sp ∧ Binds K fd ps [] ∧ PySem.W.keepIn K (.ref f) = true ∧ mg x = some (.ref f)
def tCl (sp : Sp) (t : TA) : TE := fun σ H Q => t σ H fun vs H1 => sp vs H1 Q E0
section
variable {X : Cx} {k : Nat} {x : Str} {sp : Sp} {p pos : Pos} {e : Expr} {es : List Expr} {t : TA}
theorem pe_c (C : Cal X.prog X.w X.K X.mg X.base k x sp) (hr : Room k X.A) (hg : Gl X x) (ha : PA X (e :: es) t) (hdb : (x == ("__debug__" : Str)) = false := by decide)
    (he : starEach (e :: es) X.env = (false, eval e X.env) :: starEach es X.env := by rfl) (hpl : (backTo pos (starEach es X.env)).any (·.1) = false := by rfl) : PE X (.Call (.Name x p) (e :: es) [] pos) (tCl sp t) := by
  obtain ⟨f, fd, ps, F, hb, hk, hm⟩ := C
  have q := pe_call (dvs := []) (E := E0) (p := p) (pos := pos) F hr hg hm hk hb .nil pass0 ha hdb he hpl
  intro pins s σ H Q I h
  refine q pins s σ H Q I ?_
  show t σ H fun vs H1 => sp (vs ++ []) H1 Q E0
  have e0 : (fun vs H1 => sp (vs ++ []) H1 Q E0) = fun vs H1 => sp vs H1 Q E0 := by funext vs H1; rw [List.append_nil]
  rw [e0]; exact h
end
theorem cal_mk {P : Program} {w : World} {K : PySem.W.Frag} {mg : Str → Option Value} {base : Heap} {k : Nat} {x : Str} {sp : Sp} {f : Addr} {fd : FuncData} {ps : List Str}
    (F : FnOk P w K mg base CX0 k f fd ps sp) (b : Binds K fd ps []) (kp : PySem.W.keepIn K (.ref f) = true) (m : mg x = some (.ref f)) : Cal P w K mg base k x sp := ⟨f, fd, ps, F, b, kp, m⟩

section
variable {X : Cx}
theorem call_isinstance : CallR X (.builtin "isinstance") (fun xs H Q => ∃ x T t b, xs = [x, .ty T] ∧ TyOf X.K H x t ∧ PySem.W.kitOne X.K t (.type T) = some b ∧ Q (.bl b) H) := by
  intro pins s σ H xs us Q I rv h
  obtain ⟨x, T, t, b, rfl, ty, e, q⟩ := h
  obtain ⟨u, u', rfl, rx, rt⟩ := vals2 rv
  cases rt
  exact isinst_ok I rx ty e fun tk => ⟨.bl b, H, I.tok tk, rfl, q⟩

theorem bools_of : ∀ {bs : List Bool} {its : List Value}, Vals (bs.map V.bl) its → its = bs.map Value.bool
  | [], _, r => by cases r; rfl
  | b :: bs, _, r => by
    cases r with
    | cons r1 r2 => cases r1; rw [bools_of r2]; rfl
theorem range_all (bs : List Bool) : (List.range bs.length).all (fun i => bs.getD i false) = bs.all id := by
  induction bs with
  | nil => rfl
  | cons b bs ih =>
    rw [List.length_cons, List.range_succ_eq_map, List.all_cons, List.all_map, List.all_cons]
    simpa [Function.comp_def] using congrArg (b && ·) ih
theorem walk_bools {pins : List (Addr × Obj)} {s : Shared} {σ : St} {H : Hp} {p : Addr} {bs : List Bool} {R : Bool → Bool} {E : Value → Shared → Prop} (hc : X.calm = true) (I : Inv X pins σ H s) (hq : SqL X.K H p (bs.map V.bl))
    {QQ : (Nat → Bool) → Nat → Shared → Prop} (hQ : ∀ h' tk, (∀ b o, s.heap.get? b = some o → h'.get? b = some o) → QQ (fun i => bs.getD i false) bs.length { s with heap := h', toks := tk }) :
    wpAny (model X.prog X.w) X.A.in1 (pyIter (.ref p)) (fun it s₂ => ∃ I fp wr n P St tr, it = .ref I ∧ Walks X.prog X.w X.A.in1 I fp wr n P St ∧ St 0 s₂.heap ∧ TruthOf X.prog X.w X.A.in1 P tr ∧
      ∀ h' tk, (∀ b o, b ∉ wr → s₂.heap.get? b = some o → h'.get? b = some o) → QQ tr n { s₂ with heap := h', toks := tk }) E s := by
  obtain ⟨its, rv, pl, hz⟩ := I.list hq
  have e := bools_of rv
  subst e
  have hl := pl.isList
  have hax : p < s.heap.objs.size := by obtain ⟨_, e, _⟩ := hl; exact Heap.lt_size e
  refine wpAny_pyIter_list hl ?_
  refine ⟨s.heap.objs.size, [s.heap.objs.size, p], [s.heap.objs.size], (bs.map Value.bool).toArray.size, (fun i v => (bs.map Value.bool).toArray[i]? = some v), _, fun i => bs.getD i false, rfl,
    Walks.list (prog := X.prog) (w := X.w) (A := X.A.in1) (I.ok.hd hc) s.heap.objs.size p (Nat.ne_of_lt hax) _, ⟨⟨_, Heap.get?_push_size _ rfl, rfl, rfl⟩, hl.push _⟩, ?_, fun h' tk hk => ?_⟩
  · intro i v s' Q' E' hP hQ'
    have : ∃ b, bs[i]? = some b ∧ v = .bool b := by
      have hP' : (bs.map Value.bool)[i]? = some v := by simpa using hP
      rw [List.getElem?_map] at hP'
      cases hb : bs[i]? with
      | none => rw [hb] at hP'; cases hP'
      | some b => rw [hb] at hP'; exact ⟨b, rfl, (Option.some.inj hP').symm⟩
    obtain ⟨b, hb, rfl⟩ := this
    refine wpAny_truthy_bool ?_
    have : bs.getD i false = b := by rw [List.getD_eq_getElem?_getD, hb]; rfl
    have hQ2 : Q' (bs.getD i false) s' := hQ'
    rw [this] at hQ2; exact hQ2
  · have : (bs.map Value.bool).toArray.size = bs.length := by simp
    rw [this]
    exact hQ h' tk fun b o e => hk b o (by
      intro hm
      have hb : b = s.heap.objs.size := by simpa using hm
      have hlt := Heap.lt_size e
      rw [hb] at hlt
      exact Nat.lt_irrefl _ hlt) (Heap.get?_push_of_some _ e)
theorem call_all (hc : X.calm = true) : CallR X (.builtin "all") (fun xs H Q => ∃ (p : Addr) (bs : List Bool), xs = [.ref p] ∧ SqL X.K H p (bs.map V.bl) ∧ Q (.bl (bs.all id)) H) := by
  intro pins s σ H xs us Q I rv h
  obtain ⟨p, bs, rfl, hq, q⟩ := h
  obtain ⟨u, rfl, rx⟩ := vals1 rv
  cases rx
  refine call_all_walk (walk_bools (R := id) hc I hq (QQ := fun tr n s' => EP X pins σ Q (.bool ((List.range n).all tr)) s') fun h' tk hk => ?_)
  rw [range_all]
  exact ⟨.bl (bs.all id), H, I.kept hk, rfl, q⟩
end

theorem comp_by {J : It} {l : Addr} {σ0 : St} {H1 : Hp} {g : TG} {tc : TT} {te : TE} {Q : VK} (n : Nat) (hn : n ≤ sizeLine) (Pv : Nat → List V → St → Hp → Prop) (h0 : Pv 0 [] σ0 (upd H1 l (.lst [])))
    (hl : ∀ i ys σ H, Pv i ys σ H → H l = some (.lst ys) ∧ ys.length ≤ i)
    (hs : ∀ i ys σ H, i < n → Pv i ys σ H → J.go i H ∧ ∀ x H', J.yld i H x H' → ∀ (Kt : St → V → Hp → Prop) (Kf : St → Hp → Prop),
      (∀ σ2 y H4, H4 l = some (.lst ys) → Pv (i + 1) (ys ++ [y]) σ2 (upd H4 l (.lst (ys ++ [y]))) → Kt σ2 y H4) → (∀ σ2 H3, Pv (i + 1) ys σ2 H3 → Kf σ2 H3) →
      g x σ H' fun σ2 H2 => tc σ2 H2 fun b H3 => if b = true then te σ2 H3 (Kt σ2) else Kf σ2 H3)
    (hd : ∀ ys σ H, Pv n ys σ H → J.stop n H ∧ Q (.ref l) H) :
    CompW J l σ0 H1 g tc te Q := by
  refine ⟨fun i m σ H => m = n - i ∧ i ≤ n ∧ ∃ ys, Pv i ys σ H, ⟨n, by simp, Nat.zero_le _, [], h0⟩, ?_⟩
  rintro i m σ H ⟨rfl, hi, ys, p⟩
  by_cases hlt : i < n
  · obtain ⟨go, step⟩ := hs i ys σ H hlt p
    refine .inr ⟨go, fun x H' y => ?_⟩
    refine step x H' y (fun σ2 y H4 => ∃ ys, H4 l = some (.lst ys) ∧ ys.length < sizeLine ∧ ∃ m', m' < n - i ∧ (m' = n - (i + 1) ∧ i + 1 ≤ n ∧ ∃ zs, Pv (i + 1) zs σ2 (upd H4 l (.lst (ys ++ [y]))))) (fun σ2 H3 => ∃ m', m' < n - i ∧ (m' = n - (i + 1) ∧ i + 1 ≤ n ∧ ∃ zs, Pv (i + 1) zs σ2 H3)) ?_ ?_
    · intro σ2 y H4 e q
      have := (hl i ys σ H p).2
      exact ⟨ys, e, by omega, n - (i + 1), by omega, rfl, hlt, _, q⟩
    · intro σ2 H3 q
      exact ⟨n - (i + 1), by omega, rfl, hlt, _, q⟩
  · have e : i = n := by omega
    subst e
    exact .inl (hd ys σ H p)
end L2
set_option Elab.async false
set_option linter.all false
set_option maxRecDepth 100000
set_option maxHeartbeats 4000000
namespace L2
open PySem PySem.Spec PyProof.Rows
section
variable (K : PySem.W.Frag) (H : Hp)
mutual
def Dn : PyData → V → Prop
  | .none, v => v = .non
  | .bool b, v => v = .bl b
  | .int i, v => v = .int i
  | .str x, v => v = .str x
  | .tuple ds, v => ∃ a xs, v = .ref a ∧ SqT K H a xs ∧ Dns ds xs
  | .list ds, v => ∃ a xs, v = .ref a ∧ SqL K H a xs ∧ Dns ds xs
  | .dict _, _ => False
def Dns : List PyData → List V → Prop
  | [], xs => xs = []
  | d :: ds, xs => ∃ x r, xs = x :: r ∧ Dn d x ∧ Dns ds r
end
end
theorem Same.seqT {K : PySem.W.Frag} {H H' : Hp} {a : Addr} {xs : List V} (e : Same H H') (h : SqT K H a xs) : SqT K H' a xs := by
  rcases h with (h | ⟨o, h⟩) | h
  · exact .inl (.inl (e _ _ h))
  · exact .inl (.inr ⟨o, e _ _ h⟩)
  · exact .inr h
section
variable {K : PySem.W.Frag} {H H' : Hp}
theorem dn_int {i : Int} : Dn K H (.int i) (.int i) := by rw [Dn]
theorem dn_tup {a : Addr} {xs : List V} {ds : List PyData} (h : SqT K H a xs) (d : Dns K H ds xs) : Dn K H (.tuple ds) (.ref a) := by rw [Dn]; exact ⟨a, xs, rfl, h, d⟩
theorem dn_lst {a : Addr} {xs : List V} {ds : List PyData} (h : SqL K H a xs) (d : Dns K H ds xs) : Dn K H (.list ds) (.ref a) := by rw [Dn]; exact ⟨a, xs, rfl, h, d⟩
theorem dns_nil : Dns K H [] [] := by rw [Dns]
theorem dns_cons {d : PyData} {ds : List PyData} {x : V} {xs : List V} (h1 : Dn K H d x) (h2 : Dns K H ds xs) : Dns K H (d :: ds) (x :: xs) := by rw [Dns]; exact ⟨x, xs, rfl, h1, h2⟩
theorem Dn.int {i : Int} {v : V} (h : Dn K H (.int i) v) : v = .int i := by rw [Dn] at h; exact h
theorem Dn.tup {ds : List PyData} {v : V} (h : Dn K H (.tuple ds) v) : ∃ a xs, v = .ref a ∧ SqT K H a xs ∧ Dns K H ds xs := by rw [Dn] at h; exact h
theorem Dns.nil {xs : List V} (h : Dns K H [] xs) : xs = [] := by rw [Dns] at h; exact h
theorem Dns.cons {d : PyData} {ds : List PyData} {xs : List V} (h : Dns K H (d :: ds) xs) : ∃ x r, xs = x :: r ∧ Dn K H d x ∧ Dns K H ds r := by rw [Dns] at h; exact h
mutual
theorem Same.dn (e : Same H H') : ∀ {d : PyData} {v : V}, Dn K H d v → Dn K H' d v
  | .none, _, h => by rw [Dn] at h ⊢; exact h
  | .bool _, _, h => by rw [Dn] at h ⊢; exact h
  | .int _, _, h => by rw [Dn] at h ⊢; exact h
  | .str _, _, h => by rw [Dn] at h ⊢; exact h
  | .dict _, _, h => by rw [Dn] at h; exact h.elim
  | .tuple ds, _, h => by
    rw [Dn] at h ⊢
    obtain ⟨a, xs, e1, h1, h2⟩ := h
    exact ⟨a, xs, e1, e.seqT h1, Same.dns e h2⟩
  | .list ds, _, h => by
    rw [Dn] at h ⊢
    obtain ⟨a, xs, e1, h1, h2⟩ := h
    exact ⟨a, xs, e1, e.seq h1, Same.dns e h2⟩
theorem Same.dns (e : Same H H') : ∀ {ds : List PyData} {xs : List V}, Dns K H ds xs → Dns K H' ds xs
  | [], _, h => by rw [Dns] at h ⊢; exact h
  | d :: ds, _, h => by
    rw [Dns] at h ⊢
    obtain ⟨x, r, e1, h1, h2⟩ := h
    exact ⟨x, r, e1, Same.dn e h1, Same.dns e h2⟩
end
theorem Dns.length : ∀ {ds : List PyData} {xs : List V}, Dns K H ds xs → xs.length = ds.length
  | [], _, h => by rw [h.nil]; rfl
  | d :: ds, _, h => by
    obtain ⟨x, r, rfl, _, h2⟩ := h.cons
    rw [List.length_cons, List.length_cons, Dns.length h2]
theorem Dns.get : ∀ {ds : List PyData} {xs : List V} {i : Nat} {d : PyData}, Dns K H ds xs → ds[i]? = some d → ∃ x, xs[i]? = some x ∧ Dn K H d x
  | [], _, _, _, _, e => by simp at e
  | d :: ds, _, 0, d', h, e => by
    obtain ⟨x, r, rfl, h1, _⟩ := h.cons
    simp at e; subst e
    exact ⟨x, rfl, h1⟩
  | d :: ds, _, i + 1, d', h, e => by
    obtain ⟨x, r, rfl, _, h2⟩ := h.cons
    obtain ⟨y, h3, h4⟩ := Dns.get (i := i) h2 (by simpa using e)
    exact ⟨y, by simpa using h3, h4⟩
theorem Dns.get' : ∀ {ds : List PyData} {xs : List V} {i : Nat} {x : V}, Dns K H ds xs → xs[i]? = some x → ∃ d, ds[i]? = some d ∧ Dn K H d x := fun {ds xs i x} h e => by
  have hl := h.length
  have hi : i < xs.length := (List.getElem?_eq_some_iff.mp e).1
  obtain ⟨y, h1, h2⟩ := h.get (i := i) (d := ds[i]'(by omega)) (by simp [show i < ds.length by omega])
  rw [e] at h1; cases h1
  exact ⟨_, by simp [show i < ds.length by omega], h2⟩
theorem Dns.append : ∀ {ds es : List PyData} {xs ys : List V}, Dns K H ds xs → Dns K H es ys → Dns K H (ds ++ es) (xs ++ ys)
  | [], _, _, _, h, g => by rw [h.nil]; exact g
  | d :: ds, es, _, ys, h, g => by
    obtain ⟨x, r, rfl, h1, h2⟩ := h.cons
    exact dns_cons h1 (Dns.append h2 g)
theorem Dns.set {d : PyData} {x : V} (hx : Dn K H d x) : ∀ (i : Nat) {ds : List PyData} {xs : List V}, Dns K H ds xs → Dns K H (ds.set i d) (xs.set i x)
  | _, [], _, h => by rw [h.nil]; exact dns_nil
  | 0, d' :: ds, _, h => by
    obtain ⟨y, r, rfl, h1, h2⟩ := h.cons
    exact dns_cons hx h2
  | i + 1, d' :: ds, _, h => by
    obtain ⟨y, r, rfl, h1, h2⟩ := h.cons
    exact dns_cons h1 (Dns.set hx i h2)
end
section
variable {X : Cx} {pins : List (Addr × Obj)} {s : Shared} {σ : St} {H : Hp}
mutual
theorem dn_reads (I : Inv X pins σ H s) : ∀ {d : PyData} {v : V} {u : Value}, Dn X.K H d v → RelV v u → ∃ as, Reads s.heap u d as
  | .none, _, _, h, r => by rw [Dn] at h; subst h; cases r; exact ⟨_, .none⟩
  | .bool b, _, _, h, r => by rw [Dn] at h; subst h; cases r; exact ⟨_, .bool b⟩
  | .int i, _, _, h, r => by rw [Dn] at h; subst h; obtain ⟨t, rfl⟩ := r; exact ⟨_, .int i t⟩
  | .str i, _, _, h, r => by rw [Dn] at h; subst h; obtain ⟨t, rfl⟩ := r; exact ⟨_, .str i t⟩
  | .dict _, _, _, h, _ => by rw [Dn] at h; exact h.elim
  | .tuple ds, _, _, h, r => by
    rw [Dn] at h
    obtain ⟨a, xs, rfl, h1, h2⟩ := h
    cases r
    obtain ⟨us, rx, p, _⟩ := I.tuple h1
    obtain ⟨as, q⟩ := dns_reads I h2 rx
    obtain ⟨o, ho, hc, n, hd⟩ := p
    exact ⟨_, .tuple ho hc hd (by simpa using q)⟩
  | .list ds, _, _, h, r => by
    rw [Dn] at h
    obtain ⟨a, xs, rfl, h1, h2⟩ := h
    cases r
    obtain ⟨us, rx, p, _⟩ := I.list h1
    obtain ⟨as, q⟩ := dns_reads I h2 rx
    obtain ⟨o, ho, hc, n, hd⟩ := p.isList
    exact ⟨_, .list ho hc hd (by simpa using q)⟩
theorem dns_reads (I : Inv X pins σ H s) : ∀ {ds : List PyData} {xs : List V} {us : List Value}, Dns X.K H ds xs → Vals xs us → ∃ as, ReadsAll s.heap us ds as
  | [], _, _, h, r => by rw [Dns] at h; subst h; cases r; exact ⟨_, .nil⟩
  | d :: ds, _, _, h, r => by
    rw [Dns] at h
    obtain ⟨x, q, rfl, h1, h2⟩ := h
    cases r with
    | cons r1 r2 =>
      obtain ⟨as, p1⟩ := dn_reads I h1 r1
      obtain ⟨bs, p2⟩ := dns_reads I h2 r2
      exact ⟨_, .cons p1 p2⟩
end
inductive rEqD (K : PySem.W.Frag) (neg : Bool) (x : V) (y : V) (H : Hp) (Q : VK) : Prop where
  | mk (d : _) (e : _) (h_0 : Dn K H d x) (h_1 : Dn K H e y) (h_2 : SeqAt.shaped d = true) (h_3 : SeqAt.shaped e = true) (h_4 : Q (.bl (if neg then !PyData.eqv d e else PyData.eqv d e)) H)
theorem op_eqD (hu : X.A.units + 64 < cLine) : OpR X (compareOp .Eq) (rEqD X.K false) := by
  intro pins s σ H x y v u Q I rx ry h
  obtain ⟨d, e, h1, h2, s1, s2, q⟩ := h
  obtain ⟨as, r1⟩ := dn_reads I h1 rx
  obtain ⟨bs, r2⟩ := dn_reads I h2 ry
  exact eq_dataH r1 r2 s1 s2 hu ⟨.bl (PyData.eqv d e), H, I, rfl, q⟩
theorem op_neD (hu : X.A.units + 64 < cLine) : OpR X (compareOp .NotEq) (rEqD X.K true) := by
  intro pins s σ H x y v u Q I rx ry h
  obtain ⟨d, e, h1, h2, s1, s2, q⟩ := h
  obtain ⟨as, r1⟩ := dn_reads I h1 rx
  obtain ⟨bs, r2⟩ := dn_reads I h2 ry
  exact ne_dataH r1 r2 s1 s2 hu ⟨.bl (!PyData.eqv d e), H, I, rfl, q⟩
end

end L2
set_option Elab.async false
set_option linter.all false
set_option maxRecDepth 100000
set_option maxHeartbeats 4000000
namespace L2
open PySem PySem.Spec PyProof.Rows
def intsOf : List Expr → Option (List Int)
  | [] => some []
  | .Constant (.int i) _ _ :: r => (intsOf r).map (i :: ·)
  | _ => none
def tInts (ns : List Int) : TA := fun _ H Q => Q (ns.map V.int) H
theorem pa_ints {X : Cx} {es : List Expr} : ∀ {ns : List Int}, intsOf es = some ns → PA X es (tInts ns) := by
  induction es with
  | nil => intro ns h; cases h; exact pa_nil
  | cons a r ih =>
    intro ns h
    unfold intsOf at h
    split at h
    · rename_i e; cases e
    · rename_i i k p r' e
      cases e
      cases e : intsOf r with
      | none => rw [e] at h; cases h
      | some ms =>
        rw [e] at h; cases h
        have q := pa_cons (X := X) (e := .Constant (.int i) k p) (es := r) pe_int (ih e)
        intro pos pins s σ H Q I hq
        exact q pos pins s σ H Q I hq
    · cases h
end L2
namespace L2
open PySem PySem.Spec PyProof.Rows
end L2
set_option Elab.async false
set_option linter.all false
set_option maxRecDepth 100000
set_option maxHeartbeats 4000000
namespace L2
open PySem PySem.Spec PyProof.Rows Hull SortM
def spotD (p : P) : PyData := .tuple [.int p.1, .int p.2]
section
variable {X : Cx} {pins : List (Addr × Obj)} {s : Shared} {σ : St} {H : Hp}
theorem dn_spot {K : PySem.W.Frag} {a : Addr} {p : P} (h : SqT K H a [.int p.1, .int p.2]) : Dn K H (spotD p) (.ref a) := dn_tup h (dns_cons dn_int (dns_cons dn_int dns_nil))
theorem Dn.spot {K : PySem.W.Frag} {v : V} {p : P} (h : Dn K H (spotD p) v) : ∃ a, v = .ref a ∧ SqT K H a [.int p.1, .int p.2] := by
  obtain ⟨a, xs, rfl, h1, h2⟩ := Dn.tup h
  obtain ⟨x, r, rfl, hx, h2⟩ := h2.cons
  obtain ⟨y, r, rfl, hy, h2⟩ := h2.cons
  rw [h2.nil] at h1
  rw [hx.int, hy.int] at h1
  exact ⟨a, rfl, h1⟩
end
section
variable {prog : Program} {w : World} {A : Around} {E : Value → Shared → Prop} {s : Shared}
end
section
variable {X : Cx}
end
end L2
set_option Elab.async false
set_option linter.all false
set_option maxRecDepth 100000
set_option maxHeartbeats 4000000
namespace L2
open PySem PySem.Spec PyProof.Rows Hull SortM SetX
section
variable {X : Cx}
end
end L2
set_option Elab.async false
set_option linter.all false
set_option maxRecDepth 100000
set_option maxHeartbeats 4000000
namespace L2
open PySem PySem.Spec PyProof.Rows Hull SortM SetX
section
variable {X : Cx}
theorem best_lt (bt : Nat → Nat → Bool) : ∀ n, argBest bt n ≤ n
  | 0 => Nat.le_refl _
  | n + 1 => by
    unfold argBest
    split
    · exact Nat.le_refl _
    · exact Nat.le_succ_of_le (best_lt bt n)
theorem best_min (val : Nat → Int) : ∀ n j, j ≤ n → val (argBest (fun i j => decide (val i < val j)) n) ≤ val j
  | 0, j, h => by have : j = 0 := by omega
                  subst this; exact Int.le_refl _
  | n + 1, j, h => by
    unfold argBest
    have ih := best_min val n
    by_cases hc : val (n + 1) < val (argBest (fun i j => decide (val i < val j)) n)
    · rw [if_pos (decide_eq_true hc)]
      rcases Nat.eq_or_lt_of_le h with e | e
      · subst e; exact Int.le_refl _
      · have := ih j (by omega); omega
    · rw [if_neg (by simpa using hc)]
      rcases Nat.eq_or_lt_of_le h with e | e
      · subst e; omega
      · exact ih j (by omega)
theorem best_max (val : Nat → Int) : ∀ n j, j ≤ n → val j ≤ val (argBest (fun i j => decide (val i > val j)) n)
  | 0, j, h => by have : j = 0 := by omega
                  subst this; exact Int.le_refl _
  | n + 1, j, h => by
    unfold argBest
    have ih := best_max val n
    by_cases hc : val (n + 1) > val (argBest (fun i j => decide (val i > val j)) n)
    · rw [if_pos (decide_eq_true hc)]
      rcases Nat.eq_or_lt_of_le h with e | e
      · subst e; exact Int.le_refl _
      · have := ih j (by omega); omega
    · rw [if_neg (by simpa using hc)]
      rcases Nat.eq_or_lt_of_le h with e | e
      · subst e; omega
      · exact ih j (by omega)
theorem ints_at {ns : List Int} {its : List Value} (r : Vals (ns.map V.int) its) (i : Nat) (v : Value) (h : its.toArray[i]? = some v) : ∃ t, v = .int (ns.getD i 0) t := by
  have hi : i < its.length := by
    have h' : its[i]? = some v := by simpa using h
    exact (List.getElem?_eq_some_iff.mp h').1
  have hl : ns.length = its.length := by have := r.length; simpa using this
  have hn : i < ns.length := by omega
  obtain ⟨u, h1, h2⟩ := r.get (i := i) (x := V.int ns[i]) (by simp [hn])
  have h' : its[i]? = some v := by simpa using h
  rw [h'] at h1; cases h1
  obtain ⟨t, e⟩ := h2
  exact ⟨t, by rw [e]; simp [hn]⟩
inductive rMinL (K : PySem.W.Frag) (xs : List V) (H : Hp) (Q : VK) : Prop where
  | mk (p : Addr) (ns : List Int) (h_0 : xs = [.ref p]) (h_1 : SqL K H p (ns.map V.int)) (h_2 : ns ≠ []) (h_3 : ∀ m, m ∈ ns → (∀ n ∈ ns, m ≤ n) → Q (.int m) H)
theorem call_minL (hc : X.calm = true) : CallR X (.builtin "min") (rMinL X.K) := by
  intro pins s σ H xs us Q I r h
  obtain ⟨p, ns, rfl, hq, hne, q⟩ := h
  obtain ⟨u, rfl, rx⟩ := vals1 r
  cases rx
  obtain ⟨its, rv, pl, hz⟩ := I.list hq
  have hl := pl.isList
  have hlen : ns.length = its.length := by have := rv.length; simpa using this
  have hpos : 0 < ns.length := List.length_pos_iff.mpr hne
  have hax : p < s.heap.objs.size := by obtain ⟨_, e, _⟩ := hl; exact Heap.lt_size e
  refine call_min_walk (wpAny_pyIter_list hl ?_)
  refine ⟨s.heap.objs.size, [s.heap.objs.size, p], [s.heap.objs.size], its.toArray.size, (fun i v => its.toArray[i]? = some v), _, _, rfl,
    Walks.list (prog := X.prog) (w := X.w) (A := X.A.in1) (I.ok.hd hc) s.heap.objs.size p (Nat.ne_of_lt hax) _, ⟨⟨_, Heap.get?_push_size _ rfl, rfl, rfl⟩, hl.push _⟩, ?_, by simp; omega, CmpOf.ints_lt (fun i => ns.getD i 0) (fun i v hv => ints_at rv i v hv), fun v h' tk hP hk => ?_⟩
  · intro b hb
    show b < (s.heap.push _).objs.size
    rw [Heap.size_push]
    simp only [List.mem_cons, List.mem_singleton, List.not_mem_nil, or_false] at hb
    rcases hb with rfl | rfl
    · exact Nat.lt_succ_self _
    · exact Nat.lt_succ_of_lt hax
  · obtain ⟨t, rfl⟩ := ints_at rv _ v hP
    have hsz : its.toArray.size - 1 = ns.length - 1 := by simp [hlen]
    rw [hsz] at hP ⊢
    have hb := best_lt (fun i j => decide (ns.getD i 0 < ns.getD j 0)) (ns.length - 1)
    have hm := best_min (fun i => ns.getD i 0) (ns.length - 1)
    generalize argBest (fun i j => decide (ns.getD i 0 < ns.getD j 0)) (ns.length - 1) = k at *
    have hk' : k < ns.length := by omega
    refine ⟨.int (ns.getD k 0), H, I.kept fun b o e => hk b o ?_ (Heap.get?_push_of_some _ e), ⟨t, rfl⟩, q _ ?_ fun n hn => ?_⟩
    · have := Heap.lt_size e
      simp only [List.mem_cons, List.mem_singleton, List.not_mem_nil, or_false]
      exact Nat.ne_of_lt this
    · have : ns.getD k 0 = ns[k] := by simp [hk']
      rw [this]; exact List.getElem_mem hk'
    · obtain ⟨j, hj, rfl⟩ := List.mem_iff_getElem.mp hn
      have := hm j (by omega)
      have e2 : ns.getD j 0 = ns[j] := by simp [hj]
      rw [e2] at this; exact this
inductive rMaxL (K : PySem.W.Frag) (xs : List V) (H : Hp) (Q : VK) : Prop where
  | mk (p : Addr) (ns : List Int) (h_0 : xs = [.ref p]) (h_1 : SqL K H p (ns.map V.int)) (h_2 : ns ≠ []) (h_3 : ∀ m, m ∈ ns → (∀ n ∈ ns, n ≤ m) → Q (.int m) H)
theorem call_maxL (hc : X.calm = true) : CallR X (.builtin "max") (rMaxL X.K) := by
  intro pins s σ H xs us Q I r h
  obtain ⟨p, ns, rfl, hq, hne, q⟩ := h
  obtain ⟨u, rfl, rx⟩ := vals1 r
  cases rx
  obtain ⟨its, rv, pl, hz⟩ := I.list hq
  have hl := pl.isList
  have hlen : ns.length = its.length := by have := rv.length; simpa using this
  have hpos : 0 < ns.length := List.length_pos_iff.mpr hne
  have hax : p < s.heap.objs.size := by obtain ⟨_, e, _⟩ := hl; exact Heap.lt_size e
  refine call_max_walk (wpAny_pyIter_list hl ?_)
  refine ⟨s.heap.objs.size, [s.heap.objs.size, p], [s.heap.objs.size], its.toArray.size, (fun i v => its.toArray[i]? = some v), _, _, rfl,
    Walks.list (prog := X.prog) (w := X.w) (A := X.A.in1) (I.ok.hd hc) s.heap.objs.size p (Nat.ne_of_lt hax) _, ⟨⟨_, Heap.get?_push_size _ rfl, rfl, rfl⟩, hl.push _⟩, ?_, by simp; omega, CmpOf.ints_gt (fun i => ns.getD i 0) (fun i v hv => ints_at rv i v hv), fun v h' tk hP hk => ?_⟩
  · intro b hb
    show b < (s.heap.push _).objs.size
    rw [Heap.size_push]
    simp only [List.mem_cons, List.mem_singleton, List.not_mem_nil, or_false] at hb
    rcases hb with rfl | rfl
    · exact Nat.lt_succ_self _
    · exact Nat.lt_succ_of_lt hax
  · obtain ⟨t, rfl⟩ := ints_at rv _ v hP
    have hsz : its.toArray.size - 1 = ns.length - 1 := by simp [hlen]
    rw [hsz] at hP ⊢
    have hb := best_lt (fun i j => decide (ns.getD i 0 > ns.getD j 0)) (ns.length - 1)
    have hm := best_max (fun i => ns.getD i 0) (ns.length - 1)
    generalize argBest (fun i j => decide (ns.getD i 0 > ns.getD j 0)) (ns.length - 1) = k at *
    have hk' : k < ns.length := by omega
    refine ⟨.int (ns.getD k 0), H, I.kept fun b o e => hk b o ?_ (Heap.get?_push_of_some _ e), ⟨t, rfl⟩, q _ ?_ fun n hn => ?_⟩
    · have := Heap.lt_size e
      simp only [List.mem_cons, List.mem_singleton, List.not_mem_nil, or_false]
      exact Nat.ne_of_lt this
    · have : ns.getD k 0 = ns[k] := by simp [hk']
      rw [this]; exact List.getElem_mem hk'
    · obtain ⟨j, hj, rfl⟩ := List.mem_iff_getElem.mp hn
      have := hm j (by omega)
      have e2 : ns.getD j 0 = ns[j] := by simp [hj]
      rw [e2] at this; exact this
end
end L2
set_option Elab.async false
set_option linter.all false
set_option maxRecDepth 100000
set_option maxHeartbeats 4000000
namespace L2
open PySem PySem.Spec PyProof.Rows Hull SortM SetX
theorem spot_eqv (p q : P) : PyData.eqv (spotD p) (spotD q) = decide (p = q) := by
  unfold spotD
  rw [PyData.eqv, PyData.eqvAll, PyData.eqvAll, PyData.eqvAll, PyData.eqv, PyData.eqv]
  by_cases h : p = q
  · rw [h]; simp
  · rw [decide_eq_false h]
    have : ¬ (p.1 = q.1 ∧ p.2 = q.2) := fun e => h (Prod.ext e.1 e.2)
    rw [Bool.and_true, ← Bool.not_eq_true, Bool.and_eq_true]
    simpa using this
theorem spot_can (p : P) : (spotD p).canLay0 = true ∧ (spotD p).depth ≤ 2 := by
  unfold spotD
  constructor
  · simp [PyData.canLay0, PyData.canLayAll0]
  · simp [PyData.depth, PyData.depthAll]
theorem spot_shaped (p : P) : SeqAt.shaped (spotD p) = true := by
  obtain ⟨g1, g2⟩ := spot_can p
  unfold SeqAt.shaped
  rw [g1, decide_eq_true (by omega)]; rfl
section
variable {X : Cx}
end
end L2
set_option Elab.async false
set_option linter.all false
set_option maxRecDepth 100000
set_option maxHeartbeats 4000000
namespace L2
open PySem PySem.Spec PyProof.Rows Hull SortM SetX
def revO (X : Cx) (a l : Addr) (n : Nat) : HO := .ext fun h => h.get? a = some (RevX.revObj l ((n : Int) - 1)) ∧ X.s₀.heap.objs.size ≤ a
def del (H : Hp) (a : Addr) : Hp := fun b => if b = a then none else H b
theorem del_ne {H : Hp} {a b : Addr} (h : b ≠ a) : del H a b = H b := by unfold del; rw [if_neg h]
theorem del_same {H : Hp} {a : Addr} : del H a a = none := by unfold del; rw [if_pos rfl]
theorem del_upd {H : Hp} {a : Addr} {o : HO} (h : H a = none) : del (upd H a o) a = H := by
  funext b; unfold del upd
  by_cases e : b = a
  · rw [if_pos e, e, h]
  · rw [if_neg e, if_neg e]
theorem Vals.rev : ∀ {xs : List V} {us : List Value}, Vals xs us → Vals xs.reverse us.reverse
  | _, _, .nil => .nil
  | _, _, .cons r t => by
    rw [List.reverse_cons, List.reverse_cons]
    exact (Vals.rev t).append (.cons r .nil)
section
variable {X : Cx} {pins : List (Addr × Obj)} {σ : St} {H : Hp} {s : Shared}
theorem Inv.forget {a : Addr} {φ : Heap → Prop} (I : Inv X pins σ H s) (h : H a = some (.ext φ)) : Inv X pins σ (del H a) s := by
  have no : ∀ b u, H b = some u → u ≠ .ext φ → b ≠ a := fun b u e d z => by subst z; rw [h] at e; cases e; exact d rfl
  refine I.un (t' := s.toks) (h' := s.heap) ⟨fun b o e _ _ _ => e, fun b o e _ _ _ => ⟨o.slots, e⟩, fun b o e n _ => ?_, fun b o e _ => ⟨o, e⟩, fun b xs e => ?_, fun b o u e => ?_, fun b ps e => ?_⟩ fun b u e => ?_
  · have : b ≠ a := fun z => by subst z; rw [h] at n; cases n
    rw [del_ne this]; exact n
  · rw [del_ne (no b _ e (fun q => by cases q))]; exact e
  · rw [del_ne (no b _ e (fun q => by cases q))]; exact e
  · exact ⟨#[], by rw [del_ne (no b _ e (fun q => by cases q)), Array.append_empty]; exact e⟩
  · have hb : b ≠ a := fun z => by subst z; rw [del_same] at e; cases e
    rw [del_ne hb] at e
    exact (I.hok b u e).stay (fun c v _ q => q) (fun c _ _ q => by rw [del_ne (no c _ q (fun z => by cases z))]; exact q) (fun c q => by rw [del_ne (no c _ q (fun z => by cases z))]; exact q) fun c xs q => by rw [del_ne (no c _ q (fun z => by cases z))]; exact q
inductive rRev (X : Cx) (xs : List V) (H : Hp) (Q : VK) : Prop where
  | mk (l : Addr) (ys : List V) (h_0 : xs = [.ref l]) (h_1 : H l = some (.lst ys)) (h_2 : ∀ a, H a = none → Q (.ref a) (upd H a (revO X a l ys.length)))
theorem call_rev : CallR X (.type "reversed") (rRev X) := by
  intro pins s σ H xs us Q I r h
  obtain ⟨l, ys, rfl, hH, q⟩ := h
  obtain ⟨u, rfl, rx⟩ := vals1 r
  cases rx
  obtain ⟨z, its, n, rv, hl, e⟩ := I.lstM hH
  refine RevX.call_rev e ?_
  have hsz : ((its.toArray.size : Int) - 1) = ((ys.length : Nat) : Int) - 1 := by rw [List.size_toArray, hl]
  rw [hsz]
  refine ⟨.ref s.heap.objs.size, _, I.laid (t' := s.toks) (o := revO X s.heap.objs.size l ys.length) (fun b o e => Heap.get?_push_of_some _ e) (Nat.le_refl _) ?_, rfl, q _ I.fresh⟩
  exact ⟨⟨Heap.get?_push_size _ rfl, I.sz⟩, ⟨_, Heap.get?_push_size _ rfl⟩, fun h1 h2 hφ k => ⟨k _ hφ.1, hφ.2⟩⟩
inductive rListRev (X : Cx) (xs : List V) (H : Hp) (Q : VK) : Prop where
  | mk (a l : Addr) (ys : List V) (h_0 : xs = [.ref a]) (h_1 : H a = some (revO X a l ys.length)) (h_2 : H l = some (.lst ys)) (h_3 : ∀ p, H p = none → Q (.ref p) (upd (del H a) p (.lst ys.reverse)))
theorem call_listRev (hc : X.calm = true) : CallR X (.type "list") (rListRev X) := by
  intro pins s σ H xs us Q I r h
  obtain ⟨a, l, ys, rfl, hA, hH, q⟩ := h
  obtain ⟨u, rfl, rx⟩ := vals1 r
  cases rx
  obtain ⟨z, its, n, rv, hl, e⟩ := I.lstM hH
  obtain ⟨⟨ha, hs0⟩, _, _⟩ := I.hok a _ hA
  have hne : l ≠ a := by rintro rfl; rw [hA] at hH; cases hH
  have hsz : ((ys.length : Nat) : Int) - 1 = ((its.toArray.size : Nat) : Int) - 1 := by rw [List.size_toArray, hl]
  rw [hsz] at ha
  have halt := Heap.lt_size ha
  refine RevX.list_rev (items := its.toArray) (I.ok.hd hc) ⟨_, ha, rfl, rfl⟩ ⟨_, e, rfl, n, rfl⟩ hne (by rw [List.size_toArray]; omega) fun h' tk c' kp ho => ?_
  have I1 := I.forget hA
  have hp : del H a s.heap.objs.size = none := by rw [del_ne (Nat.ne_of_gt halt)]; exact I.fresh
  have hna : ∀ b u, del H a b = some u → b ≠ a := fun b u e z => by rw [z, del_same] at e; cases e
  have hnp : ∀ b u, del H a b = some u → b ≠ s.heap.objs.size := fun b u e z => by rw [z, hp] at e; cases e
  have hL : X.env.locals ≠ a := fun z => by have := I.free; rw [z, hA] at this; cases this
  have I2 : Inv X pins σ (upd (del H a) s.heap.objs.size (.lst ys.reverse)) { s with heap := h', gens := s.gens, drawn := s.drawn, toks := tk } := by
    refine I1.step (ch := [a]) (fun b hb => ?_) (fun b o _ _ hb e _ => kp b o (by simpa using hb) e) (fun b o _ _ hb e _ => ⟨o.slots, kp b o (by simpa using hb) e⟩) (fun b o hb e n => ?_) (fun b o hb e => ⟨o, kp b o (by simpa using hb) e⟩)
      (fun b xs e => ?_) (fun b o u e => ?_) (fun b ps e => ?_) (fun m hm => ?_) (fun b u e => ?_) I.bare
    · have hb' : b = a := by simpa using hb
      subst hb'
      exact ⟨.inr hs0, fun z => hL z.symm, fun x c ec z => (by have := I.freeC x c ec; rw [z, hA] at this; cases this), fun p hp z => (by have := (I.pin p hp).2.1; rw [z, hA] at this; cases this)⟩
    · rw [upd_ne (Nat.ne_of_lt (Heap.lt_size e))]; exact n
    · rw [upd_ne (hnp b _ e)]; exact e
    · rw [upd_ne (hnp b _ e)]; exact e
    · exact ⟨#[], by rw [upd_ne (hnp b _ e), Array.append_empty]; exact e⟩
    · exact hm.at' fun o e => kp _ o hL e
    · by_cases hb : b = s.heap.objs.size
      · subst hb
        rw [upd_same] at e; cases e
        exact ⟨by rw [List.length_reverse]; exact z, its.reverse, c', Vals.rev rv, by rw [ho]; simp⟩
      · rw [upd_ne hb] at e
        refine (I1.hok b u e).stay (fun c v hc' q' => kp c v ?_ q') (fun c _ _ q' => by rw [upd_ne (hnp c _ q')]; exact q') (fun c q' => ?_) fun c xs q' => ?_
        · rcases hc' with rfl | hc'
          · exact hna _ _ e
          · exact hna _ _ hc'
        · rw [upd_ne (hnp c _ q')]; exact q'
        · rw [upd_ne (hnp c _ q')]; exact q'
  exact ⟨.ref s.heap.objs.size, _, I2, rfl, q _ I.fresh⟩
end
end L2
set_option Elab.async false
set_option linter.all false
set_option maxRecDepth 100000
set_option maxHeartbeats 4000000
namespace L2
open PySem PySem.Spec PyProof.Rows
section
variable {X : Cx}
inductive rIsSeq (K : PySem.W.Frag) (xs : List V) (H : Hp) (Q : VK) : Prop where
  | mk (a : Addr) (ys : List V) (T : String) (b : Bool) (h_0 : xs = [.ref a, .ty T]) (h_1 : ((SqT K H a ys ∧ PySem.W.kitOne K (.type "tuple") (.type T) = some b) ∨ (SqL K H a ys ∧ PySem.W.kitOne K (.type "list") (.type T) = some b))) (h_2 : Q (.bl b) H)
theorem call_isSeq : CallR X (.builtin "isinstance") (rIsSeq X.K) := by
  intro pins s σ H xs us Q I rv h
  obtain ⟨a, ys, T, b, rfl, ty, q⟩ := h
  obtain ⟨u, u', rfl, rx, rt⟩ := vals2 rv
  cases rt
  cases rx
  rcases ty with ⟨h1, e⟩ | ⟨h1, e⟩
  · obtain ⟨_, _, ⟨o, h2, h3, _⟩, _⟩ := I.tuple h1
    exact PySem.W.kia_one PySem.W.kitx_tuple I.kIn ⟨o, h2, h3⟩ e (fun z => nomatch z) fun tk => ⟨.bl b, H, I.tok tk, rfl, q⟩
  · obtain ⟨_, _, p, _⟩ := I.list h1
    obtain ⟨o, h2, h3, _⟩ := p.isList
    exact PySem.W.kia_one PySem.W.kitx_list I.kIn ⟨o, h2, h3⟩ e (fun z => nomatch z) fun tk => ⟨.bl b, H, I.tok tk, rfl, q⟩
end
end L2
set_option linter.all false
set_option maxRecDepth 100000
set_option maxHeartbeats 8000000
namespace ZipX
open PySem
section
variable {prog : Program} {w : World} {A : Around} {E : Value → Shared → Prop} {s : Shared}
end
end ZipX
set_option Elab.async false
set_option linter.all false
set_option maxRecDepth 100000
set_option maxHeartbeats 4000000
namespace L2
open PySem PySem.Spec PyProof.Rows
section
variable {X : Cx} {pins : List (Addr × Obj)} {σ : St} {H : Hp} {s : Shared} {h' : Heap}
inductive rSumL (K : PySem.W.Frag) (xs : List V) (H : Hp) (Q : VK) : Prop where
  | mk (p : Addr) (ns : List Int) (h_0 : xs = [.ref p]) (h_1 : SqL K H p (ns.map V.int)) (h_2 : Q (.int ns.sum) H)
theorem pre_sum (ns : List Int) : preSum (fun i => ns.getD i 0) ns.length = ns.sum := by
  have key : ∀ n, n ≤ ns.length → preSum (fun i => ns.getD i 0) n = (ns.take n).sum := by
    intro n
    induction n with
    | zero => intro _; simp [preSum]
    | succ n ih =>
      intro h
      rw [preSum, ih (by omega), List.take_add_one]
      have : ns[n]? = some ns[n] := List.getElem?_eq_getElem (by omega)
      rw [this, List.sum_append]
      simp [List.getD, this]
  rw [key _ (Nat.le_refl _), List.take_length]
theorem call_sumL (hc : X.calm = true) : CallR X (.builtin "sum") (rSumL X.K) := by
  intro pins s σ H xs us Q I r h
  obtain ⟨p, ns, rfl, hq, q⟩ := h
  obtain ⟨u, rfl, rx⟩ := vals1 r
  cases rx
  obtain ⟨its, rv, pl, hz⟩ := I.list hq
  have hl := pl.isList
  have hlen : ns.length = its.length := by have := rv.length; simpa using this
  have hax : p < s.heap.objs.size := by obtain ⟨_, e, _⟩ := hl; exact Heap.lt_size e
  refine call_sum_walkG (wpAny_pyIter_list hl ?_)
  refine ⟨s.heap.objs.size, [s.heap.objs.size, p], [s.heap.objs.size], its.toArray.size, (fun i v => its.toArray[i]? = some v), _, (fun i => ns.getD i 0), rfl,
    Walks.list (prog := X.prog) (w := X.w) (A := X.A.in1) (I.ok.hd hc) s.heap.objs.size p (Nat.ne_of_lt hax) _, ⟨⟨_, Heap.get?_push_size _ rfl, rfl, rfl⟩, hl.push _⟩, ?_, fun i v hv => ints_at rv i v hv, fun h' tk t' hk => ?_⟩
  · intro b hb
    show b < (s.heap.push _).objs.size
    rw [Heap.size_push]
    simp only [List.mem_cons, List.mem_singleton, List.not_mem_nil, or_false] at hb
    rcases hb with rfl | rfl
    · exact Nat.lt_succ_self _
    · exact Nat.lt_succ_of_lt hax
  · have hsz : its.toArray.size = ns.length := by simp [hlen]
    rw [hsz, pre_sum]
    refine ⟨.int ns.sum, H, I.kept fun b o e => hk b o ?_ (Heap.get?_push_of_some _ e), ⟨t', rfl⟩, q⟩
    have := Heap.lt_size e
    simp only [List.mem_cons, List.mem_singleton, List.not_mem_nil, or_false]
    exact Nat.ne_of_lt this
theorem Inv.turnedL {t' : Nat} {fp : List Addr} (I : Inv X pins σ H s) (k : ∀ b o, b ∉ fp → s.heap.get? b = some o → h'.get? b = some o) (hf : ∀ b ∈ fp, FpOk X pins H b) : Inv X pins σ H { s with heap := h', toks := t' } := by
  have nit : ∀ b u, H b = some u → b ∉ fp := fun b u e z => by rw [(hf b z).1] at e; cases e
  refine I.step (g' := s.gens) (d' := s.drawn) (ch := fp) (fun b hb => ?_) (fun b o _ _ hc e _ => k b o hc e) (fun b o _ _ hc e _ => ⟨o.slots, k b o hc e⟩) (fun _ _ _ _ n => n)
    (fun b o hc e => ⟨o, k b o hc e⟩) (fun _ _ e => e) (fun _ _ _ e => e) (fun b ps e => ⟨#[], by rw [e]; simp⟩) (fun m hm => ?_) (fun b u e => ?_) I.bare
  · obtain ⟨f0, f1, f2, f3, f4, f5⟩ := hf b hb
    exact ⟨f3, f1, f4, f5⟩
  · obtain ⟨o, es, ep, ho, r⟩ := hm
    exact ⟨o, es, ep, k _ o (fun z => (hf _ z).2.1 rfl) ho, r⟩
  · refine (I.hok b u e).stay (fun c v hc q => k c v ?_ q) (fun _ _ _ z => z) (fun _ q => q) fun _ _ q => q
    rcases hc with z | z
    · rw [z]; exact nit b u e
    · exact nit c _ z
theorem Inv.turnedNew {t' : Nat} {fp : List Addr} {a : Addr} {o : HO} (I : Inv X pins σ H s) (k : ∀ b u, b ∉ fp → s.heap.get? b = some u → h'.get? b = some u) (hf : ∀ b ∈ fp, FpOk X pins H b) (hp : s.heap.objs.size ≤ a)
    (new : ObjOk X.prog X.w (upd H a o) h' a o) : Inv X pins σ (upd H a o) { s with heap := h', toks := t' } := by
  have ha : H a = none := I.hok.fresh hp
  have nit : ∀ b u, H b = some u → b ∉ fp := fun b u e z => by rw [(hf b z).1] at e; cases e
  have na : ∀ b u, H b = some u → b ≠ a := fun b u e z => by rw [z, ha] at e; cases e
  refine I.step (g' := s.gens) (d' := s.drawn) (ch := fp) (fun b hb => ?_) (fun b o _ _ hc e _ => k b o hc e) (fun b o _ _ hc e _ => ⟨o.slots, k b o hc e⟩) (fun b u _ e n => ?_)
    (fun b o hc e => ⟨o, k b o hc e⟩) (fun b xs e => by rw [upd_ne (na b _ e)]; exact e) (fun b o u e => by rw [upd_ne (na b _ e)]; exact e) (fun b ps e => ⟨#[], by rw [upd_ne (na b _ e), e]; simp⟩) (fun m hm => ?_) (fun b u e => ?_) I.bare
  · obtain ⟨f0, f1, f2, f3, f4, f5⟩ := hf b hb
    exact ⟨f3, f1, f4, f5⟩
  · rw [upd_ne (Nat.ne_of_lt (Nat.lt_of_lt_of_le (Heap.lt_size e) hp))]; exact n
  · obtain ⟨o, es, ep, ho, r⟩ := hm
    exact ⟨o, es, ep, k _ o (fun z => (hf _ z).2.1 rfl) ho, r⟩
  · by_cases hb : b = a
    · subst hb
      rw [upd_same] at e; cases e
      exact new
    · rw [upd_ne hb] at e
      refine (I.hok b u e).stay (fun c v hc q => k c v ?_ q) (fun c _ _ q => by rw [upd_ne (na c _ q)]; exact q) (fun c q => by rw [upd_ne (na c _ q)]; exact q) fun c xs q => by rw [upd_ne (na c _ q)]; exact q
      rcases hc with z | z
      · rw [z]; exact nit b u e
      · exact nit c _ z
end
def Ite (K : PySem.W.Frag) (a : Addr) : It :=
  ⟨fun i H => ∃ xs x, SqL K H a xs ∧ xs[i]? = some x, fun i H v H' => ∃ T x, v = .ref T ∧ H T = none ∧ H' = upd H T (.tup [.int i, x]) ∧ ∀ xs, SqL K H a xs → xs[i]? = some x, fun i H => ∃ xs, SqL K H a xs ∧ xs.length ≤ i⟩
theorem turn_enum {P : Program} {w : World} {K : PySem.W.Frag} {elts : List Expr} {kt : Nat} {pos : Pos} (a e it : Addr) (hne : e ≠ it) : Turn P w K (.Tuple elts kt pos) (Ite K a) [e, it] e (fun i h => (∃ old, IsEnum h e it (i : Nat) old) ∧ h.IsListIter it a i) where
  mem := by simp
  obj := fun i h st b hb => by
    obtain ⟨⟨old, h1⟩, o, h2, c, d⟩ := st
    have hb' : b = e ∨ b = it := by simpa using hb
    rcases hb' with rfl | rfl
    · exact ⟨_, h1, fun v z => by cases (show Data.fields _ = Data.cell v from z)⟩
    · exact ⟨o, h2, fun v z => by rw [d] at z; cases z⟩
  keep := fun i h h' st k => ⟨let ⟨old, q⟩ := st.1; ⟨old, k e (by simp) _ q⟩, st.2.at fun o q => k it (by simp) o q⟩
  item := by
    intro X hP hw hK hc i pins s σ H E I hf st hg
    subst hP hw hK
    obtain ⟨xs, x, hq, hx⟩ := hg
    obtain ⟨its, rv, p, hz⟩ := I.list hq
    obtain ⟨u, hu, ru⟩ := rv.get hx
    obtain ⟨⟨old, st1⟩, st2⟩ := st
    refine wpAny_pyNext_enum_item st1 st2 p.isList (x := u) (by simpa using hu) hne fun h1 o1 l1 t1 z1 k1 => ?_
    refine ⟨_, rfl, wpAny_letOwnedTupleGo_enum (s := { s with heap := h1, toks := s.toks + 1 }) o1 fun h2 e2 sb => ?_⟩
    have hT : h2.get? s.heap.objs.size = some { cls := .type "tuple", data := .seq #[.int i s.toks, u] } := by
      have hne2 : s.heap.objs.size ≠ e := Nat.ne_of_gt (Heap.lt_size st1)
      exact sb.extBut _ _ hne2 t1
    have kk : ∀ b o, b ∉ [e, it] → s.heap.get? b = some o → h2.get? b = some o := fun b o hb q => by
      have hb' : b ≠ e ∧ b ≠ it := by simpa using hb
      exact sb.extBut _ _ hb'.1 (k1 b o hb'.1 hb'.2 q)
    refine ⟨.ref s.heap.objs.size, upd H s.heap.objs.size (.tup [.int i, x]), I.turnedNew (t' := s.toks + 1) kk hf (Nat.le_refl _) ⟨by show 2 ≤ sizeLine; decide, [.int i s.toks, u], .cons ⟨_, rfl⟩ (.cons ru .nil), ⟨_, hT, rfl, _, rfl⟩⟩, rfl,
      ⟨_, x, rfl, I.fresh, rfl, fun ys hy => by rw [I.list_inj hy hq]; exact hx⟩, ⟨⟨_, e2⟩, ?_⟩, fun b hb => ?_⟩
    · exact l1.extBut sb.extBut (Ne.symm hne)
    · have := (hf b hb).1
      have hb' : b < s.heap.objs.size := by
        have hb2 : b = e ∨ b = it := by simpa using hb
        rcases hb2 with rfl | rfl
        · exact Heap.lt_size st1
        · obtain ⟨o, q, _⟩ := st2; exact Heap.lt_size q
      rw [upd_ne (Nat.ne_of_lt hb')]; exact this
  done := by
    intro X hP hw hK hc i pins s σ H E I hf st hg
    subst hP hw hK
    obtain ⟨xs, hq, hx⟩ := hg
    obtain ⟨its, rv, p, hz⟩ := I.list hq
    obtain ⟨⟨old, st1⟩, st2⟩ := st
    have hl := rv.length
    exact wpAny_pyNext_enum_end (I.ok.hd hc) st1 st2 p.isList (by simp; omega) fun h' eb => ⟨rfl, I.turnedL (t' := s.toks) (fun b o hb q => eb b o (fun z => hb (by simp [z])) q) hf⟩
  self := fun _ _ _ _ _ st h => let ⟨old, q⟩ := st.1; wpAny_pyIter_enum q h
section
variable {X : Cx}
def iEnum (K : PySem.W.Frag) (ta : TA) : TI := fun σ H R => ta σ H fun vs H1 => ∃ a, vs = [.ref a] ∧ (∃ xs, SqL K H1 a xs) ∧ R (Ite K a) H1
theorem pi_enum {a : Expr} {ta : TA} {p pos ptg : Pos} {elts : List Expr} {kt : Nat} (hg : Gl X "enumerate") (hm : X.mg "enumerate" = none) (ha : PA X [a] ta) (hs : starEach [a] X.env = [(false, eval a X.env)] := by rfl) : PI X (.Tuple elts kt ptg) (.Call (.Name "enumerate" p) [a] [] pos) (iEnum X.K ta) := by
  intro pins s σ H R I h
  refine Call_ (ld_blt I hg hm PySem.L3.boot_enumerate (PyProof.Rows.callWith_type1 (thn (ha pos pins s σ H _ I h) fun us s1 ⟨vs, H1, I1, r1, q1⟩ => ?_) hs rfl))
  obtain ⟨l, e, ⟨xs, hq⟩, q⟩ := q1
  subst e
  cases r1 with
  | cons r rr =>
    cases rr
    cases r
    obtain ⟨its, rv, pl, hz⟩ := I1.list hq
    refine call_enumerate_list pl.isList fun h' he hi hsz hk => ?_
    refine wpAny_pyIter_enum he ?_
    have I2 : Inv X pins σ H1 { s1 with heap := h' } := I1.kept (t' := s1.toks) hk
    refine ⟨s1.heap.objs.size + 1, [s1.heap.objs.size + 1, s1.heap.objs.size], _, _, H1, rfl, I2, turn_enum l _ _ (Nat.succ_ne_self _), ⟨⟨_, he⟩, hi⟩, fun b hb => ?_, q⟩
    have hb' : b = s1.heap.objs.size + 1 ∨ b = s1.heap.objs.size := by simpa using hb
    rcases hb' with rfl | rfl
    · exact I1.fpOk (Nat.le_succ _) (I1.hok.fresh (Nat.le_succ _))
    · exact I1.fpOk (Nat.le_refl _) (I1.hok.fresh (Nat.le_refl _))
end
def Itz (K : PySem.W.Frag) (a b : Addr) : It :=
  ⟨fun i H => ∃ xs ys x y, SqL K H a xs ∧ SqL K H b ys ∧ xs[i]? = some x ∧ ys[i]? = some y,
   fun i H v H' => ∃ T x y, v = .ref T ∧ H T = none ∧ H' = upd H T (.tup [x, y]) ∧ (∀ xs, SqL K H a xs → xs[i]? = some x) ∧ ∀ ys, SqL K H b ys → ys[i]? = some y,
   fun i H => ∃ xs ys, SqL K H a xs ∧ SqL K H b ys ∧ (xs.length ≤ i ∨ ys.length ≤ i)⟩
def ZipTn (z TI TO i1 i2 l1 l2 : Addr) : Nat → Heap → Prop := fun i h => IsZip h z TI TO .none ∧ IsPair h TI (.ref i1) (.ref i2) ∧ (∃ a b, IsPair h TO a b) ∧ h.IsListIter i1 l1 i ∧ h.IsListIter i2 l2 i
theorem turn_zip {P : Program} {w : World} {K : PySem.W.Frag} {elts : List Expr} {kt : Nat} {pos : Pos} {z TI TO i1 i2 l1 l2 : Addr} (D : ZipApart z TI TO i1 i2 l1 l2) :
    Turn P w K (.Tuple elts kt pos) (Itz K l1 l2) [z, TI, TO, i1, i2] z (ZipTn z TI TO i1 i2 l1 l2) where
  mem := by simp
  obj := fun i h st b hb => by
    obtain ⟨hz, hTI, ⟨x, y, hTO⟩, ⟨o1, e1, c1, d1⟩, o2, e2, c2, d2⟩ := st
    have hb' : b = z ∨ b = TI ∨ b = TO ∨ b = i1 ∨ b = i2 := by simpa using hb
    rcases hb' with rfl | rfl | rfl | rfl | rfl
    · exact ⟨_, hz, fun v q => by cases (show Data.fields _ = Data.cell v from q)⟩
    · exact ⟨_, hTI, fun v q => by cases (show Data.seq _ _ = Data.cell v from q)⟩
    · exact ⟨_, hTO, fun v q => by cases (show Data.seq _ _ = Data.cell v from q)⟩
    · exact ⟨o1, e1, fun v q => by rw [d1] at q; cases q⟩
    · exact ⟨o2, e2, fun v q => by rw [d2] at q; cases q⟩
  keep := fun i h h' st k => by
    obtain ⟨hz, hTI, ⟨x, y, hTO⟩, h1, h2⟩ := st
    exact ⟨k z (by simp) _ hz, k TI (by simp) _ hTI, ⟨x, y, k TO (by simp) _ hTO⟩, h1.at fun o q => k i1 (by simp) o q, h2.at fun o q => k i2 (by simp) o q⟩
  item := by
    intro X hP hw hK hc i pins s σ H E I hf st hg
    subst hP hw hK
    obtain ⟨xs, ys, x, y, hq1, hq2, hx, hy⟩ := hg
    obtain ⟨its1, rv1, p1, hz1⟩ := I.list hq1
    obtain ⟨its2, rv2, p2, hz2⟩ := I.list hq2
    obtain ⟨u, hu, ru⟩ := rv1.get hx
    obtain ⟨v, hv, rv⟩ := rv2.get hy
    obtain ⟨hz, hTI, ⟨x0, y0, hTO⟩, h1, h2⟩ := st
    refine wpAny_pyNext_zip_item D hz hTI hTO h1 h2 p1.isList p2.isList (x := u) (y := v) (by simpa using hu) (by simpa using hv) fun h' a1 a2 a3 a4 a5 a6 hk => ?_
    refine ⟨_, rfl, wpAny_letOwnedTupleGo_zip (s := { s with heap := h' }) a1 fun h2' e2 sb => ?_⟩
    have lz := Heap.lt_size hz
    have hT : IsPair h2' s.heap.objs.size u v := sb.extBut _ _ (Nat.ne_of_gt lz) a5
    have kk : ∀ b o, b ∉ [z, TI, TO, i1, i2] → s.heap.get? b = some o → h2'.get? b = some o := fun b o hb q => by
      have hb' : b ≠ z ∧ b ≠ TI ∧ b ≠ TO ∧ b ≠ i1 ∧ b ≠ i2 := by simpa using hb
      exact sb.extBut _ _ hb'.1 (hk b o hb'.1 hb'.2.2.1 hb'.2.2.2.1 hb'.2.2.2.2 q)
    refine ⟨.ref s.heap.objs.size, upd H s.heap.objs.size (.tup [x, y]), I.turnedNew (t' := s.toks) kk hf (Nat.le_refl _) ⟨by show 2 ≤ sizeLine; decide, [u, v], .cons ru (.cons rv .nil), ⟨_, hT, rfl, _, rfl⟩⟩, rfl,
      ⟨_, x, y, rfl, I.fresh, rfl, fun ws hw => by rw [I.list_inj hw hq1]; exact hx, fun ws hw => by rw [I.list_inj hw hq2]; exact hy⟩, ?_, fun b hb => ?_⟩
    · exact ⟨e2, sb.extBut _ _ D.TIz (hk _ _ D.TIz D.TITO D.TIi1 D.TIi2 hTI), ⟨_, _, sb.extBut _ _ D.TOz a2⟩, a3.extBut sb.extBut D.i1z, a4.extBut sb.extBut D.i2z⟩
    · have := (hf b hb).1
      have hb' : b < s.heap.objs.size := by
        have hb2 : b = z ∨ b = TI ∨ b = TO ∨ b = i1 ∨ b = i2 := by simpa using hb
        rcases hb2 with rfl | rfl | rfl | rfl | rfl
        · exact lz
        · exact Heap.lt_size hTI
        · exact Heap.lt_size hTO
        · obtain ⟨o, q, _⟩ := h1; exact Heap.lt_size q
        · obtain ⟨o, q, _⟩ := h2; exact Heap.lt_size q
      rw [upd_ne (Nat.ne_of_lt hb')]; exact this
  done := by
    intro X hP hw hK hc i pins s σ H E I hf st hg
    subst hP hw hK
    obtain ⟨xs, ys, hq1, hq2, hx⟩ := hg
    obtain ⟨its1, rv1, p1, hz1⟩ := I.list hq1
    obtain ⟨its2, rv2, p2, hz2⟩ := I.list hq2
    obtain ⟨hz, hTI, ⟨x0, y0, hTO⟩, h1, h2⟩ := st
    have l1' := rv1.length
    have l2' := rv2.length
    refine wpAny_pyNext_zip_end (I.ok.hd hc) D hz hTI hTO h1 h2 p1.isList p2.isList (by rcases hx with q | q; exact .inl (by simp; omega); exact .inr (by simp; omega)) fun h' eb => ⟨rfl, I.turnedL (t' := s.toks) (fun b o hb q => ?_) hf⟩
    have hb' : b ≠ z ∧ b ≠ TI ∧ b ≠ TO ∧ b ≠ i1 ∧ b ≠ i2 := by simpa using hb
    exact eb b o hb'.1 hb'.2.2.1 hb'.2.2.2.1 hb'.2.2.2.2 q
  self := fun _ _ _ _ _ st h => wpAny_pyIter_zip st.1 h
section
variable {X : Cx}
def iZip (K : PySem.W.Frag) (ta : TA) : TI := fun σ H R => ta σ H fun vs H1 => ∃ a b, vs = [.ref a, .ref b] ∧ (∃ xs, SqL K H1 a xs) ∧ (∃ ys, SqL K H1 b ys) ∧ R (Itz K a b) H1
theorem pi_zip {a b : Expr} {ta : TA} {p pos ptg : Pos} {elts : List Expr} {kt : Nat} (hg : Gl X "zip") (hm : X.mg "zip" = none) (ha : PA X [a, b] ta) (hs : starEach [a, b] X.env = [(false, eval a X.env), (false, eval b X.env)] := by rfl) (hs2 : starEach [b] X.env = [(false, eval b X.env)] := by rfl) :
    PI X (.Tuple elts kt ptg) (.Call (.Name "zip" p) [a, b] [] pos) (iZip X.K ta) := by
  intro pins s σ H R I h
  refine Call_ (ld_blt I hg hm PySem.L3.boot_zip (PyProof.Rows.callWith_type1 (thn (ha pos pins s σ H _ I h) fun us s1 ⟨vs, H1, I1, r1, q1⟩ => ?_) (by rw [hs, hs2]) (by rw [hs2]; rfl)))
  obtain ⟨l1, l2, e, ⟨xs, hq1⟩, ⟨ys, hq2⟩, q⟩ := q1
  subst e
  cases r1 with
  | cons r rr =>
    cases rr with
    | cons r' rr =>
      cases rr
      cases r
      cases r'
      obtain ⟨its1, rv1, p1, hz1⟩ := I1.list hq1
      obtain ⟨its2, rv2, p2, hz2⟩ := I1.list hq2
      have hl1 : l1 < s1.heap.objs.size := by obtain ⟨_, e, _⟩ := p1.isList; exact Heap.lt_size e
      have hl2 : l2 < s1.heap.objs.size := by obtain ⟨_, e, _⟩ := p2.isList; exact Heap.lt_size e
      refine call_zip_2 p1.isList p2.isList fun h' hz hTI hTO hi1 hi2 hsz hk => ?_
      refine wpAny_pyIter_zip hz ?_
      have I2 : Inv X pins σ H1 { s1 with heap := h' } := I1.kept (t' := s1.toks) hk
      refine ⟨s1.heap.objs.size + 4, [s1.heap.objs.size + 4, s1.heap.objs.size + 2, s1.heap.objs.size + 3, s1.heap.objs.size, s1.heap.objs.size + 1], _, _, H1, rfl, I2, turn_zip (zipApart_new hl1 hl2), ⟨hz, hTI, ⟨_, _, hTO⟩, hi1, hi2⟩, fun b hb => ?_, q⟩
      have hb' : s1.heap.objs.size ≤ b := by
        have hb2 : b = s1.heap.objs.size + 4 ∨ b = s1.heap.objs.size + 2 ∨ b = s1.heap.objs.size + 3 ∨ b = s1.heap.objs.size ∨ b = s1.heap.objs.size + 1 := by simpa using hb
        rcases hb2 with rfl | rfl | rfl | rfl | rfl
        · exact Nat.le_add_right _ _
        · exact Nat.le_add_right _ _
        · exact Nat.le_add_right _ _
        · exact Nat.le_refl _
        · exact Nat.le_add_right _ _
      exact I1.fpOk hb' (I1.hok.fresh hb')
end
end L2
set_option Elab.async false
set_option linter.all false
set_option maxRecDepth 100000
set_option maxHeartbeats 4000000
namespace L2
open PySem PySem.Spec PyProof.Rows
namespace ZF
end ZF
section
variable {X : Cx} {pins : List (Addr × Obj)} {σ : St}
end
end L2
set_option Elab.async false
set_option linter.all false
set_option maxRecDepth 100000
set_option maxHeartbeats 4000000
namespace L2
open PySem PySem.Spec PyProof.Rows
open Hull (P)
section
variable {X : Cx}
inductive rEqSp (K : PySem.W.Frag) (x : V) (y : V) (H : Hp) (Q : VK) : Prop where
  | mk (p : _) (q : _) (h_0 : Dn K H (spotD p) x) (h_1 : Dn K H (spotD q) y) (h_2 : Q (.bl (decide (p = q))) H)
theorem op_eqSp (hu : X.A.units + 64 < cLine) : OpR X (compareOp .Eq) (rEqSp X.K) := by
  intro pins s σ H x y v u Q I rx ry h
  obtain ⟨p, q, h1, h2, k⟩ := h
  refine op_eqD hu pins s σ H x y v u Q I rx ry ⟨_, _, h1, h2, spot_shaped p, spot_shaped q, ?_⟩
  rw [spot_eqv]; exact k
end
end L2
set_option Elab.async false
set_option linter.all false
set_option maxRecDepth 100000
set_option maxHeartbeats 4000000
namespace L2
open PySem PySem.Spec PyProof.Rows
section
variable {X : Cx}
def CDivB (i j : Int) : Prop := 0 < j ∧ j < 2 ^ 200
theorem noPylongB {x y : Int} (h1 : 0 < y) (h : y < 2 ^ 200) : Builtin.divisionGoesByPylong x y = false := by
  refine PyProof.noPylong_of_log2 ?_
  have h0 : y.natAbs ≠ 0 := by omega
  have h3 : y.natAbs < 2 ^ 200 := by omega
  have h30 : y.natAbs.log2 < 200 := (Nat.log2_lt h0).mpr h3
  omega
theorem op_fdivB : OpR X (binaryOp .FloorDiv) (rI CDivB fun i j => .int (i / j)) := opI fun i j _ _ _ _ _ hc q => by
  have e : i / j = i.fdiv j := (Int.fdiv_eq_ediv_of_nonneg _ (Int.le_of_lt hc.1)).symm
  rw [e] at q
  exact floordiv_int (by have := hc.1; omega) q (.inl (noPylongB hc.1 hc.2))
inductive rNil (K : PySem.W.Frag) (neg : Bool) (x : V) (y : V) (H : Hp) (Q : VK) : Prop where
  | mk (d : _) (a : _) (ds : _) (h_0 : Dn K H (.list ds) x) (h_1 : d = PyData.list ds) (h_2 : y = .ref a) (h_3 : SqL K H a []) (h_4 : SeqAt.shaped (.list ds) = true) (h_5 : Q (.bl (if neg then !ds.isEmpty else ds.isEmpty)) H)
theorem eqv_nil (ds : List PyData) : PyData.eqv (.list ds) (.list []) = ds.isEmpty := by
  rw [PyData.eqv]
  cases ds with
  | nil => rfl
  | cons d ds => rw [PyData.eqvAll]; rfl
theorem op_eqNil (hu : X.A.units + 64 < cLine) : OpR X (compareOp .Eq) (rNil X.K false) := by
  intro pins s σ H x y v u Q I rx ry h
  obtain ⟨d, a, ds, h1, rfl, rfl, h2, h3, k⟩ := h
  refine op_eqD hu pins s σ H _ _ v u Q I rx ry ⟨_, _, h1, dn_lst h2 dns_nil, h3, rfl, ?_⟩
  rw [eqv_nil]; exact k
theorem op_neNil (hu : X.A.units + 64 < cLine) : OpR X (compareOp .NotEq) (rNil X.K true) := by
  intro pins s σ H x y v u Q I rx ry h
  obtain ⟨d, a, ds, h1, rfl, rfl, h2, h3, k⟩ := h
  refine op_neD hu pins s σ H _ _ v u Q I rx ry ⟨_, _, h1, dn_lst h2 dns_nil, h3, rfl, ?_⟩
  rw [eqv_nil]; exact k
inductive rNotInNil (K : PySem.W.Frag) (x : V) (y : V) (H : Hp) (Q : VK) : Prop where
  | mk (e : _) (l : _) (a : _) (b : _) (d1 : _) (d2 : _) (z1 : _) (z2 : _) (h_0 : x = .ref e) (h_1 : SqL K H e []) (h_2 : y = .ref l) (h_3 : SqL K H l [.ref a, .ref b]) (h_4 : SqL K H a z1) (h_5 : SqL K H b z2) (h_6 : Dns K H d1 z1) (h_7 : Dns K H d2 z2) (h_8 : SeqAt.shaped (.list d1) = true) (h_9 : SeqAt.shaped (.list d2) = true) (h_10 : Q (.bl (!(d1.isEmpty || d2.isEmpty))) H)
theorem op_notInNil (hu : X.A.units + 64 < cLine) : OpR X (compareOp .NotIn) (rNotInNil X.K) := by
  intro pins s σ H x y v u Q I rx ry h
  obtain ⟨e, l, a, b, d1, d2, z1, z2, rfl, h0, rfl, h1, ha, hb, k1, k2, s1, s2, k⟩ := h
  obtain ⟨as, r1⟩ := dn_reads I (dn_lst h0 dns_nil) rx
  obtain ⟨bs, r2⟩ := dn_reads I (dn_lst h1 (dns_cons (dn_lst ha k1) (dns_cons (dn_lst hb k2) dns_nil))) ry
  have c1 : (PyData.list d1).canLay0 = true := by unfold SeqAt.shaped at s1; simp at s1; exact s1.1
  have c2 : (PyData.list d2).canLay0 = true := by unfold SeqAt.shaped at s2; simp at s2; exact s2.1
  refine SeqAt.notIn_list_reads r2 r1 (by rw [PyData.canLayAll0, PyData.canLayAll0, PyData.canLayAll0, c1, c2]; rfl) rfl ?_ ?_
  · have : (PyData.list []).depth ≤ 2 := by rw [PyData.depth, PyData.depthAll]; decide
    have : min (PyData.depthAll [PyData.list d1, PyData.list d2]) (PyData.list []).depth ≤ 2 := Nat.le_trans (Nat.min_le_right _ _) this
    omega
  · rw [List.any_cons, List.any_cons, List.any_nil, eqv_nil, eqv_nil, Bool.or_false]
    exact ⟨.bl (!(d1.isEmpty || d2.isEmpty)), H, I, rfl, k⟩
end
def Lol (H : Hp) : List (List V) → List V → Prop
  | [], zs => zs = []
  | g :: gs, zs => ∃ a r, zs = .ref a :: r ∧ H a = some (.lst g) ∧ Lol H gs r
theorem Lol.same {H H' : Hp} (e : Same H H') : ∀ {gs : List (List V)} {zs : List V}, Lol H gs zs → Lol H' gs zs
  | [], _, h => h
  | g :: gs, _, h => let ⟨a, r, e1, e2, e3⟩ := h; ⟨a, r, e1, e _ _ e2, Lol.same e e3⟩
theorem Lol.append {H : Hp} : ∀ {gs gs' : List (List V)} {zs zs' : List V}, Lol H gs zs → Lol H gs' zs' → Lol H (gs ++ gs') (zs ++ zs')
  | [], _, zs, _, h, h' => by cases (show zs = [] from h); exact h'
  | g :: gs, _, _, _, h, h' => by
    obtain ⟨a, r, rfl, e2, e3⟩ := h
    exact ⟨a, r ++ _, rfl, e2, Lol.append e3 h'⟩
theorem Lol.one {H : Hp} {a : Addr} {g : List V} (h : H a = some (.lst g)) : Lol H [g] [.ref a] := ⟨a, [], rfl, h, rfl⟩
theorem Lol.length {H : Hp} : ∀ {gs : List (List V)} {zs : List V}, Lol H gs zs → zs.length = gs.length
  | [], zs, h => by cases (show zs = [] from h); rfl
  | g :: gs, _, h => by obtain ⟨a, r, rfl, e2, e3⟩ := h; exact congrArg (· + 1) (Lol.length e3)
theorem Lol.get {H : Hp} : ∀ {gs : List (List V)} {zs : List V} {i : Nat} {g : List V}, Lol H gs zs → gs[i]? = some g → ∃ a, zs[i]? = some (.ref a) ∧ H a = some (.lst g)
  | [], _, i, g, _, h => by simp at h
  | g :: gs, _, 0, g', h, e => by
    obtain ⟨a, r, rfl, e2, e3⟩ := h
    simp at e; subst e
    exact ⟨a, rfl, e2⟩
  | g :: gs, _, i + 1, g', h, e => by
    obtain ⟨a, r, rfl, e2, e3⟩ := h
    obtain ⟨b, h1, h2⟩ := Lol.get (i := i) (g := g') e3 (by simpa using e)
    exact ⟨b, by simpa using h1, h2⟩
end L2
namespace L2
open PySem PySem.Spec PyProof.Rows
theorem for_enum {K : PySem.W.Frag} {a : Addr} {xs : List V} {g : TG} {tb : TS} {D : Ends} {σ : St} {H : Hp} (Pv : Nat → St → Hp → Prop) (h0 : Pv 0 σ H) (hl : ∀ i σ H, i ≤ xs.length → Pv i σ H → SqL K H a xs)
    (hs : ∀ (i : Nat) x σ H T, xs[i]? = some x → Pv i σ H → H T = none → g (.ref T) σ (upd H T (.tup [.int i, x])) fun σ2 H2 => tb { D with nx := Pv (i + 1), ct := Pv (i + 1), bk := D.nx } σ2 H2) (hd : ∀ σ H, Pv xs.length σ H → D.nx σ H) :
    ∃ W : Nat → Nat → St → Hp → Prop, (∃ m, W 0 m σ H) ∧ ∀ i m σ H, W i m σ H →
      ((Ite K a).stop i H ∧ D.nx σ H) ∨ ((Ite K a).go i H ∧ ∃ N : St → Hp → Prop, (∀ σ' H', N σ' H' → ∃ m', m' < m ∧ W (i + 1) m' σ' H') ∧ ∀ x H', (Ite K a).yld i H x H' → g x σ H' fun σ2 H2 => tb { D with nx := N, ct := N, bk := D.nx } σ2 H2) := by
  refine ⟨fun i m σ H => m = xs.length - i ∧ i ≤ xs.length ∧ Pv i σ H, ⟨xs.length, by simp, Nat.zero_le _, h0⟩, ?_⟩
  rintro i m σ H ⟨rfl, hi, p⟩
  have q := hl i σ H hi p
  by_cases hlt : i < xs.length
  · refine .inr ⟨⟨xs, xs[i], q, by simp [hlt]⟩, Pv (i + 1), fun σ' H' p' => ⟨xs.length - (i + 1), by omega, rfl, hlt, p'⟩, fun x H' y => ?_⟩
    obtain ⟨T, z, rfl, hT, rfl, y⟩ := y
    exact hs i z σ _ T (y xs q) p hT
  · have e : i = xs.length := by omega
    subst e
    exact .inl ⟨⟨xs, q, Nat.le_refl _⟩, hd σ H p⟩
end L2
set_option Elab.async false
set_option linter.all false
set_option maxRecDepth 100000
namespace L2
open PySem PySem.Spec PyProof.Rows
section
variable {X : Cx}
theorem op_isnotB : OpR X (compareOp .IsNot) (fun x y H Q => ∃ a b, x = .bl a ∧ y = .bl b ∧ Q (.bl (!(a == b))) H) := by
  intro pins s σ H x y v u Q I rx ry h
  obtain ⟨a, b, rfl, rfl, q⟩ := h
  cases rx
  cases ry
  refine wpAny_isNot_plain rfl (fin_bl I q ?_)
  cases a <;> cases b <;> rfl
end
def CMulB (i j : Int) : Prop := (-(2 ^ 200) < i ∧ i < 2 ^ 200) ∧ -(2 ^ 200) < j ∧ j < 2 ^ 200
theorem bits200 {k : Int} (h1 : -(2 ^ 200) < k) (h2 : k < 2 ^ 200) : Builtin.Int.intBits k ≤ 200 := by
  unfold Builtin.Int.intBits
  split
  · exact Nat.zero_le _
  · have hn : k.natAbs < 2 ^ 200 := by omega
    have : k.natAbs.log2 < 200 := by
      rcases Nat.eq_zero_or_pos k.natAbs with h0 | hp
      · rw [h0]; decide
      · exact (Nat.log2_lt (Nat.ne_of_gt hp)).mpr hn
    omega
theorem CMulB.ok {i j : Int} (h : CMulB i j) : IntMulOk i j := by
  have b1 := bits200 h.1.1 h.1.2
  have b2 := bits200 h.2.1 h.2.2
  unfold IntMulOk
  have : Builtin.Int.intTooBig (Builtin.Int.intBits i + Builtin.Int.intBits j) = false := by
    unfold Builtin.Int.intTooBig
    refine decide_eq_false ?_
    have : bitsLine = 134217728 := by decide
    rw [this]; omega
  rw [this]; simp
section
variable {X : Cx}
theorem op_mulB : OpR X (binaryOp .Mult) (rI CMulB fun i j => .int (i * j)) := opI fun _ _ _ _ _ _ _ hc q => mul_int q hc.ok
end
theorem fmap_congr {α β : Type} {f g : α → Option β} : ∀ {l : List α}, (∀ k ∈ l, f k = g k) → l.filterMap f = l.filterMap g
  | [], _ => rfl
  | a :: l, h => by
    rw [List.filterMap_cons, List.filterMap_cons, h a (by simp), fmap_congr (l := l) fun k hk => h k (by simp [hk])]
theorem pick_rev (its : List Value) : slicePick its.toArray none none (some (-1)) = its.reverse.toArray := by
  unfold slicePick
  have h1 : sliceBounds none none (some (-1)) its.toArray.size = ((its.length : Int) - 1, -1, -1) := by
    simp [sliceBounds]
  rw [h1]
  show _ = _
  unfold sliceRange
  have hc : (if (-1 : Int) > 0 then (if (its.length : Int) - 1 < -1 then (-1 - ((its.length : Int) - 1) + -1 - 1) / -1 else 0) else (if (its.length : Int) - 1 > -1 then ((its.length : Int) - 1 - -1 - -1 - 1) / (- -1) else 0)) = (its.length : Int) := by
    rw [if_neg (by decide)]
    split
    · show _ / (1 : Int) = _
      rw [Int.ediv_one]; omega
    · omega
  simp only [hc]
  apply congrArg List.toArray
  rw [List.filterMap_map]
  have e : ∀ k, k < its.length → its.toArray[((its.length : Int) - 1 + -1 * (k : Int)).toNat]? = its.reverse[k]? := by
    intro k hk
    have : ((its.length : Int) - 1 + -1 * (k : Int)).toNat = its.length - 1 - k := by omega
    rw [this, List.getElem?_reverse hk]
    simp
  have : (List.range (its.length : Int).toNat).filterMap ((fun x => its.toArray[x]?) ∘ fun (k : Nat) => ((its.length : Int) - 1 + -1 * (k : Int)).toNat) = (List.range its.reverse.length).filterMap (fun k => its.reverse[k]?) := by
    rw [List.length_reverse]
    show (List.range its.length).filterMap _ = _
    apply fmap_congr
    intro k hk
    exact e k (List.mem_range.mp hk)
  refine this.trans ?_
  generalize its.reverse = l
  clear this e hc h1
  induction l with
  | nil => rfl
  | cons a l ih =>
    rw [List.length_cons, List.range_succ_eq_map, List.filterMap_cons]
    show a :: _ = _
    congr 1
    rw [List.filterMap_map]
    exact ih
def tRev (K : PySem.W.Frag) (te ts : TE) : TE := fun σ H Q => te σ H fun x H1 => ts σ H1 fun y H2 => ∃ a xs, x = .ref a ∧ y = .int (-1) ∧ SqL K H2 a xs ∧ ∀ p, H2 p = none → Q (.ref p) (upd H2 p (.lst xs.reverse))
section
variable {X : Cx} {e es : Expr} {te ts : TE} {pos p2 : Pos}
theorem pe_sliceRev (he : PE X e te) (hs : PE X es ts) : PE X (.Subscript e (.Slice none none (some es) p2) pos) (tRev X.K te ts) := by
  intro pins s σ H Q I h
  refine Subscript_ (thn (he pins s σ H _ I h) fun v s1 ⟨x, H1, I1, r1, q1⟩ => ?_)
  refine wpAny_Slice ?_
  rw [evalPart_none]
  refine wpAny_pure ?_
  refine wpAny_pure ?_
  rw [evalPart_some]
  refine thn (hs pins s1 σ H1 _ I1 q1) fun vs s3 ⟨y, H3, I3, ry, q3⟩ => ?_
  obtain ⟨a, xs, rfl, rfl, hx, q⟩ := q3
  obtain ⟨t, rfl⟩ := ry
  cases r1
  have I4 : Inv X pins σ H3 { s3 with heap := s3.heap.push { cls := .type "slice", data := .fields #[.none, .none, .int (-1) t] } } := I3.kept (t' := s3.toks) fun b ob q => Heap.get?_push_of_some _ q
  obtain ⟨its, r, ht, hz⟩ := I4.list hx
  have hlen := r.length
  refine tail_any (T := "list") (ops := [.ref a, .ref s3.heap.objs.size]) ht.isList.typeIs slot_list_getitem.lookup ?_ (by with_unfolding_all rfl)
  refine wpAny_getItem_list_slice (st := some (-1)) ht.isList (Heap.IsSliceOf.new ..) .none .none (.int _ _) (by simp) ?_ (by rw [List.size_toArray] <;> omega)
  rw [pick_rev]
  refine ⟨.ref _, _, I4.laid (t' := s3.toks) (o := .lst xs.reverse) (fun b ob q => Heap.get?_push_of_some _ q) (Nat.le_refl _) ?_, rfl, q _ (I4.hok.fresh (Nat.le_refl _))⟩
  exact ⟨by rw [List.length_reverse]; exact hz, _, 0, Vals.rev r, Heap.get?_push_size _ rfl⟩
end
def CalK (P : Program) (w : World) (K : PySem.W.Frag) (mg : Str → Option Value) (base : Heap) (k : Nat) (x : Str) (C : Addr) (sp : Sp) : Prop :=
  ∃ f fd ps, FnOk P w K mg base CX0 k f fd ps sp ∧ Binds K fd ps [] ∧ Mk K C f ∧ mg x = some (.ref C)
def CalM (P : Program) (w : World) (K : PySem.W.Frag) (mg : Str → Option Value) (base : Heap) (k : Nat) (C : Addr) (m : Str) (sp : Sp) : Prop :=
  ∃ f fd ps, FnOk P w K mg base CX0 k f fd ps sp ∧ Binds K fd ps [] ∧ Cls K C ∧ Meth K C m f
def tMk (C : Addr) (sp : Sp) (t : TA) : TE := fun σ H Q => t σ H fun vs H1 => ∀ x dx, H1 x = none → H1 dx = none → dx ≠ x →
  sp (.ref x :: vs) (upd (upd H1 dx (.own x)) x (.ins C dx [])) (fun v H2 => v = .non ∧ Q (.ref x) H2) E0
def tM (C : Addr) (m : Str) (sp : Sp) (ta : TE) (t : TA) : TE := fun σ H Q => ta σ H fun x H1 => ∃ a dx fs, x = .ref a ∧ H1 a = some (.ins C dx fs) ∧ fs.lookup m = none ∧
  t σ H1 fun vs H2 => sp (x :: vs) H2 Q E0
section
variable {X : Cx} {k : Nat} {x m : Str} {sp : Sp} {p pos apos : Pos} {e o : Expr} {es : List Expr} {t : TA} {ta : TE} {C : Addr}
theorem pe_mk (M : CalK X.prog X.w X.K X.mg X.base k x C sp) (hr : Room (k + 1) X.A) (hg : Gl X x) (ha : PA X (e :: es) t) (hdb : (x == ("__debug__" : Str)) = false := by decide)
    (he : starEach (e :: es) X.env = (false, eval e X.env) :: starEach es X.env := by rfl) (hpl : (backTo pos (starEach es X.env)).any (·.1) = false := by rfl) : PE X (.Call (.Name x p) (e :: es) [] pos) (tMk C sp t) := by
  obtain ⟨f, fd, ps, F, hb, hk, hm⟩ := M
  have q := pe_make (dvs := []) (E := E0) (p := p) (pos := pos) hk F hr hg hm hb .nil pass0 ha hdb he hpl
  intro pins s σ H Q I h
  refine q pins s σ H Q I ?_
  unfold tMake
  unfold tMk at h
  simp only [List.append_nil]
  exact h
theorem pe_m {pl : Sem Bool} (M : CalM X.prog X.w X.K X.mg X.base k C m sp) (hr : Room k X.A) (ho : PE X o ta) (ha : PA X (e :: es) t)
    (hst : starEach (e :: es) X.env = (false, eval e X.env) :: starEach es X.env := by rfl) (hpl : (backTo pos (starEach es X.env)).any (·.1) = false := by rfl)
    (ht : eval (.Call (.Attribute o m apos) (e :: es) [] pos) X.env = (do
      let ov ← eval o X.env
      standAt apos.atName
      let (f, first) ← holding [ov] (getMethod ov m pl)
      callWith pos f first (backTo pos (starEach (e :: es) X.env)) (backToKw pos (keywordEach [] X.env))) := by rfl) : PE X (.Call (.Attribute o m apos) (e :: es) [] pos) (tM C m sp ta t) := by
  obtain ⟨f, fd, ps, F, hb, hc, hm⟩ := M
  have q := pe_meth (dvs := []) (E := E0) (pl := pl) ho hc hm F hr hb .nil pass0 ha hst hpl ht
  intro pins s σ H Q I h
  refine q pins s σ H Q I ?_
  unfold tMeth
  unfold tM at h
  simp only [List.append_nil]
  exact h
theorem calK_mk {P : Program} {w : World} {K : PySem.W.Frag} {mg : Str → Option Value} {base : Heap} {f : Addr} {fd : FuncData} {ps : List Str} (F : FnOk P w K mg base CX0 k f fd ps sp) (b : Binds K fd ps []) (M : Mk K C f) (m : mg x = some (.ref C)) : CalK P w K mg base k x C sp := ⟨f, fd, ps, F, b, M, m⟩
theorem calM_mk {P : Program} {w : World} {K : PySem.W.Frag} {mg : Str → Option Value} {base : Heap} {f : Addr} {fd : FuncData} {ps : List Str} (F : FnOk P w K mg base CX0 k f fd ps sp) (b : Binds K fd ps []) (c : Cls K C) (M : Meth K C m f) : CalM P w K mg base k C m sp := ⟨f, fd, ps, F, b, c, M⟩
theorem call_isOwn : CallR X (.builtin "isinstance") (fun xs H Q => ∃ x C t b, xs = [x, .ref C] ∧ TyOf X.K H x t ∧ PySem.W.kitOne X.K t (.ref C) = some b ∧ Q (.bl b) H) := by
  intro pins s σ H xs us Q I rv h
  obtain ⟨x, T, t, b, rfl, ty, e, q⟩ := h
  obtain ⟨u, u', rfl, rx, rt⟩ := vals2 rv
  cases rt
  exact isinst_ok I rx ty e fun tk => ⟨.bl b, H, I.tok tk, rfl, q⟩
end
end L2
set_option linter.all false
namespace L2
open PySem PySem.Spec PyProof.Rows
variable {K : PySem.W.Frag}
theorem Fun.binds1 {x qual : Str} {st : Stmt} {f : Addr} {fd : FuncData} {ps : List Str} (F : Fun K x qual st f fd) (hp : ps.length = 1)
    (h : ∀ (kV doc pm : Value) (an : Option Addr) (cdv ct : Value), ∀ a : Value, bindArgs (PySem.W.fnOf x qual (defArgs st) (defBody st) (defScope st) .none kV doc pm an cdv ct) ⟨[a], []⟩ = pure (ps.zip [a])) : Binds K fd ps [] :=
  F.binds fun q1 q2 q3 q4 q5 q6 us hl => by
    rw [hp] at hl
    match us, hl with
    | [a], _ => exact h q1 q2 q3 q4 q5 q6 a
theorem Fun.binds2 {x qual : Str} {st : Stmt} {f : Addr} {fd : FuncData} {ps : List Str} (F : Fun K x qual st f fd) (hp : ps.length = 2)
    (h : ∀ (kV doc pm : Value) (an : Option Addr) (cdv ct : Value), ∀ a b : Value, bindArgs (PySem.W.fnOf x qual (defArgs st) (defBody st) (defScope st) .none kV doc pm an cdv ct) ⟨[a, b], []⟩ = pure (ps.zip [a, b])) : Binds K fd ps [] :=
  F.binds fun q1 q2 q3 q4 q5 q6 us hl => by
    rw [hp] at hl
    match us, hl with
    | [a, b], _ => exact h q1 q2 q3 q4 q5 q6 a b
theorem Fun.binds3 {x qual : Str} {st : Stmt} {f : Addr} {fd : FuncData} {ps : List Str} (F : Fun K x qual st f fd) (hp : ps.length = 3)
    (h : ∀ (kV doc pm : Value) (an : Option Addr) (cdv ct : Value), ∀ a b c : Value, bindArgs (PySem.W.fnOf x qual (defArgs st) (defBody st) (defScope st) .none kV doc pm an cdv ct) ⟨[a, b, c], []⟩ = pure (ps.zip [a, b, c])) : Binds K fd ps [] :=
  F.binds fun q1 q2 q3 q4 q5 q6 us hl => by
    rw [hp] at hl
    match us, hl with
    | [a, b, c], _ => exact h q1 q2 q3 q4 q5 q6 a b c
theorem Fun.binds4 {x qual : Str} {st : Stmt} {f : Addr} {fd : FuncData} {ps : List Str} (F : Fun K x qual st f fd) (hp : ps.length = 4)
    (h : ∀ (kV doc pm : Value) (an : Option Addr) (cdv ct : Value), ∀ a b c d : Value, bindArgs (PySem.W.fnOf x qual (defArgs st) (defBody st) (defScope st) .none kV doc pm an cdv ct) ⟨[a, b, c, d], []⟩ = pure (ps.zip [a, b, c, d])) : Binds K fd ps [] :=
  F.binds fun q1 q2 q3 q4 q5 q6 us hl => by
    rw [hp] at hl
    match us, hl with
    | [a, b, c, d], _ => exact h q1 q2 q3 q4 q5 q6 a b c d
theorem hold {t u : TS} {D : Ends} {σ : St} {H : Hp} (h : ∀ T : TS, (∀ D' σ' H', u D' σ' H' → T D' σ' H') → tSeq t T D σ H) : tSeq t u D σ H := h u fun _ _ _ q => q
end L2
set_option Elab.async false
set_option linter.all false
set_option maxRecDepth 100000
set_option maxHeartbeats 4000000
namespace L2
open PySem PySem.Spec PyProof.Rows
theorem same_updL {H H' : Hp} {l : Addr} {o : HO} (h : H l = none) (e : Same H H') : Same H (upd H' l o) := fun b u q => by rw [upd_ne (ne_of_none q h)]; exact e b u q
theorem same_delL {H H' : Hp} {l : Addr} (h : H l = none) (e : Same H H') : Same H (del H' l) := fun b u q => by rw [del_ne (ne_of_none q h)]; exact e b u q
def itO (a l : Addr) (j : Nat) : HO := .ext fun h => h.IsListIter a l j
theorem itO_ok {P : Program} {w : World} {H : Hp} {h : Heap} {a l : Addr} {j : Nat} (x : h.IsListIter a l j) : ObjOk P w H h a (itO a l j) :=
  ⟨x, let ⟨o, e, _⟩ := x; ⟨o, e⟩, fun h1 h2 z k => z.at k⟩
section
variable {X : Cx} {pins : List (Addr × Obj)} {σ : St} {H : Hp} {l q It S : Addr} {xs : List V} {E : Value → Shared → Prop}
theorem list2 {P : Program} {w : World} {H : Hp} {h : Heap} {a : Addr} {v : V} {k : Int} (x : ObjOk P w H h a (.lst [v, .int k])) : ∃ u t n, RelV v u ∧ h.get? a = some (seqObj "list" #[u, .int k t] n) := by
  obtain ⟨_, its, n, r, e⟩ := x
  cases r with
  | cons r1 r2 => cases r2 with
    | cons r3 r4 =>
      cases r4
      obtain ⟨t, rfl⟩ := r3
      exact ⟨_, t, n, r1, e⟩
theorem max_loop (kf : Nat → Int) {R : Result → Shared → Prop} (hh : X.A.handled = none) (hl : H l = some (.lst xs)) (hI0 : H It = none) (hS0 : H S = none) (hSI : S ≠ It) (hs0 : X.s₀.heap.objs.size ≤ It)
    (turn : ∀ i x u H2 s2, xs[i]? = some x → RelV x u → Same H H2 → Inv X pins σ H2 s2 → wpAny (model X.prog X.w) X.A.in1 (call (.ref q) [u]) (EP X pins σ (fun v H3 => v = .int (kf i) ∧ Same H2 H3)) (fun _ _ => False) s2)
    (hR : ∀ i x u H2 s2, xs[i]? = some x → RelV x u → (∀ j, j < xs.length → kf j ≤ kf i) → Same H H2 → Inv X pins σ H2 s2 → R (.ok (.ret u)) s2) :
    ∀ (r j i : Nat) (H2 : Hp) (s2 : Shared) (vb : V), xs.length - (j + 1) = r → j + 1 ≤ xs.length → Inv X pins σ H2 s2 → Same H H2 → H2 It = some (itO It l (j + 1)) → H2 S = some (.lst [vb, .int (kf i)]) → xs[i]? = some vb →
      (∀ j', j' ≤ j → kf j' ≤ kf i) → codeAny (model X.prog X.w) X.A (.builtin "max.loop" ⟨[.ref It, .ref q, .ref S], []⟩) R s2 := by
  have hname : (toString "max" ++ toString ".loop" : String) = "max.loop" := by decide
  have hlI : l ≠ It := ne_of_none hl hI0
  intro r
  induction r with
  | zero =>
    intro j i H2 s2 vb hr hj I2 e2 hIt hS hvb hbest
    have hin : j + 1 = xs.length := by omega
    obtain ⟨ub, tb, nS, rb, eS⟩ := list2 (I2.hok S _ hS)
    obtain ⟨z, its, n, rv, hlen, eL⟩ := I2.lstM (e2 _ _ hl)
    have W := Walks.list (prog := X.prog) (w := X.w) (A := X.A.in1) hh It l hlI its.toArray
    have hit : s2.heap.IsListIter It l (j + 1) := (I2.hok It _ hIt).1
    have hsz : its.toArray.size = j + 1 := by rw [List.size_toArray]; omega
    refine codeAny_builtin PySem.F.entry_max_loop ?_
    rw [Around.under_plainId PySem.F.plain_max_loop _]
    show wpAny _ X.A.in1 (seqItems? (.ref S) >>= _) _ _ _
    refine wpAny_bind (wpAny_seqItems eS rfl ?_)
    show wpAny _ X.A.in1 (tryCatch (pyNext (.ref It)) _ >>= _) _ _ _
    refine wpAny_bind (wpAny_tryCatch (W.done _ _ _ ⟨by rw [hsz]; exact hit, ⟨_, eL, rfl, n, rfl⟩⟩ fun h' tk' hk' => ?_))
    have I3 := I2.forget hIt
    have hL : It ≠ X.env.locals := fun z => by have := I2.free; rw [← z, hIt] at this; cases this
    have I4 : Inv X pins σ (del H2 It) { s2 with heap := h', toks := tk' } := Inv.turned (it := It) I3 (fun b o hb e => hk' b o (by simpa using hb) e) del_same hL (.inr hs0)
      (fun x c ec z => by have := I2.freeC x c ec; rw [z, hIt] at this; cases this) (fun p hp z => by have := (I2.pin p hp).2.1; rw [z, hIt] at this; cases this)
    have hS4 : del H2 It S = some (.lst [vb, .int (kf i)]) := by rw [del_ne hSI]; exact hS
    have eS' : h'.get? S = some (seqObj "list" #[ub, .int (kf i) tb] nS) := hk' S _ (by simpa using hSI) eS
    have s1 := Heap.SameBut.update h' S (Obj.mapSeq fun _ => (#[] : Array Value))
    obtain ⟨c2, hc2⟩ : ∃ c2, (h'.update S (Obj.mapSeq fun _ => (#[] : Array Value))).get? S = some (seqObj "list" #[] c2) := ⟨_, get?_update_seq eS' fun _ => #[]⟩
    show wpAny _ X.A.in1 (updateSeq S (fun _ => #[]) >>= _) _ _ _
    refine wpAny_bind ?_
    refine wpAny_updateSeq eS' rfl (wpAny_bind (wpAny_letGo (wpAny_pure ?_)))
    refine hR i vb ub (upd (del H2 It) S (.lst [])) _ hvb rb (fun j' hj' => hbest j' (by omega)) (same_updL hS0 (same_delL hI0 e2)) ?_
    exact I4.write (t' := tk') (x := S) (e := S) (o := .lst []) (by rw [hS4]; trivial) (.inl rfl) (fun b u hb e => (s1.2 b hb).trans e) ⟨_, hc2⟩ ⟨Nat.zero_le _, [], c2, .nil, hc2⟩
  | succ r ih =>
    intro j i H2 s2 vb hr hj I2 e2 hIt hS hvb hbest
    have hlt : j + 1 < xs.length := by omega
    obtain ⟨ub, tb, nS, rb, eS⟩ := list2 (I2.hok S _ hS)
    obtain ⟨z, its, n, rv, hlen, eL⟩ := I2.lstM (e2 _ _ hl)
    have W := Walks.list (prog := X.prog) (w := X.w) (A := X.A.in1) hh It l hlI its.toArray
    have hit : s2.heap.IsListIter It l (j + 1) := (I2.hok It _ hIt).1
    have hsz : its.toArray.size = xs.length := by rw [List.size_toArray]; omega
    refine codeAny_builtin PySem.F.entry_max_loop ?_
    rw [Around.under_plainId PySem.F.plain_max_loop _]
    show wpAny _ X.A.in1 (seqItems? (.ref S) >>= _) _ _ _
    refine wpAny_bind (wpAny_seqItems eS rfl ?_)
    show wpAny _ X.A.in1 (tryCatch (pyNext (.ref It)) _ >>= _) _ _ _
    refine wpAny_bind (wpAny_tryCatch (W.item (j + 1) _ _ _ (by rw [hsz]; exact hlt) ⟨hit, ⟨_, eL, rfl, n, rfl⟩⟩ fun u h' tk' hP hst' hk' => ?_))
    have hu : its[j + 1]? = some u := by simpa using hP
    obtain ⟨x, hx⟩ : ∃ x, xs[j + 1]? = some x := ⟨_, List.getElem?_eq_getElem hlt⟩
    obtain ⟨u', hu', rx⟩ := rv.get hx
    rw [hu] at hu'; cases hu'
    obtain ⟨oI', hoI', _⟩ := id hst'.1
    have I3 : Inv X pins σ (upd H2 It (itO It l (j + 1 + 1))) { s2 with heap := h', toks := tk' } :=
      I2.write (t' := tk') (x := It) (e := It) (by rw [hIt]; trivial) (.inl rfl) (fun b o hb e => hk' b o (by simpa using hb) e) ⟨_, hoI'⟩ (itO_ok hst'.1)
    have e3 : Same H (upd H2 It (itO It l (j + 1 + 1))) := same_updL hI0 e2
    show wpAny _ X.A.in1 (tryCatch (holding [u] (call (.ref q) [u])) _ >>= _) _ _ _
    refine wpAny_bind (wpAny_tryCatch (wpAny_holding (wpAny_mono (turn (j + 1) x u _ _ hx rx e3 I3) (fun u2 s4 he => ?_) fun _ _ hF => hF.elim)))
    obtain ⟨v2, H4, I4, r4, rfl, e4⟩ := he
    obtain ⟨t2, rfl⟩ := r4
    have hIt4 : H4 It = some (itO It l (j + 1 + 1)) := e4 _ _ upd_same
    have hS4 : H4 S = some (.lst [vb, .int (kf i)]) := e4 _ _ (by rw [upd_ne hSI]; exact hS)
    have e04 : Same H H4 := e3.trans e4
    show wpAny _ X.A.in1 (tryCatch (holding [u, .int (kf (j + 1)) t2] (richCompare .Gt (.int (kf (j + 1)) t2) (.int (kf i) tb) >>= _)) _ >>= _) _ _ _
    refine wpAny_bind (wpAny_tryCatch (wpAny_holding (wpAny_bind (CmpOf.ints_gt (prog := X.prog) (w := X.w) (A := X.A.in1) (P := fun i v => ∃ t, v = .int (kf i) t) kf (fun i v h => h) (j + 1) i _ _ _ _ _ ⟨t2, rfl⟩ ⟨tb, rfl⟩ ?_))))
    refine wpAny_bind (wpAny_holding (wpAny_truthy_bool ?_))
    refine wpAny_bind (wpAny_letGo (wpAny_pure ?_))
    obtain ⟨ub4, tb4, nS4, rb4, eS4⟩ := list2 (I4.hok S _ hS4)
    by_cases hb' : kf (j + 1) > kf i
    · have s1 := Heap.SameBut.update s4.heap S (Obj.mapSeq fun _ => #[u, .int (kf (j + 1)) t2])
      obtain ⟨c2, hc2⟩ : ∃ c2, (s4.heap.update S (Obj.mapSeq fun _ => #[u, .int (kf (j + 1)) t2])).get? S = some (seqObj "list" #[u, .int (kf (j + 1)) t2] c2) := ⟨_, get?_update_seq eS4 fun _ => #[u, .int (kf (j + 1)) t2]⟩
      simp only [hb', decide_true, if_true]
      refine wpAny_bind ?_
      refine wpAny_updateSeq eS4 rfl (wpAny_bind (wpAny_letGo ?_))
      rw [hname]
      have I5 : Inv X pins σ (upd H4 S (.lst [x, .int (kf (j + 1))])) { s4 with heap := s4.heap.update S (Obj.mapSeq fun _ => #[u, .int (kf (j + 1)) t2]), toks := s4.toks } :=
        I4.write (t' := s4.toks) (x := S) (e := S) (by rw [hS4]; trivial) (.inl rfl) (fun b o hb e => (s1.2 b hb).trans e) ⟨_, hc2⟩ ⟨by show 2 ≤ sizeLine; decide, [u, .int (kf (j + 1)) t2], c2, .cons rx (.cons ⟨t2, rfl⟩ .nil), hc2⟩
      refine wpAny_pure ⟨plainId_quiet PySem.F.plain_max_loop _, ih (j + 1) (j + 1) _ _ x (by omega) hlt I5 (same_updL hS0 e04) (by rw [upd_ne (Ne.symm hSI)]; exact hIt4) upd_same hx fun j' hj' => ?_⟩
      by_cases e : j' = j + 1
      · subst e; exact Int.le_refl _
      · have := hbest j' (by omega); omega
    · simp only [hb', decide_false, Bool.false_eq_true, if_false]
      refine wpAny_bind (wpAny_letGo ?_)
      rw [hname]
      refine wpAny_pure ⟨plainId_quiet PySem.F.plain_max_loop _, ih (j + 1) i _ _ vb (by omega) hlt I4 e04 hIt4 hS4 hvb fun j' hj' => ?_⟩
      by_cases e : j' = j + 1
      · subst e; omega
      · exact hbest j' (by omega)
theorem max_key (kf : Nat → Int) {Q : Value → Shared → Prop} {s : Shared} (hh : X.A.handled = none) (I : Inv X pins σ H s) (hl : H l = some (.lst xs)) (hne : 0 < xs.length)
    (turn : ∀ i x u H2 s2, xs[i]? = some x → RelV x u → Same H H2 → Inv X pins σ H2 s2 → wpAny (model X.prog X.w) X.A.in1 (call (.ref q) [u]) (EP X pins σ (fun v H3 => v = .int (kf i) ∧ Same H2 H3)) (fun _ _ => False) s2)
    (hQ : ∀ i x u H2 s2, xs[i]? = some x → RelV x u → (∀ j, j < xs.length → kf j ≤ kf i) → Same H H2 → Inv X pins σ H2 s2 → Q u s2) :
    wpAny (model X.prog X.w) X.A (call (.builtin "max") [.ref l] [(Str.ofString "key", .ref q)]) Q E s := by
  have hname : (toString "max" ++ toString ".loop" : String) = "max.loop" := by decide
  obtain ⟨z, its, n, rv, hlen, eL⟩ := I.lstM hl
  refine kmk_tree PySem.F.kind_max PySem.F.plain_max PySem.F.entry_max (kmk_max_key _ _) ?_
  show wpAny _ X.A.in1 (Builtin.Builtins.bindParams "max" ["key", "default"] 0 ⟨[], [(Str.ofString "key", .ref q)]⟩ >>= _) _ _ s
  refine wpAny_bind (wpAny_of_eq (show Builtin.Builtins.bindParams "max" ["key", "default"] 0 ⟨[], [(Str.ofString "key", .ref q)]⟩ = pure [some (.ref q), none] from rfl) ?_)
  refine wpAny_bind (wpAny_pure ?_)
  refine wpAny_bind (wpAny_pyIter_list ⟨_, eL, rfl, n, rfl⟩ ?_)
  refine wpAny_bind (wpAny_newList ?_ (Nat.zero_le _))
  rw [hname]
  generalize hIt : s.heap.objs.size = It
  generalize hh1 : s.heap.push { cls := .type "list_iterator", data := .fields #[.ref l, .int 0 0] } = h1
  have hsz1 : h1.objs.size = It + 1 := by rw [← hh1, Heap.size_push, hIt]
  generalize hS : h1.objs.size = S
  have hSI : S ≠ It := by omega
  have hI0 : H It = none := I.hok.fresh (by rw [hIt]; exact Nat.le_refl _)
  have hS0 : H S = none := I.hok.fresh (by rw [hIt]; omega)
  have hlI : l ≠ It := ne_of_none hl hI0
  have gI : h1.get? It = some { cls := .type "list_iterator", data := .fields #[.ref l, .int 0 0] } := by rw [← hh1, ← hIt]; exact Heap.get?_push_size _ rfl
  have I1 : Inv X pins σ (upd H It (itO It l 0)) { s with heap := h1, toks := s.toks } :=
    I.laid (t' := s.toks) (fun b o e => by rw [← hh1]; exact Heap.get?_push_of_some _ e) (by rw [hIt]; exact Nat.le_refl _) (itO_ok ⟨_, gI, rfl, rfl⟩)
  have gS : (h1.push (seqObj "list" #[] 0)).get? S = some (seqObj "list" #[] 0) := by rw [← hS]; exact Heap.get?_push_size _ rfl
  have I2 : Inv X pins σ (upd (upd H It (itO It l 0)) S (.lst [])) { s with heap := h1.push (seqObj "list" #[] 0), toks := s.toks } :=
    I1.laid (t' := s.toks) (fun b o e => Heap.get?_push_of_some _ e) (by rw [← hS]; exact Nat.le_refl _) ⟨Nat.zero_le _, [], 0, .nil, gS⟩
  have e2 : Same H (upd (upd H It (itO It l 0)) S (.lst [])) := same_updL hS0 (same_updL hI0 (Same.refl H))
  refine wpAny_pure ⟨plainId_quiet PySem.F.plain_max_loop _, ?_⟩
  have W := Walks.list (prog := X.prog) (w := X.w) (A := X.A.in1) hh It l hlI its.toArray
  have hsz : its.toArray.size = xs.length := by rw [List.size_toArray]; omega
  refine codeAny_builtin PySem.F.entry_max_loop ?_
  rw [Around.under_plainId PySem.F.plain_max_loop _]
  show wpAny _ X.A.in1 (seqItems? (.ref _) >>= _) _ _ _
  refine wpAny_bind (wpAny_seqItems gS rfl ?_)
  show wpAny _ X.A.in1 (tryCatch (pyNext (.ref It)) _ >>= _) _ _ _
  have hit2 : (h1.push (seqObj "list" #[] 0)).IsListIter It l 0 := ⟨_, Heap.get?_push_of_some _ gI, rfl, rfl⟩
  have eL2 : (h1.push (seqObj "list" #[] 0)).get? l = some { cls := .type "list", data := .seq its.toArray n } := Heap.get?_push_of_some _ (by rw [← hh1]; exact Heap.get?_push_of_some _ eL)
  refine wpAny_bind (wpAny_tryCatch (W.item 0 _ _ _ (by rw [hsz]; exact hne) ⟨hit2, ⟨_, eL2, rfl, n, rfl⟩⟩ fun u h' tk' hP hst' hk' => ?_))
  have hu : its[0]? = some u := by simpa using hP
  obtain ⟨x, hx⟩ : ∃ x, xs[0]? = some x := ⟨_, List.getElem?_eq_getElem hne⟩
  obtain ⟨u', hu', rx⟩ := rv.get hx
  rw [hu] at hu'; cases hu'
  obtain ⟨oI', hoI', _⟩ := id hst'.1
  have hIt2 : upd (upd H It (itO It l 0)) S (.lst []) It = some (itO It l 0) := by rw [upd_ne (Ne.symm hSI), upd_same]
  have I3 : Inv X pins σ (upd (upd (upd H It (itO It l 0)) S (.lst [])) It (itO It l (0 + 1))) { s with heap := h', toks := tk' } :=
    I2.write (t' := tk') (x := It) (e := It) (by rw [hIt2]; trivial) (.inl rfl) (fun b o hb e => hk' b o (by simpa using hb) e) ⟨_, hoI'⟩ (itO_ok hst'.1)
  have e3 := same_updL (o := itO It l (0 + 1)) hI0 e2
  show wpAny _ X.A.in1 (tryCatch (holding [u] (call (.ref q) [u])) _ >>= _) _ _ _
  refine wpAny_bind (wpAny_tryCatch (wpAny_holding (wpAny_mono (turn 0 x u _ _ hx rx e3 I3) (fun u2 s4 he => ?_) fun _ _ hF => hF.elim)))
  obtain ⟨v2, H4, I4, r4, rfl, e4⟩ := he
  obtain ⟨t2, rfl⟩ := r4
  have hIt4 : H4 It = some (itO It l (0 + 1)) := e4 _ _ upd_same
  have hS4 : H4 S = some (.lst []) := e4 _ _ (by rw [upd_ne hSI, upd_same])
  have e04 : Same H H4 := e3.trans e4
  obtain ⟨_, its4, n4, rv4, eS4⟩ := I4.hok S _ hS4
  cases rv4
  have s1 := Heap.SameBut.update s4.heap S (Obj.mapSeq fun _ => #[u, .int (kf 0) t2])
  obtain ⟨c2, hc2⟩ : ∃ c2, (s4.heap.update S (Obj.mapSeq fun _ => #[u, .int (kf 0) t2])).get? S = some (seqObj "list" #[u, .int (kf 0) t2] c2) := ⟨_, get?_update_seq eS4 fun _ => #[u, .int (kf 0) t2]⟩
  show wpAny _ X.A.in1 (updateSeq S (fun _ => #[u, .int (kf 0) t2]) >>= _) _ _ _
  refine wpAny_bind ?_
  refine wpAny_updateSeq eS4 rfl ?_
  rw [hname]
  have I5 : Inv X pins σ (upd H4 S (.lst [x, .int (kf 0)])) { s4 with heap := s4.heap.update S (Obj.mapSeq fun _ => #[u, .int (kf 0) t2]), toks := s4.toks } :=
    I4.write (t' := s4.toks) (x := S) (e := S) (by rw [hS4]; trivial) (.inl rfl) (fun b o hb e => (s1.2 b hb).trans e) ⟨_, hc2⟩ ⟨by show 2 ≤ sizeLine; decide, [u, .int (kf 0) t2], c2, .cons rx (.cons ⟨t2, rfl⟩ .nil), hc2⟩
  refine wpAny_pure ⟨plainId_quiet PySem.F.plain_max_loop _, max_loop kf hh hl hI0 hS0 hSI (by rw [← hIt]; exact I.sz) turn hQ _ 0 0 _ _ x rfl hne I5 (same_updL hS0 e04) (by rw [upd_ne (Ne.symm hSI)]; exact hIt4) upd_same hx fun j' hj' => ?_⟩
  have e : j' = 0 := by omega
  subst e; exact Int.le_refl _
end
end L2
set_option Elab.async false
set_option linter.all false
set_option maxRecDepth 100000
set_option maxHeartbeats 4000000
namespace L2
open PySem PySem.Spec PyProof.Rows
def cxLam (X : Cx) (Nc : List Str) (q : Str) (scope : Scope) (cl : List (Str × Addr)) (f : Addr) (cd : Value) (s : Shared) (H : Hp) : Cx where
  prog := X.prog
  w := X.w
  K := X.K
  mg := X.mg
  base := X.base
  A := X.A.in1.deeper (PySem.W.envX q scope s.heap.objs.size f cd cl)
  N := Nc
  s₀ := s
  H₀ := H
  env := PySem.W.envX q scope s.heap.objs.size f cd cl
  outer := X.stack
  stack := PySem.W.envX q scope s.heap.objs.size f cd cl :: X.stack
  ex := []
  calm := X.calm
  fn := fun _ => false
  pn := []
  xe := fun _ _ => False
structure LamSc (scope : Scope) (x0 : Str) : Prop where
  co : scope.isCoroutine = false
  gen : scope.isGenerator = false
  cell : ∀ y ∈ scope.names, y.2 ≠ .cell
  par : scope.names.lookup x0 = some .local
section
variable {X : Cx} {pins : List (Addr × Obj)} {σ : St} {H : Hp} {s : Shared} {scope : Scope} {cl : List (Str × Addr)} {x0 : Str} {Nc : List Str} {fr : List (Option Nat)} {q : Str} {f : Addr} {cd : Value}
theorem compSt_get {i : Nat} {v : V} (h : (compSt fr σ)[i]? = some (some v)) : ∃ j : Nat, fr[i]? = some (some j) ∧ σ[j]? = some (some v) := by
  unfold compSt at h
  rw [List.getElem?_map] at h
  cases ef : fr[i]? with
  | none => rw [ef] at h; cases h
  | some o =>
    rw [ef] at h
    cases o with
    | none => cases h
    | some j =>
      have h' : (σ[j]?).join = some v := Option.some.inj h
      refine ⟨j, rfl, ?_⟩
      cases es : σ[j]? with
      | none => rw [es] at h'; cases h'
      | some z => rw [es] at h'; cases z with
        | none => cases h'
        | some z => cases h'; rfl
theorem lam_inv (S : CompSc X.env scope cl) (Z : LamSc scope x0) (hfr : CompFrom X scope Nc fr) (I : Inv X pins σ H s) {x : V} {u : Value} (r : RelV x u) {h' : Heap} {t' : Nat} (hns : h'.Ns s.heap.objs.size (fun y => [(x0, u)].reverse.lookup y))
    (hk : ∀ b o, s.heap.get? b = some o → h'.get? b = some o) : Inv (cxLam X (x0 :: Nc) q scope cl f cd s H) [] (some x :: compSt fr σ) H { s with heap := h', toks := t' } := by
  have noA : ∀ b : Addr, b ∉ (cxLam X (x0 :: Nc) q scope cl f cd s H).ex := fun b z => absurd (show b ∈ ([] : List Addr) from z) (by simp)
  have ok : (cxLam X (x0 :: Nc) q scope cl f cd s H).Ok := by
    refine ⟨I.ok.mod, S.kind, rfl, rfl, Nat.le_refl _, fun y z c e1 e2 => I.ok.inj y z c (S.sub y c e1) (S.sub z c e2), fun y hy => ?_, fun y c hf _ => (by cases (show false = true from hf)), I.ok.hd, Around.frames_deeper (show X.A.in1.frames = some X.stack from I.ok.frames), .inr ⟨rfl, rfl⟩,
      fun b z => absurd z (noA b), I.bs, Nat.le_trans I.ok.bsz I.sz, fun b _ _ => noA b, fun b z => absurd z (noA b), I.stack, I.stkFree⟩
    have hy : scope.names.lookup y = some .cell ∨ scope.names.lookup y = some .free := hy
    rcases hy with hy | hy
    · exact absurd rfl (Z.cell _ (PySem.mem_of_lookup hy))
    · exact S.has y hy
  refine ⟨ok, rfl, I.bare, Un.kept hk, ⟨_, hns, fun i y v e1 e2 e3 => ?_⟩, fun y c e => ?_, I.hok.fresh (Nat.le_refl _), fun y c e => I.freeC y c (S.sub y c e), fun p hp => absurd (show p ∈ ([] : List (Addr × Obj)) from hp) (by simp), I.hok.kept hk, ?_⟩
  · cases i with
    | zero =>
      have e1' : x0 = y := Option.some.inj e1
      have e2' : x = v := Option.some.inj (Option.some.inj e2)
      subst e1' e2'
      exact ⟨u, r, .inl ⟨Z.par, by simp⟩⟩
    | succ i =>
      have e1' : Nc[i]? = some y := by have h : (x0 :: Nc)[i + 1]? = some y := e1; simpa using h
      have e2' : (compSt fr σ)[i]? = some (some v) := by simpa using e2
      obtain ⟨j, q1, q2⟩ := compSt_get e2'
      obtain ⟨a1, a2, a3, a4⟩ := hfr.2 i y j e1' q1
      obtain ⟨m, hn, hl⟩ := I.loc
      obtain ⟨u', r', l⟩ := hl j y v a4 q2 a3
      refine ⟨u', r', ?_⟩
      rcases l with ⟨k, _⟩ | ⟨k, c, ec, z⟩
      · exact absurd k a2
      · obtain ⟨c', ec'⟩ := S.has y a1
        have := S.sub y c' ec'
        rw [ec] at this; cases this
        exact .inr ⟨.inr a1, c, ec', z.keeps hk⟩
  · obtain ⟨v, z⟩ := I.cell y c (S.sub y c e)
    exact ⟨v, z.keeps hk⟩
  · show (some x :: compSt fr σ).length = (x0 :: Nc).length
    rw [List.length_cons, List.length_cons, ← hfr.1]
    simp [compSt]
def LamAt (H : Hp) (f : Addr) (q : Str) (params : Arguments) (body : Expr) (scope : Scope) (cl : List (Str × Addr)) (c : Addr) : Prop :=
  ∃ (pm ct : Value) (oc : Obj) (vs : Array Value) (t : Tok), H f = some (.ext fun h => h.get? f = some (PySem.W.kla_obj "<lambda>" q params body scope cl pm c ct)) ∧ H c = some (.frz oc (.own c)) ∧ oc.data = .fields vs ∧ vs[1]? = some (.str q t)
theorem LamAt.same {H H' : Hp} {params : Arguments} {body : Expr} {c : Addr} (e : Same H H') (h : LamAt H f q params body scope cl c) : LamAt H' f q params body scope cl c := by
  obtain ⟨pm, ct, oc, vs, t, h1, h2, h3⟩ := h
  exact ⟨pm, ct, oc, vs, t, e _ _ h1, e _ _ h2, h3⟩
variable {params : Arguments} {body : Expr} {c : Addr} {tb : TE}
theorem lam_call (S : CompSc X.env scope cl) (Z : LamSc scope x0) (hfr : CompFrom X scope Nc fr) (hroom : X.A.depth < recursionLimit) (hbind : ∀ (pm cdv ct v : Value), bindArgs (PySem.W.kla_fn "<lambda>" q params body scope cl pm cdv ct) ⟨[v], []⟩ = pure [(x0, v)])
    (I : Inv X pins σ H s) (L : LamAt H f q params body scope cl c) {x : V} {u : Value} (r : RelV x u) {Q : VK} (hb : PE (cxLam X (x0 :: Nc) q scope cl f (.ref c) s H) body tb) (h : tb (some x :: compSt fr σ) H Q) :
    wpAny (model X.prog X.w) X.A.in1 (call (.ref f) [u]) (EP X pins σ Q) (fun _ _ => False) s := by
  obtain ⟨pm, ct, oc, vs, t, h1, h2, h3, h4⟩ := L
  obtain ⟨ho, _⟩ := I.hok f _ h1
  obtain ⟨hoc, _⟩ := I.hok c _ h2
  refine wpAny_call (PySem.W.kla_callFunE (A := X.A.in1) hroom ho rfl Z.co Z.gen rfl ⟨c, oc, vs, t, rfl, hoc, h3, h4⟩ ?_)
  rw [hbind]
  refine wpAny_pure (wpAny_newFunctionEnv Z.cell (fun y hy => by rw [List.mem_singleton.mp hy]; exact Z.par) (fun h₁ hns hsb => ⟨I.nolimit.fresh _ hsb, ?_⟩) S.kind)
  show codeAny _ _ (.expr body (PySem.W.envX q scope s.heap.objs.size f (.ref c) cl)) _ _
  have hk₁ : ∀ b o, s.heap.get? b = some o → h₁.get? b = some o := fun b o e => hsb.extBut b o (Nat.ne_of_lt (Heap.lt_size e)) (Heap.get?_push_of_some _ e)
  have I1 : Inv (cxLam X (x0 :: Nc) q scope cl f (.ref c) s H) [] (some x :: compSt fr σ) H { s with heap := h₁, toks := s.toks + [(x0, u)].length } := lam_inv S Z hfr I r hns hk₁
  exact PySem.W.kla_codeExpr (wpAny_mono (hb [] _ _ H Q I1 h) (fun v s' ⟨y, H', J, rv, q'⟩ => I.after ⟨y, H', J.os, J.bare, J.base, J.hok, rv, q'⟩) fun _ _ hF => hF.elim)
def Bmain (mg : Str → Option Value) (base : Heap) : Prop := ∃ bm ob, mg "__builtins__" = some (.ref bm) ∧ bm ≠ builtinsNs ∧ base.get? bm = some ob ∧ ob.cls = .type "module" ∧ ob.dict = some builtinsNs ∧ ob.data = .plain
theorem lam_make {ln col : Int} {P cc : Addr} {firstLine : Nat} {lpos : Pos} {E : Value → Shared → Prop} {Q : Value → Shared → Prop} (S : CompSc X.env scope cl) (hcode : X.env.code = .ref cc) (C : PySem.W.CodeHd X.base cc P) (B : Bmain X.mg X.base) (hln : ln = lpos.line) (hcol : col = lpos.col)
    (I : Inv X pins σ H s) (hP : H P = some (.cod ln col q))
    (h : ∀ f c H' s', Inv X pins σ H' s' → Same H H' → LamAt H' f q params body scope cl c → Q (.ref f) s') :
    wpAny (model X.prog X.w) X.A (makeFunction "<lambda>" q params (.expr body) scope X.env [] [] [] lpos firstLine) Q E s := by
  obtain ⟨ps, eP, hps⟩ := I.hok P _ hP
  obtain ⟨bm, ob, b1, b2, b3, b4, b5, b6⟩ := B
  have hgs := I.ok.mod.glob.keeps I.bk
  have hgP : mainGlobals ≠ P := fun z => by
    obtain ⟨o, es, ep, e, hd, _⟩ := hgs
    rw [z, eP] at e; cases e; cases hd
  have hbP : bm ≠ P := fun z => by
    have e := I.bk _ _ b3
    rw [z, eP] at e; cases e; cases b4
  have hbG : bm ≠ mainGlobals := fun z => by
    obtain ⟨o, es, ep, e, hd, _⟩ := I.ok.mod.glob
    rw [z, e] at b3; cases b3; rw [hd] at b6; cases b6
  rcases hps with rfl | ⟨ln', col', q', u', c', oc, vs, t, hdd, rfl, hc', hd, hv⟩
  · refine PySem.W.kla_makeFunction (mg := X.mg) S.clos I.ok.glob hgs hcode (C.keeps I.bk) eP trivial rfl hgP ⟨bm, ob, b1, b2, hbG, hbP, I.bk _ _ b3, b4, b5, b6⟩ fun c' ctv h' tk hx hge hlt hrec htb => ?_
    obtain ⟨c₂, oc, vs, t, e2, hoc, hd, hv⟩ := hrec
    cases e2
    generalize hf : h'.objs.size = f
    have hlt' : c' < f := by rw [← hf]; exact hlt
    have hsz : s.heap.objs.size < f := Nat.lt_of_le_of_lt hge hlt'
    have hcf : c' ≠ f := Nat.ne_of_lt hlt'
    have lt : ∀ b u, H b = some u → b < s.heap.objs.size := fun b u e => I.hok.lt e
    have nc : ∀ b u, H b = some u → b ≠ c' := fun b u e => Nat.ne_of_lt (Nat.lt_of_lt_of_le (lt b u e) hge)
    have nf : ∀ b u, H b = some u → b ≠ f := fun b u e => Nat.ne_of_lt (Nat.lt_trans (lt b u e) hsz)
    generalize ho : PySem.W.kla_obj "<lambda>" q params body scope cl ((X.mg "__name__").getD .none) c' ctv = fo
    have gf : (h'.push fo).get? f = some fo := by rw [← hf]; exact Heap.get?_push_size _ (by rw [← ho]; rfl)
    have up : ∀ b u, H b = some u → upd (upd H c' (.frz oc (.own c'))) f (.ext fun h => h.get? f = some fo) b = some u := fun b u e => by rw [upd_ne (nf b u e), upd_ne (nc b u e)]; exact e
    have kp : ∀ b o, b ≠ P → s.heap.get? b = some o → (h'.push fo).get? b = some o := fun b o hb e => Heap.get?_push_of_some _ (hx b o hb e)
    have nP : ∀ b, H b = none → b ≠ P := fun b n z => by rw [z, hP] at n; cases n
    have gP : (h'.push fo).get? P = some (PySem.W.tabObj (#[] ++ #[rawInt lpos.line, rawInt lpos.col, .ref c'])) := Heap.get?_push_of_some _ htb
    refine h f c' (upd (upd H c' (.frz oc (.own c'))) f (.ext fun h => h.get? f = some fo)) _ ?_ up ⟨_, ctv, oc, vs, t, by rw [upd_same, ← ho], by rw [upd_ne hcf, upd_same], hd, hv⟩
    refine I.un (t' := tk) ⟨fun b o e n _ _ => kp b o (nP b n) e, fun b o e n _ _ => ⟨o.slots, kp b o (nP b n) e⟩, fun b o e n _ => ?_, fun b o e _ => ?_, fun b xs e => up _ _ e, fun b o u e => up _ _ e, fun b ps e => ⟨#[], by rw [up _ _ e]; simp⟩⟩ fun b u e => ?_
    · have hb := Heap.lt_size e
      rw [upd_ne (Nat.ne_of_lt (Nat.lt_trans hb hsz)), upd_ne (Nat.ne_of_lt (Nat.lt_of_lt_of_le hb hge))]; exact n
    · by_cases hb : b = P
      · subst hb; exact ⟨_, gP⟩
      · exact ⟨o, kp b o hb e⟩
    · by_cases hbf : b = f
      · subst hbf
        rw [upd_same] at e; cases e
        exact ⟨gf, ⟨_, gf⟩, fun h1 h2 z k => k _ z⟩
      · rw [upd_ne hbf] at e
        by_cases hbc : b = c'
        · subst hbc
          rw [upd_same] at e; cases e
          exact ⟨Heap.get?_push_of_some _ hoc, _, Heap.get?_push_of_some _ hoc⟩
        · rw [upd_ne hbc] at e
          by_cases hb : b = P
          · subst hb
            rw [hP] at e; cases e
            exact ⟨_, gP,   .inr ⟨ln, col, q, 0, c', oc, vs, t, rfl, by rw [hln, hcol]; rfl, by rw [upd_ne hcf, upd_same], hd, hv⟩⟩
          · refine (I.hok b u e).stay (fun d v hd' z => kp d v ?_ z) (fun d _ _ z => up _ _ z) (fun d z => up _ _ z) fun d xs z => up _ _ z
            rcases hd' with rfl | hd'
            · exact hb
            · intro z; rw [z, hP] at hd'; cases hd'
  · have hdd' : [rawInt ln, rawInt col, Value.str q 0] = [rawInt ln', rawInt col', Value.str q' u'] := congrArg Array.toList hdd
    injection hdd' with d1 d2
    injection d2 with d2 d3
    injection d3 with d3 _
    have d1' : ln = ln' := by unfold rawInt at d1; injection d1
    have d2' : col = col' := by unfold rawInt at d2; injection d2
    injection d3 with d3 _
    subst d1' d2' d3
    obtain ⟨hoc, _⟩ := I.hok c' _ hc'
    have hfd : codeAmong lpos #[rawInt ln, rawInt col, Value.ref c'].toList = some (.ref c') := by
      rw [hln, hcol]
      show (if ((lpos.line : Int) == lpos.line && (lpos.col : Int) == lpos.col) = true then _ else _) = _
      rw [beq_self_eq_true, beq_self_eq_true]; rfl
    refine PySem.W.kla_makeFunctionHit (mg := X.mg) S.clos I.ok.glob hgs hcode (C.keeps I.bk) eP trivial hfd ⟨bm, ob, b1, b2, hbG, hbP, I.bk _ _ b3, b4, b5, b6⟩ fun ctv h' tk hk hsz => ?_
    generalize hf : h'.objs.size = f
    have hH : H f = none := I.hok.fresh (by rw [← hf]; exact hsz)
    have gf : (h'.push (PySem.W.kla_obj "<lambda>" q params body scope cl ((X.mg "__name__").getD .none) c' ctv)).get? f = some (PySem.W.kla_obj "<lambda>" q params body scope cl ((X.mg "__name__").getD .none) c' ctv) := by rw [← hf]; exact Heap.get?_push_size _ rfl
    have nf : c' ≠ f := ne_of_none hc' hH
    refine h f c' (upd H f (.ext fun h => h.get? f = some (PySem.W.kla_obj "<lambda>" q params body scope cl ((X.mg "__name__").getD .none) c' ctv))) _ ?_ (same_updL hH (Same.refl H)) ⟨_, ctv, oc, vs, t, upd_same, by rw [upd_ne nf]; exact hc', hd, hv⟩
    exact I.laid (t' := tk) (fun b o e => Heap.get?_push_of_some _ (hk b o e)) (by rw [← hf]; exact hsz) ⟨gf, ⟨_, gf⟩, fun h1 h2 z k => k _ z⟩
inductive MaxK (P : Addr) (ln col : Int) (q : Str) (c0 : St) (tb : Addr → Value → Shared → Hp → TE) (v : V) (H1 : Hp) (Q : VK) : Prop where
  | mk (l : Addr) (xs : List V) (kf : Nat → Int) (hv : v = .ref l) (hl : H1 l = some (.lst xs)) (hne : 0 < xs.length) (hP : H1 P = some (.cod ln col q))
    (turn : ∀ f cd s i x H2, xs[i]? = some x → Same H1 H2 → tb f cd s H2 (some x :: c0) H2 (fun v H3 => v = .int (kf i) ∧ Same H2 H3))
    (done : ∀ i x H2, xs[i]? = some x → (∀ j, j < xs.length → kf j ≤ kf i) → Same H1 H2 → Q x H2)
def tMaxK (P : Addr) (ln col : Int) (q : Str) (fr : List (Option Nat)) (te : TE) (tb : Addr → Value → Shared → Hp → TE) : TE := fun σ H Q => te σ H fun v H1 => MaxK P ln col q (compSt fr σ) tb v H1 Q
theorem pe_maxK {e : Expr} {te : TE} {ln col : Int} {P cc : Addr} {p pos lpos kpos : Pos} {tb : Addr → Value → Shared → Hp → TE} (hc : X.calm = true) (hg : Gl X "max") (hm : X.mg "max" = none) (he : PE X e te)
    (S : CompSc X.env scope cl) (Z : LamSc scope x0) (hfr : CompFrom X scope Nc fr) (hroom : X.A.depth < recursionLimit) (hcode : X.env.code = .ref cc) (C : PySem.W.CodeHd X.base cc P) (B : Bmain X.mg X.base) (hln : ln = lpos.line) (hcol : col = lpos.col)
    (hq : X.env.qual ++ "<lambda>" = q) (hdef : defaultsOf params X.env = ([], [])) (hbind : ∀ (pm cdv ct v : Value), bindArgs (PySem.W.kla_fn "<lambda>" q params body scope cl pm cdv ct) ⟨[v], []⟩ = pure [(x0, v)])
    (hb : ∀ f cd s H, PE (cxLam X (x0 :: Nc) q scope cl f cd s H) body (tb f cd s H))
    (hst : starEach [e] X.env = (false, eval e X.env) :: starEach [] X.env := by rfl) : PE X (.Call (.Name "max" p) [e] [⟨some "key", .Lambda params body scope lpos, kpos⟩] pos) (tMaxK P ln col q fr te tb) := by
  intro pins s σ H Q I h
  refine wpAny_Call_Name_kw (ld_blt I hg hm PySem.L3.boot_max ?_)
  refine PyProof.Rows.callWith_kw ?_ (by rw [hst]; rfl) (by rw [hst]; rfl)
  refine thn ((pa_cons he pa_nil hst) pos pins s σ H (fun vs H1 => match vs with | [v] => MaxK P ln col q (compSt fr σ) tb v H1 Q | _ => False) I h) fun us s1 ⟨vs, H1, I1, r1, q1⟩ => ?_
  obtain ⟨v, rfl⟩ : ∃ v, vs = [v] := by
    match vs, q1 with
    | [v], _ => exact ⟨v, rfl⟩
  obtain ⟨l, xs, kf, rfl, hl, hne, hP, turn, done⟩ := (show MaxK P ln col q (compSt fr σ) tb v H1 Q from q1)
  obtain ⟨u, rfl, ru⟩ := vals1 r1
  cases ru
  refine PyProof.Rows.kws_cons (PySem.W.kla_eval hdef ?_)
  rw [hq]
  refine lam_make S hcode C B hln hcol I1 hP fun f c H2 s2 I2 e2 L => ?_
  refine PyProof.Rows.kws_nil ?_
  show wpAny _ _ (call (.builtin "max") [.ref l] [(Str.ofString "key", .ref f)]) _ _ _
  refine max_key kf (I.ok.hd hc) I2 (e2 _ _ hl) hne (fun i x u H3 s3 hx rx e3 I3 => ?_) fun i x u H3 s3 hx rx hbest e3 I3 => ⟨x, H3, I3, rx, done i x H3 hx hbest (e2.trans e3)⟩
  exact lam_call S Z hfr hroom hbind I3 (L.same e3) rx (hb f (.ref c) s3 H3) (turn f (.ref c) s3 i x H3 hx (e2.trans e3))
end
end L2
set_option Elab.async false
set_option linter.all false
set_option maxRecDepth 100000
set_option maxHeartbeats 4000000
namespace L2
open PySem PySem.Spec PyProof.Rows
structure TabAt (x : Str) (mg : Str → Option Value) (h : Heap) (c P : Addr) : Prop where
  hd : PySem.W.CodeHd h c P
  emp : h.get? P = some (PySem.W.tabObj #[])
  fn : ∃ ff o fd, mg x = some (.ref ff) ∧ h.get? ff = some o ∧ o.data = .func fd ∧ fd.code = .ref c
theorem tabAt_of {p : Program} {loose : List Str} {mean : ExcName → Option Value} {mg mb : Str → Option Value} {h : Heap} {x : Str} {d : DefRec} (T : Top p loose mean mg mb h) (hr : (recsOf p).find? (fun e => e.name == x) = some d) : ∃ c P, TabAt x mg h c P := by
  have hn : d.name = x := beq_iff_eq.mp (List.find?_some (p := fun e : DefRec => e.name == x) hr)
  obtain ⟨a, o, fd, c', P', h1, h2, h3, h4, h5, h6⟩ := T.tab d (List.mem_of_find?_eq_some hr)
  rw [hn] at h1
  exact ⟨c', P', PySem.W.CodeHd.of h5 h6, h6.2, a, o, fd, h1, h2, h3, h4⟩
theorem law_callT {P : Program} {w : World} {K : PySem.W.Frag} {mg mb : Str → Option Value} {CX : CXT} {k : Nat} {fa a c T : Addr} {fd : FuncData} {x y : Str} {sp : Sp} {s₁ : Shared} {vs : List Value} {ns : List Int} {ln col : Int} {q : Str}
    (KX : K.In s₁.heap) (hns : s₁.heap.Ns mainGlobals mg) (hb : s₁.heap.Ns builtinsNs mb) (hbb : ∀ x : Str, x ≠ "__name__" → mb x = bootBuiltins x) (hlim : s₁.heap.NoLimit) (hg : s₁.gens = #[]) (hT : TabAt y mg s₁.heap c T) (hB : Bmain mg s₁.heap) (hnt : PySem.W.noTabs K = true)
    (ha : s₁.heap.get? a = some { cls := .type "list", data := .seq vs.toArray }) (hi : IntsAre vs ns) (hl : ns.length ≤ sizeLine) (hr : Room k callerA)
    (F : ∀ base : Heap, K.In base → base.Ns mainGlobals mg → PySem.W.CodeHd base c T → Bmain mg base → FnOk P w K mg base CX k fa fd [x] sp) (hbind : ∀ (s : Shared) (u : Value), BindsTo s fd ⟨[u], []⟩ [(x, u)])
    (hsp : ∀ H : Hp, H T = some (.cod ln col q) → SqL K H a (ns.map V.int) → sp [.ref a] H (fun v _ => v = .bl true) fun _ _ _ => False)
    (hCX : ∀ H e s', CX [] H s₁ (fun _ _ _ => False) e s' → False) :
    codeAny (model P w) callerA (.call (.ref fa) ⟨[.ref a], []⟩) (fun r s' => r = .ok (.ret (.bool true)) ∧ OldK s₁.heap s'.heap ∧ s'.os = s₁.os ∧ AllBare s'.gens) s₁ := by
  have rv := vals_ints hi
  have lenV := hi.length
  have hT0 : K.lookup T = none := by
    cases hk : K.lookup T with
    | none => rfl
    | some o =>
      have e := KX T o hk
      rw [hT.emp] at e; cases e
      exact absurd (show false = true from List.all_eq_true.mp hnt _ (PySem.W.mem_of_lookupK hk)) Bool.false_ne_true
  have naT : a ≠ T := fun z => by rw [z, hT.emp] at ha; cases ha
  have core : ∀ H : Hp, H T = some (.cod ln col q) → SqL K H a (ns.map V.int) → HOk P w H s₁.heap → (∀ b, H b ≠ none → b = a ∨ b = T) → (H a ≠ none → K.lookup a = none ∧ ∃ o xs, H a = some (.frz o (.lst xs))) →
      codeAny (model P w) callerA (.call (.ref fa) ⟨[.ref a], []⟩) (fun r s' => r = .ok (.ret (.bool true)) ∧ OldK s₁.heap s'.heap ∧ s'.os = s₁.os ∧ AllBare s'.gens) s₁ := by
    intro H hHT hS hok hA hK
    have base_of : ∀ {b : Addr} {o : Obj}, s₁.heap.get? b = some o → H b = none → (hidT s₁.heap H).get? b = some o := fun e n => hidT_get e n
    have noA : ∀ {b : Addr} {o : Obj}, s₁.heap.get? b = some o → (∀ z n, o.data ≠ .seq z n) → (∀ z, o ≠ PySem.W.tabObj z) → H b = none := fun {b o} e d1 d2 => by
      cases z : H b with
      | none => rfl
      | some u =>
        rcases hA b (by rw [z]; simp) with rfl | rfl
        · rw [ha] at e; cases e; exact absurd rfl (d1 _ _)
        · rw [hT.emp] at e; cases e; exact absurd rfl (d2 _)
    have nsK : ∀ {b : Addr} {m : Str → Option Value}, s₁.heap.Ns b m → (hidT s₁.heap H).Ns b m := fun {b m} ⟨o, es, ep, e, d, r⟩ => ⟨o, es, ep, base_of e (noA e (fun z n z2 => by rw [d] at z2; cases z2) fun z z2 => by rw [z2] at d; cases d), d, r⟩
    have hKb : K.In (hidT s₁.heap H) := fun b o e => base_of (KX b o e) (by
      cases z : H b with
      | none => rfl
      | some u =>
        rcases hA b (by rw [z]; simp) with rfl | rfl
        · rw [(hK (by rw [z]; simp)).1] at e; cases e
        · rw [hT0] at e; cases e)
    have hM : Mod K mg (hidT s₁.heap H) := ⟨hKb, nsK hns, ⟨mb, nsK hb, hbb⟩, let ⟨mc, h1, h2⟩ := hlim; ⟨mc, nsK h1, h2⟩⟩
    have hC : PySem.W.CodeHd (hidT s₁.heap H) c T := by
      obtain ⟨o, vs, file, tf, flags, tg, inF, text, tt, e1, r1, r2, r3, r4, r5, r6, r7, r8, hne⟩ := hT.hd
      exact ⟨o, vs, file, tf, flags, tg, inF, text, tt, base_of e1 (noA e1 (fun z n z2 => by rw [r2] at z2; cases z2) fun z z2 => by rw [z2] at r1; cases r1), r1, r2, r3, r4, r5, r6, r7, r8, hne⟩
    have hBb : Bmain mg (hidT s₁.heap H) := by
      obtain ⟨bm, ob, b1, b2, b3, b4, b5, b6⟩ := hB
      exact ⟨bm, ob, b1, b2, base_of b3 (noA b3 (fun z n z2 => by rw [b6] at z2; cases z2) fun z z2 => by rw [z2] at b6; cases b6), b4, b5, b6⟩
    have e0 : Env0 P w K mg (hidT s₁.heap H) callerA [] s₁ H := ⟨rfl, hM, fun b o e => of_hidT e, Nat.le_of_eq (hidT_size _ _), trivial, fun b hb => absurd (show b ∈ ([] : List Addr) from hb) (by simp), hok, .of_eq hg⟩
    refine codeAny_mono ((F _ hKb (nsK hns) hC hBb).run callerA [] s₁ H ⟨[.ref a], []⟩ [.ref a] [.ref a] _ _ hr e0 (hbind s₁ (.ref a)) (.cons rfl .nil) (hsp H hHT hS)) fun r s' h => ?_
    cases r with
    | error e => exact (hCX H e s' h).elim
    | ok fl =>
      cases fl with
      | next => exact False.elim h
      | brk => exact False.elim h
      | cont => exact False.elim h
      | ret u =>
        obtain ⟨v, H', os, bare, un, hok', r', z⟩ := h
        have z' : v = .bl true := z
        subst z'
        obtain rfl : u = Value.bool true := r'
        have keep : ∀ b o, b ≠ T → s₁.heap.get? b = some o → s'.heap.get? b = some o := fun b o hbT e => by
          cases z : H b with
          | none => exact un.keep b o e z (by intro z; exact absurd (show b ∈ ([] : List Addr) from z) (by simp)) (by simp)
          | some u =>
            rcases hA b (by rw [z]; simp) with rfl | rfl
            · obtain ⟨_, ob, xs, z1⟩ := hK (by rw [z]; simp)
              have z2 := un.frzs _ ob _ z1
              obtain ⟨e1, _⟩ := hok _ _ z1
              obtain ⟨e2, _⟩ := hok' _ _ z2
              rw [e] at e1; cases e1
              exact e2
            · exact absurd rfl hbT
        obtain ⟨ps, hps⟩ : ∃ ps, s'.heap.get? T = some (PySem.W.tabObj ps) := by
          obtain ⟨more, z⟩ := un.tbls T _ hHT
          obtain ⟨ps, e, _⟩ := hok' T _ z
          exact ⟨ps, e⟩
        refine ⟨rfl, ⟨fun b o e => ?_, fun b o e => ?_⟩, os, bare⟩
        · by_cases hbT : b = T
          · subst hbT
            rw [hT.emp] at e; cases e
            exact .inr (.inl ⟨(hT.hd.tab hT.emp).isCodeTable, rfl, #[], ps, rfl, by rw [Array.empty_append]; exact hps⟩)
          · exact .inl (keep b o hbT e)
        · by_cases hbT : b = T
          · subst hbT; exact ⟨_, hps⟩
          · exact ⟨o, keep b o hbT e⟩
  have tabOk : ∀ H : Hp, ObjOk P w H s₁.heap T (.cod ln col q) := fun H => ⟨#[], hT.emp, .inl rfl⟩
  cases hk : K.lookup a with
  | some o =>
    have e := KX a o hk
    rw [ha] at e
    cases e
    refine core (fun b => if b = T then some (.cod ln col q) else none) (if_pos rfl) (.inr ⟨_, vs.toArray, _, hk, rfl, rfl, rfl, by rw [List.size_toArray, lenV]; exact hl, by simpa using rv⟩) (fun b u z => ?_) (fun b z => ?_) fun z => absurd (if_neg naT) z
    · by_cases hbT : b = T
      · have z' := (if_pos hbT).symm.trans z
        cases z'
        subst hbT
        exact tabOk _
      · have z' := (if_neg hbT).symm.trans z
        cases z'
    · by_cases hbT : b = T
      · exact .inr hbT
      · exact absurd (if_neg hbT) z
  | none =>
    refine core (fun b => if b = T then some (.cod ln col q) else if b = a then some (.frz { cls := .type "list", data := .seq vs.toArray } (.lst (ns.map V.int))) else none) (if_pos rfl) (.inl (.inr ⟨{ cls := .type "list", data := .seq vs.toArray }, (if_neg naT).trans (if_pos rfl)⟩)) (fun b u z => ?_) (fun b z => ?_) fun _ => ⟨hk, _, _, (if_neg naT).trans (if_pos rfl)⟩
    · by_cases hbT : b = T
      · have z' := (if_pos hbT).symm.trans z
        cases z'
        subst hbT
        exact tabOk _
      · have z0 := (if_neg hbT).symm.trans z
        by_cases hba : b = a
        · have z' := (if_pos hba).symm.trans z0
          cases z'
          subst hba
          exact ⟨ha, by rw [List.length_map]; exact hl, vs, _, rv, ha⟩
        · have z' := (if_neg hba).symm.trans z0
          cases z'
    · by_cases hbT : b = T
      · exact .inr hbT
      · by_cases hba : b = a
        · exact .inl hba
        · exact absurd ((if_neg hbT).trans (if_neg hba)) z
theorem walk_ofT {l : PySem.W.OpenLaw} {n k : Nat} {q : Program} {loose : List Str} {XP : (Str → Option Value) → Heap → Prop} {YP : World → Heap → Prop} {d : DefRec} {K : Params → PySem.W.Frag} {CX : World → CXT} {sp : World → Addr → Sp} {x y : Str} {ln col : Int} {qq : Str}
    (hn : l.most = some n) (hn2 : n ≤ sizeLine) (hdf : d.params.defaults = []) (hr : Room k callerA)
    (hY : ∀ (w : World) (h : Heap), YP w h → (K w.params).In h) (hnt : ∀ w : World, PySem.W.noTabs (K w.params) = true) (hrec : ∃ d', (recsOf q).find? (fun e => e.name == y) = some d')
    (F : ∀ (w : World) (mg : Str → Option Value) (fa : Addr) (h : Heap), (K w.params).In h → h.Ns mainGlobals mg → mg d.name = some (.ref fa) → ∀ c P, TabAt y mg h c P →
      ∃ fd : FuncData, (∀ (s : Shared) (u : Value), BindsTo s fd ⟨[u], []⟩ [(x, u)]) ∧
        ∀ base : Heap, (K w.params).In base → base.Ns mainGlobals mg → PySem.W.CodeHd base c P → Bmain mg base → FnOk l.prog w (K w.params) mg base (CX w) k fa fd [x] (sp w P))
    (hsp : ∀ (w : World) (P : Addr) (H : Hp) (a : Addr) (ns : List Int), ns.length ≤ n → H P = some (.cod ln col qq) → SqL (K w.params) H a (ns.map V.int) → sp w P [.ref a] H (fun v _ => v = .bl true) fun _ _ _ => False)
    (hCX : ∀ (w : World) (H : Hp) (s : Shared) (e : Value) (s' : Shared), CX w [] H s (fun _ _ _ => False) e s' → False) :
    PySem.W.WalkO q loose XP YP l.row.toRowW d [] (fun f vs => PySem.call f vs) := by
  refine Att.attach_call hn hdf fun w s₀ s₁ mg mb fa o pm cd doc a vs ns G Y ho hd hcd hmg hobj hints hlen hg => ?_
  have KX := hY w _ Y
  obtain ⟨d', hd'⟩ := hrec
  obtain ⟨c, P, hT⟩ := tabAt_of G.T hd'
  obtain ⟨fd, hb, hF⟩ := F w mg fa _ KX G.T.g hmg c P hT
  exact law_callT (ln := ln) (col := col) (q := qq) KX G.T.g G.T.b G.T.builtins G.T.nolimit hg hT G.T.bmain (hnt w) hobj hints (Nat.le_trans hlen hn2) hr hF hb (fun H hO hS => hsp w P H a ns hlen hO hS) fun H e s' => hCX w H s₁ e s'
section
variable {P : Program} {w : World} {K : PySem.W.Frag} {mg : Str → Option Value} {base : Heap}
theorem Fun.okC {x qual : Str} {st : Stmt} {f : Addr} {fd : FuncData} {N ps : List Str} {k : Nat} {sp : Sp} (F : Fun K x qual st f fd) (S : FnScope N ps (defScope st)) (len : ∀ vs H Q E, sp vs H Q E → vs.length = ps.length)
    (hbody : ∀ (cdv : Value), fd.code = cdv → ∀ (A : Around) (outer : List Env) (s : Shared) (H : Hp) (vs : List V) (Q : VK) (E : XK), Room k (A.deeper (envOfC qual (defScope st) s.heap.objs.size f cdv)) → sp vs H Q E →
      ∃ t, PSs (cxOf CX0 P w K mg base N qual (defScope st) f cdv A outer s H E).nox (defBody st) t ∧ t { nx := fun _ H' => Q .non H', rt := Q } (start N vs) H) : FnOk P w K mg base CX0 (k + 1) f fd ps sp := by
  obtain ⟨oc, od, kV, doc, pm, an, cdv, ct, osl, rfl, lk, hcd⟩ := F.ex
  refine fn_of lk hcd S len fun A outer s H vs Q E hr hsp => ?_
  obtain ⟨t, h, q⟩ := hbody cdv rfl A outer s H vs Q E hr hsp
  exact ⟨t, h.nox, q⟩
theorem tab_code {h : Heap} {x : Str} {c T f : Addr} {oc : Value} {od : Option Addr} {fd : FuncData} {sl : Array (Option Value)} (X : K.In h) (G : h.Ns mainGlobals mg) (t : TabAt x mg h c T) (a : PySem.W.nsIn K mainGlobals x = some (some (.ref f)))
    (l : K.lookup f = some ⟨oc, od, .func fd, sl⟩) : fd.code = .ref c := by
  obtain ⟨ff, o, fd', h1, h2, h3, h4⟩ := t.fn
  have e := PySem.W.mg_of X G a
  rw [h1] at e; cases e
  have e2 := X _ _ l
  rw [h2] at e2; cases e2
  cases h3
  exact h4
theorem Cal.imp {k : Nat} {x : Str} {sp sp' : Sp} (C : Cal P w K mg base k x sp) (h : ∀ vs H Q E, sp' vs H Q E → sp vs H Q E) : Cal P w K mg base k x sp' :=
  let ⟨f, fd, ps, F, b, kp, m⟩ := C; ⟨f, fd, ps, F.imp h, b, kp, m⟩
end
inductive M2 (C1 C2 : Addr) (m : Str) (sp1 sp2 : Sp) (t : TA) (σ : St) (x : V) (H1 : Hp) (Q : VK) : Prop where
  | a (a dx : Addr) (fs : List (Str × V)) (hx : x = .ref a) (ha : H1 a = some (.ins C1 dx fs)) (hf : fs.lookup m = none) (q : t σ H1 fun vs H2 => sp1 (x :: vs) H2 Q E0)
  | b (a dx : Addr) (fs : List (Str × V)) (hx : x = .ref a) (ha : H1 a = some (.ins C2 dx fs)) (hf : fs.lookup m = none) (q : t σ H1 fun vs H2 => sp2 (x :: vs) H2 Q E0)
section
variable {X : Cx} {k1 k2 : Nat} {m : Str} {sp1 sp2 : Sp} {pos apos : Pos} {e o : Expr} {es : List Expr} {t : TA} {ta : TE} {C1 C2 : Addr}
end
end L2
set_option linter.all false
namespace K9
def g (a b : Int) : Int := (Int.gcd a b : Nat)
def mk (a b : Int) : Int × Int := (a / g a b, b / g a b)
theorem g_pos {a b : Int} (h : 0 < b) : 0 < g a b := by
  have : 0 < Int.gcd a b := Int.gcd_pos_of_ne_zero_right a (by omega)
  unfold g; omega
theorem g_le {a b : Int} (h : 0 < b) : g a b ≤ b := Int.le_of_dvd h (Int.gcd_dvd_right a b)
theorem g_step {x y : Int} (hx : 0 ≤ x) (hy : 0 < y) : g y (x % y) = g x y := by
  unfold g
  have e : Int.gcd y (x % y) = Int.gcd x y := by
    have h1 := Int.gcd_sub_mul_left_right y x (x / y)
    rw [show x - y * (x / y) = x % y by rw [Int.emod_def]] at h1
    rw [h1, Int.gcd_comm]
  rw [e]
theorem g_zero {x : Int} (hx : 0 ≤ x) : g x 0 = x := by unfold g; simp; omega
theorem g_abs (a b : Int) : g (if a < 0 then -a else a) (if b < 0 then -b else b) = g a b := by
  unfold g
  split <;> split <;> simp
theorem mk_pos {a b : Int} (h : 0 < b) : 1 ≤ (mk a b).2 := by
  have h1 := g_pos (a := a) h
  have h2 := g_le (a := a) h
  show 1 ≤ b / g a b
  have := Int.ediv_pos_of_pos_of_dvd h (Int.le_of_lt h1) (Int.gcd_dvd_right a b)
  omega
theorem mk_le {a b : Int} (h : 0 < b) : (mk a b).2 ≤ b := Int.ediv_le_self _ (Int.le_of_lt h)
theorem mk_abs {a b B : Int} (h : 0 < b) (h1 : -B ≤ a) (h2 : a ≤ B) : -B ≤ (mk a b).1 ∧ (mk a b).1 ≤ B := by
  have hg := g_pos (a := a) h
  obtain ⟨k, hk⟩ := Int.gcd_dvd_left a b
  have e : (mk a b).1 = k := by
    show a / g a b = k
    have hk' : a = g a b * k := hk
    rw [hk', show g (g a b * k) b = g a b by rw [← hk']]
    exact Int.mul_ediv_cancel_left k (by omega)
  rw [e]
  have hk' : a = g a b * k := hk
  generalize g a b = c at *
  constructor
  · rcases Int.le_total 0 k with h0 | h0
    · have := Int.mul_nonneg (show 0 ≤ c by omega) h0
      omega
    · have : c * k ≤ 1 * k := Int.mul_le_mul_of_nonpos_right (by omega) h0
      omega
  · rcases Int.le_total 0 k with h0 | h0
    · have : 1 * k ≤ c * k := Int.mul_le_mul_of_nonneg_right (by omega) h0
      omega
    · have : c * k ≤ 0 := Int.mul_nonpos_of_nonneg_of_nonpos (by omega) h0
      omega
theorem mk_co {a b : Int} (h : 0 < b) : g (mk a b).1 (mk a b).2 = 1 := by
  have hg := g_pos (a := a) h
  have : Int.gcd (a / (Int.gcd a b : Nat)) (b / (Int.gcd a b : Nat)) = 1 := by
    have := Int.gcd_ediv_gcd_ediv_gcd (i := a) (j := b) (by have : 0 < g a b := hg; unfold g at this; omega)
    exact this
  show g (a / g a b) (b / g a b) = 1
  unfold g
  rw [this]; rfl
theorem mk_same {a b : Int} (h : 0 < b) : (mk a b).1 * b = a * (mk a b).2 := by
  have hg := g_pos (a := a) h
  obtain ⟨k, hk⟩ := Int.gcd_dvd_left a b
  obtain ⟨l, hl⟩ := Int.gcd_dvd_right a b
  have hk' : a = g a b * k := hk
  have hl' : b = g a b * l := hl
  show a / g a b * b = a * (b / g a b)
  have e1 : a / g a b = k := by
    have : a / g a b = g a b * k / g a b := by rw [← hk']
    rw [this]; exact Int.mul_ediv_cancel_left k (by omega)
  have e2 : b / g a b = l := by
    have : b / g a b = g a b * l / g a b := by rw [← hl']
    rw [this]; exact Int.mul_ediv_cancel_left l (by omega)
  rw [e1, e2]
  calc k * b = k * (g a b * l) := by rw [← hl']
    _ = (g a b * k) * l := by rw [← Int.mul_assoc, Int.mul_comm k]
    _ = a * l := by rw [← hk']
theorem mk_zero {b : Int} (h : 0 < b) : mk 0 b = (0, 1) := by
  have e : g 0 b = b := by unfold g; simp; omega
  unfold mk
  rw [e, Int.ediv_self (by omega)]; simp
end K9
set_option linter.all false
namespace Pick
open Hull
def cross (p q : P) : Int := p.1 * q.2 - p.2 * q.1
def gc (p q : P) : Int := (Int.gcd (q.1 - p.1) (q.2 - p.2) : Nat)
def cdiv (a w : Int) : Int := -((-a) / w)
def ceilAt (p q : P) (x : Int) : Int := p.2 + cdiv ((q.2 - p.2) * (x - p.1)) (q.1 - p.1)
end Pick
set_option linter.all false
namespace Pick
open Hull
def ew (p q : P) : Int := cross p q + gc p q
def cl : List P → Int → Int
  | p :: q :: r, x => if p.1 = q.1 then p.2 else if x < q.1 then ceilAt p q x else cl (q :: r) x
  | [p], _ => p.2
  | [], _ => 0
end Pick
set_option linter.all false
namespace Pick
open Hull
end Pick
set_option linter.all false
namespace Pick
open Hull
end Pick
set_option linter.all false
namespace Pick
open Hull
def ab (a : Int) : Int := if a < 0 then -a else a
def far (p q : P) : Int := ab (q.1 - p.1) + ab (q.2 - p.2)
section
variable {row : List P} (hrow : row.Pairwise lt)
include hrow
end
end Pick
namespace Pick
open Hull
end Pick
namespace Pick
open Hull
end Pick
set_option linter.all false
namespace SepM
open Hull Pick
def dot (w x : P) : Int := w.1 * x.1 + w.2 * x.2
theorem bary (p q r s : P) : turn p q r * s.1 = turn q r s * p.1 + turn r p s * q.1 + turn p q s * r.1 ∧ turn p q r * s.2 = turn q r s * p.2 + turn r p s * q.2 + turn p q s * r.2 ∧ turn p q r = turn q r s + turn r p s + turn p q s := by
  unfold turn; refine ⟨?_, ?_, ?_⟩ <;> grind
end SepM
set_option linter.all false
namespace Mix
open K9 Hull
theorem co_dvd {p q s r : Int} (h : g p q = 1) (e : p * s = r * q) : q ∣ s := by
  have h1 : Int.gcd p q = 1 := by unfold g at h; omega
  have h2 : Nat.Coprime q.natAbs p.natAbs := by
    have : Nat.gcd q.natAbs p.natAbs = 1 := by rw [Nat.gcd_comm]; exact h1
    exact this
  have h3 : q.natAbs ∣ p.natAbs * s.natAbs := by
    rw [← Int.natAbs_mul, e, Int.natAbs_mul]; exact Nat.dvd_mul_left ..
  exact Int.natAbs_dvd_natAbs.mp (h2.dvd_of_dvd_mul_left h3)
theorem mk_uniq {a b c d : Int} (hb : 0 < b) (hd : 0 < d) (h : a * d = c * b) : mk a b = mk c d := by
  have p1 := mk_pos (a := a) hb
  have p2 := mk_pos (a := c) hd
  have s1 := mk_same (a := a) hb
  have s2 := mk_same (a := c) hd
  have c1 := mk_co (a := a) hb
  have c2 := mk_co (a := c) hd
  generalize mk a b = P at *
  generalize mk c d = R at *
  obtain ⟨p, q⟩ := P
  obtain ⟨r, s⟩ := R
  dsimp only at *
  have hbd : 0 < b * d := Int.mul_pos hb hd
  have e : p * s = r * q := by
    have k : (b * d) * (p * s) = (b * d) * (r * q) := by
      calc (b * d) * (p * s) = (p * b) * (d * s) := by grind
        _ = a * q * (d * s) := by rw [s1]
        _ = (a * d) * (q * s) := by grind
        _ = (c * b) * (q * s) := by rw [h]
        _ = (c * s) * (b * q) := by grind
        _ = (r * d) * (b * q) := by rw [s2]
        _ = (b * d) * (r * q) := by grind
    exact Int.eq_of_mul_eq_mul_left (by omega) k
  have d1 : q ∣ s := co_dvd c1 e
  have d2 : s ∣ q := co_dvd c2 e.symm
  have eq : q = s := Int.dvd_antisymm (by omega) (by omega) d1 d2
  subst eq
  have : p = r := Int.eq_of_mul_eq_mul_right (by omega) e
  rw [this]
theorem mk_self {p : Int × Int} (h : 0 < p.2) (hc : g p.1 p.2 = 1) : mk p.1 p.2 = p := by
  unfold mk; rw [hc]; simp
theorem mk_int {s W : Int} (h : 0 < W) : mk (s * W) W = (s, 1) := by
  have h1 : g s 1 = 1 := by unfold g; simp
  rw [mk_uniq (c := s) (d := 1) h (by decide) (by rw [Int.mul_one])]
  exact mk_self (p := (s, 1)) (show (0 : Int) < 1 by decide) h1
end Mix
set_option linter.all false
namespace Cut
open Hull SepM
def Sgn (am : List Int) : Prop := (∀ a ∈ am, 0 < a) ∨ ∀ a ∈ am, a < 0
def lineAm (a b s : P) : List Int := if turn a b s ≠ 0 then [0, 0] else [dot (sb b a) b - dot (sb b a) s, dot (sb b a) s - dot (sb b a) a]
def amts : List P → P → List Int
  | [a], s => [if a = s then 1 else 0]
  | [a, b], s => lineAm a b s
  | [a, b, c], s => [turn b c s, turn c a s, turn a b s]
  | _, _ => []
def crossAm (r0 r1 l0 l1 : P) : List Int := [-turn l0 l1 r1, turn l0 l1 r0]
def ones (n : Nat) : List (List Nat) := (List.range n).map fun i => [i]
def grow1 (n : Nat) (g : List Nat) : List (List Nat) := (List.range (n - (g.getLastD 0 + 1))).map fun i => g ++ [g.getLastD 0 + 1 + i]
def grown (gs : List (List Nat)) (n : Nat) : List (List Nat) := gs.flatMap (grow1 n)
def twos (n : Nat) : List (List Nat) := grown (ones n) n
def threes (n : Nat) : List (List Nat) := grown (twos n) n
theorem mem_ones {n : Nat} {g : List Nat} : g ∈ ones n ↔ ∃ i, i < n ∧ g = [i] := by
  unfold ones; rw [List.mem_map]
  constructor
  · rintro ⟨i, h, rfl⟩; exact ⟨i, List.mem_range.mp h, rfl⟩
  · rintro ⟨i, h, rfl⟩; exact ⟨i, List.mem_range.mpr h, rfl⟩
theorem mem_twos {n : Nat} {g : List Nat} : g ∈ twos n ↔ ∃ i j, i < j ∧ j < n ∧ g = [i, j] := by
  unfold twos grown; rw [List.mem_flatMap]
  constructor
  · rintro ⟨x, hx, hg⟩
    obtain ⟨i, hi, rfl⟩ := mem_ones.mp hx
    unfold grow1 at hg
    obtain ⟨k, hk, rfl⟩ := List.mem_map.mp hg
    have := List.mem_range.mp hk
    have e : ([i] : List Nat).getLastD 0 = i := rfl
    rw [e] at this ⊢
    exact ⟨i, i + 1 + k, by omega, by omega, rfl⟩
  · rintro ⟨i, j, h1, h2, rfl⟩
    refine ⟨[i], mem_ones.mpr ⟨i, by omega, rfl⟩, ?_⟩
    unfold grow1
    refine List.mem_map.mpr ⟨j - (i + 1), List.mem_range.mpr ?_, ?_⟩
    · show j - (i + 1) < n - (i + 1); omega
    · show [i] ++ [i + 1 + (j - (i + 1))] = [i, j]
      rw [show i + 1 + (j - (i + 1)) = j by omega]; rfl
theorem mem_threes {n : Nat} {g : List Nat} : g ∈ threes n ↔ ∃ i j k, i < j ∧ j < k ∧ k < n ∧ g = [i, j, k] := by
  unfold threes; unfold grown; rw [List.mem_flatMap]
  constructor
  · rintro ⟨x, hx, hg⟩
    obtain ⟨i, j, h1, h2, rfl⟩ := mem_twos.mp hx
    unfold grow1 at hg
    obtain ⟨k, hk, rfl⟩ := List.mem_map.mp hg
    have := List.mem_range.mp hk
    have e : ([i, j] : List Nat).getLastD 0 = j := rfl
    rw [e] at this ⊢
    exact ⟨i, j, j + 1 + k, h1, by omega, by omega, rfl⟩
  · rintro ⟨i, j, k, h1, h2, h3, rfl⟩
    refine ⟨[i, j], mem_twos.mpr ⟨i, j, h1, by omega, rfl⟩, ?_⟩
    unfold grow1
    refine List.mem_map.mpr ⟨k - (j + 1), List.mem_range.mpr ?_, ?_⟩
    · show k - (j + 1) < n - (j + 1); omega
    · show [i, j] ++ [j + 1 + (k - (j + 1))] = [i, j, k]
      rw [show j + 1 + (k - (j + 1)) = k by omega]; rfl
def groups (n : Nat) : List (List Nat) := ones n ++ twos n ++ threes n
def at_ (h : List P) (n : Nat) : P := h.getD n (0, 0)
def sumA (L : List (Nat × Int)) (f : Nat → Int) : Int := (L.map fun x => x.2 * f x.1).sum
structure MxA (h : List P) (L : List (Nat × Int)) (W : Int) : Prop where
  pos : ∀ x ∈ L, 0 < x.2
  sum : sumA L (fun _ => 1) = W
  rise : (L.map (·.1)).Pairwise (· < ·)
  lt : ∀ x ∈ L, x.1 < h.length
  len : L.length ≤ 3
  ne : L ≠ []
  bd : W ≤ 100000000
theorem MxA.wpos {h : List P} {L : List (Nat × Int)} {W : Int} (m : MxA h L W) : 0 < W := by
  have hs := m.sum
  have hp := m.pos
  match L, m.ne with
  | x :: L, _ =>
    have h1 : ∀ L : List (Nat × Int), (∀ x ∈ L, 0 < x.2) → 0 ≤ sumA L (fun _ => 1) := by
      intro L
      induction L with
      | nil => intro _; exact Int.le_refl _
      | cons y L ih =>
        intro hL
        show 0 ≤ y.2 * 1 + sumA L (fun _ => 1)
        have := hL y (by simp)
        have := ih fun x hx => hL x (by simp [hx])
        omega
    have h2 : x.2 * 1 + sumA L (fun _ => 1) = W := hs
    have := hp x (by simp)
    have := h1 L fun y hy => hp y (by simp [hy])
    omega
abbrev Part := Nat × (Int × Int)
def parts (L : List (Nat × Int)) (W : Int) : List Part := L.map fun x => (x.1, K9.mk x.2 W)
structure Found (h1 h2 : List P) (p1 p2 : List Part) : Prop where
  ex : ∃ L1 W1 L2 W2, p1 = parts L1 W1 ∧ p2 = parts L2 W2 ∧ MxA h1 L1 W1 ∧ MxA h2 L2 W2 ∧
    sumA L1 (fun n => (at_ h1 n).1) * W2 = sumA L2 (fun n => (at_ h2 n).1) * W1 ∧ sumA L1 (fun n => (at_ h1 n).2) * W2 = sumA L2 (fun n => (at_ h2 n).2) * W1
theorem Found.swap {h1 h2 : List P} {p1 p2 : List Part} (f : Found h1 h2 p1 p2) : Found h2 h1 p2 p1 := by
  obtain ⟨L1, W1, L2, W2, a, b, c, d, e, g⟩ := f.ex
  exact ⟨L2, W2, L1, W1, b, a, d, c, e.symm, g.symm⟩
def ab (a : Int) : Int := if a < 0 then -a else a
def wgL (places : List Nat) (am : List Int) : List (Nat × Int) := (places.zip am).map fun x => (x.1, ab x.2)
def wgW (am : List Int) : Int := ab am.sum
theorem abs_sum : ∀ {am : List Int}, Sgn am → (am.map ab).sum = ab am.sum := by
  intro am h
  rcases h with h | h
  · have e : am.map ab = am := by
      have : ∀ a ∈ am, ab a = a := fun a ha => by unfold ab; rw [if_neg (by have := h a ha; omega)]
      exact (List.map_congr_left this).trans (List.map_id am)
    have : 0 ≤ am.sum := by
      clear e
      induction am with
      | nil => exact Int.le_refl _
      | cons a am ih =>
        rw [List.sum_cons]
        have := h a (by simp)
        have := ih fun b hb => h b (by simp [hb])
        omega
    rw [e]; unfold ab; rw [if_neg (by omega)]
  · have e : am.map ab = am.map (fun a => -a) := List.map_congr_left fun a ha => by unfold ab; rw [if_pos (h a ha)]
    have s : ∀ l : List Int, (l.map fun a => -a).sum = -l.sum := by
      intro l; induction l with
      | nil => rfl
      | cons a l ih => rw [List.map_cons, List.sum_cons, List.sum_cons, ih]; omega
    have : am.sum ≤ 0 := by
      clear e
      induction am with
      | nil => exact Int.le_refl _
      | cons a am ih =>
        rw [List.sum_cons]
        have := h a (by simp)
        have := ih fun b hb => h b (by simp [hb])
        omega
    rw [e, s]; unfold ab; split <;> omega
theorem wg1 {h : List P} {i : Nat} {s : P} (hi : i < h.length) (hs : Sgn (amts [at_ h i] s)) : MxA h (wgL [i] (amts [at_ h i] s)) (wgW (amts [at_ h i] s)) ∧
    sumA (wgL [i] (amts [at_ h i] s)) (fun n => (at_ h n).1) = s.1 * wgW (amts [at_ h i] s) ∧ sumA (wgL [i] (amts [at_ h i] s)) (fun n => (at_ h n).2) = s.2 * wgW (amts [at_ h i] s) := by
  have e : at_ h i = s := by
    rcases hs with g | g
    · have := g _ (List.mem_singleton.mpr rfl)
      by_cases z : at_ h i = s
      · exact z
      · have this : 0 < (if at_ h i = s then (1 : Int) else 0) := this
        rw [if_neg z] at this; omega
    · have := g _ (List.mem_singleton.mpr rfl)
      have this : (if at_ h i = s then (1 : Int) else 0) < 0 := this
      split at this <;> omega
  have a1 : amts [at_ h i] s = [1] := by show [if at_ h i = s then (1 : Int) else 0] = [1]; rw [if_pos e]
  rw [a1]
  refine ⟨⟨?_, rfl, ?_, ?_, ?_, ?_, ?_⟩, ?_, ?_⟩
  · intro x hx; simp [wgL, ab] at hx; rw [hx]; show (0 : Int) < 1; decide
  · simp [wgL]
  · intro x hx; simp [wgL, ab] at hx; rw [hx]; exact hi
  · simp [wgL]
  · simp [wgL]
  · simp [wgW, ab]
  · show 1 * (at_ h i).1 + 0 = s.1 * 1; rw [e]; omega
  · show 1 * (at_ h i).2 + 0 = s.2 * 1; rw [e]; omega
theorem sgn_ab {a : Int} {am : List Int} (h : Sgn am) (ha : a ∈ am) : 0 < ab a := by
  rcases h with g | g
  · have := g a ha; unfold ab; rw [if_neg (by omega)]; exact this
  · have := g a ha; unfold ab; rw [if_pos this]; omega
theorem sgn2 {a b x y s : Int} (h : Sgn [a, b]) (e : a * x + b * y = s * (a + b)) : ab a * x + ab b * y = s * ab (a + b) := by
  rcases h with g | g
  · have g1 := g a (by simp)
    have g2 := g b (by simp)
    unfold ab; rw [if_neg (by omega), if_neg (by omega), if_neg (by omega)]; exact e
  · have g1 := g a (by simp)
    have g2 := g b (by simp)
    unfold ab; rw [if_pos g1, if_pos g2, if_pos (by omega)]
    rw [Int.neg_mul, Int.neg_mul, Int.mul_neg, ← e]; omega
theorem sgn3 {a b c x y z s : Int} (h : Sgn [a, b, c]) (e : a * x + b * y + c * z = s * (a + b + c)) : ab a * x + ab b * y + ab c * z = s * ab (a + b + c) := by
  rcases h with g | g
  · have g1 := g a (by simp)
    have g2 := g b (by simp)
    have g3 := g c (by simp)
    unfold ab; rw [if_neg (by omega), if_neg (by omega), if_neg (by omega), if_neg (by omega)]; exact e
  · have g1 := g a (by simp)
    have g2 := g b (by simp)
    have g3 := g c (by simp)
    unfold ab; rw [if_pos g1, if_pos g2, if_pos g3, if_pos (by omega)]
    rw [Int.neg_mul, Int.neg_mul, Int.neg_mul, Int.mul_neg, ← e]; omega
def Bd (p : P) : Prop := (-1000 ≤ p.1 ∧ p.1 ≤ 1000) ∧ -1000 ≤ p.2 ∧ p.2 ≤ 1000
theorem mul_bd {a b A B : Int} (h1 : -A ≤ a) (h2 : a ≤ A) (h3 : -B ≤ b) (h4 : b ≤ B) : -(A * B) ≤ a * b ∧ a * b ≤ A * B := by
  have hA : 0 ≤ A := by omega
  have hB : 0 ≤ B := by omega
  have e1 : ab a ≤ A := by unfold ab; split <;> omega
  have e2 : ab b ≤ B := by unfold ab; split <;> omega
  have n1 : 0 ≤ ab a := by unfold ab; split <;> omega
  have n2 : 0 ≤ ab b := by unfold ab; split <;> omega
  have k : ab a * ab b ≤ A * B := Int.mul_le_mul e1 e2 n2 hA
  have e : ab a * ab b = ab (a * b) := by
    rcases Int.le_total 0 a with g | g <;> rcases Int.le_total 0 b with g' | g'
    · have := Int.mul_nonneg g g'
      unfold ab; rw [if_neg (by omega), if_neg (by omega), if_neg (by omega)]
    · have t := Int.mul_nonneg g (show 0 ≤ -b by omega)
      rw [Int.mul_neg] at t
      have q1 : ab a = a := by unfold ab; rw [if_neg (by omega)]
      have q2 : ab b = -b := by unfold ab; split <;> omega
      have q3 : ab (a * b) = -(a * b) := by unfold ab; split <;> omega
      rw [q1, q2, q3, Int.mul_neg]
    · have t := Int.mul_nonneg (show 0 ≤ -a by omega) g'
      rw [Int.neg_mul] at t
      have q1 : ab a = -a := by unfold ab; split <;> omega
      have q2 : ab b = b := by unfold ab; rw [if_neg (by omega)]
      have q3 : ab (a * b) = -(a * b) := by unfold ab; split <;> omega
      rw [q1, q2, q3, Int.neg_mul]
    · have t := Int.mul_nonneg (show 0 ≤ -a by omega) (show 0 ≤ -b by omega)
      rw [Int.neg_mul_neg] at t
      have q1 : ab a = -a := by unfold ab; split <;> omega
      have q2 : ab b = -b := by unfold ab; split <;> omega
      have q3 : ab (a * b) = a * b := by unfold ab; rw [if_neg (by omega)]
      rw [q1, q2, q3, Int.neg_mul_neg]
  rw [e] at k
  unfold ab at k
  split at k <;> omega
theorem turn_bd {a b c : P} (ha : Bd a) (hb : Bd b) (hc : Bd c) : -8000000 ≤ turn a b c ∧ turn a b c ≤ 8000000 := by
  unfold Bd at *
  unfold turn
  have h1 := mul_bd (a := b.1 - a.1) (A := 2000) (b := c.2 - a.2) (B := 2000) (by omega) (by omega) (by omega) (by omega)
  have h2 := mul_bd (a := b.2 - a.2) (A := 2000) (b := c.1 - a.1) (B := 2000) (by omega) (by omega) (by omega) (by omega)
  omega
theorem dot_bd {a b c : P} (ha : Bd a) (hb : Bd b) (hc : Bd c) : -4000000 ≤ dot (sb b a) c ∧ dot (sb b a) c ≤ 4000000 := by
  unfold Bd at *
  unfold dot sb
  dsimp only
  have h1 := mul_bd (a := b.1 - a.1) (A := 2000) (b := c.1) (B := 1000) (by omega) (by omega) (by omega) (by omega)
  have h2 := mul_bd (a := b.2 - a.2) (A := 2000) (b := c.2) (B := 1000) (by omega) (by omega) (by omega) (by omega)
  omega
end Cut
set_option linter.all false
namespace Cut
open Hull SepM
theorem line_id {a b s : P} (h : turn a b s = 0) :
    (dot (sb b a) b - dot (sb b a) s) * a.1 + (dot (sb b a) s - dot (sb b a) a) * b.1 = s.1 * ((dot (sb b a) b - dot (sb b a) s) + (dot (sb b a) s - dot (sb b a) a)) ∧
    (dot (sb b a) b - dot (sb b a) s) * a.2 + (dot (sb b a) s - dot (sb b a) a) * b.2 = s.2 * ((dot (sb b a) b - dot (sb b a) s) + (dot (sb b a) s - dot (sb b a) a)) := by
  unfold turn at h
  unfold dot sb
  dsimp only
  constructor <;> grind
theorem line_sgn {a b s : P} (h : Sgn (lineAm a b s)) : turn a b s = 0 ∧ lineAm a b s = [dot (sb b a) b - dot (sb b a) s, dot (sb b a) s - dot (sb b a) a] := by
  by_cases z : turn a b s = 0
  · exact ⟨z, by unfold lineAm; rw [if_neg (by simpa using z)]⟩
  · have e : lineAm a b s = [0, 0] := by unfold lineAm; rw [if_pos z]
    rw [e] at h
    rcases h with g | g
    · have := g 0 (by simp); omega
    · have := g 0 (by simp); omega
theorem rise2 {i j : Nat} (h : i < j) : ([i, j] : List Nat).Pairwise (· < ·) := by simp [h]
theorem rise3 {i j k : Nat} (h : i < j) (g : j < k) : ([i, j, k] : List Nat).Pairwise (· < ·) := by simp [h, g]; omega
theorem sum2 {a b : Int} (h : Sgn [a, b]) : ab a + ab b = ab (a + b) := by
  have := sgn2 (x := 1) (y := 1) (s := 1) h (by omega); omega
theorem sum3 {a b c : Int} (h : Sgn [a, b, c]) : ab a + ab b + ab c = ab (a + b + c) := by
  have := sgn3 (x := 1) (y := 1) (z := 1) (s := 1) h (by omega); omega
theorem mk2 {h : List P} {i j : Nat} {a b : Int} (hij : i < j) (hj : j < h.length) (hs : Sgn [a, b]) (B : ab (a + b) ≤ 100000000) : MxA h (wgL [i, j] [a, b]) (wgW [a, b]) := by
  have e : wgW [a, b] = ab (a + b) := by show ab (a + (b + 0)) = _; rw [Int.add_zero]
  rw [e]
  refine ⟨?_, ?_, rise2 hij, ?_, by show 2 ≤ 3; decide, by simp [wgL], B⟩
  · intro x hx
    have : x = (i, ab a) ∨ x = (j, ab b) := by simpa [wgL] using hx
    rcases this with rfl | rfl
    · exact sgn_ab hs (by simp)
    · exact sgn_ab hs (by simp)
  · show ab a * 1 + (ab b * 1 + 0) = _; rw [← sum2 hs]; omega
  · intro x hx
    have : x = (i, ab a) ∨ x = (j, ab b) := by simpa [wgL] using hx
    rcases this with rfl | rfl
    · show i < _; omega
    · exact hj
theorem mk3 {h : List P} {i j k : Nat} {a b c : Int} (hij : i < j) (hjk : j < k) (hk : k < h.length) (hs : Sgn [a, b, c]) (B : ab (a + b + c) ≤ 100000000) : MxA h (wgL [i, j, k] [a, b, c]) (wgW [a, b, c]) := by
  have e : wgW [a, b, c] = ab (a + b + c) := by show ab (a + (b + (c + 0))) = _; rw [Int.add_zero, Int.add_assoc]
  rw [e]
  refine ⟨?_, ?_, rise3 hij hjk, ?_, by show 3 ≤ 3; decide, by simp [wgL], B⟩
  · intro x hx
    have : x = (i, ab a) ∨ x = (j, ab b) ∨ x = (k, ab c) := by simpa [wgL] using hx
    rcases this with rfl | rfl | rfl
    · exact sgn_ab hs (by simp)
    · exact sgn_ab hs (by simp)
    · exact sgn_ab hs (by simp)
  · show ab a * 1 + (ab b * 1 + (ab c * 1 + 0)) = _; rw [← sum3 hs]; omega
  · intro x hx
    have : x = (i, ab a) ∨ x = (j, ab b) ∨ x = (k, ab c) := by simpa [wgL] using hx
    rcases this with rfl | rfl | rfl
    · show i < _; omega
    · show j < _; omega
    · exact hk
theorem wg {h : List P} (hb : ∀ p ∈ h, Bd p) {g : List Nat} (hg : g ∈ groups h.length) {s : P} (bs : Bd s) (hs : Sgn (amts (g.map (at_ h)) s)) :
    MxA h (wgL g (amts (g.map (at_ h)) s)) (wgW (amts (g.map (at_ h)) s)) ∧
    sumA (wgL g (amts (g.map (at_ h)) s)) (fun n => (at_ h n).1) = s.1 * wgW (amts (g.map (at_ h)) s) ∧ sumA (wgL g (amts (g.map (at_ h)) s)) (fun n => (at_ h n).2) = s.2 * wgW (amts (g.map (at_ h)) s) := by
  have bdh : ∀ n, n < h.length → Bd (at_ h n) := fun n hn => by
    have e : at_ h n = h[n] := by unfold at_; rw [List.getD_eq_getElem?_getD, List.getElem?_eq_getElem hn]; rfl
    rw [e]; exact hb _ (List.getElem_mem hn)
  unfold groups at hg
  rcases List.mem_append.mp hg with hg | hg
  · rcases List.mem_append.mp hg with hg | hg
    · obtain ⟨i, hi, rfl⟩ := mem_ones.mp hg
      exact wg1 hi hs
    · obtain ⟨i, j, hij, hj, rfl⟩ := mem_twos.mp hg
      have hs' : Sgn (lineAm (at_ h i) (at_ h j) s) := hs
      obtain ⟨z, e⟩ := line_sgn hs'
      have e' : amts ([i, j].map (at_ h)) s = [dot (sb (at_ h j) (at_ h i)) (at_ h j) - dot (sb (at_ h j) (at_ h i)) s, dot (sb (at_ h j) (at_ h i)) s - dot (sb (at_ h j) (at_ h i)) (at_ h i)] := e
      rw [e'] at hs ⊢
      obtain ⟨i1, i2⟩ := line_id z
      have b1 := bdh i (by omega)
      have b2 := bdh j hj
      have d1 := dot_bd b1 b2 b2
      have d2 := dot_bd b1 b2 bs
      have d3 := dot_bd b1 b2 b1
      refine ⟨mk2 hij hj hs (by unfold ab; split <;> omega), ?_, ?_⟩
      · have := sgn2 hs i1
        show ab _ * (at_ h i).1 + (ab _ * (at_ h j).1 + 0) = s.1 * ab (_ + (_ + 0))
        rw [Int.add_zero, Int.add_zero]; exact this
      · have := sgn2 hs i2
        show ab _ * (at_ h i).2 + (ab _ * (at_ h j).2 + 0) = s.2 * ab (_ + (_ + 0))
        rw [Int.add_zero, Int.add_zero]; exact this
  · obtain ⟨i, j, k, hij, hjk, hk, rfl⟩ := mem_threes.mp hg
    have e' : amts ([i, j, k].map (at_ h)) s = [turn (at_ h j) (at_ h k) s, turn (at_ h k) (at_ h i) s, turn (at_ h i) (at_ h j) s] := rfl
    rw [e'] at hs ⊢
    obtain ⟨y1, y2, y3⟩ := bary (at_ h i) (at_ h j) (at_ h k) s
    have b1 := bdh i (by omega)
    have b2 := bdh j (by omega)
    have b3 := bdh k hk
    have d1 := turn_bd b2 b3 bs
    have d2 := turn_bd b3 b1 bs
    have d3 := turn_bd b1 b2 bs
    refine ⟨mk3 hij hjk hk hs (by unfold ab; split <;> omega), ?_, ?_⟩
    · have := sgn3 (x := (at_ h i).1) (y := (at_ h j).1) (z := (at_ h k).1) (s := s.1) hs (by rw [← y1, y3]; exact Int.mul_comm _ _)
      show ab _ * (at_ h i).1 + (ab _ * (at_ h j).1 + (ab _ * (at_ h k).1 + 0)) = s.1 * ab (_ + (_ + (_ + 0)))
      rw [Int.add_zero, Int.add_zero, ← Int.add_assoc, ← Int.add_assoc]; exact this
    · have := sgn3 (x := (at_ h i).2) (y := (at_ h j).2) (z := (at_ h k).2) (s := s.2) hs (by rw [← y2, y3]; exact Int.mul_comm _ _)
      show ab _ * (at_ h i).2 + (ab _ * (at_ h j).2 + (ab _ * (at_ h k).2 + 0)) = s.2 * ab (_ + (_ + (_ + 0)))
      rw [Int.add_zero, Int.add_zero, ← Int.add_assoc, ← Int.add_assoc]; exact this
theorem found_held {one other : List P} (hb2 : ∀ p ∈ other, Bd p) {i : Nat} (hi : i < one.length) (bi : Bd (at_ one i)) {g : List Nat} (hg : g ∈ groups other.length) (hs : Sgn (amts (g.map (at_ other)) (at_ one i))) :
    Found one other (parts [(i, 1)] 1) (parts (wgL g (amts (g.map (at_ other)) (at_ one i))) (wgW (amts (g.map (at_ other)) (at_ one i)))) := by
  obtain ⟨m, x, y⟩ := wg hb2 hg bi hs
  refine ⟨[(i, 1)], 1, _, _, rfl, rfl, ⟨?_, rfl, by simp, ?_, by simp, by simp, by decide⟩, m, ?_, ?_⟩
  · intro z hz; rw [List.mem_singleton.mp hz]; show (0 : Int) < 1; decide
  · intro z hz; rw [List.mem_singleton.mp hz]; exact hi
  · rw [x]; show (1 * (at_ one i).1 + 0) * _ = _; rw [Int.one_mul, Int.add_zero, Int.mul_one]
  · rw [y]; show (1 * (at_ one i).2 + 0) * _ = _; rw [Int.one_mul, Int.add_zero, Int.mul_one]
theorem sgn_flip {a b s x y : Int} (h : Sgn [a, b]) (e : (a * x + b * y) = s) : ab a * x + ab b * y = (if a + b < 0 then -s else s) := by
  rcases h with g | g
  · have g1 := g a (by simp)
    have g2 := g b (by simp)
    unfold ab; rw [if_neg (by omega), if_neg (by omega), if_neg (by omega)]; exact e
  · have g1 := g a (by simp)
    have g2 := g b (by simp)
    unfold ab; rw [if_pos g1, if_pos g2, if_pos (by omega), Int.neg_mul, Int.neg_mul]; omega
theorem cross_id (r0 r1 l0 l1 : P) : (-turn l0 l1 r1 + turn l0 l1 r0) = -(-turn r0 r1 l1 + turn r0 r1 l0) ∧
    (-turn l0 l1 r1 * r0.1 + turn l0 l1 r0 * r1.1) * (-turn r0 r1 l1 + turn r0 r1 l0) = (-turn r0 r1 l1 * l0.1 + turn r0 r1 l0 * l1.1) * (-turn l0 l1 r1 + turn l0 l1 r0) ∧
    (-turn l0 l1 r1 * r0.2 + turn l0 l1 r0 * r1.2) * (-turn r0 r1 l1 + turn r0 r1 l0) = (-turn r0 r1 l1 * l0.2 + turn r0 r1 l0 * l1.2) * (-turn l0 l1 r1 + turn l0 l1 r0) := by
  unfold turn
  refine ⟨?_, ?_, ?_⟩ <;> grind
theorem flip_eq {A B S T : Int} (e : A * T = B * S) (h : S = -T) : (if S < 0 then -A else A) * ab T = (if T < 0 then -B else B) * ab S := by
  subst h
  unfold ab
  by_cases h1 : T < 0
  · rw [if_neg (by omega), if_pos h1, if_pos h1, if_neg (by omega), Int.mul_neg]
    rw [Int.mul_neg] at e
    rw [Int.neg_mul_neg]; omega
  · by_cases h2 : T = 0
    · subst h2; simp
    · rw [if_pos (by omega), if_neg h1, if_neg h1, if_pos (by omega), Int.neg_mul, Int.neg_neg]
      rw [Int.mul_neg] at e; omega
theorem found_cross {one other : List P} (hb1 : ∀ p ∈ one, Bd p) (hb2 : ∀ p ∈ other, Bd p) {i j k l : Nat} (hij : i < j) (hj : j < one.length) (hkl : k < l) (hl : l < other.length)
    (s1 : Sgn (crossAm (at_ one i) (at_ one j) (at_ other k) (at_ other l))) (s2 : Sgn (crossAm (at_ other k) (at_ other l) (at_ one i) (at_ one j))) :
    Found one other (parts (wgL [i, j] (crossAm (at_ one i) (at_ one j) (at_ other k) (at_ other l))) (wgW (crossAm (at_ one i) (at_ one j) (at_ other k) (at_ other l))))
      (parts (wgL [k, l] (crossAm (at_ other k) (at_ other l) (at_ one i) (at_ one j))) (wgW (crossAm (at_ other k) (at_ other l) (at_ one i) (at_ one j)))) := by
  have bd1 : ∀ n, n < one.length → Bd (at_ one n) := fun n hn => by
    have e : at_ one n = one[n] := by unfold at_; rw [List.getD_eq_getElem?_getD, List.getElem?_eq_getElem hn]; rfl
    rw [e]; exact hb1 _ (List.getElem_mem hn)
  have bd2 : ∀ n, n < other.length → Bd (at_ other n) := fun n hn => by
    have e : at_ other n = other[n] := by unfold at_; rw [List.getD_eq_getElem?_getD, List.getElem?_eq_getElem hn]; rfl
    rw [e]; exact hb2 _ (List.getElem_mem hn)
  have b0 := bd1 i (by omega)
  have b1 := bd1 j hj
  have c0 := bd2 k (by omega)
  have c1 := bd2 l hl
  have d1 := turn_bd c0 c1 b0
  have d2 := turn_bd c0 c1 b1
  have d3 := turn_bd b0 b1 c0
  have d4 := turn_bd b0 b1 c1
  obtain ⟨z1, z2, z3⟩ := cross_id (at_ one i) (at_ one j) (at_ other k) (at_ other l)
  refine ⟨_, _, _, _, rfl, rfl, mk2 hij hj s1 (by unfold ab; split <;> omega), mk2 hkl hl s2 (by unfold ab; split <;> omega), ?_, ?_⟩
  · have q1 := sgn_flip (x := (at_ one i).1) (y := (at_ one j).1) s1 rfl
    have q2 := sgn_flip (x := (at_ other k).1) (y := (at_ other l).1) s2 rfl
    show (ab _ * (at_ one i).1 + (ab _ * (at_ one j).1 + 0)) * ab (_ + (_ + 0)) = (ab _ * (at_ other k).1 + (ab _ * (at_ other l).1 + 0)) * ab (_ + (_ + 0))
    rw [Int.add_zero, Int.add_zero, Int.add_zero, Int.add_zero, q1, q2]
    exact flip_eq z2 z1
  · have q1 := sgn_flip (x := (at_ one i).2) (y := (at_ one j).2) s1 rfl
    have q2 := sgn_flip (x := (at_ other k).2) (y := (at_ other l).2) s2 rfl
    show (ab _ * (at_ one i).2 + (ab _ * (at_ one j).2 + 0)) * ab (_ + (_ + 0)) = (ab _ * (at_ other k).2 + (ab _ * (at_ other l).2 + 0)) * ab (_ + (_ + 0))
    rw [Int.add_zero, Int.add_zero, Int.add_zero, Int.add_zero, q1, q2]
    exact flip_eq z3 z1
end Cut
set_option linter.all false
namespace Cut
open Hull SepM
def NoMix (h : List P) (s : P) : Prop := ∀ g ∈ groups h.length, ¬ Sgn (amts (g.map (at_ h)) s)
structure Fail (one other : List P) : Prop where
  a : ∀ i, i < one.length → NoMix other (at_ one i)
  b : ∀ i, i < other.length → NoMix one (at_ other i)
  c : ∀ i j k l, i < j → j < one.length → k < l → l < other.length → ¬ (Sgn (crossAm (at_ one i) (at_ one j) (at_ other k) (at_ other l)) ∧ Sgn (crossAm (at_ other k) (at_ other l) (at_ one i) (at_ one j)))
end Cut
set_option linter.all false
namespace Cut
open Hull SepM
def insP (x : P) : List P → List P
  | [] => [x]
  | y :: l => if x.1 < y.1 ∨ (x.1 = y.1 ∧ x.2 < y.2) then x :: y :: l else if x = y then y :: l else y :: insP x l
def row (h : List P) : List P := h.foldr insP []
end Cut
set_option linter.all false
namespace Cut
open Hull SepM
section
variable {n m : Nat} {x : Nat → P}
def sg (m i : Nat) : Int := if i < m then 1 else -1
end
end Cut
set_option linter.all false
namespace Cut
open Hull SepM
section
variable {n m : Nat} {x : Nat → P}
def d2 (i j : Nat) (a b : Int) : Nat → Int := fun k => (if k = i then a else 0) + (if k = j then b else 0)
end
end Cut
set_option linter.all false
namespace Cut
open Hull SepM
section
variable {A B : List P}
def both (A B : List P) (i : Nat) : P := if i < A.length then at_ A i else at_ B (i - A.length)
end
end Cut
set_option linter.all false
namespace Cut
open Hull SepM
def mxI : List Int → Int
  | [] => 0
  | [a] => a
  | a :: b :: l => if mxI (b :: l) ≤ a then a else mxI (b :: l)
def mnI : List Int → Int
  | [] => 0
  | [a] => a
  | a :: b :: l => if a ≤ mnI (b :: l) then a else mnI (b :: l)
theorem mxI_mem : ∀ {l : List Int}, l ≠ [] → mxI l ∈ l
  | [], h => absurd rfl h
  | [a], _ => by simp [mxI]
  | a :: b :: l, _ => by
    unfold mxI
    split
    · simp
    · exact List.mem_cons_of_mem _ (mxI_mem (by simp))
theorem mxI_ge : ∀ {l : List Int} {x : Int}, x ∈ l → x ≤ mxI l
  | [], _, h => absurd h (by simp)
  | [a], x, h => by rw [List.mem_singleton.mp h]; exact Int.le_refl _
  | a :: b :: l, x, h => by
    unfold mxI
    rcases List.mem_cons.mp h with e | h
    · subst e; split <;> omega
    · have := mxI_ge h; split <;> omega
theorem mnI_mem : ∀ {l : List Int}, l ≠ [] → mnI l ∈ l
  | [], h => absurd rfl h
  | [a], _ => by simp [mnI]
  | a :: b :: l, _ => by
    unfold mnI
    split
    · simp
    · exact List.mem_cons_of_mem _ (mnI_mem (by simp))
theorem mnI_le : ∀ {l : List Int} {x : Int}, x ∈ l → mnI l ≤ x
  | [], _, h => absurd h (by simp)
  | [a], x, h => by rw [List.mem_singleton.mp h]; exact Int.le_refl _
  | a :: b :: l, x, h => by
    unfold mnI
    rcases List.mem_cons.mp h with e | h
    · subst e; split <;> omega
    · have := mnI_le h; split <;> omega
theorem mxI_eq {l : List Int} {m : Int} (hm : m ∈ l) (h : ∀ n ∈ l, n ≤ m) : m = mxI l := by
  have h1 := mxI_ge hm
  have h2 := h _ (mxI_mem (List.ne_nil_of_mem hm))
  omega
theorem mnI_eq {l : List Int} {m : Int} (hm : m ∈ l) (h : ∀ n ∈ l, m ≤ n) : m = mnI l := by
  have h1 := mnI_le hm
  have h2 := h _ (mnI_mem (List.ne_nil_of_mem hm))
  omega
def farP (w : P) (h : List P) : Int := mxI (h.map (dot w))
def nearP (w : P) (h : List P) : Int := mnI (h.map (dot w))
def perps (h : List P) : List P := h.flatMap fun a => h.map fun b => (a.2 - b.2, b.1 - a.1)
def steps (A B : List P) : List P := A.flatMap fun a => B.map fun b => sb b a
def wys (A B : List P) : List P := steps A B ++ (perps A ++ perps B)
theorem wys_ne {A B : List P} (hA : A ≠ []) (hB : B ≠ []) : 0 < (wys A B).length := by
  match A, B, hA, hB with
  | a :: A, b :: B, _, _ => simp [wys, steps]
end Cut
set_option linter.all false
namespace G6
open Hull
abbrev GP := Int × (Int × Int)
def WOk (q : Int × Int) : Prop := (0 < q.2 ∧ q.2 ≤ 100000000) ∧ K9.g q.1 q.2 = 1 ∧ -100000000 ≤ q.1 ∧ q.1 ≤ 100000000
def plusF (p q : Int × Int) : Int × Int := K9.mk (p.1 * q.2 + q.1 * p.2) (p.2 * q.2)
def totF (L : List (Int × Int)) : Int × Int := L.foldl plusF (0, 1)
def npS (s q : Int × Int) : Int × Int := (s.1 * q.2 + q.1 * s.2, s.2 * q.2)
def np (L : List (Int × Int)) : Int × Int := L.foldl npS (0, 1)
theorem tot_snoc (L : List (Int × Int)) (q : Int × Int) : totF (L ++ [q]) = plusF (totF L) q := by unfold totF; rw [List.foldl_append]; rfl
theorem np_snoc (L : List (Int × Int)) (q : Int × Int) : np (L ++ [q]) = npS (np L) q := by unfold np; rw [List.foldl_append]; rfl
theorem plus_mk {a b c d : Int} (hb : 0 < b) (hd : 0 < d) : plusF (K9.mk a b) (K9.mk c d) = K9.mk (a * d + c * b) (b * d) := by
  unfold plusF
  have p1 := K9.mk_pos (a := a) hb
  have p2 := K9.mk_pos (a := c) hd
  have s1 := K9.mk_same (a := a) hb
  have s2 := K9.mk_same (a := c) hd
  refine Mix.mk_uniq (Int.mul_pos (by omega) (by omega)) (Int.mul_pos hb hd) ?_
  generalize K9.mk a b = x at *
  generalize K9.mk c d = y at *
  grind
theorem fold_np : ∀ (L : List (Int × Int)) (a b : Int), 0 < b → (∀ q ∈ L, 0 < q.2) → (L.map fun q => K9.mk q.1 q.2).foldl plusF (K9.mk a b) = K9.mk (L.foldl npS (a, b)).1 (L.foldl npS (a, b)).2 ∧ 0 < (L.foldl npS (a, b)).2
  | [], a, b, hb, _ => ⟨rfl, hb⟩
  | q :: L, a, b, hb, h => by
    have hq := h q (by simp)
    have ih := fold_np L (a * q.2 + q.1 * b) (b * q.2) (Int.mul_pos hb hq) fun x hx => h x (by simp [hx])
    rw [List.map_cons, List.foldl_cons, plus_mk hb hq, List.foldl_cons]
    exact ih
theorem tot_np {L : List (Int × Int)} (h : ∀ q ∈ L, 0 < q.2) : totF (L.map fun q => K9.mk q.1 q.2) = K9.mk (np L).1 (np L).2 ∧ 0 < (np L).2 := by
  have := fold_np L 0 1 (by decide) h
  rw [K9.mk_zero (by decide)] at this
  exact this
theorem map_self {L : List (Int × Int)} (h : ∀ q ∈ L, 0 < q.2 ∧ K9.g q.1 q.2 = 1) : (L.map fun q => K9.mk q.1 q.2) = L := by
  induction L with
  | nil => rfl
  | cons q L ih =>
    obtain ⟨h1, h2⟩ := h q (by simp)
    rw [List.map_cons, ih fun x hx => h x (by simp [hx]), Mix.mk_self h1 h2]
theorem mk_iff {a b c d : Int} (hb : 0 < b) (hd : 0 < d) : K9.mk a b = K9.mk c d ↔ a * d = c * b := by
  constructor
  · intro e
    have s1 := K9.mk_same (a := a) hb
    have s2 := K9.mk_same (a := c) hd
    have p2 := K9.mk_pos (a := c) hd
    rw [e] at s1
    refine Int.eq_of_mul_eq_mul_left (a := (K9.mk c d).2) (by omega) ?_
    generalize K9.mk c d = y at *
    grind
  · exact Mix.mk_uniq hb hd
theorem mk_one {s : Int} : K9.mk s 1 = (s, 1) := by have := Mix.mk_int (s := s) (W := 1) (by decide); rwa [Int.mul_one] at this
theorem mk_int_iff {a b s : Int} (hb : 0 < b) : K9.mk a b = (s, 1) ↔ a = s * b := by
  rw [← mk_one, mk_iff hb (by decide), Int.mul_one]
def Okk (n : Nat) (L : List GP) : Prop := L.length ≤ 3 ∧ (∀ x ∈ L, 0 ≤ x.1 ∧ x.1 < n ∧ 0 < x.2.1) ∧ (L.map (·.1)).Pairwise (· < ·)
def ws (L : List GP) : List (Int × Int) := L.map (·.2)
def Tot1 (L : List GP) : Prop := (np (ws L)).1 = (np (ws L)).2
def co (f : P → Int) (h : List P) (L : List GP) : List (Int × Int) := L.map fun x => (x.2.1 * f (Cut.at_ h x.1.toNat), x.2.2)
theorem np_den : ∀ {L M : List (Int × Int)} {a b c : Int}, L.map (·.2) = M.map (·.2) → (L.foldl npS (a, b)).2 = (M.foldl npS (c, b)).2
  | [], [], _, _, _, _ => rfl
  | [], _ :: _, _, _, _, h => by cases h
  | _ :: _, [], _, _, _, h => by cases h
  | p :: L, q :: M, a, b, c, h => by
    rw [List.map_cons, List.map_cons] at h
    injection h with h1 h2
    rw [List.foldl_cons, List.foldl_cons]
    show (L.foldl npS (_, b * p.2)).2 = (M.foldl npS (_, b * q.2)).2
    rw [h1]
    exact np_den h2
theorem co_den (f : P → Int) (h : List P) (L : List GP) : (np (co f h L)).2 = (np (ws L)).2 := np_den (by unfold co ws; rw [List.map_map, List.map_map]; rfl)
theorem np_pos {L : List (Int × Int)} (h : ∀ q ∈ L, 0 < q.2) : 0 < (np L).2 := (tot_np h).2
def ShowsM (h : List P) (s : P) (L : List GP) : Prop := Okk h.length L ∧ Tot1 L ∧ (np (co (·.1) h L)).1 = s.1 * (np (ws L)).2 ∧ (np (co (·.2) h L)).1 = s.2 * (np (ws L)).2
def ShowsE (h k : List P) (L M : List GP) : Prop := (Okk h.length L ∧ Tot1 L) ∧ (Okk k.length M ∧ Tot1 M) ∧ (np (co (·.1) h L)).1 * (np (ws M)).2 = (np (co (·.1) k M)).1 * (np (ws L)).2 ∧ (np (co (·.2) h L)).1 * (np (ws M)).2 = (np (co (·.2) k M)).1 * (np (ws L)).2
def shr (U : Int) (g : GP → Int) (L : List GP) : Int := (L.map fun x => x.2.1 * (U / x.2.2) * g x).sum
theorem shr_snoc (U : Int) (g : GP → Int) (L : List GP) (x : GP) : shr U g (L ++ [x]) = shr U g L + x.2.1 * (U / x.2.2) * g x := by unfold shr; rw [List.map_append, List.sum_append]; simp
theorem shr_mul {U k : Int} {g : GP → Int} : ∀ {L : List GP}, (∀ x ∈ L, 0 < x.2.2 ∧ x.2.2 ∣ U) → shr (U * k) g L = k * shr U g L
  | [], _ => by simp [shr]
  | x :: L, h => by
    obtain ⟨h1, c, hc⟩ := h x (by simp)
    have ih := shr_mul (k := k) (g := g) (L := L) fun y hy => h y (by simp [hy])
    have e : ∀ V : Int, shr V g (x :: L) = x.2.1 * (V / x.2.2) * g x + shr V g L := fun _ => rfl
    rw [e, e, ih]
    have e1 : U / x.2.2 = c := by rw [hc]; exact Int.mul_ediv_cancel_left _ (by omega)
    have e2 : U * k / x.2.2 = c * k := by rw [hc, Int.mul_assoc]; exact Int.mul_ediv_cancel_left _ (by omega)
    rw [e1, e2]; grind
theorem np_dvd : ∀ (L : List (Int × Int)) (a b : Int), b ∣ (L.foldl npS (a, b)).2 ∧ ∀ q ∈ L, q.2 ∣ (L.foldl npS (a, b)).2
  | [], _, _ => ⟨Int.dvd_refl _, fun _ h => absurd h (by simp)⟩
  | q :: L, a, b => by
    obtain ⟨h1, h2⟩ := np_dvd L (a * q.2 + q.1 * b) (b * q.2)
    rw [List.foldl_cons]
    refine ⟨Int.dvd_trans (Int.dvd_mul_right _ _) h1, fun x hx => ?_⟩
    rcases List.mem_cons.mp hx with e | hx
    · rw [e]; exact Int.dvd_trans (Int.dvd_mul_left _ _) h1
    · exact h2 x hx
theorem shr_np (g : GP → Int) : ∀ (n : Nat) (L : List GP), L.length = n → (∀ x ∈ L, 0 < x.2.2) → shr (np (ws L)).2 g L = (np (L.map fun x => (x.2.1 * g x, x.2.2))).1
  | 0, L, hn, _ => by rw [List.length_eq_zero_iff.mp hn]; rfl
  | n + 1, L, hn, h => by
    obtain ⟨M, x, rfl⟩ : ∃ M x, L = M ++ [x] := by
      have hne : L ≠ [] := by intro e; rw [e] at hn; simp at hn
      exact ⟨L.dropLast, L.getLast hne, (List.dropLast_concat_getLast hne).symm⟩
    have hM : M.length = n := by simp at hn; omega
    have ih := shr_np g n M hM fun y hy => h y (by simp [hy])
    have hx := h x (by simp)
    have w : ws (M ++ [x]) = ws M ++ [x.2] := by unfold ws; rw [List.map_append]; rfl
    have d : (np (M.map fun x => (x.2.1 * g x, x.2.2))).2 = (np (ws M)).2 := np_den (by unfold ws; rw [List.map_map, List.map_map]; rfl)
    rw [w, np_snoc, List.map_append]
    show shr ((np (ws M)).2 * x.2.2) g (M ++ [x]) = (np ((M.map fun x => (x.2.1 * g x, x.2.2)) ++ [(x.2.1 * g x, x.2.2)])).1
    have dv : ∀ y ∈ M, 0 < y.2.2 ∧ y.2.2 ∣ (np (ws M)).2 := fun y hy => ⟨h y (by simp [hy]), (np_dvd (ws M) 0 1).2 _ (List.mem_map_of_mem hy)⟩
    rw [np_snoc, shr_snoc, shr_mul dv, ih, Int.mul_ediv_cancel _ (by omega)]
    show _ = (np (M.map fun x => (x.2.1 * g x, x.2.2))).1 * x.2.2 + x.2.1 * g x * (np (M.map fun x => (x.2.1 * g x, x.2.2))).2
    rw [d]; grind
theorem np_bd : ∀ (L : List (Int × Int)) (a b : Int) (A B D : Int), (∀ q ∈ L, (0 < q.2 ∧ q.2 ≤ D) ∧ -A ≤ q.1 ∧ q.1 ≤ A) → 0 < b → b ≤ B → 0 ≤ A → 0 < D → 0 < B → (L.foldl npS (a, b)).2 ≤ B * D ^ L.length
  | [], a, b, A, B, D, _, _, h, _, _, _ => by simpa using h
  | q :: L, a, b, A, B, D, h, hb, hB, hA, hD, hB0 => by
    obtain ⟨⟨q1, q2⟩, _⟩ := h q (by simp)
    have e : b * q.2 ≤ B * D := Int.le_trans (Int.mul_le_mul_of_nonneg_right hB (by omega)) (Int.mul_le_mul_of_nonneg_left q2 (by omega))
    have ih := np_bd L (a * q.2 + q.1 * b) (b * q.2) A (B * D) D (fun x hx => h x (by simp [hx])) (Int.mul_pos hb q1) e hA hD (Int.mul_pos hB0 hD)
    rw [List.foldl_cons, List.length_cons, Int.pow_succ]
    have : B * D * D ^ L.length = B * (D ^ L.length * D) := by grind
    rw [← this]; exact ih
end G6
set_option linter.all false
namespace Cut
open Hull SepM
end Cut
set_option linter.all false
namespace Cut
open Hull
end Cut
set_option Elab.async false
set_option linter.all false
set_option maxRecDepth 100000
set_option maxHeartbeats 4000000

namespace K6a
open PySem L2 Hull SortM SepM
seal L2.PE L2.PT L2.PW L2.PA L2.PS L2.PSs L2.PG L2.PGs L2.PF L2.PI L2.PO
def top (i : Nat) : Stmt := PySem.Challenge.pw_herdline_k06_answers_by_hand.main.body.getD i (.Pass ⟨0, 0, 0, 0⟩)
abbrev s_common_divisor : Stmt := top 5
abbrev s_made : Stmt := top 6
abbrev s_plus : Stmt := top 7
abbrev s_times : Stmt := top 8
abbrev s_is_number : Stmt := top 12
abbrev s_is_pair : Stmt := top 13
abbrev s_is_herd : Stmt := top 14
abbrev s_is_fraction : Stmt := top 15
abbrev s_check_herd : Stmt := top 16
abbrev s_check_spot : Stmt := top 17
abbrev s_leftness : Stmt := top 19
abbrev s_reach : Stmt := top 20
abbrev s_is_part : Stmt := top 23
abbrev s_is_rising : Stmt := top 24
abbrev s_total : Stmt := top 25
abbrev s_is_mixture : Stmt := top 26
abbrev s_point : Stmt := top 27
abbrev s_is_fence : Stmt := top 28
abbrev s_is_beneath : Stmt := top 29
abbrev s_is_beyond : Stmt := top 30
abbrev s_Mixed___init__ : Stmt := inClass (top 32) 0
abbrev s_Mixed_shows : Stmt := inClass (top 32) 1
abbrev s_Apart___init__ : Stmt := inClass (top 33) 0
abbrev s_Apart_shows : Stmt := inClass (top 33) 1
abbrev s_Parted___init__ : Stmt := inClass (top 34) 0
abbrev s_Parted_shows : Stmt := inClass (top 34) 1
abbrev s_Meeting___init__ : Stmt := inClass (top 35) 0
abbrev s_Meeting_shows : Stmt := inClass (top 35) 1
abbrev s_ones : Stmt := top 37
abbrev s_grown : Stmt := top 38
abbrev s_twos : Stmt := top 39
abbrev s_threes : Stmt := top 40
abbrev s_step : Stmt := top 41
abbrev s_weighed : Stmt := top 42
abbrev s_line_amounts : Stmt := top 43
abbrev s_amounts_at : Stmt := top 44
abbrev s_mixture_at : Stmt := top 45
abbrev s_held : Stmt := top 46
abbrev s_cross_amounts : Stmt := top 47
abbrev s_crossed : Stmt := top 48
abbrev s_shared : Stmt := top 49
abbrev s_ways_over : Stmt := top 50
abbrev s_far_end : Stmt := top 51
abbrev s_near_end : Stmt := top 52
abbrev s_fence_between : Stmt := top 53
abbrev s_within : Stmt := top 54
abbrev s_between : Stmt := top 55
abbrev s__law_cell_at : Stmt := top 57
abbrev s__law_draw : Stmt := top 58
abbrev s__law_spot : Stmt := top 59
abbrev s__law_herd : Stmt := top 60
abbrev s__law_point : Stmt := top 62
abbrev s__law_alike : Stmt := top 63
abbrev s__law_over : Stmt := top 66
abbrev s__law_bent : Stmt := top 67
abbrev s__law_crooked : Stmt := top 68
abbrev s__law_apart : Stmt := top 69
abbrev s__law_parted : Stmt := top 70
abbrev s__law_says : Stmt := top 71
abbrev s__law_one : Stmt := top 72
abbrev s__law_two : Stmt := top 73
abbrev s_law : Stmt := top 74
theorem sc_common_divisor : FnScope ["a", "b", "one", "other", "rest"] ["a", "b"] (defScope s_common_divisor) := ⟨rfl, rfl, rfl, by decide +kernel, rfl, by decide +kernel, by decide +kernel⟩
theorem sc_made : FnScope ["a", "b", "divisor"] ["a", "b"] (defScope s_made) := ⟨rfl, rfl, rfl, by decide +kernel, rfl, by decide +kernel, by decide +kernel⟩
theorem sc_plus : FnScope ["one", "other"] ["one", "other"] (defScope s_plus) := ⟨rfl, rfl, rfl, by decide +kernel, rfl, by decide +kernel, by decide +kernel⟩
theorem sc_times : FnScope ["one", "other"] ["one", "other"] (defScope s_times) := ⟨rfl, rfl, rfl, by decide +kernel, rfl, by decide +kernel, by decide +kernel⟩
theorem sc_is_number : FnScope ["value"] ["value"] (defScope s_is_number) := ⟨rfl, rfl, rfl, by decide +kernel, rfl, by decide +kernel, by decide +kernel⟩
theorem sc_is_pair : FnScope ["value"] ["value"] (defScope s_is_pair) := ⟨rfl, rfl, rfl, by decide +kernel, rfl, by decide +kernel, by decide +kernel⟩
theorem sc_is_herd : FnScope ["value"] ["value"] (defScope s_is_herd) := ⟨rfl, rfl, rfl, by decide +kernel, rfl, by decide +kernel, by decide +kernel⟩
theorem sc_is_fraction : FnScope ["value"] ["value"] (defScope s_is_fraction) := ⟨rfl, rfl, rfl, by decide +kernel, rfl, by decide +kernel, by decide +kernel⟩
theorem sc_check_herd : FnScope ["herd"] ["herd"] (defScope s_check_herd) := ⟨rfl, rfl, rfl, by decide +kernel, rfl, by decide +kernel, by decide +kernel⟩
theorem sc_check_spot : FnScope ["spot"] ["spot"] (defScope s_check_spot) := ⟨rfl, rfl, rfl, by decide +kernel, rfl, by decide +kernel, by decide +kernel⟩
theorem sc_leftness : FnScope ["start", "end", "spot", "along", "across"] ["start", "end", "spot"] (defScope s_leftness) := ⟨rfl, rfl, rfl, by decide +kernel, rfl, by decide +kernel, by decide +kernel⟩
theorem sc_reach : FnScope ["way", "spot"] ["way", "spot"] (defScope s_reach) := ⟨rfl, rfl, rfl, by decide +kernel, rfl, by decide +kernel, by decide +kernel⟩
theorem sc_is_part : FnScope ["part", "herd"] ["part", "herd"] (defScope s_is_part) := ⟨rfl, rfl, rfl, by decide +kernel, rfl, by decide +kernel, by decide +kernel⟩
theorem sc_is_rising : FnScope ["places"] ["places"] (defScope s_is_rising) := ⟨rfl, rfl, rfl, by decide +kernel, rfl, by decide +kernel, by decide +kernel⟩
theorem sc_total : FnScope ["row", "so_far", "fraction"] ["row"] (defScope s_total) := ⟨rfl, rfl, rfl, by decide +kernel, rfl, by decide +kernel, by decide +kernel⟩
theorem sc_is_mixture : FnScope ["parts", "herd"] ["parts", "herd"] (defScope s_is_mixture) := ⟨rfl, rfl, rfl, by decide +kernel, rfl, by decide +kernel, by decide +kernel⟩
theorem sc_point : FnScope ["parts", "herd", "first", "second"] ["parts", "herd"] (defScope s_point) := ⟨rfl, rfl, rfl, by decide +kernel, rfl, by decide +kernel, by decide +kernel⟩
theorem sc_is_fence : FnScope ["fence"] ["fence"] (defScope s_is_fence) := ⟨rfl, rfl, rfl, by decide +kernel, rfl, by decide +kernel, by decide +kernel⟩
theorem sc_is_beneath : FnScope ["fence", "spot"] ["fence", "spot"] (defScope s_is_beneath) := ⟨rfl, rfl, rfl, by decide +kernel, rfl, by decide +kernel, by decide +kernel⟩
theorem sc_is_beyond : FnScope ["fence", "spot"] ["fence", "spot"] (defScope s_is_beyond) := ⟨rfl, rfl, rfl, by decide +kernel, rfl, by decide +kernel, by decide +kernel⟩
theorem sc_Mixed___init__ : FnScope ["self", "parts"] ["self", "parts"] (defScope s_Mixed___init__) := ⟨rfl, rfl, rfl, by decide +kernel, rfl, by decide +kernel, by decide +kernel⟩
theorem sc_Mixed_shows : FnScope ["self", "herd", "spot"] ["self", "herd", "spot"] (defScope s_Mixed_shows) := ⟨rfl, rfl, rfl, by decide +kernel, rfl, by decide +kernel, by decide +kernel⟩
theorem sc_Apart___init__ : FnScope ["self", "fence"] ["self", "fence"] (defScope s_Apart___init__) := ⟨rfl, rfl, rfl, by decide +kernel, rfl, by decide +kernel, by decide +kernel⟩
theorem sc_Apart_shows : FnScope ["self", "herd", "spot"] ["self", "herd", "spot"] (defScope s_Apart_shows) := ⟨rfl, rfl, rfl, by decide +kernel, rfl, by decide +kernel, by decide +kernel⟩
theorem sc_Parted___init__ : FnScope ["self", "fence"] ["self", "fence"] (defScope s_Parted___init__) := ⟨rfl, rfl, rfl, by decide +kernel, rfl, by decide +kernel, by decide +kernel⟩
theorem sc_Parted_shows : FnScope ["self", "one", "other"] ["self", "one", "other"] (defScope s_Parted_shows) := ⟨rfl, rfl, rfl, by decide +kernel, rfl, by decide +kernel, by decide +kernel⟩
theorem sc_Meeting___init__ : FnScope ["self", "first", "second"] ["self", "first", "second"] (defScope s_Meeting___init__) := ⟨rfl, rfl, rfl, by decide +kernel, rfl, by decide +kernel, by decide +kernel⟩
theorem sc_Meeting_shows : FnScope ["self", "one", "other"] ["self", "one", "other"] (defScope s_Meeting_shows) := ⟨rfl, rfl, rfl, by decide +kernel, rfl, by decide +kernel, by decide +kernel⟩
theorem sc_ones : FnScope ["count"] ["count"] (defScope s_ones) := ⟨rfl, rfl, rfl, by decide +kernel, rfl, by decide +kernel, by decide +kernel⟩
theorem sc_grown : FnScope ["groups", "count", "longer", "group"] ["groups", "count"] (defScope s_grown) := ⟨rfl, rfl, rfl, by decide +kernel, rfl, by decide +kernel, by decide +kernel⟩
theorem sc_twos : FnScope ["count"] ["count"] (defScope s_twos) := ⟨rfl, rfl, rfl, by decide +kernel, rfl, by decide +kernel, by decide +kernel⟩
theorem sc_threes : FnScope ["count"] ["count"] (defScope s_threes) := ⟨rfl, rfl, rfl, by decide +kernel, rfl, by decide +kernel, by decide +kernel⟩
theorem sc_step : FnScope ["start", "end"] ["start", "end"] (defScope s_step) := ⟨rfl, rfl, rfl, by decide +kernel, rfl, by decide +kernel, by decide +kernel⟩
theorem sc_weighed : FnScope ["places", "amounts", "whole"] ["places", "amounts"] (defScope s_weighed) := ⟨rfl, rfl, rfl, by decide +kernel, rfl, by decide +kernel, by decide +kernel⟩
theorem sc_line_amounts : FnScope ["start", "end", "spot", "way"] ["start", "end", "spot"] (defScope s_line_amounts) := ⟨rfl, rfl, rfl, by decide +kernel, rfl, by decide +kernel, by decide +kernel⟩
theorem sc_amounts_at : FnScope ["row", "spot"] ["row", "spot"] (defScope s_amounts_at) := ⟨rfl, rfl, rfl, by decide +kernel, rfl, by decide +kernel, by decide +kernel⟩
theorem sc_mixture_at : FnScope ["herd", "spot", "count", "places", "parts"] ["herd", "spot"] (defScope s_mixture_at) := ⟨rfl, rfl, rfl, by decide +kernel, rfl, by decide +kernel, by decide +kernel⟩
theorem sc_held : FnScope ["one", "other", "place", "spot", "parts"] ["one", "other"] (defScope s_held) := ⟨rfl, rfl, rfl, by decide +kernel, rfl, by decide +kernel, by decide +kernel⟩
theorem sc_cross_amounts : FnScope ["row", "line"] ["row", "line"] (defScope s_cross_amounts) := ⟨rfl, rfl, rfl, by decide +kernel, rfl, by decide +kernel, by decide +kernel⟩
theorem sc_crossed : FnScope ["one", "other", "places", "row", "others", "line", "found"] ["one", "other"] (defScope s_crossed) := ⟨rfl, rfl, rfl, by decide +kernel, rfl, by decide +kernel, by decide +kernel⟩
theorem sc_shared : FnScope ["one", "other", "found"] ["one", "other"] (defScope s_shared) := ⟨rfl, rfl, rfl, by decide +kernel, rfl, by decide +kernel, by decide +kernel⟩
theorem sc_ways_over : FnScope ["one", "other", "ways", "start", "herd"] ["one", "other"] (defScope s_ways_over) := ⟨rfl, rfl, rfl, by decide +kernel, rfl, by decide +kernel, by decide +kernel⟩
theorem sc_far_end : FnScope ["way", "herd"] ["way", "herd"] (defScope s_far_end) := ⟨rfl, rfl, rfl, by decide +kernel, rfl, by decide +kernel, by decide +kernel⟩
theorem sc_near_end : FnScope ["way", "herd"] ["way", "herd"] (defScope s_near_end) := ⟨rfl, rfl, rfl, by decide +kernel, rfl, by decide +kernel, by decide +kernel⟩
theorem sc_fence_between : FnScope ["one", "other", "way"] ["one", "other"] (defScope s_fence_between) := ⟨rfl, rfl, rfl, by decide +kernel, rfl, by decide +kernel, by decide +kernel⟩
theorem sc_within : FnScope ["herd", "spot", "parts"] ["herd", "spot"] (defScope s_within) := ⟨rfl, rfl, rfl, by decide +kernel, rfl, by decide +kernel, by decide +kernel⟩
theorem sc_between : FnScope ["one", "other", "found"] ["one", "other"] (defScope s_between) := ⟨rfl, rfl, rfl, by decide +kernel, rfl, by decide +kernel, by decide +kernel⟩
theorem sc__law_cell_at : FnScope ["_law_script", "_law_k"] ["_law_script", "_law_k"] (defScope s__law_cell_at) := ⟨rfl, rfl, rfl, by decide +kernel, rfl, by decide +kernel, by decide +kernel⟩
theorem sc__law_draw : FnScope ["_law_cell", "_law_k", "_law_many", "_law_primes"] ["_law_cell", "_law_k", "_law_many"] (defScope s__law_draw) := ⟨rfl, rfl, rfl, by decide +kernel, rfl, by decide +kernel, by decide +kernel⟩
theorem sc__law_spot : FnScope ["_law_cell", "_law_most", "_law_line", "_law_one_here", "_law_other"] ["_law_cell", "_law_most", "_law_line"] (defScope s__law_spot) := ⟨rfl, rfl, rfl, by decide +kernel, rfl, by decide +kernel, by decide +kernel⟩
theorem sc__law_herd : FnScope ["_law_cell", "_law_most_spots", "_law_many", "_law_most", "_law_line", "_law_found", "_law_k"] ["_law_cell", "_law_most_spots"] (defScope s__law_herd) := ⟨rfl, rfl, rfl, by decide +kernel, rfl, by decide +kernel, by decide +kernel⟩
theorem sc__law_point : FnScope ["_law_herd_here", "_law_parts", "_law_under", "_law_last", "_law_place", "_law_weight", "_law_first", "_law_second", "_law_total", "_law_share"] ["_law_herd_here", "_law_parts"] (defScope s__law_point) := ⟨rfl, rfl, rfl, by decide +kernel, rfl, by decide +kernel, by decide +kernel⟩
theorem sc__law_alike : FnScope ["_law_one_here", "_law_other"] ["_law_one_here", "_law_other"] (defScope s__law_alike) := ⟨rfl, rfl, rfl, by decide +kernel, rfl, by decide +kernel, by decide +kernel⟩
theorem sc__law_over : FnScope ["_law_fence_here", "_law_spot_here"] ["_law_fence_here", "_law_spot_here"] (defScope s__law_over) := ⟨rfl, rfl, rfl, by decide +kernel, rfl, by decide +kernel, by decide +kernel⟩
theorem sc__law_bent : FnScope ["_law_parts", "_law_cell", "_law_bent_here", "_law_kind", "_law_at", "_law_many"] ["_law_parts", "_law_cell"] (defScope s__law_bent) := ⟨rfl, rfl, rfl, by decide +kernel, rfl, by decide +kernel, by decide +kernel⟩
theorem sc__law_crooked : FnScope ["_law_fence_here", "_law_cell", "_law_kind", "_law_by"] ["_law_fence_here", "_law_cell"] (defScope s__law_crooked) := ⟨rfl, rfl, rfl, by decide +kernel, rfl, by decide +kernel, by decide +kernel⟩
theorem sc__law_apart : FnScope ["_law_herd_here", "_law_spot_here", "_law_fence_here"] ["_law_herd_here", "_law_spot_here", "_law_fence_here"] (defScope s__law_apart) := ⟨rfl, rfl, rfl, by decide +kernel, rfl, by decide +kernel, by decide +kernel⟩
theorem sc__law_parted : FnScope ["_law_one_here", "_law_other", "_law_fence_here"] ["_law_one_here", "_law_other", "_law_fence_here"] (defScope s__law_parted) := ⟨rfl, rfl, rfl, by decide +kernel, rfl, by decide +kernel, by decide +kernel⟩
theorem sc__law_says : FnScope ["_law_told", "_law_due"] ["_law_told", "_law_due"] (defScope s__law_says) := ⟨rfl, rfl, rfl, by decide +kernel, rfl, by decide +kernel, by decide +kernel⟩
theorem sc__law_one : FnScope ["_law_herd_here", "_law_spot_here", "_law_found", "_law_cell", "_law_parts", "_law_handed", "_law_answer", "_law_due", "_law_fence_here"] ["_law_herd_here", "_law_spot_here", "_law_found", "_law_cell"] (defScope s__law_one) := ⟨rfl, rfl, rfl, by decide +kernel, rfl, by decide +kernel, by decide +kernel⟩
theorem sc__law_two : FnScope ["_law_one_here", "_law_other", "_law_found", "_law_cell", "_law_fence_here", "_law_answer", "_law_due", "_law_first", "_law_second", "_law_handed"] ["_law_one_here", "_law_other", "_law_found", "_law_cell"] (defScope s__law_two) := ⟨rfl, rfl, rfl, by decide +kernel, rfl, by decide +kernel, by decide +kernel⟩
theorem sc_law : FnScope ["_law_script", "_law_one_here", "_law_other", "_law_cell", "_law_spot_here", "_law_told", "_law_both", "_law_four", "_law_even", "_law_half"] ["_law_script"] (defScope s_law) := ⟨rfl, rfl, rfl, by decide +kernel, rfl, by decide +kernel, by decide +kernel⟩
structure Bl (mg : Str → Option Value) : Prop where
  len : mg "len" = none
  all : mg "all" = none
  any : mg "any" = none
  abs : mg "abs" = none
  sum : mg "sum" = none
  isinstance : mg "isinstance" = none
  tuple : mg "tuple" = none
  list : mg "list" = none
  bool : mg "bool" = none
  int : mg "int" = none
  range : mg "range" = none
  reversed : mg "reversed" = none
  min : mg "min" = none
  max : mg "max" = none
  zip : mg "zip" = none
  enumerate : mg "enumerate" = none
  g_BOUND : ∃ t, mg "BOUND" = some (.int 1000 t)
  g_MOST_SPOTS : ∃ t, mg "MOST_SPOTS" = some (.int 8 t)
  g_MOST_PARTS : ∃ t, mg "MOST_PARTS" = some (.int 3 t)
abbrev Bd := Cut.Bd
def Sp (K : PySem.W.Frag) (H : Hp) (v : V) (p : P) : Prop := Dn K H (spotD p) v ∧ Bd p
theorem Sp.same {K : PySem.W.Frag} {H H' : Hp} {v : V} {p : P} (e : Same H H') (h : Sp K H v p) : Sp K H' v p := ⟨e.dn h.1, h.2⟩
theorem same_new {H : Hp} {p : Addr} (h : H p = none) (o : HO) : Same H (upd H p o) := fun b u q => by rw [upd_ne (ne_of_none q h)]; exact q
inductive sp_cell (K : PySem.W.Frag) (vs : List V) (H : Hp) (Q : VK) (x_3 : XK) : Prop where
  | mk (a : Addr) (ns : List Int) (k : Nat) (h_0 : vs = [.ref a, .int k]) (h_1 : SqL K H a (ns.map V.int)) (h_2 : ∀ c : Int, Q (.int c) H)
inductive sp_draw (vs : List V) (H : Hp) (Q : VK) (x_3 : XK) : Prop where
  | mk (c k m : Int) (h_0 : vs = [.int c, .int k, .int m]) (h_1 : 0 < m) (h_2 : ∀ (r : Int) H', 0 ≤ r → r < m → Same H H' → Q (.int r) H')
inductive sp_spot (K : PySem.W.Frag) (vs : List V) (H : Hp) (Q : VK) (x_3 : XK) : Prop where
  | mk (c m l : Int) (h_0 : vs = [.int c, .int m, .int l]) (h_1 : 1 ≤ m) (h_2 : m ≤ 1000) (h_3 : ∀ v H' p, Same H H' → Sp K H' v p → Q v H')
inductive sp_herd (K : PySem.W.Frag) (vs : List V) (H : Hp) (Q : VK) (x_3 : XK) : Prop where
  | mk (c mo : Int) (h_0 : vs = [.int c, .int mo]) (h_1 : 1 ≤ mo) (h_2 : mo ≤ 8) (h_3 : ∀ l ys ps H', Same H H' → H l = none → H' l = some (.lst ys) → Dns K H' (List.map spotD ps) ys → (∀ p ∈ ps, Bd p) → 1 ≤ ps.length → ps.length ≤ 8 → Q (.ref l) H')
inductive sp_num (vs : List V) (H : Hp) (Q : VK) (x_3 : XK) : Prop where
  | mk (i : Int) (h_0 : vs = [.int i]) (h_1 : Q (.bl true) H)
inductive sp_pair (K : PySem.W.Frag) (vs : List V) (H : Hp) (Q : VK) (x_3 : XK) : Prop where
  | mk (x : _) (p : _) (h_0 : vs = [x]) (h_1 : Sp K H x p) (h_2 : ∀ H', Same H H' → Q (.bl true) H')
inductive sp_isherd (K : PySem.W.Frag) (vs : List V) (H : Hp) (Q : VK) (x_3 : XK) : Prop where
  | mk (o : Addr) (ys : List V) (ps : List P) (h_0 : vs = [.ref o]) (h_1 : SqL K H o ys) (h_2 : Dns K H (ps.map spotD) ys) (h_3 : (∀ p ∈ ps, Bd p)) (h_4 : 1 ≤ ps.length) (h_5 : ps.length ≤ 8) (h_6 : ∀ H', Same H H' → Q (.bl true) H')
inductive sp_check (K : PySem.W.Frag) (vs : List V) (H : Hp) (Q : VK) (x_3 : XK) : Prop where
  | mk (o : Addr) (ys : List V) (ps : List P) (h_0 : vs = [.ref o]) (h_1 : SqL K H o ys) (h_2 : Dns K H (ps.map spotD) ys) (h_3 : (∀ p ∈ ps, Bd p)) (h_4 : 1 ≤ ps.length) (h_5 : ps.length ≤ 8) (h_6 : ∀ H', Same H H' → Q .non H')
inductive sp_left (K : PySem.W.Frag) (vs : List V) (H : Hp) (Q : VK) (x_3 : XK) : Prop where
  | mk (x : _) (y : _) (z : _) (a : _) (b : _) (c : _) (h_0 : vs = [x, y, z]) (h_1 : Sp K H x a) (h_2 : Sp K H y b) (h_3 : Sp K H z c) (h_4 : Q (.int (turn a b c)) H)
section
variable {P : Program} {w : World} {K : PySem.W.Frag} {mg : Str → Option Value} {base : Heap} {f : Addr} {fd : FuncData}
theorem ok_left (F : Fun K "leftness" "leftness" s_leftness f fd) : FnOk P w K mg base CX0 1 f fd ["start", "end", "spot"] (sp_left K) := by
  refine F.ok sc_leftness (fun vs H Q E h => ?_) (fun cdv A outer s H vs Q E hr h => ?_)
  · obtain ⟨x, y, z, a, b, c, rfl, _⟩ := h
    rfl
  obtain ⟨x, y, z, a, b, c, rfl, ⟨ha, ha1, ha2⟩, ⟨hb, hb1, hb2⟩, ⟨hc, hc1, hc2⟩, q⟩ := h
  obtain ⟨x, rfl, ta⟩ := ha.spot
  obtain ⟨y, rfl, tb⟩ := hb.spot
  obtain ⟨z, rfl, tc⟩ := hc.spot
  refine ⟨_, (pss_cons (ps_set (i := 3) sc_leftness.nd rfl (Or.inl rfl) (pe_op op_mul (pe_op op_sub (pe_ix ix_tup (pv 1) pe_int (fun _ _ => rfl)) (pe_ix ix_tup (pv 0) pe_int (fun _ _ => rfl))) (pe_op op_sub (pe_ix ix_tup (pv 2) pe_int (fun _ _ => rfl)) (pe_ix ix_tup (pv 0) pe_int (fun _ _ => rfl)))))
    (pss_cons (ps_set (i := 4) sc_leftness.nd rfl (Or.inl rfl) (pe_op op_mul (pe_op op_sub (pe_ix ix_tup (pv 1) pe_int (fun _ _ => rfl)) (pe_ix ix_tup (pv 0) pe_int (fun _ _ => rfl))) (pe_op op_sub (pe_ix ix_tup (pv 2) pe_int (fun _ _ => rfl)) (pe_ix ix_tup (pv 0) pe_int (fun _ _ => rfl)))))
    (pss_one (ps_ret (pe_op op_sub (pv 3) (pv 4)))))), ?_⟩
  refine ⟨_, rfl, y, _, _, _, rfl, rfl, tb, rfl, _, rfl, x, _, _, _, rfl, rfl, ta, rfl, _, _, rfl, rfl, _, rfl, z, _, _, _, rfl, rfl, tc, rfl, _, rfl, x, _, _, _, rfl, rfl, ta, rfl, _, _, rfl, rfl, _, _, rfl, rfl, .inr ⟨by omega, by omega⟩, ?_⟩
  refine ⟨_, rfl, y, _, _, _, rfl, rfl, tb, rfl, _, rfl, x, _, _, _, rfl, rfl, ta, rfl, _, _, rfl, rfl, _, rfl, z, _, _, _, rfl, rfl, tc, rfl, _, rfl, x, _, _, _, rfl, rfl, ta, rfl, _, _, rfl, rfl, _, _, rfl, rfl, .inr ⟨by omega, by omega⟩, ?_⟩
  exact ⟨_, rfl, _, rfl, _, _, rfl, rfl, q⟩
theorem ok_cell (B : Bl mg) (F : Fun K "_law_cell_at" "_law_cell_at" s__law_cell_at f fd) : FnOk P w K mg base CX0 1 f fd ["_law_script", "_law_k"] (sp_cell K) := by
  refine F.ok sc__law_cell_at (fun vs H Q E h => ?_) (fun cdv A outer s H vs Q E hr h => ?_)
  · obtain ⟨a, ns, k, rfl, _⟩ := h
    rfl
  obtain ⟨a, ns, k, rfl, hS, q⟩ := h
  refine ⟨_, (pss_cons (ps_if (pt_cmpR op_lt (pv 1) (pe_callB call_len_seq (by rfl) B.len PySem.L3.boot_len (pa_cons (pv 0) pa_nil)) (nomark _)) (pss_one (ps_ret (pe_ix ix_list (pv 0) (pv 1) (fun _ _ => rfl)))) pss_nil)
    (pss_one (ps_ret pe_int))), ?_⟩
  refine ⟨_, rfl, _, rfl, a, _, rfl, .inl hS, _, _, rfl, rfl, _, rfl, ite2 (fun c => ?_) (fun c => ?_)⟩
  · have c' : (k : Int) < (((ns.map V.int).length : Nat) : Int) := of_decide_eq_true c
    have hk : k < ns.length := by rw [List.length_map] at c'; omega
    exact ⟨_, rfl, _, rfl, a, _, _, _, rfl, rfl, hS, atI_nat (v := .int ns[k]) (by rw [List.getElem?_map, List.getElem?_eq_getElem hk]; rfl), q _⟩
  · exact q _
def primes : List Int := [1000003, 1000033, 1000037, 1000039, 1000081, 1000099, 1000117, 1000121, 1000133, 1000151, 1000159, 1000171, 1000183, 1000187, 1000193, 1000199]
theorem prime_at (k : Int) : ∃ p, atI (primes.map V.int) (k % 16) = some (.int p) ∧ 0 < p := by
  have h0 := Int.emod_nonneg k (show (16 : Int) ≠ 0 by decide)
  have h1 := Int.emod_lt_of_pos k (show (0 : Int) < 16 by decide)
  obtain ⟨n, hn⟩ : ∃ n : Nat, k % 16 = (n : Int) := ⟨(k % 16).toNat, by omega⟩
  rw [hn]
  have hn16 : n < 16 := by omega
  have all : ∀ i : _root_.Fin 16, ∃ p, primes[i.1]? = some p ∧ 0 < p := by decide +kernel
  obtain ⟨p, e, hp⟩ := all ⟨n, hn16⟩
  refine ⟨p, atI_nat ?_, hp⟩
  rw [List.getElem?_map, e]; rfl
theorem ok_draw (F : Fun K "_law_draw" "_law_draw" s__law_draw f fd) : FnOk P w K mg base CX0 1 f fd ["_law_cell", "_law_k", "_law_many"] sp_draw := by
  refine F.ok sc__law_draw (fun vs H Q E h => ?_) (fun cdv A outer s H vs Q E hr h => ?_)
  · obtain ⟨c, k, m, rfl, _⟩ := h
    rfl
  obtain ⟨c, k, m, rfl, hm, q⟩ := h
  obtain ⟨p, hp, hp0⟩ := prime_at k
  refine ⟨_, (pss_cons (ps_set (i := 3) sc__law_draw.nd rfl (Or.inl rfl) (pe_tup (pa_ints (by rfl))))
    (pss_one (ps_ret (pe_op op_mod (pe_op op_mod (pe_op op_add (pe_op op_mul (pv 0) pe_int) (pe_op op_mul (pv 1) pe_int)) (pe_ix ix_tup (pv 3) (pe_op op_mod (pv 1) pe_int) (fun _ _ => rfl))) (pv 2))))), ?_⟩
  refine ⟨(by show 16 ≤ sizeLine; decide), fun t ht => ?_⟩
  refine ⟨_, rfl, _, _, rfl, rfl, .inr ⟨by omega, by omega⟩, _, rfl, _, _, rfl, rfl, .inr ⟨by omega, by omega⟩, _, _, rfl, rfl, ?_⟩
  refine ⟨_, rfl, _, rfl, _, _, rfl, rfl, by omega, t, _, _, _, rfl, rfl, SqT.of upd_same, hp, _, _, rfl, rfl, hp0, _, rfl, _, _, rfl, rfl, hm, ?_⟩
  exact q _ _ (Int.emod_nonneg _ (by omega)) (Int.emod_lt_of_pos _ hm) (same_new ht _)
theorem ok_spot (C__law_draw : Cal P w K mg base 1 "_law_draw" sp_draw) (F : Fun K "_law_spot" "_law_spot" s__law_spot f fd) : FnOk P w K mg base CX0 2 f fd ["_law_cell", "_law_most", "_law_line"] (sp_spot K) := by
  refine F.ok sc__law_spot (fun vs H Q E h => ?_) (fun cdv A outer s H vs Q E hr h => ?_)
  · obtain ⟨c, m, l, rfl, _⟩ := h
    rfl
  obtain ⟨c, m, l, rfl, m1, m2, q⟩ := h
  refine ⟨_, (pss_cons (ps_set (i := 3) sc__law_spot.nd rfl (Or.inl rfl) (pe_op op_sub (pe_c C__law_draw (hr.mono (by decide)) (by rfl) (pa_cons (pv 0) (pa_cons pe_int (pa_cons (pe_op op_add (pe_op op_mul pe_int (pv 1)) pe_int) pa_nil)))) (pv 1)))
    (pss_cons (ps_set (i := 4) sc__law_spot.nd rfl (Or.inl rfl) (pe_op op_sub (pe_c C__law_draw (hr.mono (by decide)) (by rfl) (pa_cons (pe_op op_fdiv (pv 0) pe_int) (pa_cons pe_int (pa_cons (pe_op op_add (pe_op op_mul pe_int (pv 1)) pe_int) pa_nil)))) (pv 1)))
    (pss_cons (ps_if (pt_cmpR op_eq (pv 2) pe_int (nomark _)) (pss_one (ps_ret (pe_tup (pa_cons (pv 3) (pa_cons (pe_un un_neg (pv 3)) pa_nil))))) pss_nil)
    (pss_cons (ps_if (pt_cmpR op_eq (pv 2) pe_int (nomark _)) (pss_one (ps_ret (pe_tup (pa_cons (pe_op op_mod (pv 3) pe_int) (pa_cons (pe_op op_add (pe_op op_mul (pe_op op_mod (pv 3) pe_int) pe_int) pe_int) pa_nil))))) pss_nil)
    (pss_one (ps_ret (pe_tup (pa_cons (pv 3) (pa_cons (pv 4) pa_nil))))))))), ?_⟩
  refine ⟨_, rfl, _, rfl, _, _, rfl, rfl, .inr ⟨by omega, by omega⟩, _, _, rfl, rfl, c, 1, 2 * m + 1, rfl, by omega, fun r H1 r0 r1 e1 => ?_⟩
  refine ⟨_, rfl, _, _, rfl, rfl, ?_⟩
  refine ⟨_, rfl, _, _, rfl, rfl, ⟨by decide, by decide⟩, _, rfl, _, _, rfl, rfl, .inr ⟨by omega, by omega⟩, _, _, rfl, rfl, c / 3, 2, 2 * m + 1, rfl, by omega, fun r2 H2 p0 p1 e2 => ?_⟩
  refine ⟨_, rfl, _, _, rfl, rfl, ?_⟩
  refine ⟨_, rfl, rfl, _, rfl, ite2 (fun _ => ?_) (fun _ => ?_)⟩
  · refine ⟨_, rfl, _, rfl, _, rfl, (by show 2 ≤ sizeLine; decide), fun t ht => ?_⟩
    exact q _ _ (r - m, -(r - m)) ((e1.trans e2).trans (same_new ht _)) ⟨dn_spot (SqT.of upd_same), ⟨by show -1000 ≤ r - m; omega, by show r - m ≤ 1000; omega⟩, by show -1000 ≤ -(r - m); omega, by show -(r - m) ≤ 1000; omega⟩
  · refine ⟨_, rfl, rfl, _, rfl, ite2 (fun _ => ?_) (fun _ => ?_)⟩
    · have h0 := Int.emod_nonneg (r - m) (show (3 : Int) ≠ 0 by decide)
      have h1 := Int.emod_lt_of_pos (r - m) (show (0 : Int) < 3 by decide)
      refine ⟨_, rfl, _, _, rfl, rfl, (show (0 : Int) < 3 by decide), _, rfl, _, _, rfl, rfl, (show (0 : Int) < 3 by decide), _, _, rfl, rfl, .inr ⟨by omega, by omega⟩, _, _, rfl, rfl, (by show 2 ≤ sizeLine; decide), fun t ht => ?_⟩
      exact q _ _ ((r - m) % 3, (r - m) % 3 * 2 + 1) ((e1.trans e2).trans (same_new ht _)) ⟨dn_spot (SqT.of upd_same), ⟨by show -1000 ≤ (r - m) % 3; omega, by show (r - m) % 3 ≤ 1000; omega⟩, by show -1000 ≤ (r - m) % 3 * 2 + 1; omega, by show (r - m) % 3 * 2 + 1 ≤ 1000; omega⟩
    · refine ⟨_, rfl, _, rfl, (by show 2 ≤ sizeLine; decide), fun t ht => ?_⟩
      exact q _ _ (r - m, r2 - m) ((e1.trans e2).trans (same_new ht _)) ⟨dn_spot (SqT.of upd_same), ⟨by show -1000 ≤ r - m; omega, by show r - m ≤ 1000; omega⟩, by show -1000 ≤ r2 - m; omega, by show r2 - m ≤ 1000; omega⟩
theorem most_at (r : Int) (h0 : 0 ≤ r) (h1 : r < 4) : ∃ b : Int, atI [V.int 2, V.int 4, V.int 9, V.int 1000] r = some (.int b) ∧ 1 ≤ b ∧ b ≤ 1000 := by
  obtain ⟨n, rfl⟩ : ∃ n : Nat, r = (n : Int) := ⟨r.toNat, by omega⟩
  have hn : n < 4 := by omega
  match n, hn with
  | 0, _ => exact ⟨2, rfl, by decide, by decide⟩
  | 1, _ => exact ⟨4, rfl, by decide, by decide⟩
  | 2, _ => exact ⟨9, rfl, by decide, by decide⟩
  | 3, _ => exact ⟨1000, rfl, by decide, by decide⟩
theorem line_at (r : Int) (h0 : 0 ≤ r) (h1 : r < 6) : ∃ b : Int, atI [V.int 0, V.int 0, V.int 0, V.int 0, V.int 1, V.int 2] r = some (.int b) := by
  obtain ⟨n, rfl⟩ : ∃ n : Nat, r = (n : Int) := ⟨r.toNat, by omega⟩
  have hn : n < 6 := by omega
  match n, hn with
  | 0, _ => exact ⟨0, rfl⟩
  | 1, _ => exact ⟨0, rfl⟩
  | 2, _ => exact ⟨0, rfl⟩
  | 3, _ => exact ⟨0, rfl⟩
  | 4, _ => exact ⟨1, rfl⟩
  | 5, _ => exact ⟨2, rfl⟩
theorem spot_upd {H : Hp} {l : Addr} {zs : List V} {o : HO} (hl : H l = some (.lst zs)) {p : Hull.P} {v : V} (h : Dn K H (spotD p) v) : Dn K (upd H l o) (spotD p) v := by
  obtain ⟨a, rfl, h1⟩ := h.spot
  refine dn_spot ?_
  rcases h1 with (h1 | ⟨ob, h1⟩) | h1
  · exact .inl (.inl (by rw [upd_ne (by rintro rfl; rw [hl] at h1; cases h1)]; exact h1))
  · exact .inl (.inr ⟨ob, by rw [upd_ne (by rintro rfl; rw [hl] at h1; cases h1)]; exact h1⟩)
  · exact .inr h1
theorem spots_upd {H : Hp} {l : Addr} {zs : List V} {o : HO} (hl : H l = some (.lst zs)) : ∀ {ps : List Hull.P} {ys : List V}, Dns K H (ps.map spotD) ys → Dns K (upd H l o) (ps.map spotD) ys
  | [], _, h => by rw [L2.Dns.nil h]; exact dns_nil
  | p :: ps, _, h => by
    obtain ⟨x, r, rfl, h1, h2⟩ := L2.Dns.cons h
    exact dns_cons (spot_upd hl h1) (spots_upd hl h2)
theorem same_upd {H H' : Hp} {l : Addr} {o : HO} (h : H l = none) (e : Same H H') : Same H (upd H' l o) := fun b u q => by
  rw [upd_ne (ne_of_none q h)]; exact e b u q
theorem ok_herd (B : Bl mg) (C__law_draw : Cal P w K mg base 1 "_law_draw" sp_draw) (C__law_spot : Cal P w K mg base 2 "_law_spot" (sp_spot K)) (F : Fun K "_law_herd" "_law_herd" s__law_herd f fd) : FnOk P w K mg base CX0 3 f fd ["_law_cell", "_law_most_spots"] (sp_herd K) := by
  refine F.ok sc__law_herd (fun vs H Q E h => ?_) (fun cdv A outer s H vs Q E hr h => ?_)
  · obtain ⟨c, mo, rfl, _⟩ := h
    rfl
  obtain ⟨c, mo, rfl, mo1, mo8, q⟩ := h
  refine ⟨_, (pss_cons (ps_set (i := 2) sc__law_herd.nd rfl (Or.inl rfl) (pe_op op_add pe_int (pe_c C__law_draw (hr.mono (by decide)) (by rfl) (pa_cons (pv 0) (pa_cons pe_int (pa_cons (pv 1) pa_nil))))))
    (pss_cons (ps_set (i := 3) sc__law_herd.nd rfl (Or.inl rfl) (pe_ix ix_tup (pe_tup (pa_ints (by rfl))) (pe_c C__law_draw (hr.mono (by decide)) (by rfl) (pa_cons (pv 0) (pa_cons pe_int (pa_cons pe_int pa_nil)))) (fun _ _ => rfl)))
    (pss_cons (ps_set (i := 4) sc__law_herd.nd rfl (Or.inl rfl) (pe_ix ix_tup (pe_tup (pa_ints (by rfl))) (pe_c C__law_draw (hr.mono (by decide)) (by rfl) (pa_cons (pv 0) (pa_cons pe_int (pa_cons pe_int pa_nil)))) (fun _ _ => rfl)))
    (pss_cons (ps_set (i := 5) sc__law_herd.nd rfl (Or.inl rfl) (pe_lst pa_nil))
    (pss_cons (ps_for PassesOwn.never rfl (pi_range1 (by rfl) B.range (pa_cons (pv 2) pa_nil)) (pg_name (i := 6) sc__law_herd.nd rfl (Or.inl rfl)) (pss_one (ps_expr (pe_bm PySem.F.plainAttrs_list PySem.F.slot_list_append PySem.F.type_list_append mt_append (pv 5) (pa_cons (pe_c C__law_spot (hr.mono (by decide)) (by rfl) (pa_cons (pe_op op_mul (pe_op op_add (pv 0) (pe_op op_mul pe_int (pv 6))) (pe_op op_add (pv 6) pe_int)) (pa_cons (pv 3) (pa_cons (pv 4) pa_nil)))) pa_nil)))))
    (pss_cons (ps_if (PW.pt (pw_and (pt_cmpR op_gt (pv 2) pe_int (nomark _)) (pw_and1 (pt_cmpR op_eq (pe_c C__law_draw (hr.mono (by decide)) (by rfl) (pa_cons (pv 0) (pa_cons pe_int (pa_cons pe_int pa_nil)))) pe_int (nomark _))))) (pss_one (ps_asg (pe_ix ix_list (pv 5) pe_int (fun _ _ => rfl)) (pg_sub (pv 5) (pe_op op_sub (pv 2) pe_int) set_list))) pss_nil)
    (pss_one (ps_ret (pv 5))))))))), ?_⟩
  refine ⟨_, rfl, _, rfl, c, 3, mo, rfl, by omega, fun r H1 r0 r1 e1 => ?_⟩
  refine ⟨_, _, rfl, rfl, ?_⟩
  refine ⟨(by show 4 ≤ sizeLine; decide), fun t1 ht1 => ?_⟩
  refine ⟨_, rfl, c, 4, 4, rfl, by decide, fun r2 H2 p0 p1 e2 => ?_⟩
  obtain ⟨m, hm, m1, m2⟩ := most_at r2 p0 p1
  refine ⟨t1, _, _, _, rfl, rfl, SqT.of (e2 _ _ upd_same), hm, ?_⟩
  refine ⟨(by show 6 ≤ sizeLine; decide), fun t2 ht2 => ?_⟩
  refine ⟨_, rfl, c, 5, 6, rfl, by decide, fun r3 H3 s0 s1 e3 => ?_⟩
  obtain ⟨ln, hln⟩ := line_at r3 s0 s1
  refine ⟨t2, _, _, _, rfl, rfl, SqT.of (e3 _ _ upd_same), hln, ?_⟩
  have g3 : Same H H3 := (e1.trans (same_new ht1 _)).trans (e2.trans ((same_new ht2 _).trans e3))
  refine ⟨Nat.zero_le _, fun l hl => ?_⟩
  have hl0 : H l = none := g3.free hl
  refine ⟨_, rfl, _, rfl, by omega, by omega, ?_⟩
  refine for_range (fun i σ' H' => ∃ ck ys ps, σ' = [some (.int c), some (.int mo), some (.int (1 + r)), some (.int m), some (.int ln), some (.ref l), ck] ∧ Same H H' ∧ H' l = some (.lst ys) ∧ Dns K H' (List.map spotD ps) ys ∧ (∀ p ∈ ps, Bd p) ∧ ps.length = i)
    ⟨_, [], [], rfl, g3.trans (same_new hl _), upd_same, dns_nil, (fun _ h => absurd h (List.not_mem_nil)), rfl⟩ ?_ ?_
  · rintro i σ' H4 hi ⟨ck, ys, ps, rfl, e4, h4, d4, b4, l4⟩
    refine ⟨_, rfl, .inl ⟨rfl, _, SqL.of h4⟩, _, rfl, _, rfl, _, _, rfl, rfl, .inl ⟨by omega, by omega⟩, _, _, rfl, rfl, _, rfl, _, _, rfl, rfl, _, _, rfl, rfl, .inr ⟨by omega, by omega⟩, _, rfl, _, rfl, _, m, ln, rfl, m1, m2, fun v H5 p e5 sp5 => ?_⟩
    have h5 := e5 _ _ h4
    have hz : ys.length = i := by have := d4.length; rw [List.length_map] at this; omega
    refine ⟨l, ys, v, rfl, rfl, h5, by rw [sizeLine_eq]; omega, ?_⟩
    refine ⟨_, ys ++ [v], ps ++ [p], rfl, same_upd hl0 (e4.trans e5), upd_same, ?_, fun p' hp' => ?_, by rw [List.length_append, l4]; rfl⟩
    · rw [List.map_append]
      exact (spots_upd h5 (e5.dns d4)).append (dns_cons (spot_upd h5 sp5.1) dns_nil)
    · rcases List.mem_append.mp hp' with g | g
      · exact b4 p' g
      · rw [List.mem_singleton.mp g]; exact sp5.2
  · rintro σ' H4 ⟨ck, ys, ps, rfl, e4, h4, d4, b4, l4⟩
    have lps : ps.length = (1 + r).toNat := l4
    have hz : ys.length = ps.length := by have := d4.length; rwa [List.length_map] at this
    have out : ∀ H', Same H H' → ∀ zs rs, H' l = some (.lst zs) → Dns K H' (List.map spotD rs) zs → (∀ p ∈ rs, Bd p) → rs.length = ps.length → Q (.ref l) H' := fun H' e zs rs h d b g => q l zs rs H' e hl0 h d b (by omega) (by omega)
    refine ⟨_, rfl, _, _, rfl, rfl, _, rfl, ite2 (fun c0 => ?_) (fun c0 => ?_)⟩
    · have c1 : (2 : Int) < 1 + r := of_decide_eq_true c0
      refine ⟨_, rfl, c, 6, 4, rfl, by decide, fun r6 H5 u0 u1 e5 => ?_⟩
      refine ⟨rfl, _, rfl, ite2 (fun _ => ?_) (fun _ => ?_)⟩
      · have h5 := e5 _ _ h4
        have hp0 : 0 < ps.length := by omega
        obtain ⟨v0, a1, a2⟩ := d4.get (i := 0) (d := spotD ps[0]) (by simp [hp0])
        have hj : ixN ys.length (1 + r - 1) = some (1 + r - 1).toNat := by
          unfold ixN; rw [if_pos (by omega), if_pos (by omega)]
        refine ⟨_, rfl, l, ys, 0, v0, rfl, rfl, SqL.of h5, atI_nat (j := 0) a1, ?_⟩
        refine ⟨_, rfl, _, rfl, _, _, rfl, rfl, l, ys, _, _, rfl, rfl, h5, hj, ?_⟩
        refine ⟨_, rfl, out _ (same_upd hl0 (e4.trans e5)) _ (ps.set (1 + r - 1).toNat ps[0]) upd_same ?_ (fun p hp => ?_) (by simp)⟩
        · have := (spots_upd (o := HO.lst (ys.set (1 + r - 1).toNat v0)) h5 (e5.dns d4)).set (spot_upd h5 (e5.dn a2)) (1 + r - 1).toNat
          rw [← List.map_set] at this
          exact this
        · rcases List.mem_or_eq_of_mem_set hp with g | g
          · exact b4 p g
          · rw [g]; exact b4 _ (List.getElem_mem hp0)
      · exact ⟨_, rfl, out _ (e4.trans e5) _ _ (e5 _ _ h4) (e5.dns d4) b4 rfl⟩
    · refine ite2 (fun h => by cases h) (fun _ => ?_)
      exact ⟨_, rfl, out _ e4 _ _ h4 d4 b4 rfl⟩
theorem ok_num (B : Bl mg) (F : Fun K "is_number" "is_number" s_is_number f fd) : FnOk P w K mg base CX0 1 f fd ["value"] sp_num := by
  refine F.ok sc_is_number (fun vs H Q E h => ?_) (fun cdv A outer s H vs Q E hr h => ?_)
  · obtain ⟨i, rfl, _⟩ := h
    rfl
  obtain ⟨i, rfl, q⟩ := h
  refine ⟨_, (pss_one (ps_ret (pe_and (pe_callB call_isinstance (by rfl) B.isinstance PySem.L3.boot_isinstance (pa_cons (pv 0) (pa_cons (pe_bltn (v := .ty "int") (by rfl) B.int PySem.L3.boot_int rfl) pa_nil))) (pe_one (pe_not (pe_callB call_isinstance (by rfl) B.isinstance PySem.L3.boot_isinstance (pa_cons (pv 0) (pa_cons (pe_bltn (v := .ty "bool") (by rfl) B.bool PySem.L3.boot_bool rfl) pa_nil)))))))), ?_⟩
  refine ⟨_, rfl, _, "int", _, true, rfl, .int i, rfl, ?_⟩
  refine ⟨true, rfl, ?_⟩
  refine ite2 (fun _ => ?_) (fun h => absurd rfl h)
  exact ⟨_, rfl, _, "bool", _, false, rfl, .int i, rfl, _, rfl, q⟩
theorem ok_check (C_is_herd : Cal P w K mg base 3 "is_herd" (sp_isherd K)) (F : Fun K "check_herd" "check_herd" s_check_herd f fd) : FnOk P w K mg base CX0 4 f fd ["herd"] (sp_check K) := by
  refine F.ok sc_check_herd (fun vs H Q E h => ?_) (fun cdv A outer s H vs Q E hr h => ?_)
  · obtain ⟨o, ys, ps, rfl, _⟩ := h
    rfl
  obtain ⟨o, ys, ps, rfl, h1, h2, h3, h4, h5, q⟩ := h
  refine ⟨_, (pss_one (ps_if (pt_not (pt_val (pe_c C_is_herd (hr.mono (by decide)) (by rfl) (pa_cons (pv 0) pa_nil)))) (pss_one ps_never) pss_nil)), ?_⟩
  refine ⟨_, rfl, o, ys, ps, rfl, h1, h2, h3, h4, h5, fun H' e => ?_⟩
  exact ⟨_, rfl, ite2 (fun c => by cases c) fun _ => q _ e⟩
theorem ok_pair (B : Bl mg) (C_is_number : Cal P w K mg base 1 "is_number" sp_num) (F : Fun K "is_pair" "is_pair" s_is_pair f fd) : FnOk P w K mg base CX0 2 f fd ["value"] (sp_pair K) := by
  refine F.ok sc_is_pair (fun vs H Q E h => ?_) (fun cdv A outer s H vs Q E hr h => ?_)
  · obtain ⟨x, p, rfl, _⟩ := h
    rfl
  obtain ⟨x, p, rfl, ⟨hx, ⟨b1, b2⟩, b3, b4⟩, q⟩ := h
  obtain ⟨t, rfl, ht⟩ := hx.spot
  refine ⟨_, (pss_cons (ps_if (PW.pt (pw_or (pt_not (pt_val (pe_callB call_isSeq (by rfl) B.isinstance PySem.L3.boot_isinstance (pa_cons (pv 0) (pa_cons (pe_bltn (v := .ty "tuple") (by rfl) B.tuple PySem.L3.boot_tuple rfl) pa_nil))))) (pw_or1 (pt_cmpR op_ne (pe_callB call_len_seq (by rfl) B.len PySem.L3.boot_len (pa_cons (pv 0) pa_nil)) pe_int (nomark _))))) (pss_one (ps_ret pe_bl)) pss_nil)
    (pss_one (ps_ret (pe_callB (call_all rfl) (by rfl) B.all PySem.L3.boot_all (pa_cons (pe_comp (Nc := ["part"]) (fi := [none]) (comp_sc rfl rfl rfl) rfl (comp_from_go rfl) (pi_tup (pv 0)) (fun _ _ _ _ => ⟨(pg_name (i := 0) (show (["part"] : List Str).Nodup by decide +kernel) rfl (Or.inl rfl)), pf_nil, (pe_and (pe_c C_is_number (hr.mono (by decide)) (by rfl) (pa_cons (pv 0) pa_nil)) (pe_one (pe_chain op_le op_le (pe_un un_neg (pe_glob (v := .int 1000) (by rfl) B.g_BOUND.choose_spec ⟨_, rfl⟩)) (pv 0) (pe_glob (v := .int 1000) (by rfl) B.g_BOUND.choose_spec ⟨_, rfl⟩))))⟩)) pa_nil))))), ?_⟩
  refine ⟨_, rfl, t, _, "tuple", true, rfl, .inl ⟨ht, rfl⟩, _, rfl, ?_⟩
  refine iteF ⟨_, rfl, t, _, rfl, .inr ht, rfl, _, rfl, ?_⟩
  refine iteF ?_
  refine ⟨_, rfl, t, rfl, ⟨_, ht⟩, fun _ _ _ _ l hl => ?_⟩
  refine comp_by 2 (by show 2 ≤ sizeLine; decide) (fun i ys σ' Hc => Same H Hc ∧ Hc l = some (.lst ys) ∧ ys = List.replicate i (V.bl true) ∧ σ'.length = 1) ?_ (fun i ys σ' Hc ⟨_, e, y, _⟩ => ⟨e, by rw [y]; simp⟩) ?_ ?_
  · exact ⟨same_new hl _, upd_same, rfl, rfl⟩
  · rintro i ys σ' Hc hi ⟨e, el, rfl, hσ⟩
    have ht' := e.seqT ht
    refine ⟨⟨_, if i = 0 then .int p.1 else .int p.2, ht', by match i, hi with | 0, _ => rfl | 1, _ => rfl⟩, fun x H' y Kt Kf k1 _ => ?_⟩
    obtain ⟨rfl, hx⟩ := y
    have hx' := hx _ ht'
    obtain ⟨z, rfl, z1, z2⟩ : ∃ z : Int, x = .int z ∧ -1000 ≤ z ∧ z ≤ 1000 := by
      match i, hi, hx' with
      | 0, _, h => exact ⟨p.1, (Option.some.inj h).symm, b1, b2⟩
      | 1, _, h => exact ⟨p.2, (Option.some.inj h).symm, b3, b4⟩
    match σ', hσ with
    | [o], _ =>
      simp only [gName, tYes, ↓reduceIte]
      refine ⟨_, rfl, z, rfl, true, rfl, iteT ?_⟩
      refine ⟨_, rfl, _, rfl, _, _, rfl, rfl, _, rfl, ite2 (fun _ => ?_) (fun h => absurd (decide_eq_true (show (-1000 : Int) ≤ z by omega)) h)⟩
      refine ⟨_, _, rfl, rfl, ?_⟩
      have hz : decide (z ≤ 1000) = true := decide_eq_true z2
      show Kt _ (.bl (decide (z ≤ 1000))) _
      rw [hz]
      refine k1 _ _ _ el ⟨fun b o h => ?_, upd_same, by rw [List.replicate_succ'], rfl⟩
      rw [upd_ne (ne_of_none h hl)]; exact e _ _ h
  · rintro ys σ' Hc ⟨e, el, rfl, _⟩
    exact ⟨⟨_, e.seqT ht, Nat.le_refl _⟩, l, [true, true], rfl, SqL.of el, q _ e⟩
theorem ok_isherd (B : Bl mg) (C_is_pair : Cal P w K mg base 2 "is_pair" (sp_pair K)) (F : Fun K "is_herd" "is_herd" s_is_herd f fd) : FnOk P w K mg base CX0 3 f fd ["value"] (sp_isherd K) := by
  refine F.ok sc_is_herd (fun vs H Q E h => ?_) (fun cdv A outer s H vs Q E hr h => ?_)
  · obtain ⟨o, ys, ps, rfl, _⟩ := h
    rfl
  obtain ⟨o, ys, ps, rfl, ho, hd, hb, l1, l2, q⟩ := h
  have hz : ys.length = ps.length := by have := hd.length; rwa [List.length_map] at this
  refine ⟨_, (pss_cons (ps_if (PW.pt (pw_or (pt_not (pt_val (pe_callB call_isSeq (by rfl) B.isinstance PySem.L3.boot_isinstance (pa_cons (pv 0) (pa_cons (pe_bltn (v := .ty "list") (by rfl) B.list PySem.L3.boot_list rfl) pa_nil))))) (pw_or1 (pt_not (pt_chain op_le op_le pe_int (pe_callB call_len_seq (by rfl) B.len PySem.L3.boot_len (pa_cons (pv 0) pa_nil)) (pe_glob (v := .int 8) (by rfl) B.g_MOST_SPOTS.choose_spec ⟨_, rfl⟩)))))) (pss_one (ps_ret pe_bl)) pss_nil)
    (pss_one (ps_ret (pe_callB (call_all rfl) (by rfl) B.all PySem.L3.boot_all (pa_cons (pe_comp (Nc := ["spot"]) (fi := [none]) (comp_sc rfl rfl rfl) rfl (comp_from_go rfl) (pi_list (pv 0)) (fun _ _ _ _ => ⟨(pg_name (i := 0) (show (["spot"] : List Str).Nodup by decide +kernel) rfl (Or.inl rfl)), pf_nil, (pe_c C_is_pair (hr.mono (by decide)) (by rfl) (pa_cons (pv 0) pa_nil))⟩)) pa_nil))))), ?_⟩
  refine ⟨_, rfl, o, _, "list", true, rfl, .inr ⟨ho, rfl⟩, _, rfl, ?_⟩
  refine iteF ?_
  refine ⟨_, rfl, o, ys, rfl, .inl ho, _, _, rfl, rfl, _, rfl, ite2 (fun _ => ?_) (fun h => absurd (decide_eq_true (show (1 : Int) ≤ (ys.length : Nat) by omega)) h)⟩
  refine ⟨_, _, rfl, rfl, _, rfl, ?_⟩
  have h8 : decide (((ys.length : Nat) : Int) ≤ 8) = true := decide_eq_true (by omega)
  refine ite2 (fun h => ?_) (fun _ => ?_)
  · exfalso
    have h' : (!decide (((ys.length : Nat) : Int) ≤ 8)) = true := h
    rw [h8] at h'; cases h'
  refine ⟨_, rfl, o, rfl, ⟨_, ho⟩, fun _ _ _ _ l hl => ?_⟩
  refine comp_by ys.length (by rw [sizeLine_eq]; omega) (fun i zs σ' Hc => Same H Hc ∧ Hc l = some (.lst zs) ∧ zs = List.replicate i (V.bl true) ∧ σ'.length = 1) ?_ (fun i zs σ' Hc ⟨_, e, y, _⟩ => ⟨e, by rw [y]; simp⟩) ?_ ?_
  · exact ⟨same_new hl _, upd_same, rfl, rfl⟩
  · rintro i zs σ' Hc hi ⟨e, el, rfl, hσ⟩
    refine ⟨⟨_, ys[i], e.seq ho, by simp [hi]⟩, fun x H' y Kt Kf k1 _ => ?_⟩
    obtain ⟨rfl, hx⟩ := y
    have hx' := hx _ (e.seq ho)
    obtain ⟨d, hd1, hd2⟩ := hd.get' hx'
    rw [List.getElem?_map] at hd1
    obtain ⟨p, hp, rfl⟩ := Option.map_eq_some_iff.mp hd1
    match σ', hσ with
    | [c], _ =>
      simp only [gName, tYes, ↓reduceIte]
      refine ⟨_, rfl, x, p, rfl, ⟨e.dn hd2, hb p (List.mem_of_getElem? hp)⟩, fun H2 e2 => ?_⟩
      refine k1 _ _ _ (e2 _ _ el) ⟨fun b o h => ?_, upd_same, by rw [List.replicate_succ'], rfl⟩
      rw [upd_ne (ne_of_none h hl)]; exact e2 _ _ (e _ _ h)
  · rintro zs σ' Hc ⟨e, el, rfl, _⟩
    refine ⟨⟨_, e.seq ho, Nat.le_refl _⟩, l, List.replicate ys.length true, rfl, SqL.of (by rw [List.map_replicate]; exact el), ?_⟩
    have : (List.replicate ys.length true).all id = true := by simp
    rw [this]; exact q _ e

end
end K6a
set_option Elab.async false
set_option linter.all false
set_option maxRecDepth 100000
set_option maxHeartbeats 4000000
namespace K6a
open PySem L2 Hull SortM SepM
seal L2.PE L2.PT L2.PW L2.PA L2.PS L2.PSs L2.PG L2.PGs L2.PF L2.PI L2.PO
section
variable {P : Program} {w : World} {K : PySem.W.Frag} {mg : Str → Option Value} {base : Heap} {f : Addr} {fd : FuncData}
inductive sp_cd (vs : List V) (H : Hp) (Q : VK) (x_3 : XK) : Prop where
  | mk (a b : Int) (h_0 : vs = [.int a, .int b]) (h_1 : Q (.int (K9.g a b)) H)
theorem ok_cd (B : Bl mg) (F : Fun K "common_divisor" "common_divisor" s_common_divisor f fd) : FnOk P w K mg base CX0 1 f fd ["a", "b"] sp_cd := by
  refine F.ok sc_common_divisor (fun vs H Q E h => ?_) (fun cdv A outer s H vs Q E hr h => ?_)
  · obtain ⟨a, b, rfl, _⟩ := h
    rfl
  obtain ⟨a, b, rfl, q⟩ := h
  refine ⟨_, (pss_cons (ps_set (i := 2) sc_common_divisor.nd rfl (Or.inl rfl) (pe_callB call_abs (by rfl) B.abs PySem.L3.boot_abs (pa_cons (pv 0) pa_nil)))
    (pss_cons (ps_set (i := 3) sc_common_divisor.nd rfl (Or.inl rfl) (pe_callB call_abs (by rfl) B.abs PySem.L3.boot_abs (pa_cons (pv 1) pa_nil)))
    (pss_cons (ps_while PassesOwn.never (pt_cmpR op_gt (pv 3) pe_int (nomark _)) (pss_cons (ps_set (i := 4) sc_common_divisor.nd rfl (Or.inl rfl) (pe_op op_mod (pv 2) (pv 3)))
    (pss_cons (ps_set (i := 2) sc_common_divisor.nd rfl (Or.inl rfl) (pv 3))
    (pss_one (ps_set (i := 3) sc_common_divisor.nd rfl (Or.inl rfl) (pv 4))))))
    (pss_one (ps_ret (pv 2)))))), ?_⟩
  refine ⟨_, rfl, a, rfl, _, rfl, b, rfl, ?_⟩
  refine ⟨fun m σ' H' => H' = H ∧ ∃ (x y : Int) (r : Option V), σ' = [some (.int a), some (.int b), some (.int x), some (.int y), r] ∧ 0 ≤ x ∧ 0 ≤ y ∧ K9.g x y = K9.g a b ∧ m = y.toNat, ⟨_, rfl, _, _, _, rfl, by split <;> omega, by split <;> omega, K9.g_abs a b, rfl⟩, ?_⟩
  rintro m σ' H' ⟨rfl, x, y, r, rfl, hx, hy, hg, rfl⟩
  refine ⟨_, rfl, _, _, rfl, rfl, _, rfl, ite2 (fun c => ?_) (fun c => ?_)⟩
  · have c' : 0 < y := of_decide_eq_true c
    refine ⟨fun σ' H'' => H'' = H' ∧ σ' = [some (.int a), some (.int b), some (.int y), some (.int (x % y)), some (.int (x % y))], ?_, ?_⟩
    · rintro σ'' H'' ⟨rfl, rfl⟩
      have h1 := Int.emod_nonneg x (show y ≠ 0 by omega)
      have h2 := Int.emod_lt_of_pos x c'
      exact ⟨(x % y).toNat, by omega, rfl, y, x % y, _, rfl, by omega, h1, by rw [K9.g_step hx c', hg], rfl⟩
    · exact ⟨_, rfl, _, rfl, _, _, rfl, rfl, c', _, rfl, _, rfl, rfl, rfl⟩
  · have c' : ¬ 0 < y := of_decide_eq_false (Bool.eq_false_iff.mpr c)
    have hy0 : y = 0 := by omega
    subst hy0
    rw [K9.g_zero hx] at hg
    refine ⟨_, rfl, ?_⟩
    show Q (.int x) _
    rw [hg]; exact q
inductive sp_made (K : PySem.W.Frag) (vs : List V) (H : Hp) (Q : VK) (x_3 : XK) : Prop where
  | mk (a b : Int) (h_0 : vs = [.int a, .int b]) (h_1 : 0 < b) (h_2 : b < 2 ^ 190) (h_3 : ∀ v H', Same H H' → Dn K H' (spotD (K9.mk a b)) v → Q v H')
theorem ok_made (C_common_divisor : Cal P w K mg base 1 "common_divisor" sp_cd) (F : Fun K "made" "made" s_made f fd) : FnOk P w K mg base CX0 2 f fd ["a", "b"] (sp_made K) := by
  refine F.ok sc_made (fun vs H Q E h => ?_) (fun cdv A outer s H vs Q E hr h => ?_)
  · obtain ⟨a, b, rfl, _⟩ := h
    rfl
  obtain ⟨a, b, rfl, hb, hb2, q⟩ := h
  have h1 := K9.g_pos (a := a) hb
  have h2 := K9.g_le (a := a) hb
  refine ⟨_, (pss_cons (ps_set (i := 2) sc_made.nd rfl (Or.inl rfl) (pe_c C_common_divisor (hr.mono (by decide)) (by rfl) (pa_cons (pv 0) (pa_cons (pv 1) pa_nil))))
    (pss_one (ps_ret (pe_tup (pa_cons (pe_op op_fdivB (pv 0) (pv 2)) (pa_cons (pe_op op_fdivB (pv 1) (pv 2)) pa_nil)))))), ?_⟩
  refine ⟨_, rfl, _, rfl, a, b, rfl, ?_⟩
  have h3 : K9.g a b < 2 ^ 200 := by omega
  refine ⟨_, rfl, _, rfl, _, _, rfl, rfl, ⟨h1, h3⟩, _, rfl, _, rfl, _, _, rfl, rfl, ⟨h1, h3⟩, (by show 2 ≤ sizeLine; decide), fun p hp => ?_⟩
  exact q _ _ (same_new hp _) (dn_spot (SqT.of upd_same))
inductive sp_plus (K : PySem.W.Frag) (vs : List V) (H : Hp) (Q : VK) (x_3 : XK) : Prop where
  | mk (x y : V) (p q : Int × Int) (h_0 : vs = [x, y]) (h_1 : Dn K H (spotD p) x) (h_2 : Dn K H (spotD q) y) (h_3 : (1 ≤ p.2 ∧ p.2 ≤ 2 ^ 60)) (h_4 : (1 ≤ q.2 ∧ q.2 ≤ 2 ^ 60)) (h_5 : ∀ v H', Same H H' → Dn K H' (spotD (K9.mk (p.1 * q.2 + q.1 * p.2) (p.2 * q.2))) v → Q v H')
theorem big_mul {a b : Int} (h1 : 1 ≤ a) (h2 : a ≤ 2 ^ 60) (h3 : 1 ≤ b) (h4 : b ≤ 2 ^ 60) : 0 < a * b ∧ a * b < 2 ^ 190 := by
  refine ⟨Int.mul_pos (by omega) (by omega), ?_⟩
  have := Int.mul_le_mul h2 h4 (by omega) (by omega)
  omega
theorem ok_plus (C_made : Cal P w K mg base 2 "made" (sp_made K)) (F : Fun K "plus" "plus" s_plus f fd) : FnOk P w K mg base CX0 3 f fd ["one", "other"] (sp_plus K) := by
  refine F.ok sc_plus (fun vs H Q E h => ?_) (fun cdv A outer s H vs Q E hr h => ?_)
  · obtain ⟨x, y, p, q, rfl, _⟩ := h
    rfl
  obtain ⟨x, y, p, q, rfl, dx, dy, ⟨p1, p2⟩, ⟨q1, q2⟩, k⟩ := h
  obtain ⟨x, rfl, tx⟩ := dx.spot
  obtain ⟨y, rfl, ty⟩ := dy.spot
  have hs := big_mul p1 p2 q1 q2
  refine ⟨_, (pss_one (ps_ret (pe_c C_made (hr.mono (by decide)) (by rfl) (pa_cons (pe_op op_add (pe_op op_mul (pe_ix ix_tup (pv 0) pe_int (fun _ _ => rfl)) (pe_ix ix_tup (pv 1) pe_int (fun _ _ => rfl))) (pe_op op_mul (pe_ix ix_tup (pv 1) pe_int (fun _ _ => rfl)) (pe_ix ix_tup (pv 0) pe_int (fun _ _ => rfl)))) (pa_cons (pe_op op_mul (pe_ix ix_tup (pv 0) pe_int (fun _ _ => rfl)) (pe_ix ix_tup (pv 1) pe_int (fun _ _ => rfl))) pa_nil))))), ?_⟩
  refine ⟨_, rfl, x, _, _, _, rfl, rfl, tx, rfl, _, rfl, y, _, _, _, rfl, rfl, ty, rfl, _, _, rfl, rfl, .inr ⟨by omega, by omega⟩, ?_⟩
  refine ⟨_, rfl, y, _, _, _, rfl, rfl, ty, rfl, _, rfl, x, _, _, _, rfl, rfl, tx, rfl, _, _, rfl, rfl, .inr ⟨by omega, by omega⟩, _, _, rfl, rfl, ?_⟩
  refine ⟨_, rfl, x, _, _, _, rfl, rfl, tx, rfl, _, rfl, y, _, _, _, rfl, rfl, ty, rfl, _, _, rfl, rfl, .inr ⟨by omega, by omega⟩, ?_⟩
  exact ⟨_, _, rfl, hs.1, hs.2, fun v H' e1 e2 => k v H' e1 e2⟩
inductive sp_times (K : PySem.W.Frag) (vs : List V) (H : Hp) (Q : VK) (x_3 : XK) : Prop where
  | mk (x y : V) (p q : Int × Int) (h_0 : vs = [x, y]) (h_1 : Dn K H (spotD p) x) (h_2 : Dn K H (spotD q) y) (h_3 : (-1000 ≤ q.1 ∧ q.1 ≤ 1000)) (h_4 : (1 ≤ p.2 ∧ p.2 ≤ 2 ^ 60)) (h_5 : (1 ≤ q.2 ∧ q.2 ≤ 2 ^ 60)) (h_6 : ∀ v H', Same H H' → Dn K H' (spotD (K9.mk (p.1 * q.1) (p.2 * q.2))) v → Q v H')
theorem ok_times (C_made : Cal P w K mg base 2 "made" (sp_made K)) (F : Fun K "times" "times" s_times f fd) : FnOk P w K mg base CX0 3 f fd ["one", "other"] (sp_times K) := by
  refine F.ok sc_times (fun vs H Q E h => ?_) (fun cdv A outer s H vs Q E hr h => ?_)
  · obtain ⟨x, y, p, q, rfl, _⟩ := h
    rfl
  obtain ⟨x, y, p, q, rfl, dx, dy, ⟨n1, n2⟩, ⟨p1, p2⟩, ⟨q1, q2⟩, k⟩ := h
  obtain ⟨x, rfl, tx⟩ := dx.spot
  obtain ⟨y, rfl, ty⟩ := dy.spot
  have hs := big_mul p1 p2 q1 q2
  refine ⟨_, (pss_one (ps_ret (pe_c C_made (hr.mono (by decide)) (by rfl) (pa_cons (pe_op op_mul (pe_ix ix_tup (pv 0) pe_int (fun _ _ => rfl)) (pe_ix ix_tup (pv 1) pe_int (fun _ _ => rfl))) (pa_cons (pe_op op_mul (pe_ix ix_tup (pv 0) pe_int (fun _ _ => rfl)) (pe_ix ix_tup (pv 1) pe_int (fun _ _ => rfl))) pa_nil))))), ?_⟩
  refine ⟨_, rfl, x, _, _, _, rfl, rfl, tx, rfl, _, rfl, y, _, _, _, rfl, rfl, ty, rfl, _, _, rfl, rfl, .inr ⟨by omega, by omega⟩, ?_⟩
  refine ⟨_, rfl, x, _, _, _, rfl, rfl, tx, rfl, _, rfl, y, _, _, _, rfl, rfl, ty, rfl, _, _, rfl, rfl, .inr ⟨by omega, by omega⟩, ?_⟩
  exact ⟨_, _, rfl, hs.1, hs.2, fun v H' e1 e2 => k v H' e1 e2⟩
inductive sp_reach (K : PySem.W.Frag) (vs : List V) (H : Hp) (Q : VK) (x_3 : XK) : Prop where
  | mk (x : _) (y : _) (a : _) (b : _) (h_0 : vs = [x, y]) (h_1 : Dn K H (spotD a) x) (h_2 : Sp K H y b) (h_3 : Q (.int (dot a b)) H)
inductive sp_step (K : PySem.W.Frag) (vs : List V) (H : Hp) (Q : VK) (x_3 : XK) : Prop where
  | mk (x : _) (y : _) (a : _) (b : _) (h_0 : vs = [x, y]) (h_1 : Dn K H (spotD a) x) (h_2 : Dn K H (spotD b) y) (h_3 : ∀ v H', Same H H' → Dn K H' (spotD (sb b a)) v → Q v H')
theorem ok_step (F : Fun K "step" "step" s_step f fd) : FnOk P w K mg base CX0 1 f fd ["start", "end"] (sp_step K) := by
  refine F.ok sc_step (fun vs H Q E h => ?_) (fun cdv A outer s H vs Q E hr h => ?_)
  · obtain ⟨x, y, a, b, rfl, _⟩ := h
    rfl
  obtain ⟨x, y, a, b, rfl, ha, hb, q⟩ := h
  obtain ⟨x, rfl, ta⟩ := ha.spot
  obtain ⟨y, rfl, tb⟩ := hb.spot
  refine ⟨_, (pss_one (ps_ret (pe_tup (pa_cons (pe_op op_sub (pe_ix ix_tup (pv 1) pe_int (fun _ _ => rfl)) (pe_ix ix_tup (pv 0) pe_int (fun _ _ => rfl))) (pa_cons (pe_op op_sub (pe_ix ix_tup (pv 1) pe_int (fun _ _ => rfl)) (pe_ix ix_tup (pv 0) pe_int (fun _ _ => rfl))) pa_nil))))), ?_⟩
  refine ⟨_, rfl, y, _, _, _, rfl, rfl, tb, rfl, _, rfl, x, _, _, _, rfl, rfl, ta, rfl, _, _, rfl, rfl, ?_⟩
  refine ⟨_, rfl, y, _, _, _, rfl, rfl, tb, rfl, _, rfl, x, _, _, _, rfl, rfl, ta, rfl, _, _, rfl, rfl, (by show 2 ≤ sizeLine; decide), fun t ht => ?_⟩
  exact q _ _ (same_new ht _) (dn_spot (SqT.of upd_same))
def natV (g : List Nat) : List V := g.map fun (i : Nat) => V.int (i : Int)
theorem del_upd2 {H : Hp} {a : Addr} {o : HO} : del (upd H a o) a = del H a := by
  funext b
  by_cases h : b = a
  · subst h; rw [del_same, del_same]
  · rw [del_ne h, del_ne h, upd_ne h]
theorem same_del {H H' : Hp} (e : Same H H') (l : Addr) : Same (del H l) (del H' l) := fun b u q => by
  by_cases h : b = l
  · subst h; rw [del_same] at q; cases q
  · rw [del_ne h] at q ⊢; exact e b u q
theorem same_of_del {H : Hp} {l : Addr} : Same (del H l) H := fun b u q => by
  by_cases h : b = l
  · subst h; rw [del_same] at q; cases q
  · rw [del_ne h] at q; exact q
theorem del_new {H : Hp} {t l : Addr} {o : HO} (ht : H t = none) (hl : H l ≠ none) : del (upd H t o) l t = some o := by
  rw [del_ne (fun e => hl (by rw [← e]; exact ht)), upd_same]
inductive sp_ones (K : PySem.W.Frag) (vs : List V) (H : Hp) (Q : VK) (x_3 : XK) : Prop where
  | mk (n : Nat) (h_0 : vs = [.int n]) (h_1 : n ≤ 8) (h_2 : ∀ l zs H', Same H H' → H l = none → H' l = some (.lst zs) → Lol H' ((Cut.ones n).map natV) zs → Q (.ref l) H')
theorem ok_ones (B : Bl mg) (F : Fun K "ones" "ones" s_ones f fd) : FnOk P w K mg base CX0 1 f fd ["count"] (sp_ones K) := by
  refine F.ok sc_ones (fun vs H Q E h => ?_) (fun cdv A outer s H vs Q E hr h => ?_)
  · obtain ⟨n, rfl, _⟩ := h
    rfl
  obtain ⟨n, rfl, h8, q⟩ := h
  refine ⟨_, (pss_one (ps_ret (pe_comp (Nc := ["place"]) (fi := [none]) (comp_sc rfl rfl rfl) rfl (comp_from_go rfl) (pi_range1 (by rfl) B.range (pa_cons (pv 0) pa_nil)) (fun _ _ _ _ => ⟨(pg_name (i := 0) (show (["place"] : List Str).Nodup by decide +kernel) rfl (Or.inl rfl)), pf_nil, (pe_lst (pa_cons (pv 0) pa_nil))⟩)))), ?_⟩
  refine ⟨_, rfl, _, rfl, by omega, by omega, fun _ _ _ _ l hl => ?_⟩
  refine comp_by n (by rw [sizeLine_eq]; omega) (fun i zs σ' Hc => Same H Hc ∧ Hc l = some (.lst zs) ∧ Lol (del Hc l) ((Cut.ones i).map natV) zs ∧ zs.length = i ∧ σ'.length = 1) ?_ (fun i zs σ' Hc ⟨_, e, _, y, _⟩ => ⟨e, by rw [y]; exact Nat.le_refl _⟩) ?_ ?_
  · exact ⟨same_new hl _, upd_same, rfl, rfl, rfl⟩
  · rintro i zs σ' Hc hi ⟨e, el, dz, lz, hσ⟩
    refine ⟨by show i < _; omega, fun x H' y Kt Kf k1 _ => ?_⟩
    obtain ⟨rfl, rfl⟩ := y
    match σ', hσ with
    | [o1], _ =>
      simp only [gName, tYes, ↓reduceIte]
      refine ⟨_, rfl, (by show 1 ≤ sizeLine; decide), fun t ht => ?_⟩
      have et := same_new ht (HO.lst [V.int (0 + i)])
      refine k1 _ _ _ (et _ _ el) ⟨same_upd hl (e.trans et), upd_same, ?_, by rw [List.length_append, lz]; rfl, rfl⟩
      have e1 : Cut.ones (i + 1) = Cut.ones i ++ [[i]] := by unfold Cut.ones; rw [List.range_succ, List.map_append]; rfl
      rw [e1, List.map_append, del_upd2]
      refine (dz.same (same_del et l)).append (Lol.one ?_)
      rw [Int.zero_add] at *
      exact del_new ht (by rw [el]; simp)
  · rintro zs σ' H2 ⟨e, el, dz, lz, _⟩
    exact ⟨by show _ ≤ n; omega, q l zs H2 e hl el (dz.same same_of_del)⟩
end
end K6a
set_option Elab.async false
set_option linter.all false
set_option maxRecDepth 100000
set_option maxHeartbeats 4000000
namespace K6a
open PySem L2 Hull SortM SepM
seal L2.PE L2.PT L2.PW L2.PA L2.PS L2.PSs L2.PG L2.PGs L2.PF L2.PI L2.PO
section
variable {P : Program} {w : World} {K : PySem.W.Frag} {mg : Str → Option Value} {base : Heap} {f : Addr} {fd : FuncData}
theorem natV_last {g : List Nat} (h : g ≠ []) : atI (natV g) (-1) = some (V.int ((g.getLastD 0 : Nat) : Int)) := by
  have e : g = g.dropLast ++ [g.getLastD 0] := by
    rw [List.getLastD_eq_getLast?, List.getLast?_eq_some_getLast h]
    exact (List.dropLast_concat_getLast h).symm
  have e2 : natV g = natV g.dropLast ++ [V.int ((g.getLastD 0 : Nat) : Int)] := by
    conv => lhs; rw [e]
    unfold natV
    rw [List.map_append]; rfl
  rw [e2]; exact atI_last _ _
theorem del2_upd {H : Hp} {a l : Addr} {o : HO} : del (del (upd H a o) l) a = del (del H l) a := by
  funext b
  by_cases h : b = a
  · subst h; rw [del_same, del_same]
  · rw [del_ne h, del_ne h]
    by_cases h' : b = l
    · subst h'; rw [del_same, del_same]
    · rw [del_ne h', del_ne h', upd_ne h]
theorem grow_len {gs : List (List Nat)} {n : Nat} (hn : n ≤ 8) : (Cut.grown gs n).length ≤ 8 * gs.length := by
  induction gs with
  | nil => exact Nat.le_refl _
  | cons g gs ih =>
    have e : Cut.grown (g :: gs) n = Cut.grow1 n g ++ Cut.grown gs n := rfl
    rw [e, List.length_append]
    have : (Cut.grow1 n g).length ≤ 8 := by unfold Cut.grow1; rw [List.length_map, List.length_range]; omega
    show _ ≤ 8 * (gs.length + 1)
    omega
inductive sp_grown (K : PySem.W.Frag) (vs : List V) (H : Hp) (Q : VK) (x_3 : XK) : Prop where
  | mk (o : Addr) (ys : List V) (gs : List (List Nat)) (n : Nat) (h_0 : vs = [.ref o, .int n]) (h_1 : n ≤ 8) (h_2 : H o = some (.lst ys)) (h_3 : Lol H (gs.map natV) ys) (h_4 : (∀ g ∈ gs, g ≠ [] ∧ g.length ≤ 8 ∧ g.getLastD 0 < 8)) (h_5 : gs.length ≤ 100) (h_6 : ∀ l zs H', Same H H' → H l = none → H' l = some (.lst zs) → Lol H' ((Cut.grown gs n).map natV) zs → Q (.ref l) H')
theorem ok_grown (B : Bl mg) (F : Fun K "grown" "grown" s_grown f fd) : FnOk P w K mg base CX0 1 f fd ["groups", "count"] (sp_grown K) := by
  refine F.ok sc_grown (fun vs H Q E h => ?_) (fun cdv A outer s H vs Q E hr h => ?_)
  · obtain ⟨o, ys, gs, n, rfl, _⟩ := h
    rfl
  obtain ⟨o, ys, gs, n, rfl, h8, ho, hl0, hg, h100, q⟩ := h
  have lys := hl0.length
  rw [List.length_map] at lys
  refine ⟨_, (pss_cons (ps_set (i := 2) sc_grown.nd rfl (Or.inl rfl) (pe_lst pa_nil))
    (pss_cons (ps_for PassesOwn.never rfl (pi_list (pv 0)) (pg_name (i := 3) sc_grown.nd rfl (Or.inr rfl)) (pss_one (ps_expr (pe_bm PySem.F.plainAttrs_list PySem.F.slot_list_extend PySem.F.type_list_extend mt_extend (pv 2) (pa_cons (pe_comp (Nc := ["place", "group"]) (fi := [none, some 3]) (comp_sc rfl rfl rfl) rfl (comp_from_go rfl) (pi_range2 (by rfl) B.range (pa_cons (pe_op op_add (pe_ix ix_list (pv 3) (pe_un un_neg pe_int) (fun _ _ => rfl)) pe_int) (pa_cons (pv 1) pa_nil))) (fun _ _ _ _ => ⟨(pg_name (i := 0) (show (["place", "group"] : List Str).Nodup by decide +kernel) rfl (Or.inl rfl)), pf_nil, (pe_op op_cat (pv 1) (pe_lst (pa_cons (pv 0) pa_nil)))⟩)) pa_nil)))))
    (pss_one (ps_ret (pv 2))))), ?_⟩
  refine ⟨Nat.zero_le _, fun l hl => ?_⟩
  have e0 := same_new hl (HO.lst [])
  refine ⟨_, rfl, o, rfl, ⟨_, e0.seq (SqL.of ho)⟩, ?_⟩
  refine for_list (xs := ys) (fun i σ' H' => ∃ zs o3, σ' = [some (.ref o), some (.int n), some (.ref l), o3] ∧ Same H H' ∧ H' l = some (.lst zs) ∧ Lol (del H' l) ((Cut.grown (gs.take i) n).map natV) zs ∧ i ≤ gs.length) ⟨[], _, rfl, e0, upd_same, rfl, Nat.zero_le _⟩ (fun i σ' H' _ h => ?_) ?_ ?_
  · obtain ⟨zs, o3, rfl, e, _⟩ := h
    exact e.seq (SqL.of ho)
  · rintro i x σ' H1 hx ⟨zs, o3, rfl, e1, hl1, dz, hi'⟩
    have hi : i < gs.length := by rw [← lys]; exact (List.getElem?_eq_some_iff.mp hx).1
    have hgi : gs[i]? = some gs[i] := List.getElem?_eq_getElem hi
    obtain ⟨ga, hga, hgl⟩ := hl0.get (i := i) (g := natV gs[i]) (by rw [List.getElem?_map, hgi]; rfl)
    rw [hx] at hga; cases hga
    obtain ⟨gne, g8, gl8⟩ := hg gs[i] (List.getElem_mem hi)
    have lz := dz.length
    rw [List.length_map] at lz
    have lzb : zs.length ≤ 800 := by
      have := grow_len (gs := gs.take i) h8
      rw [List.length_take] at this
      omega
    generalize gs[i] = gg at *
    refine ⟨_, rfl, .inl ⟨rfl, _, SqL.of hl1⟩, ?_⟩
    refine ⟨_, rfl, _, rfl, ga, _, _, _, rfl, rfl, SqL.of (e1 _ _ hgl), natV_last gne, _, _, rfl, rfl, _, rfl, _, _, rfl, ⟨by omega, by omega, by omega, by omega⟩, fun _ _ _ _ t ht => ?_⟩
    refine comp_by (n - (gg.getLastD 0 + 1)) (by rw [sizeLine_eq]; omega) (fun j vs σ' Hc => Same H1 Hc ∧ Hc t = some (.lst vs) ∧ Lol (del (del Hc l) t) (((Cut.grow1 n gg).take j).map natV) vs ∧ vs.length = j ∧ ∃ o1, σ' = [o1, some (.ref ga)]) ?_ (fun i zs σ' Hc ⟨_, e, _, y, _⟩ => ⟨e, by rw [y]; exact Nat.le_refl _⟩) ?_ ?_
    · exact ⟨same_new ht _, upd_same, rfl, rfl, _, rfl⟩
    · rintro j vs σ' Hc hj ⟨e, el, dv, lv, o1, rfl⟩
      refine ⟨by show j < _; omega, fun x H' y Kt Kf k1 _ => ?_⟩
      obtain ⟨rfl, rfl⟩ := y
      simp only [gName, tYes, ↓reduceIte]
      refine ⟨_, rfl, _, rfl, (by show 1 ≤ sizeLine; decide), fun u hu => ?_⟩
      have eu := same_new hu (HO.lst [V.int (((gg.getLastD 0 : Nat) : Int) + 1 + (j : Int))])
      have hgu := eu _ _ (e _ _ (e1 _ _ hgl))
      refine ⟨ga, u, _, _, rfl, rfl, hgu, upd_same, by unfold natV; rw [List.length_map, sizeLine_eq]; show gg.length + 1 ≤ _; omega, fun p hp => ?_⟩
      have ep := same_new hp (HO.lst (natV gg ++ [V.int (((gg.getLastD 0 : Nat) : Int) + 1 + (j : Int))]))
      have elt := ep _ _ (eu _ _ el)
      refine k1 _ _ _ elt ⟨same_upd ht (e.trans (eu.trans ep)), upd_same, ?_, by rw [List.length_append, lv]; rfl, _, rfl⟩
      have et : (Cut.grow1 n gg).take (j + 1) = (Cut.grow1 n gg).take j ++ [gg ++ [gg.getLastD 0 + 1 + j]] := by
        rw [List.take_add_one]
        congr 1
        unfold Cut.grow1
        rw [List.getElem?_map, List.getElem?_range hj]; rfl
      rw [et, List.map_append, del2_upd]
      refine (dv.same (same_del (same_del (eu.trans ep) l) t)).append (Lol.one ?_)
      have en : natV (gg ++ [gg.getLastD 0 + 1 + j]) = natV gg ++ [V.int (((gg.getLastD 0 : Nat) : Int) + 1 + (j : Int))] := by unfold natV; rw [List.map_append]; rfl
      rw [en]
      have hpt : p ≠ t := fun z => by rw [z] at hp; rw [eu _ _ el] at hp; cases hp
      have hpl : p ≠ l := fun z => by rw [z] at hp; rw [eu _ _ (e _ _ hl1)] at hp; cases hp
      rw [del_ne hpt, del_ne hpl]; exact upd_same
    · rintro vs σ' H2 ⟨e, el, dv, lv, _⟩
      refine ⟨by show _ ≤ n - (gg.getLastD 0 + 1); omega, ?_⟩
      have lt : l ≠ t := fun z => by rw [← z] at ht; rw [hl1] at ht; cases ht
      have lgr : (Cut.grow1 n gg).length = n - (gg.getLastD 0 + 1) := by unfold Cut.grow1; rw [List.length_map, List.length_range]
      refine ⟨l, t, zs, vs, rfl, rfl, e _ _ hl1, el, by rw [sizeLine_eq]; omega, ?_⟩
      refine ⟨zs ++ vs, _, rfl, same_upd hl (e1.trans e), upd_same, ?_, by omega⟩
      have eg : Cut.grown (gs.take (i + 1)) n = Cut.grown (gs.take i) n ++ Cut.grow1 n gg := by
        rw [List.take_add_one, hgi]
        unfold Cut.grown
        rw [List.flatMap_append]
        show _ ++ (Cut.grow1 n gg ++ []) = _
        rw [List.append_nil]
      rw [eg, List.map_append, del_upd2]
      refine (dz.same (same_del e l)).append ?_
      have e2 : (Cut.grow1 n gg).take (n - (gg.getLastD 0 + 1)) = Cut.grow1 n gg := List.take_of_length_le (by omega)
      rw [e2] at dv
      exact dv.same same_of_del
  · rintro σ' H1 ⟨zs, o3, rfl, e1, hl1, dz, hi'⟩
    rw [lys, List.take_length] at dz
    exact ⟨_, rfl, q l zs H1 e1 hl hl1 (dz.same same_of_del)⟩
end
end K6a
set_option Elab.async false
set_option linter.all false
set_option maxRecDepth 100000
set_option maxHeartbeats 4000000
namespace K6a
open PySem L2 Hull SortM SepM
seal L2.PE L2.PT L2.PW L2.PA L2.PS L2.PSs L2.PG L2.PGs L2.PF L2.PI L2.PO
section
variable {P : Program} {w : World} {K : PySem.W.Frag} {mg : Str → Option Value} {base : Heap} {f : Addr} {fd : FuncData}
inductive sp_grp (K : PySem.W.Frag) (G : Nat → List (List Nat)) (vs : List V) (H : Hp) (Q : VK) (x_3 : XK) : Prop where
  | mk (n : Nat) (h_0 : vs = [.int n]) (h_1 : n ≤ 8) (h_2 : ∀ l zs H', Same H H' → H l = none → H' l = some (.lst zs) → Lol H' ((G n).map natV) zs → Q (.ref l) H')
theorem ok_twos (C_grown : Cal P w K mg base 1 "grown" (sp_grown K)) (C_ones : Cal P w K mg base 1 "ones" (sp_ones K)) (F : Fun K "twos" "twos" s_twos f fd) : FnOk P w K mg base CX0 2 f fd ["count"] (sp_grp K Cut.twos) := by
  refine F.ok sc_twos (fun vs H Q E h => ?_) (fun cdv A outer s H vs Q E hr h => ?_)
  · obtain ⟨n, rfl, _⟩ := h
    rfl
  obtain ⟨n, rfl, h8, q⟩ := h
  refine ⟨_, (pss_one (ps_ret (pe_c C_grown (hr.mono (by decide)) (by rfl) (pa_cons (pe_c C_ones (hr.mono (by decide)) (by rfl) (pa_cons (pv 0) pa_nil)) (pa_cons (pv 0) pa_nil))))), ?_⟩
  refine ⟨_, rfl, n, rfl, h8, fun l zs H1 e1 hl0 hl dz => ?_⟩
  refine ⟨_, rfl, l, zs, Cut.ones n, n, rfl, h8, hl, dz, fun g hg => ?_, ?_, fun l2 zs2 H2 e2 hl20 hl2 dz2 => ?_⟩
  · obtain ⟨i, hi, rfl⟩ := Cut.mem_ones.mp hg
    exact ⟨by simp, by simp, by show i < 8; omega⟩
  · unfold Cut.ones; rw [List.length_map, List.length_range]; omega
  · exact q l2 zs2 H2 (e1.trans e2) (e1.free hl20) hl2 dz2
theorem ok_threes (C_grown : Cal P w K mg base 1 "grown" (sp_grown K)) (C_twos : Cal P w K mg base 2 "twos" (sp_grp K Cut.twos)) (F : Fun K "threes" "threes" s_threes f fd) : FnOk P w K mg base CX0 3 f fd ["count"] (sp_grp K Cut.threes) := by
  refine F.ok sc_threes (fun vs H Q E h => ?_) (fun cdv A outer s H vs Q E hr h => ?_)
  · obtain ⟨n, rfl, _⟩ := h
    rfl
  obtain ⟨n, rfl, h8, q⟩ := h
  refine ⟨_, (pss_one (ps_ret (pe_c C_grown (hr.mono (by decide)) (by rfl) (pa_cons (pe_c C_twos (hr.mono (by decide)) (by rfl) (pa_cons (pv 0) pa_nil)) (pa_cons (pv 0) pa_nil))))), ?_⟩
  refine ⟨_, rfl, n, rfl, h8, fun l zs H1 e1 hl0 hl dz => ?_⟩
  refine ⟨_, rfl, l, zs, Cut.twos n, n, rfl, h8, hl, dz, fun g hg => ?_, ?_, fun l2 zs2 H2 e2 hl20 hl2 dz2 => ?_⟩
  · obtain ⟨i, j, h1, h2, rfl⟩ := Cut.mem_twos.mp hg
    exact ⟨by simp, by simp, by show j < 8; omega⟩
  · have := grow_len (gs := Cut.ones n) h8
    have e : (Cut.ones n).length = n := by unfold Cut.ones; rw [List.length_map, List.length_range]
    show (Cut.grown (Cut.ones n) n).length ≤ 100
    omega
  · exact q l2 zs2 H2 (e1.trans e2) (e1.free hl20) hl2 dz2
def partD (x : Cut.Part) : PyData := .tuple [.int x.1, spotD x.2]
theorem Dn.part {H : Hp} {v : V} {x : Cut.Part} (h : Dn K H (partD x) v) : ∃ t w, v = .ref t ∧ SqT K H t [.int x.1, w] ∧ Dn K H (spotD x.2) w := by
  obtain ⟨t, xs, rfl, h1, h2⟩ := L2.Dn.tup h
  obtain ⟨a, r, rfl, d1, h3⟩ := L2.Dns.cons h2
  obtain ⟨b, r2, rfl, d2, h4⟩ := L2.Dns.cons h3
  obtain rfl := L2.Dns.nil h4
  obtain rfl := L2.Dn.int d1
  exact ⟨t, b, rfl, h1, d2⟩
theorem dn_part {H : Hp} {t : Addr} {w' : V} {x : Cut.Part} (h : SqT K H t [.int x.1, w']) (d : Dn K H (spotD x.2) w') : Dn K H (partD x) (.ref t) := dn_tup h (dns_cons dn_int (dns_cons d dns_nil))
theorem part_upd {H : Hp} {l : Addr} {zs : List V} {o : HO} (hl : H l = some (.lst zs)) {x : Cut.Part} {v : V} (h : Dn K H (partD x) v) : Dn K (upd H l o) (partD x) v := by
  obtain ⟨t, w', rfl, h1, h2⟩ := Dn.part h
  refine dn_part ?_ (spot_upd hl h2)
  rcases h1 with (h1 | ⟨ob, h1⟩) | h1
  · exact .inl (.inl (by rw [upd_ne (by rintro rfl; rw [hl] at h1; cases h1)]; exact h1))
  · exact .inl (.inr ⟨ob, by rw [upd_ne (by rintro rfl; rw [hl] at h1; cases h1)]; exact h1⟩)
  · exact .inr h1
theorem parts_upd {H : Hp} {l : Addr} {zs : List V} {o : HO} (hl : H l = some (.lst zs)) : ∀ {ps : List Cut.Part} {ys : List V}, Dns K H (ps.map partD) ys → Dns K (upd H l o) (ps.map partD) ys
  | [], _, h => by rw [L2.Dns.nil h]; exact dns_nil
  | p :: ps, _, h => by
    obtain ⟨x, r, rfl, h1, h2⟩ := L2.Dns.cons h
    exact dns_cons (part_upd hl h1) (parts_upd hl h2)
open Classical in
noncomputable def wgh (places : List Nat) (am : List Int) : List Cut.Part := if Cut.Sgn am then Cut.parts (Cut.wgL places am) (Cut.wgW am) else []
inductive sp_weighed (K : PySem.W.Frag) (vs : List V) (H : Hp) (Q : VK) (x_3 : XK) : Prop where
  | mk (o r : Addr) (places : List Nat) (am : List Int) (h_0 : vs = [.ref o, .ref r]) (h_1 : H o = some (.lst (natV places))) (h_2 : H r = some (.lst (am.map V.int))) (h_3 : am ≠ []) (h_4 : am.length = places.length) (h_5 : am.length ≤ 3) (h_6 : (∀ a ∈ am, -8000000 ≤ a ∧ a ≤ 8000000)) (h_7 : ∀ l zs H', Same H H' → H l = none → H' l = some (.lst zs) → Dns K H' ((wgh places am).map partD) zs → Q (.ref l) H')
theorem ok_weighed (B : Bl mg) (C_made : Cal P w K mg base 2 "made" (sp_made K)) (F : Fun K "weighed" "weighed" s_weighed f fd) : FnOk P w K mg base CX0 3 f fd ["places", "amounts"] (sp_weighed K) := by
  refine F.ok sc_weighed (fun vs H Q E h => ?_) (fun cdv A outer s H vs Q E hr h => ?_)
  · obtain ⟨o, r, places, am, rfl, _⟩ := h
    rfl
  obtain ⟨o, r, places, am, rfl, ho, hr1, ne, hlen, h3, hb, q⟩ := h
  refine ⟨_, (pss_cons (ps_if (pt_chain op_le op_le (pe_callB (call_minL rfl) (by rfl) B.min PySem.L3.boot_min (pa_cons (pv 1) pa_nil)) pe_int (pe_callB (call_maxL rfl) (by rfl) B.max PySem.L3.boot_max (pa_cons (pv 1) pa_nil))) (pss_one (ps_ret (pe_lst pa_nil))) pss_nil)
    (pss_cons (ps_set (i := 2) sc_weighed.nd rfl (Or.inr rfl) (pe_callB call_abs (by rfl) B.abs PySem.L3.boot_abs (pa_cons (pe_callB (call_sumL rfl) (by rfl) B.sum PySem.L3.boot_sum (pa_cons (pv 1) pa_nil)) pa_nil)))
    (pss_one (ps_ret (pe_comp (Nc := ["place", "amount", "whole"]) (fi := [none, none, some 2]) (comp_sc rfl rfl rfl) rfl (comp_from_go rfl) (pi_zip (by rfl) B.zip (pa_cons (pv 0) (pa_cons (pv 1) pa_nil))) (fun _ _ _ _ => ⟨(pg_tup rfl (pgs_cons (pg_name (i := 0) (show (["place", "amount", "whole"] : List Str).Nodup by decide +kernel) rfl (Or.inl rfl)) (pgs_cons (pg_name (i := 1) (show (["place", "amount", "whole"] : List Str).Nodup by decide +kernel) rfl (Or.inl rfl)) pgs_nil))), pf_nil, (pe_tup (pa_cons (pv 0) (pa_cons (pe_c C_made (hr.mono (by decide)) (by rfl) (pa_cons (pe_callB call_abs (by rfl) B.abs PySem.L3.boot_abs (pa_cons (pv 1) pa_nil)) (pa_cons (pv 2) pa_nil))) pa_nil)))⟩)))))), ?_⟩
  refine ⟨_, rfl, r, am, rfl, SqL.of hr1, ne, fun mn n1 n2 => ?_⟩
  by_cases hS : Cut.Sgn am
  · have ew : wgh places am = Cut.parts (Cut.wgL places am) (Cut.wgW am) := if_pos hS
    rw [ew] at q
    have wp : 0 < Cut.wgW am := by
      have := Cut.abs_sum hS
      unfold Cut.wgW; rw [← this]
      have hp : ∀ a ∈ am.map Cut.ab, 0 < a := fun a ha => by
        obtain ⟨b, hb', rfl⟩ := List.mem_map.mp ha
        exact Cut.sgn_ab hS hb'
      match am.map Cut.ab, (show am.map Cut.ab ≠ [] by simpa using ne), hp with
      | [x], _, hp => have := hp x (by simp); simp; omega
      | [x, y], _, hp => have := hp x (by simp); have := hp y (by simp); simp; omega
      | x :: y :: z :: t, _, hp =>
        have nn : ∀ l : List Int, (∀ a ∈ l, 0 < a) → 0 ≤ l.sum := by
          intro l; induction l with
          | nil => intro _; exact Int.le_refl _
          | cons a l ih => intro h; rw [List.sum_cons]; have := h a (by simp); have := ih fun b hb => h b (by simp [hb]); omega
        have := hp x (by simp)
        have := nn (y :: z :: t) fun a ha => hp a (List.mem_cons_of_mem _ ha)
        rw [List.sum_cons]; omega
    have wb : Cut.wgW am < 2 ^ 190 := by
      have : Cut.wgW am ≤ 24000000 := by
        unfold Cut.wgW
        match am, h3, hb with
        | [], _, _ => decide
        | [x], _, hb => have := hb x (by simp); simp [Cut.ab]; split <;> omega
        | [x, y], _, hb => have := hb x (by simp); have := hb y (by simp); simp [Cut.ab]; split <;> omega
        | [x, y, z], _, hb => have := hb x (by simp); have := hb y (by simp); have := hb z (by simp); simp [Cut.ab]; split <;> omega
        | _ :: _ :: _ :: _ :: _, h3, _ => simp at h3
      omega
    refine ⟨_, _, rfl, rfl, _, rfl, ite2 (fun c => ⟨_, rfl, r, am, rfl, SqL.of hr1, ne, fun mx m1 m2 => ⟨_, _, rfl, rfl, _, rfl, ite2 (fun c2 => ?_) (fun c2 => ?_)⟩⟩) (fun c => ⟨_, rfl, ite2 (fun h => by cases h) (fun _ => ?_)⟩)⟩
    · exfalso
      have c1 : mn ≤ 0 := of_decide_eq_true c
      have c3 : 0 ≤ mx := of_decide_eq_true c2
      rcases hS with g | g
      · have := g mn n1; omega
      · have := g mx m1; omega
    all_goals
      refine ⟨_, rfl, r, am, rfl, SqL.of hr1, _, rfl, ?_⟩
      refine ⟨_, rfl, _, rfl, o, r, rfl, ⟨_, SqL.of ho⟩, ⟨_, SqL.of hr1⟩, fun _ _ _ _ l hl => ?_⟩
      refine comp_by am.length (by rw [sizeLine_eq]; omega) (fun i zs σ' Hc => Same H Hc ∧ Hc l = some (.lst zs) ∧ Dns K Hc (((Cut.parts (Cut.wgL places am) (Cut.wgW am)).take i).map partD) zs ∧ zs.length = i ∧ ∃ o1 o2, σ' = [o1, o2, some (.int (Cut.wgW am))]) ?_ (fun i zs σ' Hc ⟨_, e, _, y, _⟩ => ⟨e, by rw [y]; exact Nat.le_refl _⟩) ?_ ?_
      · exact ⟨same_new hl _, upd_same, dns_nil, rfl, _, _, rfl⟩
      · rintro i zs σ' Hc hi ⟨e, el, dz, lz, o1, o2, rfl⟩
        have hip : i < places.length := by omega
        have hp1 : (natV places)[i]? = some (V.int ((places[i] : Nat) : Int)) := by unfold natV; rw [List.getElem?_map, List.getElem?_eq_getElem hip]; rfl
        have hp2 : (am.map V.int)[i]? = some (V.int am[i]) := by rw [List.getElem?_map, List.getElem?_eq_getElem hi]; rfl
        refine ⟨⟨_, _, _, _, e.seq (SqL.of ho), e.seq (SqL.of hr1), hp1, hp2⟩, fun v' H' y' Kt Kf k1 _ => ?_⟩
        obtain ⟨T, x, y, rfl, hT, rfl, hx, hy⟩ := y'
        have hx' := hx _ (e.seq (SqL.of ho))
        have hy' := hy _ (e.seq (SqL.of hr1))
        rw [hp1] at hx'; cases hx'
        rw [hp2] at hy'; cases hy'
        have eT := same_new hT (HO.tup [V.int ((places[i] : Nat) : Int), V.int am[i]])
        refine ⟨T, _, rfl, SqT.of upd_same, rfl, _, _, rfl, _, _, rfl, rfl, ?_⟩
        simp only [tYes, ↓reduceIte]
        refine ⟨_, rfl, _, rfl, am[i], rfl, _, rfl, _, _, rfl, wp, wb, fun u H2 e2 du => ?_⟩
        refine ⟨(by show 2 ≤ sizeLine; decide), fun t ht => ?_⟩
        have et := same_new ht (HO.tup [V.int ((places[i] : Nat) : Int), u])
        have e3 := eT.trans (e2.trans et)
        refine k1 _ _ _ (e3 _ _ el) ⟨same_upd hl (e.trans e3), upd_same, ?_, by rw [List.length_append, lz]; rfl, _, _, rfl⟩
        have ep : (Cut.parts (Cut.wgL places am) (Cut.wgW am))[i]? = some (places[i], K9.mk (Cut.ab am[i]) (Cut.wgW am)) := by
          unfold Cut.parts Cut.wgL
          rw [List.getElem?_map, List.getElem?_map, List.getElem?_zip_eq_some (z := (places[i], am[i])).mpr ⟨List.getElem?_eq_getElem hip, List.getElem?_eq_getElem hi⟩]; rfl
        rw [List.take_add_one, ep, List.map_append]
        refine (parts_upd (e3 _ _ el) (e3.dns dz)).append (dns_cons (part_upd (e3 _ _ el) ?_) dns_nil)
        exact dn_part (x := (places[i], K9.mk (Cut.ab am[i]) (Cut.wgW am))) (SqT.of upd_same) (et.dn du)
      · rintro zs σ' H2 ⟨e, el, dz, lz, _⟩
        refine ⟨⟨_, _, e.seq (SqL.of ho), e.seq (SqL.of hr1), .inr (by rw [List.length_map]; exact Nat.le_refl _)⟩, ?_⟩
        have lp : (Cut.parts (Cut.wgL places am) (Cut.wgW am)).length = am.length := by
          unfold Cut.parts Cut.wgL; rw [List.length_map, List.length_map, List.length_zip]; omega
        rw [List.take_of_length_le (by omega)] at dz
        exact q l zs H2 e hl el dz
  · have ew : wgh places am = [] := if_neg hS
    rw [ew] at q
    have some_nn : ∃ a ∈ am, 0 ≤ a := by
      apply Classical.byContradiction
      intro hn
      exact hS (.inr fun a ha => Int.not_le.mp fun g => hn ⟨a, ha, g⟩)
    have some_np : ∃ a ∈ am, a ≤ 0 := by
      apply Classical.byContradiction
      intro hn
      exact hS (.inl fun a ha => Int.not_le.mp fun g => hn ⟨a, ha, g⟩)
    obtain ⟨a1, b1, b2⟩ := some_nn
    obtain ⟨a2, b3, b4⟩ := some_np
    have c1 : mn ≤ 0 := Int.le_trans (n2 a2 b3) b4
    refine ⟨_, _, rfl, rfl, _, rfl, ite2 (fun c => ⟨_, rfl, r, am, rfl, SqL.of hr1, ne, fun mx m1 m2 => ⟨_, _, rfl, rfl, _, rfl, ite2 (fun c2 => ?_) (fun c2 => ?_)⟩⟩) (fun c => absurd (decide_eq_true c1) c)⟩
    · refine ⟨Nat.zero_le _, fun l hl => ?_⟩
      exact q l [] _ (same_new hl _) hl upd_same dns_nil
    · exact absurd (decide_eq_true (Int.le_trans b2 (m2 a1 b1))) c2
end
end K6a
set_option Elab.async false
set_option linter.all false
set_option maxRecDepth 100000
set_option maxHeartbeats 4000000
namespace K6a
open PySem L2 Hull SortM SepM
seal L2.PE L2.PT L2.PW L2.PA L2.PS L2.PSs L2.PG L2.PGs L2.PF L2.PI L2.PO
section
variable {P : Program} {w : World} {K : PySem.W.Frag} {mg : Str → Option Value} {base : Heap} {f : Addr} {fd : FuncData}
inductive sp_line (K : PySem.W.Frag) (vs : List V) (H : Hp) (Q : VK) (x_3 : XK) : Prop where
  | mk (x : _) (y : _) (z : _) (a : _) (b : _) (c : _) (h_0 : vs = [x, y, z]) (h_1 : Sp K H x a) (h_2 : Sp K H y b) (h_3 : Sp K H z c) (h_4 : ∀ l H', Same H H' → H l = none → H' l = some (.lst ((Cut.lineAm a b c).map V.int)) → Q (.ref l) H')
theorem ok_line (C_leftness : Cal P w K mg base 1 "leftness" (sp_left K)) (C_step : Cal P w K mg base 1 "step" (sp_step K)) (C_reach : Cal P w K mg base 1 "reach" (sp_reach K)) (F : Fun K "line_amounts" "line_amounts" s_line_amounts f fd) : FnOk P w K mg base CX0 2 f fd ["start", "end", "spot"] (sp_line K) := by
  refine F.ok sc_line_amounts (fun vs H Q E h => ?_) (fun cdv A outer s H vs Q E hr h => ?_)
  · obtain ⟨x, y, z, a, b, c, rfl, _⟩ := h
    rfl
  obtain ⟨x, y, z, a, b, c, rfl, ha, hb, hc, q⟩ := h
  refine ⟨_, (pss_cons (ps_if (pt_cmpR op_ne (pe_c C_leftness (hr.mono (by decide)) (by rfl) (pa_cons (pv 0) (pa_cons (pv 1) (pa_cons (pv 2) pa_nil)))) pe_int (nomark _)) (pss_one (ps_ret (pe_lst (pa_cons pe_int (pa_cons pe_int pa_nil))))) pss_nil)
    (pss_cons (ps_set (i := 3) sc_line_amounts.nd rfl (Or.inl rfl) (pe_c C_step (hr.mono (by decide)) (by rfl) (pa_cons (pv 0) (pa_cons (pv 1) pa_nil))))
    (pss_one (ps_ret (pe_lst (pa_cons (pe_op op_sub (pe_c C_reach (hr.mono (by decide)) (by rfl) (pa_cons (pv 3) (pa_cons (pv 1) pa_nil))) (pe_c C_reach (hr.mono (by decide)) (by rfl) (pa_cons (pv 3) (pa_cons (pv 2) pa_nil)))) (pa_cons (pe_op op_sub (pe_c C_reach (hr.mono (by decide)) (by rfl) (pa_cons (pv 3) (pa_cons (pv 2) pa_nil))) (pe_c C_reach (hr.mono (by decide)) (by rfl) (pa_cons (pv 3) (pa_cons (pv 0) pa_nil)))) pa_nil))))))), ?_⟩
  refine ⟨_, rfl, _, rfl, _, rfl, x, y, z, a, b, c, rfl, ha, hb, hc, rfl, _, rfl, ite2 (fun c0 => ?_) (fun c0 => ?_)⟩
  · have c1 : turn a b c ≠ 0 := by simpa using c0
    refine ⟨(by show 2 ≤ sizeLine; decide), fun l hl => ?_⟩
    have e : Cut.lineAm a b c = [0, 0] := by unfold Cut.lineAm; rw [if_pos c1]
    exact q l _ (same_new hl _) hl (by rw [e]; exact upd_same)
  · have c1 : turn a b c = 0 := by simpa using c0
    refine ⟨_, rfl, _, rfl, x, y, a, b, rfl, ha.1, hb.1, fun v H1 e1 dv => ?_⟩
    have e : Cut.lineAm a b c = [dot (sb b a) b - dot (sb b a) c, dot (sb b a) c - dot (sb b a) a] := by unfold Cut.lineAm; rw [if_neg (by simpa using c1)]
    refine ⟨_, rfl, _, rfl, v, y, sb b a, b, rfl, dv, hb.same e1, _, rfl, _, rfl, v, z, sb b a, c, rfl, dv, hc.same e1, _, _, rfl, rfl, ?_⟩
    refine ⟨_, rfl, _, rfl, v, z, sb b a, c, rfl, dv, hc.same e1, _, rfl, _, rfl, v, x, sb b a, a, rfl, dv, ha.same e1, _, _, rfl, rfl, (by show 2 ≤ sizeLine; decide), fun l hl => ?_⟩
    exact q l _ (e1.trans (same_new hl _)) (e1.free hl) (by rw [e]; exact upd_same)
theorem shape3 {α : Type} : ∀ {rs : List α}, 1 ≤ rs.length → rs.length ≤ 3 → (∃ a, rs = [a]) ∨ (∃ a b, rs = [a, b]) ∨ ∃ a b c, rs = [a, b, c]
  | [], h, _ => absurd h (by simp)
  | [a], _, _ => .inl ⟨a, rfl⟩
  | [a, b], _, _ => .inr (.inl ⟨a, b, rfl⟩)
  | [a, b, c], _, _ => .inr (.inr ⟨a, b, c, rfl⟩)
  | _ :: _ :: _ :: _ :: _, _, h => absurd h (by simp)
inductive sp_amounts (K : PySem.W.Frag) (vs : List V) (H : Hp) (Q : VK) (x_3 : XK) : Prop where
  | mk (o : Addr) (x : V) (ys : List V) (rs : List Hull.P) (s : Hull.P) (h_0 : vs = [.ref o, x]) (h_1 : SqL K H o ys) (h_2 : Dns K H (rs.map spotD) ys) (h_3 : (∀ p ∈ rs, Bd p)) (h_4 : 1 ≤ rs.length) (h_5 : rs.length ≤ 3) (h_6 : Sp K H x s) (h_7 : ∀ l H', Same H H' → H l = none → H' l = some (.lst ((Cut.amts rs s).map V.int)) → Q (.ref l) H')
theorem ok_amounts (B : Bl mg) (C_leftness : Cal P w K mg base 1 "leftness" (sp_left K)) (C_line_amounts : Cal P w K mg base 2 "line_amounts" (sp_line K)) (F : Fun K "amounts_at" "amounts_at" s_amounts_at f fd) : FnOk P w K mg base CX0 3 f fd ["row", "spot"] (sp_amounts K) := by
  refine F.ok sc_amounts_at (fun vs H Q E h => ?_) (fun cdv A outer s H vs Q E hr h => ?_)
  · obtain ⟨o, x, ys, rs, sp, rfl, _⟩ := h
    rfl
  obtain ⟨o, x, ys, rs, sp, rfl, ho, hd, hb, l1, l3, hx, q⟩ := h
  have hz : ys.length = rs.length := by have := hd.length; rwa [List.length_map] at this
  have hu := hr.units
  have shp := shape3 l1 l3
  refine ⟨_, (pss_cons (ps_if (pt_cmpR op_eq (pe_callB call_len_seq (by rfl) B.len PySem.L3.boot_len (pa_cons (pv 0) pa_nil)) pe_int (nomark _)) (pss_one (ps_ret (pe_lst (pa_cons (pe_ifExp (pt_cmpR (op_eqSp hu) (pe_ix ix_list (pv 0) pe_int (fun _ _ => rfl)) (pv 1) (nomark _)) pe_int pe_int) pa_nil)))) pss_nil)
    (pss_cons (ps_if (pt_cmpR op_eq (pe_callB call_len_seq (by rfl) B.len PySem.L3.boot_len (pa_cons (pv 0) pa_nil)) pe_int (nomark _)) (pss_one (ps_ret (pe_c C_line_amounts (hr.mono (by decide)) (by rfl) (pa_cons (pe_ix ix_list (pv 0) pe_int (fun _ _ => rfl)) (pa_cons (pe_ix ix_list (pv 0) pe_int (fun _ _ => rfl)) (pa_cons (pv 1) pa_nil)))))) pss_nil)
    (pss_one (ps_ret (pe_lst (pa_cons (pe_c C_leftness (hr.mono (by decide)) (by rfl) (pa_cons (pe_ix ix_list (pv 0) pe_int (fun _ _ => rfl)) (pa_cons (pe_ix ix_list (pv 0) pe_int (fun _ _ => rfl)) (pa_cons (pv 1) pa_nil)))) (pa_cons (pe_c C_leftness (hr.mono (by decide)) (by rfl) (pa_cons (pe_ix ix_list (pv 0) pe_int (fun _ _ => rfl)) (pa_cons (pe_ix ix_list (pv 0) pe_int (fun _ _ => rfl)) (pa_cons (pv 1) pa_nil)))) (pa_cons (pe_c C_leftness (hr.mono (by decide)) (by rfl) (pa_cons (pe_ix ix_list (pv 0) pe_int (fun _ _ => rfl)) (pa_cons (pe_ix ix_list (pv 0) pe_int (fun _ _ => rfl)) (pa_cons (pv 1) pa_nil)))) pa_nil)))))))), ?_⟩
  refine ⟨_, rfl, o, ys, rfl, .inl ho, rfl, _, rfl, ?_⟩
  rcases shp with ⟨a, rfl⟩ | ⟨a, b, rfl⟩ | ⟨a, b, c, rfl⟩
  · obtain ⟨va, r1, rfl, da, d1⟩ := L2.Dns.cons hd
    obtain rfl := L2.Dns.nil d1
    refine ite2 (fun _ => ?_) (fun c => absurd rfl c)
    refine ⟨_, rfl, o, _, 0, va, rfl, rfl, ho, rfl, _, rfl, a, sp, da, hx.1, _, rfl, ?_⟩
    refine ite2 (fun c => ?_) (fun c => ?_)
    · have c' : a = sp := by simpa using c
      refine ⟨(by show 1 ≤ sizeLine; decide), fun l hl => q l _ (same_new hl _) hl ?_⟩
      have e : Cut.amts [a] sp = [1] := by show [if a = sp then (1 : Int) else 0] = [1]; rw [if_pos c']
      rw [e]; exact upd_same
    · have c' : ¬ a = sp := by simpa using c
      refine ⟨(by show 1 ≤ sizeLine; decide), fun l hl => q l _ (same_new hl _) hl ?_⟩
      have e : Cut.amts [a] sp = [0] := by show [if a = sp then (1 : Int) else 0] = [0]; rw [if_neg c']
      rw [e]; exact upd_same
  · obtain ⟨va, r1, rfl, da, d1⟩ := L2.Dns.cons hd
    obtain ⟨vb, r2, rfl, db, d2⟩ := L2.Dns.cons d1
    obtain rfl := L2.Dns.nil d2
    refine ite2 (fun c => ?_) (fun _ => ?_)
    · simp at c
    refine ⟨_, rfl, o, _, rfl, .inl ho, rfl, _, rfl, ?_⟩
    refine ite2 (fun _ => ?_) (fun c => absurd rfl c)
    exact ⟨_, rfl, o, _, 0, va, rfl, rfl, ho, rfl, _, rfl, o, _, 1, vb, rfl, rfl, ho, rfl, _, rfl, va, vb, x, a, b, sp, rfl, ⟨da, hb a (by simp)⟩, ⟨db, hb b (by simp)⟩, hx, fun l H' e h1 h2 => q l H' e h1 h2⟩
  · obtain ⟨va, r1, rfl, da, d1⟩ := L2.Dns.cons hd
    obtain ⟨vb, r2, rfl, db, d2⟩ := L2.Dns.cons d1
    obtain ⟨vc, r3, rfl, dc, d3⟩ := L2.Dns.cons d2
    obtain rfl := L2.Dns.nil d3
    have sa : Sp K H va a := ⟨da, hb a (by simp)⟩
    have sb' : Sp K H vb b := ⟨db, hb b (by simp)⟩
    have sc : Sp K H vc c := ⟨dc, hb c (by simp)⟩
    refine ite2 (fun c => ?_) (fun _ => ?_)
    · simp at c
    refine ⟨_, rfl, o, _, rfl, .inl ho, rfl, _, rfl, ?_⟩
    refine ite2 (fun c => ?_) (fun _ => ?_)
    · simp at c
    refine ⟨_, rfl, o, _, 1, vb, rfl, rfl, ho, rfl, _, rfl, o, _, 2, vc, rfl, rfl, ho, rfl, _, rfl, vb, vc, x, b, c, sp, rfl, sb', sc, hx, ?_⟩
    refine ⟨_, rfl, o, _, 2, vc, rfl, rfl, ho, rfl, _, rfl, o, _, 0, va, rfl, rfl, ho, rfl, _, rfl, vc, va, x, c, a, sp, rfl, sc, sa, hx, ?_⟩
    refine ⟨_, rfl, o, _, 0, va, rfl, rfl, ho, rfl, _, rfl, o, _, 1, vb, rfl, rfl, ho, rfl, _, rfl, va, vb, x, a, b, sp, rfl, sa, sb', hx, ?_⟩
    exact ⟨(by show 3 ≤ sizeLine; decide), fun l hl => q l _ (same_new hl _) hl upd_same⟩
end
end K6a
set_option Elab.async false
set_option linter.all false
set_option maxRecDepth 100000
set_option maxHeartbeats 4000000
namespace K6a
open PySem L2 Hull SortM SepM
seal L2.PE L2.PT L2.PW L2.PA L2.PS L2.PSs L2.PG L2.PGs L2.PF L2.PI L2.PO
section
variable {P : Program} {w : World} {K : PySem.W.Frag} {mg : Str → Option Value} {base : Heap} {f : Addr} {fd : FuncData}
theorem part_can (x : Cut.Part) : (partD x).canLay0 = true ∧ (partD x).depth ≤ 3 := by
  obtain ⟨h1, h2⟩ := spot_can x.2
  unfold partD
  rw [PyData.canLay0, PyData.canLayAll0, PyData.canLayAll0, PyData.canLayAll0, h1, PyData.depth, PyData.depthAll, PyData.depthAll, PyData.depthAll]
  refine ⟨rfl, ?_⟩
  rw [PyData.depth]
  omega
theorem parts_can : ∀ ps : List Cut.Part, PyData.canLayAll0 (ps.map partD) = true ∧ PyData.depthAll (ps.map partD) ≤ 3
  | [] => ⟨rfl, by rw [List.map_nil, PyData.depthAll]; exact Nat.zero_le _⟩
  | p :: ps => by
    obtain ⟨h1, h2⟩ := parts_can ps
    obtain ⟨g1, g2⟩ := part_can p
    rw [List.map_cons, PyData.canLayAll0, PyData.depthAll, h1, g1]
    exact ⟨rfl, Nat.max_le.mpr ⟨g2, h2⟩⟩
theorem parts_shaped (ps : List Cut.Part) : SeqAt.shaped (.list (ps.map partD)) = true := by
  obtain ⟨h1, h2⟩ := parts_can ps
  unfold SeqAt.shaped
  have : (PyData.list (ps.map partD)).depth ≤ 64 := by rw [PyData.depth]; omega
  rw [decide_eq_true this, PyData.canLay0, h1]; rfl
def Mixd (ps : List Hull.P) (s : Hull.P) (prt : List Cut.Part) : Prop := (prt = [] ∧ Cut.NoMix ps s) ∨
  ∃ g, g ∈ Cut.groups ps.length ∧ Cut.Sgn (Cut.amts (g.map (Cut.at_ ps)) s) ∧ prt = Cut.parts (Cut.wgL g (Cut.amts (g.map (Cut.at_ ps)) s)) (Cut.wgW (Cut.amts (g.map (Cut.at_ ps)) s))
inductive sp_mix (K : PySem.W.Frag) (vs : List V) (H : Hp) (Q : VK) (x_3 : XK) : Prop where
  | mk (o : Addr) (x : V) (ys : List V) (ps : List Hull.P) (s : Hull.P) (h_0 : vs = [.ref o, x]) (h_1 : SqL K H o ys) (h_2 : Dns K H (ps.map spotD) ys) (h_3 : (∀ p ∈ ps, Bd p)) (h_4 : 1 ≤ ps.length) (h_5 : ps.length ≤ 8) (h_6 : Sp K H x s) (h_7 : ∀ l zs H' prt, Same H H' → H l = none → H' l = some (.lst zs) → Dns K H' (prt.map partD) zs → Mixd ps s prt → Q (.ref l) H')
theorem groups_map (n : Nat) : (Cut.ones n).map natV ++ (Cut.twos n).map natV ++ (Cut.threes n).map natV = (Cut.groups n).map natV := by unfold Cut.groups; rw [List.map_append, List.map_append]
theorem grp_shape {n : Nat} {g : List Nat} (h : g ∈ Cut.groups n) : 1 ≤ g.length ∧ g.length ≤ 3 ∧ ∀ i ∈ g, i < n := by
  unfold Cut.groups at h
  rcases List.mem_append.mp h with h | h
  · rcases List.mem_append.mp h with h | h
    · obtain ⟨i, hi, rfl⟩ := Cut.mem_ones.mp h
      exact ⟨by simp, by simp, by simp; exact hi⟩
    · obtain ⟨i, j, h1, h2, rfl⟩ := Cut.mem_twos.mp h
      exact ⟨by simp, by simp, by simp; omega⟩
  · obtain ⟨i, j, k, h1, h2, h3, rfl⟩ := Cut.mem_threes.mp h
    exact ⟨by simp, by simp, by simp; omega⟩
theorem at_get {ps : List Hull.P} {i : Nat} (hi : i < ps.length) : Cut.at_ ps i = ps[i] := by unfold Cut.at_; rw [List.getD_eq_getElem?_getD, List.getElem?_eq_getElem hi]; rfl
theorem amts_len {rs : List Hull.P} {s : Hull.P} (h1 : 1 ≤ rs.length) (h3 : rs.length ≤ 3) : (Cut.amts rs s).length = rs.length ∧ Cut.amts rs s ≠ [] := by
  rcases shape3 h1 h3 with ⟨a, rfl⟩ | ⟨a, b, rfl⟩ | ⟨a, b, c, rfl⟩
  · exact ⟨rfl, by simp [Cut.amts]⟩
  · have : (Cut.lineAm a b s).length = 2 := by unfold Cut.lineAm; split <;> rfl
    exact ⟨this, fun z => by have z' : Cut.lineAm a b s = [] := z; rw [z'] at this; simp at this⟩
  · exact ⟨rfl, by simp [Cut.amts]⟩
theorem amts_bd {rs : List Hull.P} {s : Hull.P} (hb : ∀ p ∈ rs, Bd p) (hs : Bd s) (h1 : 1 ≤ rs.length) (h3 : rs.length ≤ 3) : ∀ a ∈ Cut.amts rs s, -8000000 ≤ a ∧ a ≤ 8000000 := by
  intro x hx
  rcases shape3 h1 h3 with ⟨a, rfl⟩ | ⟨a, b, rfl⟩ | ⟨a, b, c, rfl⟩
  · have : x = if a = s then (1 : Int) else 0 := List.mem_singleton.mp hx
    rw [this]; split <;> omega
  · have hx' : x ∈ Cut.lineAm a b s := hx
    have b1 := hb a (by simp)
    have b2 := hb b (by simp)
    have d1 := Cut.dot_bd b1 b2 b2
    have d2 := Cut.dot_bd b1 b2 hs
    have d3 := Cut.dot_bd b1 b2 b1
    unfold Cut.lineAm at hx'
    split at hx'
    · simp at hx'; omega
    · simp at hx'; omega
  · have b1 := hb a (by simp)
    have b2 := hb b (by simp)
    have b3 := hb c (by simp)
    have d1 := Cut.turn_bd b2 b3 hs
    have d2 := Cut.turn_bd b3 b1 hs
    have d3 := Cut.turn_bd b1 b2 hs
    have hx' : x = turn b c s ∨ x = turn c a s ∨ x = turn a b s := by simpa [Cut.amts] using hx
    omega
theorem parts_ne : ∀ {g : List Nat} {am : List Int} {W : Int}, 1 ≤ g.length → am ≠ [] → ((Cut.parts (Cut.wgL g am) W).map partD).isEmpty = false
  | [], _, _, h, _ => absurd h (by simp)
  | _ :: _, [], _, _, h => absurd rfl h
  | _ :: _, _ :: _, _, _, _ => rfl
theorem ok_mix (B : Bl mg) (C_ones : Cal P w K mg base 1 "ones" (sp_ones K)) (C_twos : Cal P w K mg base 2 "twos" (sp_grp K Cut.twos)) (C_threes : Cal P w K mg base 3 "threes" (sp_grp K Cut.threes)) (C_weighed : Cal P w K mg base 3 "weighed" (sp_weighed K)) (C_amounts_at : Cal P w K mg base 3 "amounts_at" (sp_amounts K))
    (F : Fun K "mixture_at" "mixture_at" s_mixture_at f fd) : FnOk P w K mg base CX0 4 f fd ["herd", "spot"] (sp_mix K) := by
  refine F.ok sc_mixture_at (fun vs H Q E h => ?_) (fun cdv A outer s H vs Q E hr h => ?_)
  · obtain ⟨o, x, ys, ps, sp, rfl, _⟩ := h
    rfl
  obtain ⟨o, x, ys, ps, sp, rfl, ho, hd, hb, l1, l8, hx, q⟩ := h
  have hz : ys.length = ps.length := by have := hd.length; rwa [List.length_map] at this
  have hu := hr.units
  refine ⟨_, (pss_cons (ps_set (i := 2) sc_mixture_at.nd rfl (Or.inl rfl) (pe_callB call_len_seq (by rfl) B.len PySem.L3.boot_len (pa_cons (pv 0) pa_nil)))
    (pss_cons (ps_for PassesOwn.never rfl (pi_list (pe_op op_cat (pe_op op_cat (pe_c C_ones (hr.mono (by decide)) (by rfl) (pa_cons (pv 2) pa_nil)) (pe_c C_twos (hr.mono (by decide)) (by rfl) (pa_cons (pv 2) pa_nil))) (pe_c C_threes (hr.mono (by decide)) (by rfl) (pa_cons (pv 2) pa_nil)))) (pg_name (i := 3) sc_mixture_at.nd rfl (Or.inl rfl)) (pss_cons (ps_set (i := 4) sc_mixture_at.nd rfl (Or.inl rfl) (pe_c C_weighed (hr.mono (by decide)) (by rfl) (pa_cons (pv 3) (pa_cons (pe_c C_amounts_at (hr.mono (by decide)) (by rfl) (pa_cons (pe_comp (Nc := ["place", "herd"]) (fi := [none, some 0]) (comp_sc rfl rfl rfl) rfl (comp_from_go rfl) (pi_list (pv 3)) (fun _ _ _ _ => ⟨(pg_name (i := 0) (show (["place", "herd"] : List Str).Nodup by decide +kernel) rfl (Or.inl rfl)), pf_nil, (pe_ix ix_list (pv 1) (pv 0) (fun _ _ => rfl))⟩)) (pa_cons (pv 1) pa_nil))) pa_nil))))
    (pss_one (ps_if (pt_cmpR (op_neNil hu) (pv 4) (pe_lst pa_nil) (nomark _)) (pss_one (ps_ret (pv 4))) pss_nil))))
    (pss_one (ps_ret (pe_lst pa_nil))))), ?_⟩
  refine ⟨_, rfl, o, ys, rfl, .inl ho, ?_⟩
  rw [hz]
  refine ⟨_, rfl, ps.length, rfl, l8, fun a1 z1 H1 e1 h10 h11 d1 => ?_⟩
  refine ⟨_, rfl, ps.length, rfl, l8, fun a2 z2 H2 e2 h20 h21 d2 => ?_⟩
  have n1 := d1.length
  have n2 := d2.length
  rw [List.length_map] at n1 n2
  have lo : (Cut.ones ps.length).length = ps.length := by unfold Cut.ones; rw [List.length_map, List.length_range]
  have lt2 := grow_len (gs := Cut.ones ps.length) l8
  have lt3 := grow_len (gs := Cut.twos ps.length) l8
  have lt2' : (Cut.twos ps.length).length ≤ 64 := by show (Cut.grown _ _).length ≤ 64; omega
  refine ⟨a1, a2, z1, z2, rfl, rfl, e2 _ _ h11, h21, by rw [sizeLine_eq]; omega, fun a3 h3 => ?_⟩
  have e3 := same_new h3 (HO.lst (z1 ++ z2))
  refine ⟨_, rfl, ps.length, rfl, l8, fun a4 z4 H4 e4 h40 h41 d4 => ?_⟩
  have n4 := d4.length
  rw [List.length_map] at n4
  have lt3' : (Cut.threes ps.length).length ≤ 512 := by show (Cut.grown _ _).length ≤ 512; omega
  refine ⟨a3, a4, z1 ++ z2, z4, rfl, rfl, e4 _ _ upd_same, h41, by rw [List.length_append, sizeLine_eq]; omega, fun a5 h5 => ?_⟩
  have e5 := same_new h5 (HO.lst (z1 ++ z2 ++ z4))
  have dg : Lol (upd H4 a5 (.lst (z1 ++ z2 ++ z4))) ((Cut.groups ps.length).map natV) (z1 ++ z2 ++ z4) := by
    rw [← groups_map]
    exact ((d1.same (e2.trans (e3.trans (e4.trans e5)))).append (d2.same (e3.trans (e4.trans e5)))).append (d4.same e5)
  have eH : Same H (upd H4 a5 (.lst (z1 ++ z2 ++ z4))) := e1.trans (e2.trans (e3.trans (e4.trans e5)))
  have h55 : upd H4 a5 (.lst (z1 ++ z2 ++ z4)) a5 = some (.lst (z1 ++ z2 ++ z4)) := upd_same
  have ng := dg.length
  rw [List.length_map] at ng
  clear d1 d2 d4 e1 e2 e3 e4 e5 h10 h11 h20 h21 h40 h41 n1 n2 n4
  show _
  generalize z1 ++ z2 ++ z4 = zg at *
  generalize upd H4 a5 (.lst zg) = H5 at *
  refine ⟨a5, rfl, ⟨_, SqL.of h55⟩, ?_⟩
  refine for_list (xs := zg) (fun i σ' H' => ∃ o3 o4, σ' = [some (.ref o), some x, some (.int ps.length), o3, o4] ∧ Same H5 H' ∧ ∀ j g, j < i → (Cut.groups ps.length)[j]? = some g → ¬ Cut.Sgn (Cut.amts (g.map (Cut.at_ ps)) sp)) ⟨_, _, rfl, Same.refl _, fun j g h => absurd h (Nat.not_lt_zero _)⟩ (fun i σ' H' _ h => ?_) ?_ ?_
  · obtain ⟨o3, o4, rfl, e, _⟩ := h
    exact e.seq (SqL.of h55)
  · rintro i v σ' H6 hv ⟨o3, o4, rfl, e6, no⟩
    have hi : i < (Cut.groups ps.length).length := by rw [← ng]; exact (List.getElem?_eq_some_iff.mp hv).1
    have hgi : (Cut.groups ps.length)[i]? = some (Cut.groups ps.length)[i] := List.getElem?_eq_getElem hi
    obtain ⟨ga, hga, hgl⟩ := dg.get (i := i) (g := natV (Cut.groups ps.length)[i]) (by rw [List.getElem?_map, hgi]; rfl)
    rw [hv] at hga; cases hga
    have hgm := List.getElem_mem hi
    obtain ⟨k1, k3, kl⟩ := grp_shape hgm
    generalize (Cut.groups ps.length)[i] = g at *
    have eo := eH.trans e6
    refine ⟨_, rfl, _, rfl, ga, rfl, ⟨_, SqL.of (e6 _ _ hgl)⟩, fun _ _ _ _ t ht => ?_⟩
    refine comp_by g.length (by rw [sizeLine_eq]; omega) (fun j vs σ' Hc => Same H6 Hc ∧ Hc t = some (.lst vs) ∧ Dns K Hc (((g.take j).map (Cut.at_ ps)).map spotD) vs ∧ vs.length = j ∧ ∃ o1, σ' = [o1, some (.ref o)]) ?_ (fun i zs σ' Hc ⟨_, e, _, y, _⟩ => ⟨e, by rw [y]; exact Nat.le_refl _⟩) ?_ ?_
    · exact ⟨same_new ht _, upd_same, dns_nil, rfl, _, rfl⟩
    · rintro j vs σ' Hc hj ⟨e, el, dv, lv, o1, rfl⟩
      have hp1 : (natV g)[j]? = some (V.int ((g[j] : Nat) : Int)) := by unfold natV; rw [List.getElem?_map, List.getElem?_eq_getElem hj]; rfl
      have sg : SqL K Hc ga (natV g) := (e6.trans e).seq (SqL.of hgl)
      refine ⟨⟨_, _, sg, hp1⟩, fun x' H' y' Kt Kf k1' _ => ?_⟩
      obtain ⟨rfl, hx'⟩ := y'
      have hx2 := hx' _ sg
      rw [hp1] at hx2; cases hx2
      have hlt : g[j] < ps.length := kl _ (List.getElem_mem hj)
      obtain ⟨u, u1, u2⟩ := hd.get (i := g[j]) (d := spotD ps[g[j]]) (by simp [hlt])
      simp only [gName, tYes, ↓reduceIte]
      refine ⟨_, rfl, _, rfl, o, ys, _, u, rfl, rfl, (eo.trans e).seq ho, atI_nat u1, ?_⟩
      refine k1' _ _ _ el ⟨same_upd ht e, upd_same, ?_, by rw [List.length_append, lv]; rfl, _, rfl⟩
      rw [List.take_add_one, List.getElem?_eq_getElem hj, List.map_append, List.map_append]
      refine (spots_upd el dv).append (dns_cons (spot_upd el ?_) dns_nil)
      rw [at_get hlt]; exact (eo.trans e).dn u2
    · rintro vs σ' H7 ⟨e, el, dv, lv, _⟩
      rw [List.take_length] at dv
      have eo7 := eo.trans e
      have brs : ∀ p ∈ g.map (Cut.at_ ps), Bd p := fun p hp => by
        obtain ⟨n, hn, rfl⟩ := List.mem_map.mp hp
        rw [at_get (kl n hn)]; exact hb _ (List.getElem_mem _)
      refine ⟨⟨_, (e6.trans e).seq (SqL.of hgl), by unfold natV; rw [List.length_map]; exact Nat.le_refl _⟩, ?_⟩
      refine ⟨_, rfl, t, x, vs, g.map (Cut.at_ ps), sp, rfl, SqL.of el, dv, brs, by rw [List.length_map]; exact k1, by rw [List.length_map]; exact k3, hx.same eo7, fun la H8 e8 hla0 hla => ?_⟩
      obtain ⟨al1, al2⟩ := amts_len (rs := g.map (Cut.at_ ps)) (s := sp) (by rw [List.length_map]; exact k1) (by rw [List.length_map]; exact k3)
      rw [List.length_map] at al1
      refine ⟨ga, la, g, _, rfl, e8 _ _ ((e6.trans e) _ _ hgl), hla, al2, al1, by omega, amts_bd brs hx.2 (by rw [List.length_map]; exact k1) (by rw [List.length_map]; exact k3), fun lp zp H9 e9 hlp0 hlp dp => ?_⟩
      have e59 := e6.trans (e.trans (e8.trans e9))
      have e09 := eo7.trans (e8.trans e9)
      refine ⟨_, rfl, Nat.zero_le _, fun ne' hne => ?_⟩
      have en := same_new hne (HO.lst [])
      refine ⟨_, ne', (wgh g (Cut.amts (g.map (Cut.at_ ps)) sp)).map partD, dn_lst (en.seq (SqL.of hlp)) (en.dns dp), rfl, rfl, SqL.of upd_same, parts_shaped _, _, rfl, ?_⟩
      by_cases hS : Cut.Sgn (Cut.amts (g.map (Cut.at_ ps)) sp)
      · have ew : wgh g (Cut.amts (g.map (Cut.at_ ps)) sp) = Cut.parts (Cut.wgL g (Cut.amts (g.map (Cut.at_ ps)) sp)) (Cut.wgW (Cut.amts (g.map (Cut.at_ ps)) sp)) := if_pos hS
        have nonE : ((wgh g (Cut.amts (g.map (Cut.at_ ps)) sp)).map partD).isEmpty = false := by
          rw [ew]; exact parts_ne k1 al2
        rw [nonE]
        refine ite2 (fun _ => ?_) (fun c => absurd rfl c)
        exact ⟨_, rfl, q lp zp _ _ (e09.trans en) ((eo7.trans e8).free hlp0) (en _ _ hlp) (en.dns dp) (.inr ⟨g, hgm, hS, ew⟩)⟩
      · have ew : wgh g (Cut.amts (g.map (Cut.at_ ps)) sp) = [] := if_neg hS
        rw [ew]
        refine ite2 (fun c => by cases c) (fun _ => ?_)
        refine ⟨_, _, rfl, e59.trans en, fun j g' hj hg' => ?_⟩
        rcases Nat.lt_or_ge j i with z | z
        · exact no j g' z hg'
        · have : j = i := by omega
          subst this
          rw [hgi] at hg'; cases hg'
          exact hS
  · rintro σ' H6 ⟨o3, o4, rfl, e6, no⟩
    refine ⟨Nat.zero_le _, fun l hl => ?_⟩
    refine q l [] _ [] (eH.trans (e6.trans (same_new hl _))) ((eH.trans e6).free hl) upd_same dns_nil (.inl ⟨rfl, fun g hg => ?_⟩)
    obtain ⟨j, hj, rfl⟩ := List.mem_iff_getElem.mp hg
    exact no j _ (by rw [ng]; exact hj) (List.getElem?_eq_getElem hj)
end
end K6a
set_option Elab.async false
set_option linter.all false
set_option maxRecDepth 100000
set_option maxHeartbeats 4000000
namespace K6a
open PySem L2 Hull SortM SepM
seal L2.PE L2.PT L2.PW L2.PA L2.PS L2.PSs L2.PG L2.PGs L2.PF L2.PI L2.PO
section
variable {P : Program} {w : World} {K : PySem.W.Frag} {mg : Str → Option Value} {base : Heap} {f : Addr} {fd : FuncData}
theorem wgh_one (i : Nat) : wgh [i] [1] = Cut.parts [(i, 1)] 1 := by
  unfold wgh
  rw [if_pos (.inl (by simp))]
  rfl
theorem mixd_ne {ps : List Hull.P} {s : Hull.P} {prt : List Cut.Part} (h : Mixd ps s prt) (ne : prt ≠ []) : ∃ g, g ∈ Cut.groups ps.length ∧ Cut.Sgn (Cut.amts (g.map (Cut.at_ ps)) s) ∧ prt = Cut.parts (Cut.wgL g (Cut.amts (g.map (Cut.at_ ps)) s)) (Cut.wgW (Cut.amts (g.map (Cut.at_ ps)) s)) := by
  rcases h with ⟨h, _⟩ | h
  · exact absurd h ne
  · exact h
theorem mixd_nil {ps : List Hull.P} {s : Hull.P} (h : Mixd ps s []) : Cut.NoMix ps s := by
  rcases h with ⟨_, h⟩ | ⟨g, hg, hs, e⟩
  · exact h
  · obtain ⟨k1, k3, _⟩ := grp_shape hg
    have := parts_ne (W := Cut.wgW (Cut.amts (g.map (Cut.at_ ps)) s)) k1 (amts_len (rs := g.map (Cut.at_ ps)) (s := s) (by rw [List.length_map]; exact k1) (by rw [List.length_map]; exact k3)).2
    rw [← e] at this
    cases this
theorem isEmpty_parts {prt : List Cut.Part} : ((prt.map partD).isEmpty = true) ↔ prt = [] := by
  cases prt with
  | nil => exact ⟨fun _ => rfl, fun _ => rfl⟩
  | cons a l => exact ⟨fun h => (by cases h), fun h => (by cases h)⟩
def Two (K : PySem.W.Frag) (H : Hp) (vs : List V) (p1 p2 : List Cut.Part) : Prop := ∃ a b z1 z2, vs = [.ref a, .ref b] ∧ H a = some (.lst z1) ∧ H b = some (.lst z2) ∧ Dns K H (p1.map partD) z1 ∧ Dns K H (p2.map partD) z2
theorem Two.same {H H' : Hp} {vs : List V} {p1 p2 : List Cut.Part} (e : Same H H') (h : Two K H vs p1 p2) : Two K H' vs p1 p2 := by
  obtain ⟨a, b, z1, z2, h1, h2, h3, h4, h5⟩ := h
  exact ⟨a, b, z1, z2, h1, e _ _ h2, e _ _ h3, e.dns h4, e.dns h5⟩
def Res (K : PySem.W.Frag) (H : Hp) (vs : List V) (one other : List Hull.P) (fail : Prop) : Prop := (vs = [] ∧ fail) ∨ ∃ p1 p2, Two K H vs p1 p2 ∧ Cut.Found one other p1 p2
def Hd (K : PySem.W.Frag) (H : Hp) (v : V) (ps : List Hull.P) : Prop := ∃ o ys, v = .ref o ∧ SqL K H o ys ∧ Dns K H (ps.map spotD) ys ∧ (∀ p ∈ ps, Bd p) ∧ 1 ≤ ps.length ∧ ps.length ≤ 8
theorem Hd.same {H H' : Hp} {v : V} {ps : List Hull.P} (e : Same H H') (h : Hd K H v ps) : Hd K H' v ps := by
  obtain ⟨o, ys, h1, h2, h3, h4⟩ := h
  exact ⟨o, ys, h1, e.seq h2, e.dns h3, h4⟩
inductive sp_two (K : PySem.W.Frag) (fail : List Hull.P → List Hull.P → Prop) (vs : List V) (H : Hp) (Q : VK) (x_3 : XK) : Prop where
  | mk (x : _) (y : _) (one : _) (other : _) (h_0 : vs = [x, y]) (h_1 : Hd K H x one) (h_2 : Hd K H y other) (h_3 : ∀ l ws H', Same H H' → H l = none → H' l = some (.lst ws) → Res K H' ws one other (fail one other) → Q (.ref l) H')
def failH (one other : List Hull.P) : Prop := ∀ i, i < one.length → Cut.NoMix other (Cut.at_ one i)
theorem ok_held (B : Bl mg) (C_mixture_at : Cal P w K mg base 4 "mixture_at" (sp_mix K)) (C_weighed : Cal P w K mg base 3 "weighed" (sp_weighed K)) (F : Fun K "held" "held" s_held f fd) : FnOk P w K mg base CX0 5 f fd ["one", "other"] (sp_two K failH) := by
  refine F.ok sc_held (fun vs H Q E h => ?_) (fun cdv A outer s H vs Q E hr h => ?_)
  · obtain ⟨x, y, one, other, rfl, _⟩ := h
    rfl
  obtain ⟨x, y, one, other, rfl, ⟨o1, y1, rfl, h1, d1, b1, l1, l8⟩, ⟨o2, y2, rfl, h2, d2, b2, m1, m8⟩, q⟩ := h
  have hz : y1.length = one.length := by have := d1.length; rwa [List.length_map] at this
  have hu := hr.units
  refine ⟨_, (pss_cons (ps_for PassesOwn.never rfl (pi_enum (by rfl) B.enumerate (pa_cons (pv 0) pa_nil)) (pg_tup rfl (pgs_cons (pg_name (i := 2) sc_held.nd rfl (Or.inl rfl)) (pgs_cons (pg_name (i := 3) sc_held.nd rfl (Or.inl rfl)) pgs_nil))) (pss_cons (ps_set (i := 4) sc_held.nd rfl (Or.inl rfl) (pe_c C_mixture_at (hr.mono (by decide)) (by rfl) (pa_cons (pv 1) (pa_cons (pv 3) pa_nil))))
    (pss_one (ps_if (pt_cmpR (op_neNil hu) (pv 4) (pe_lst pa_nil) (nomark _)) (pss_one (ps_ret (pe_lst (pa_cons (pe_c C_weighed (hr.mono (by decide)) (by rfl) (pa_cons (pe_lst (pa_cons (pv 2) pa_nil)) (pa_cons (pe_lst (pa_cons pe_int pa_nil)) pa_nil))) (pa_cons (pv 4) pa_nil))))) pss_nil))))
    (pss_one (ps_ret (pe_lst pa_nil)))), ?_⟩
  refine ⟨_, rfl, o1, rfl, ⟨_, h1⟩, ?_⟩
  refine for_enum (xs := y1) (fun i σ' H' => ∃ c2 c3 c4, σ' = [some (.ref o1), some (.ref o2), c2, c3, c4] ∧ Same H H' ∧ ∀ j, j < i → j < one.length → Cut.NoMix other (Cut.at_ one j)) ⟨_, _, _, rfl, Same.refl _, fun j h => absurd h (Nat.not_lt_zero _)⟩ (fun i σ' H' _ h => ?_) ?_ ?_
  · obtain ⟨c2, c3, c4, rfl, e, _⟩ := h
    exact e.seq h1
  · rintro i x σ' H1 T hx ⟨c2, c3, c4, rfl, e1, no⟩ hT
    have hi : i < one.length := by rw [← hz]; exact (List.getElem?_eq_some_iff.mp hx).1
    obtain ⟨d, hd1, hd2⟩ := d1.get' hx
    rw [List.getElem?_map, List.getElem?_eq_getElem hi] at hd1
    cases hd1
    have eT := same_new hT (HO.tup [.int (i : Int), x])
    have e1T := e1.trans eT
    have bi := b1 _ (List.getElem_mem hi)
    refine ⟨T, _, rfl, SqT.of upd_same, rfl, _, _, rfl, _, _, rfl, rfl, ?_⟩
    refine ⟨_, rfl, _, rfl, o2, x, y2, other, one[i], rfl, e1T.seq h2, e1T.dns d2, b2, m1, m8, ⟨e1T.dn hd2, bi⟩, fun lp zp H2 prt e2 hlp0 hlp dp mx => ?_⟩
    refine ⟨_, rfl, Nat.zero_le _, fun ne' hne => ?_⟩
    have en := same_new hne (HO.lst [])
    have e12 := e1T.trans (e2.trans en)
    refine ⟨_, ne', prt.map partD, dn_lst (en.seq (SqL.of hlp)) (en.dns dp), rfl, rfl, SqL.of upd_same, parts_shaped _, _, rfl, ite2 (fun c => ?_) (fun c => ?_)⟩
    · have c' : prt ≠ [] := fun z => by rw [z] at c; cases c
      obtain ⟨g, hg, hs, rfl⟩ := mixd_ne mx c'
      refine ⟨_, rfl, (by show 1 ≤ sizeLine; decide), fun a1 ha1 => ?_⟩
      have ea1 := same_new ha1 (HO.lst [V.int (i : Int)])
      refine ⟨(by show 1 ≤ sizeLine; decide), fun a2 ha2 => ?_⟩
      have ea2 := same_new ha2 (HO.lst [V.int 1])
      refine ⟨a1, a2, [i], [1], rfl, ea2 _ _ upd_same, upd_same, by simp, rfl, by simp, by simp, fun lw zw H3 e3 hlw0 hlw dw => ?_⟩
      have e23 := en.trans (ea1.trans (ea2.trans e3))
      refine ⟨_, rfl, (by show 2 ≤ sizeLine; decide), fun l hl => ?_⟩
      have el := same_new hl (HO.lst [V.ref lw, V.ref lp])
      have eAll := e1T.trans (e2.trans (e23.trans el))
      rw [wgh_one] at dw
      refine q l _ _ eAll ((e1T.trans (e2.trans e23)).free hl) upd_same (.inr ⟨_, _, ⟨lw, lp, zw, zp, rfl, el _ _ hlw, (e23.trans el) _ _ hlp, el.dns dw, (e23.trans el).dns dp⟩, ?_⟩)
      have ei : Cut.at_ one i = one[i] := at_get hi
      have := Cut.found_held (one := one) (other := other) b2 hi (by rw [ei]; exact bi) hg (by rw [ei]; exact hs)
      rw [ei] at this
      exact this
    · have c' : prt = [] := by
        apply isEmpty_parts.mp
        cases h : (prt.map partD).isEmpty with
        | true => rfl
        | false => rw [h] at c; exact absurd rfl c
      subst c'
      refine ⟨_, _, _, rfl, e12, fun j hj hj' => ?_⟩
      rcases Nat.lt_or_ge j i with z | z
      · exact no j z hj'
      · have : j = i := by omega
        subst this
        rw [at_get hi]; exact mixd_nil mx
  · rintro σ' H1 ⟨c2, c3, c4, rfl, e1, no⟩
    refine ⟨Nat.zero_le _, fun l hl => ?_⟩
    exact q l [] _ (e1.trans (same_new hl _)) (e1.free hl) upd_same (.inl ⟨rfl, fun i hi => no i (by omega) hi⟩)
inductive sp_cross (K : PySem.W.Frag) (vs : List V) (H : Hp) (Q : VK) (x_3 : XK) : Prop where
  | mk (o1 o2 : Addr) (z1 z2 : List V) (r0 r1 l0 l1 : Hull.P) (h_0 : vs = [.ref o1, .ref o2]) (h_1 : SqL K H o1 z1) (h_2 : SqL K H o2 z2) (h_3 : Dns K H ([r0, r1].map spotD) z1) (h_4 : Dns K H ([l0, l1].map spotD) z2) (h_5 : Bd r0) (h_6 : Bd r1) (h_7 : Bd l0) (h_8 : Bd l1) (h_9 : ∀ l H', Same H H' → H l = none → H' l = some (.lst ((Cut.crossAm r0 r1 l0 l1).map V.int)) → Q (.ref l) H')
theorem ok_cross (C_leftness : Cal P w K mg base 1 "leftness" (sp_left K)) (F : Fun K "cross_amounts" "cross_amounts" s_cross_amounts f fd) : FnOk P w K mg base CX0 2 f fd ["row", "line"] (sp_cross K) := by
  refine F.ok sc_cross_amounts (fun vs H Q E h => ?_) (fun cdv A outer s H vs Q E hr h => ?_)
  · obtain ⟨o1, o2, z1, z2, r0, r1, l0, l1, rfl, _⟩ := h
    rfl
  obtain ⟨o1, o2, z1, z2, r0, r1, l0, l1, rfl, h1, h2, d1, d2, b0, b1, b2, b3, q⟩ := h
  obtain ⟨va, s1, rfl, da, dd⟩ := L2.Dns.cons d1
  obtain ⟨vb, s2, rfl, db, dd2⟩ := L2.Dns.cons dd
  obtain rfl := L2.Dns.nil dd2
  obtain ⟨vc, s3, rfl, dc, dd3⟩ := L2.Dns.cons d2
  obtain ⟨vd, s4, rfl, dv, dd4⟩ := L2.Dns.cons dd3
  obtain rfl := L2.Dns.nil dd4
  refine ⟨_, (pss_one (ps_ret (pe_lst (pa_cons (pe_un un_neg (pe_c C_leftness (hr.mono (by decide)) (by rfl) (pa_cons (pe_ix ix_list (pv 1) pe_int (fun _ _ => rfl)) (pa_cons (pe_ix ix_list (pv 1) pe_int (fun _ _ => rfl)) (pa_cons (pe_ix ix_list (pv 0) pe_int (fun _ _ => rfl)) pa_nil))))) (pa_cons (pe_c C_leftness (hr.mono (by decide)) (by rfl) (pa_cons (pe_ix ix_list (pv 1) pe_int (fun _ _ => rfl)) (pa_cons (pe_ix ix_list (pv 1) pe_int (fun _ _ => rfl)) (pa_cons (pe_ix ix_list (pv 0) pe_int (fun _ _ => rfl)) pa_nil)))) pa_nil))))), ?_⟩
  refine ⟨_, rfl, o2, _, 0, vc, rfl, rfl, h2, rfl, _, rfl, o2, _, 1, vd, rfl, rfl, h2, rfl, _, rfl, o1, _, 1, vb, rfl, rfl, h1, rfl, vc, vd, vb, l0, l1, r1, rfl, ⟨dc, b2⟩, ⟨dv, b3⟩, ⟨db, b1⟩, _, rfl, ?_⟩
  refine ⟨_, rfl, o2, _, 0, vc, rfl, rfl, h2, rfl, _, rfl, o2, _, 1, vd, rfl, rfl, h2, rfl, _, rfl, o1, _, 0, va, rfl, rfl, h1, rfl, vc, vd, va, l0, l1, r0, rfl, ⟨dc, b2⟩, ⟨dv, b3⟩, ⟨da, b0⟩, (by show 2 ≤ sizeLine; decide), fun l hl => ?_⟩
  exact q l _ (same_new hl _) hl upd_same
end
end K6a
set_option Elab.async false
set_option linter.all false
set_option maxRecDepth 100000
set_option maxHeartbeats 4000000
namespace K6a
open PySem L2 Hull SortM SepM
seal L2.PE L2.PT L2.PW L2.PA L2.PS L2.PSs L2.PG L2.PGs L2.PF L2.PI L2.PO
section
variable {P : Program} {w : World} {K : PySem.W.Frag} {mg : Str → Option Value} {base : Heap} {f : Addr} {fd : FuncData}
def Bad (one other : List Hull.P) (g g' : List Nat) : Prop := Cut.Sgn (Cut.crossAm (Cut.at_ one (g.getD 0 0)) (Cut.at_ one (g.getD 1 0)) (Cut.at_ other (g'.getD 0 0)) (Cut.at_ other (g'.getD 1 0))) ∧ Cut.Sgn (Cut.crossAm (Cut.at_ other (g'.getD 0 0)) (Cut.at_ other (g'.getD 1 0)) (Cut.at_ one (g.getD 0 0)) (Cut.at_ one (g.getD 1 0)))
def failC (one other : List Hull.P) : Prop := ∀ g ∈ Cut.twos one.length, ∀ g' ∈ Cut.twos other.length, ¬ Bad one other g g'
theorem cross_bd {a b c d : Hull.P} (ha : Bd a) (hb : Bd b) (hc : Bd c) (hd : Bd d) : ∀ x ∈ Cut.crossAm a b c d, -8000000 ≤ x ∧ x ≤ 8000000 := by
  intro x hx
  have d1 := Cut.turn_bd hc hd hb
  have d2 := Cut.turn_bd hc hd ha
  have hx' : x = -turn c d b ∨ x = turn c d a := by simpa [Cut.crossAm] using hx
  omega
theorem wgh_sgn {g : List Nat} {am : List Int} (h : Cut.Sgn am) : wgh g am = Cut.parts (Cut.wgL g am) (Cut.wgW am) := if_pos h
theorem wgh_no {g : List Nat} {am : List Int} (h : ¬ Cut.Sgn am) : wgh g am = [] := if_neg h
theorem wgh_emp {i j : Nat} {a b c d : Hull.P} : ((wgh [i, j] (Cut.crossAm a b c d)).map partD).isEmpty = false ↔ Cut.Sgn (Cut.crossAm a b c d) := by
  by_cases h : Cut.Sgn (Cut.crossAm a b c d)
  · rw [wgh_sgn h]; exact ⟨fun _ => h, fun _ => rfl⟩
  · rw [wgh_no h]; exact ⟨fun z => (by cases z), fun z => absurd z h⟩
theorem two_eq {n : Nat} {g : List Nat} (h : g ∈ Cut.twos n) : ∃ i j, i < j ∧ j < n ∧ g = [i, j] := Cut.mem_twos.mp h
theorem ok_crossed (B : Bl mg) (C_twos : Cal P w K mg base 2 "twos" (sp_grp K Cut.twos)) (C_weighed : Cal P w K mg base 3 "weighed" (sp_weighed K)) (C_cross_amounts : Cal P w K mg base 2 "cross_amounts" (sp_cross K))
    (F : Fun K "crossed" "crossed" s_crossed f fd) : FnOk P w K mg base CX0 4 f fd ["one", "other"] (sp_two K failC) := by
  refine F.ok sc_crossed (fun vs H Q E h => ?_) (fun cdv A outer s H vs Q E hr h => ?_)
  · obtain ⟨x, y, one, other, rfl, _⟩ := h
    rfl
  obtain ⟨x, y, one, other, rfl, ⟨o1, y1, rfl, h1, d1, b1, l1, l8⟩, ⟨o2, y2, rfl, h2, d2, b2, m1, m8⟩, q⟩ := h
  have hz1 : y1.length = one.length := by have := d1.length; rwa [List.length_map] at this
  have hz2 : y2.length = other.length := by have := d2.length; rwa [List.length_map] at this
  have hu := hr.units
  refine ⟨_, (pss_cons (ps_for PassesOwn.never rfl (pi_list (pe_c C_twos (hr.mono (by decide)) (by rfl) (pa_cons (pe_callB call_len_seq (by rfl) B.len PySem.L3.boot_len (pa_cons (pv 0) pa_nil)) pa_nil))) (pg_name (i := 2) sc_crossed.nd rfl (Or.inl rfl)) (pss_cons (ps_setComp (i := 3) (Nc := ["place", "one"]) (fi := [none, some 0]) (comp_sc rfl rfl rfl) rfl (comp_from_go rfl) sc_crossed.nd rfl rfl (pi_list (pv 2)) (fun _ _ _ _ => ⟨(pg_name (i := 0) (show (["place", "one"] : List Str).Nodup by decide +kernel) rfl (Or.inl rfl)), pf_nil, (pe_ix ix_list (pv 1) (pv 0) (fun _ _ => rfl))⟩) rfl)
    (pss_one (ps_for PassesOwn.never rfl (pi_list (pe_c C_twos (hr.mono (by decide)) (by rfl) (pa_cons (pe_callB call_len_seq (by rfl) B.len PySem.L3.boot_len (pa_cons (pv 1) pa_nil)) pa_nil))) (pg_name (i := 4) sc_crossed.nd rfl (Or.inl rfl)) (pss_cons (ps_setComp (i := 5) (Nc := ["place", "other"]) (fi := [none, some 1]) (comp_sc rfl rfl rfl) rfl (comp_from_go rfl) sc_crossed.nd rfl rfl (pi_list (pv 4)) (fun _ _ _ _ => ⟨(pg_name (i := 0) (show (["place", "other"] : List Str).Nodup by decide +kernel) rfl (Or.inl rfl)), pf_nil, (pe_ix ix_list (pv 1) (pv 0) (fun _ _ => rfl))⟩) rfl)
    (pss_cons (ps_set (i := 6) sc_crossed.nd rfl (Or.inl rfl) (pe_lst (pa_cons (pe_c C_weighed (hr.mono (by decide)) (by rfl) (pa_cons (pv 2) (pa_cons (pe_c C_cross_amounts (hr.mono (by decide)) (by rfl) (pa_cons (pv 3) (pa_cons (pv 5) pa_nil))) pa_nil))) (pa_cons (pe_c C_weighed (hr.mono (by decide)) (by rfl) (pa_cons (pv 4) (pa_cons (pe_c C_cross_amounts (hr.mono (by decide)) (by rfl) (pa_cons (pv 5) (pa_cons (pv 3) pa_nil))) pa_nil))) pa_nil))))
    (pss_one (ps_if (pt_cmpR (op_notInNil hu) (pe_lst pa_nil) (pv 6) (by with_unfolding_all rfl)) (pss_one (ps_ret (pv 6))) pss_nil))))))))
    (pss_one (ps_ret (pe_lst pa_nil)))), ?_⟩
  refine ⟨_, rfl, o1, y1, rfl, .inl h1, y1.length, rfl, by omega, fun lt zt H1 e1 hlt0 hlt dt => ?_⟩
  rw [hz1] at dt
  have nt := dt.length
  rw [List.length_map] at nt
  refine ⟨lt, rfl, ⟨_, SqL.of hlt⟩, ?_⟩
  refine for_list (xs := zt) (fun i σ' H' => ∃ c2 c3 c4 c5 c6, σ' = [some (.ref o1), some (.ref o2), c2, c3, c4, c5, c6] ∧ Same H1 H' ∧ ∀ j g, j < i → (Cut.twos one.length)[j]? = some g → ∀ g' ∈ Cut.twos other.length, ¬ Bad one other g g') ⟨_, _, _, _, _, rfl, Same.refl _, fun j g h => absurd h (Nat.not_lt_zero _)⟩ (fun i σ' H' _ h => ?_) ?_ ?_
  · obtain ⟨c2, c3, c4, c5, c6, rfl, e, _⟩ := h
    exact e.seq (SqL.of hlt)
  · rintro i v σ' H2 hv ⟨c2, c3, c4, c5, c6, rfl, e2, no⟩
    have hi : i < (Cut.twos one.length).length := by rw [← nt]; exact (List.getElem?_eq_some_iff.mp hv).1
    have hgi : (Cut.twos one.length)[i]? = some (Cut.twos one.length)[i] := List.getElem?_eq_getElem hi
    obtain ⟨ga, hga, hgl⟩ := dt.get (i := i) (g := natV (Cut.twos one.length)[i]) (by rw [List.getElem?_map, hgi]; rfl)
    rw [hv] at hga; cases hga
    obtain ⟨ia, ja, hij, hja, eg⟩ := two_eq (List.getElem_mem hi)
    generalize (Cut.twos one.length)[i] = g at *
    subst eg
    have e12 := e1.trans e2
    -- the row
    refine ⟨_, rfl, ga, rfl, ⟨_, SqL.of (e2 _ _ hgl)⟩, fun _ _ _ _ t ht => ?_⟩
    refine comp_by 2 (by show 2 ≤ sizeLine; decide) (fun j vs σ' Hc => Same H2 Hc ∧ Hc t = some (.lst vs) ∧ Dns K Hc ((([ia, ja].take j).map (Cut.at_ one)).map spotD) vs ∧ vs.length = j ∧ ∃ c1, σ' = [c1, some (.ref o1)]) ?_ (fun i zs σ' Hc ⟨_, e, _, y, _⟩ => ⟨e, by rw [y]; exact Nat.le_refl _⟩) ?_ ?_
    · exact ⟨same_new ht _, upd_same, dns_nil, rfl, _, rfl⟩
    · rintro j vs σ' Hc hj ⟨e, el, dv, lv, c1, rfl⟩
      have hp1 : (natV [ia, ja])[j]? = some (V.int (([ia, ja][j] : Nat) : Int)) := by unfold natV; rw [List.getElem?_map, List.getElem?_eq_getElem hj]; rfl
      have sg : SqL K Hc ga (natV [ia, ja]) := (e2.trans e).seq (SqL.of hgl)
      refine ⟨⟨_, _, sg, hp1⟩, fun x' H' y' Kt Kf k1' _ => ?_⟩
      obtain ⟨rfl, hx'⟩ := y'
      have hx2 := hx' _ sg
      rw [hp1] at hx2; cases hx2
      have hl2 : [ia, ja][j] < one.length := by
        have := List.getElem_mem (l := [ia, ja]) hj
        simp only [List.mem_cons, List.mem_singleton, List.not_mem_nil, or_false] at this
        rcases this with z | z <;> rw [z] <;> omega
      obtain ⟨u, u1, u2⟩ := d1.get (i := [ia, ja][j]) (d := spotD one[[ia, ja][j]]) (by simp [hl2])
      simp only [gName, tYes, ↓reduceIte]
      refine ⟨_, rfl, _, rfl, o1, y1, _, u, rfl, rfl, (e12.trans e).seq h1, atI_nat u1, ?_⟩
      refine k1' _ _ _ el ⟨same_upd ht e, upd_same, ?_, by rw [List.length_append, lv]; rfl, _, rfl⟩
      rw [List.take_add_one, List.getElem?_eq_getElem hj, List.map_append, List.map_append]
      refine (spots_upd el dv).append (dns_cons (spot_upd el ?_) dns_nil)
      rw [at_get hl2]; exact (e12.trans e).dn u2
    rintro vr σ' H3 ⟨e3, elr, dr, lr, _⟩
    refine ⟨⟨_, (e2.trans e3).seq (SqL.of hgl), by show 2 ≤ 2; decide⟩, ?_⟩
    have e13 := e12.trans e3
    have dr' : Dns K H3 ([Cut.at_ one ia, Cut.at_ one ja].map spotD) vr := dr
    have bia : Bd (Cut.at_ one ia) := by rw [at_get (by omega)]; exact b1 _ (List.getElem_mem _)
    have bja : Bd (Cut.at_ one ja) := by rw [at_get hja]; exact b1 _ (List.getElem_mem _)
    clear dr ht lr
    -- the others
    refine ⟨_, rfl, o2, y2, rfl, .inl (e13.seq h2), y2.length, rfl, by omega, fun lu zu H4 e4 hlu0 hlu du => ?_⟩
    rw [hz2] at du
    have nu := du.length
    rw [List.length_map] at nu
    refine ⟨lu, rfl, ⟨_, SqL.of hlu⟩, ?_⟩
    refine for_list (xs := zu) (fun k σ' H' => ∃ c4 c5 c6, σ' = [some (.ref o1), some (.ref o2), some (.ref ga), some (.ref t), c4, c5, c6] ∧ Same H4 H' ∧ ∀ j g', j < k → (Cut.twos other.length)[j]? = some g' → ¬ Bad one other [ia, ja] g') ⟨_, _, _, rfl, Same.refl _, fun j g h => absurd h (Nat.not_lt_zero _)⟩ (fun k σ' H' _ h => ?_) ?_ ?_
    · obtain ⟨c4, c5, c6, rfl, e, _⟩ := h
      exact e.seq (SqL.of hlu)
    · rintro k v σ' H5 hv' ⟨c4, c5, c6, rfl, e5, no5⟩
      have hk : k < (Cut.twos other.length).length := by rw [← nu]; exact (List.getElem?_eq_some_iff.mp hv').1
      have hgk : (Cut.twos other.length)[k]? = some (Cut.twos other.length)[k] := List.getElem?_eq_getElem hk
      obtain ⟨gb, hgb, hgl'⟩ := du.get (i := k) (g := natV (Cut.twos other.length)[k]) (by rw [List.getElem?_map, hgk]; rfl)
      rw [hv'] at hgb; cases hgb
      obtain ⟨ib, jb, hij', hjb, eg'⟩ := two_eq (List.getElem_mem hk)
      generalize (Cut.twos other.length)[k] = g' at *
      subst eg'
      have e15 := e13.trans (e4.trans e5)
      refine ⟨_, rfl, gb, rfl, ⟨_, SqL.of (e5 _ _ hgl')⟩, fun _ _ _ _ t2 ht2 => ?_⟩
      refine comp_by 2 (by show 2 ≤ sizeLine; decide) (fun j vs σ' Hc => Same H5 Hc ∧ Hc t2 = some (.lst vs) ∧ Dns K Hc ((([ib, jb].take j).map (Cut.at_ other)).map spotD) vs ∧ vs.length = j ∧ ∃ c1, σ' = [c1, some (.ref o2)]) ?_ (fun i zs σ' Hc ⟨_, e, _, y, _⟩ => ⟨e, by rw [y]; exact Nat.le_refl _⟩) ?_ ?_
      · exact ⟨same_new ht2 _, upd_same, dns_nil, rfl, _, rfl⟩
      · rintro j vs σ' Hc hj ⟨e, el, dv, lv, c1, rfl⟩
        have hp1 : (natV [ib, jb])[j]? = some (V.int (([ib, jb][j] : Nat) : Int)) := by unfold natV; rw [List.getElem?_map, List.getElem?_eq_getElem hj]; rfl
        have sg : SqL K Hc gb (natV [ib, jb]) := (e5.trans e).seq (SqL.of hgl')
        refine ⟨⟨_, _, sg, hp1⟩, fun x' H' y' Kt Kf k1' _ => ?_⟩
        obtain ⟨rfl, hx'⟩ := y'
        have hx2 := hx' _ sg
        rw [hp1] at hx2; cases hx2
        have hl2 : [ib, jb][j] < other.length := by
          have := List.getElem_mem (l := [ib, jb]) hj
          simp only [List.mem_cons, List.mem_singleton, List.not_mem_nil, or_false] at this
          rcases this with z | z <;> rw [z] <;> omega
        obtain ⟨u, u1, u2⟩ := d2.get (i := [ib, jb][j]) (d := spotD other[[ib, jb][j]]) (by simp [hl2])
        simp only [gName, tYes, ↓reduceIte]
        refine ⟨_, rfl, _, rfl, o2, y2, _, u, rfl, rfl, (e15.trans e).seq h2, atI_nat u1, ?_⟩
        refine k1' _ _ _ el ⟨same_upd ht2 e, upd_same, ?_, by rw [List.length_append, lv]; rfl, _, rfl⟩
        rw [List.take_add_one, List.getElem?_eq_getElem hj, List.map_append, List.map_append]
        refine (spots_upd el dv).append (dns_cons (spot_upd el ?_) dns_nil)
        rw [at_get hl2]; exact (e15.trans e).dn u2
      rintro vl σ' H6 ⟨e6, ell, dl, ll, _⟩
      refine ⟨⟨_, (e5.trans e6).seq (SqL.of hgl'), by show 2 ≤ 2; decide⟩, ?_⟩
      have dl' : Dns K H6 ([Cut.at_ other ib, Cut.at_ other jb].map spotD) vl := dl
      have bib : Bd (Cut.at_ other ib) := by rw [at_get (by omega)]; exact b2 _ (List.getElem_mem _)
      have bjb : Bd (Cut.at_ other jb) := by rw [at_get hjb]; exact b2 _ (List.getElem_mem _)
      have e36 := e4.trans (e5.trans e6)
      have st : SqL K H6 t vr := e36.seq (SqL.of elr)
      refine ⟨_, rfl, _, rfl, _, rfl, t, t2, vr, vl, _, _, _, _, rfl, st, SqL.of ell, e36.dns dr', dl', bia, bja, bib, bjb, fun la H7 e7 hla0 hla => ?_⟩
      have hga7 : H7 ga = some (.lst (natV [ia, ja])) := e7 _ _ ((e2.trans (e3.trans e36)) _ _ hgl)
      refine ⟨ga, la, [ia, ja], _, rfl, hga7, hla, by simp [Cut.crossAm], rfl, by simp [Cut.crossAm], cross_bd bia bja bib bjb, fun lw zw H8 e8 hlw0 hlw dw => ?_⟩
      have e68 := e7.trans e8
      refine ⟨_, rfl, _, rfl, _, rfl, t2, t, vl, vr, _, _, _, _, rfl, e68.seq (SqL.of ell), e68.seq st, e68.dns dl', (e36.trans e68).dns dr', bib, bjb, bia, bja, fun lb H9 e9 hlb0 hlb => ?_⟩
      have hgb9 : H9 gb = some (.lst (natV [ib, jb])) := (e68.trans e9) _ _ ((e5.trans e6) _ _ hgl')
      refine ⟨gb, lb, [ib, jb], _, rfl, hgb9, hlb, by simp [Cut.crossAm], rfl, by simp [Cut.crossAm], cross_bd bib bjb bia bja, fun lx zx Ha ea hlx0 hlx dx => ?_⟩
      refine ⟨(by show 2 ≤ sizeLine; decide), fun lf hlf => ?_⟩
      have ef := same_new hlf (HO.lst [V.ref lw, V.ref lx])
      refine ⟨Nat.zero_le _, fun ne' hne => ?_⟩
      have en := same_new hne (HO.lst [])
      have e8n := e9.trans (ea.trans (ef.trans en))
      have ean := ef.trans en
      have eAll := e15.trans (e6.trans (e68.trans e8n))
      refine ⟨_, rfl, ne', lf, lw, lx, _, _, zw, zx, rfl, SqL.of upd_same, rfl, en.seq (SqL.of upd_same), e8n.seq (SqL.of hlw), ean.seq (SqL.of hlx), e8n.dns dw, ean.dns dx, parts_shaped _, parts_shaped _, _, rfl, ite2 (fun c => ?_) (fun c => ?_)⟩
      · have c' : (((wgh [ia, ja] (Cut.crossAm (Cut.at_ one ia) (Cut.at_ one ja) (Cut.at_ other ib) (Cut.at_ other jb))).map partD).isEmpty || ((wgh [ib, jb] (Cut.crossAm (Cut.at_ other ib) (Cut.at_ other jb) (Cut.at_ one ia) (Cut.at_ one ja))).map partD).isEmpty) = false := by simpa using c
        rw [Bool.or_eq_false_iff] at c'
        have s1 := wgh_emp.mp c'.1
        have s2 := wgh_emp.mp c'.2
        have fnd := Cut.found_cross b1 b2 hij hja hij' hjb s1 s2
        rw [← wgh_sgn s1, ← wgh_sgn s2] at fnd
        refine ⟨_, rfl, q lf _ _ eAll ?_ (en _ _ upd_same) (.inr ⟨_, _, ⟨lw, lx, zw, zx, rfl, e8n _ _ hlw, ean _ _ hlx, e8n.dns dw, ean.dns dx⟩, fnd⟩)⟩
        exact (e15.trans (e6.trans (e68.trans (e9.trans ea)))).free hlf
      · have c' : ¬ Bad one other [ia, ja] [ib, jb] := fun bad => by
          apply c
          have z1 := wgh_emp (i := ia) (j := ja).mpr bad.1
          have z2 := wgh_emp (i := ib) (j := jb).mpr bad.2
          have z1' : ((wgh [ia, ja] (Cut.crossAm (Cut.at_ one ia) (Cut.at_ one ja) (Cut.at_ other ib) (Cut.at_ other jb))).map partD).isEmpty = false := z1
          have z2' : ((wgh [ib, jb] (Cut.crossAm (Cut.at_ other ib) (Cut.at_ other jb) (Cut.at_ one ia) (Cut.at_ one ja))).map partD).isEmpty = false := z2
          rw [z1', z2']; rfl
        refine ⟨_, _, _, rfl, e5.trans (e6.trans (e68.trans e8n)), fun j g' hj hg' => ?_⟩
        rcases Nat.lt_or_ge j k with z | z
        · exact no5 j g' z hg'
        · have : j = k := by omega
          subst this
          rw [hgk] at hg'; cases hg'
          exact c'
    · rintro σ' H5 ⟨c4, c5, c6, rfl, e5, no5⟩
      refine ⟨_, _, _, _, _, rfl, e2.trans (e3.trans (e4.trans e5)), fun j g hj hg g' hg' => ?_⟩
      rcases Nat.lt_or_ge j i with z | z
      · exact no j g z hg g' hg'
      · have : j = i := by omega
        subst this
        rw [hgi] at hg; cases hg
        obtain ⟨m, hm, rfl⟩ := List.mem_iff_getElem.mp hg'
        exact no5 m _ (by rw [nu]; exact hm) (List.getElem?_eq_getElem hm)
  · rintro σ' H2 ⟨c2, c3, c4, c5, c6, rfl, e2, no⟩
    refine ⟨Nat.zero_le _, fun l hl => ?_⟩
    refine q l [] _ (e1.trans (e2.trans (same_new hl _))) ((e1.trans e2).free hl) upd_same (.inl ⟨rfl, fun g hg g' hg' => ?_⟩)
    obtain ⟨m, hm, rfl⟩ := List.mem_iff_getElem.mp hg
    exact no m _ (by rw [nt]; exact hm) (List.getElem?_eq_getElem hm) g' hg'
end
end K6a
set_option Elab.async false
set_option linter.all false
set_option maxRecDepth 100000
set_option maxHeartbeats 4000000
namespace K6a
open PySem L2 Hull SortM SepM
seal L2.PE L2.PT L2.PW L2.PA L2.PS L2.PSs L2.PG L2.PGs L2.PF L2.PI L2.PO
section
variable {P : Program} {w : World} {K : PySem.W.Frag} {mg : Str → Option Value} {base : Heap} {f : Addr} {fd : FuncData}
theorem ifs_join {b : Bool} {t u : TS} {D : Ends} {σ : St} {H : Hp} (N : St → Hp → Prop) (h1 : b = true → ∀ D' : Ends, (∀ σ' H', N σ' H' → D'.nx σ' H') → t D' σ H) (h2 : ¬ b = true → ∀ D' : Ends, (∀ σ' H', N σ' H' → D'.nx σ' H') → u D' σ H) (hk : ∀ σ' H', N σ' H' → D.nx σ' H') : (if b = true then t D σ H else u D σ H) := by
  split
  · exact h1 (by assumption) D hk
  · exact h2 (by assumption) D hk
theorem two_data {H : Hp} {ws : List V} {one other : List Hull.P} {fail : Prop} (h : Res K H ws one other fail) : ∃ ds, Dns K H ds ws ∧ SeqAt.shaped (.list ds) = true ∧ ((ds.isEmpty = true → ws = [] ∧ fail) ∧ (¬ ds.isEmpty = true → ∃ p1 p2, Two K H ws p1 p2 ∧ Cut.Found one other p1 p2)) := by
  rcases h with ⟨rfl, hf⟩ | ⟨p1, p2, ⟨a, b, z1, z2, rfl, h1, h2, d1, d2⟩, fd⟩
  · exact ⟨[], dns_nil, rfl, fun _ => ⟨rfl, hf⟩, fun c => absurd rfl c⟩
  · refine ⟨[.list (p1.map partD), .list (p2.map partD)], dns_cons (dn_lst (SqL.of h1) d1) (dns_cons (dn_lst (SqL.of h2) d2) dns_nil), ?_, fun c => (by cases c), fun _ => ⟨p1, p2, ⟨a, b, z1, z2, rfl, h1, h2, d1, d2⟩, fd⟩⟩
    obtain ⟨c1, c2⟩ := parts_can p1
    obtain ⟨c3, c4⟩ := parts_can p2
    unfold SeqAt.shaped
    have dp : (PyData.list [.list (p1.map partD), .list (p2.map partD)]).depth ≤ 64 := by
      rw [PyData.depth, PyData.depthAll, PyData.depthAll, PyData.depthAll, PyData.depth, PyData.depth]; omega
    rw [decide_eq_true dp, PyData.canLay0, PyData.canLayAll0, PyData.canLayAll0, PyData.canLayAll0, PyData.canLay0, PyData.canLay0, c1, c3]; rfl
theorem fail_all {one other : List Hull.P} (h1 : failH one other) (h2 : failH other one) (h3 : failC one other) : Cut.Fail one other :=
  ⟨h1, h2, fun i j k l hij hj hkl hl bad => h3 [i, j] (Cut.mem_twos.mpr ⟨i, j, hij, hj, rfl⟩) [k, l] (Cut.mem_twos.mpr ⟨k, l, hkl, hl, rfl⟩) bad⟩
theorem ok_shared (B : Bl mg) (C_held : Cal P w K mg base 5 "held" (sp_two K failH)) (C_crossed : Cal P w K mg base 4 "crossed" (sp_two K failC)) (F : Fun K "shared" "shared" s_shared f fd) : FnOk P w K mg base CX0 6 f fd ["one", "other"] (sp_two K Cut.Fail) := by
  refine F.ok sc_shared (fun vs H Q E h => ?_) (fun cdv A outer s H vs Q E hr h => ?_)
  · obtain ⟨x, y, one, other, rfl, _⟩ := h
    rfl
  obtain ⟨x, y, one, other, rfl, hx, hy, q⟩ := h
  have hu := hr.units
  refine ⟨_, (pss_cons (ps_set (i := 2) sc_shared.nd rfl (Or.inl rfl) (pe_c C_held (hr.mono (by decide)) (by rfl) (pa_cons (pv 0) (pa_cons (pv 1) pa_nil))))
    (pss_cons (ps_if (pt_cmpR (op_eqNil hu) (pv 2) (pe_lst pa_nil) (nomark _)) (pss_one (ps_set (i := 2) sc_shared.nd rfl (Or.inl rfl) (pe_callTy (call_listRev rfl) (by rfl) B.list PySem.L3.boot_list (pa_cons (pe_callTy call_rev (by rfl) B.reversed PySem.L3.boot_reversed (pa_cons (pe_c C_held (hr.mono (by decide)) (by rfl) (pa_cons (pv 1) (pa_cons (pv 0) pa_nil))) pa_nil)) pa_nil)))) pss_nil)
    (pss_cons (ps_if (pt_cmpR (op_eqNil hu) (pv 2) (pe_lst pa_nil) (nomark _)) (pss_one (ps_set (i := 2) sc_shared.nd rfl (Or.inl rfl) (pe_c C_crossed (hr.mono (by decide)) (by rfl) (pa_cons (pv 0) (pa_cons (pv 1) pa_nil))))) pss_nil)
    (pss_one (ps_ret (pv 2)))))), ?_⟩
  refine ⟨_, rfl, _, rfl, x, y, one, other, rfl, hx, hy, fun l1 w1 H1 e1 h10 h11 r1 => ?_⟩
  obtain ⟨ds, dd, sh, emp, non⟩ := two_data r1
  refine ⟨_, rfl, Nat.zero_le _, fun ne' hne => ?_⟩
  have en := same_new hne (HO.lst [])
  refine ⟨_, ne', ds, dn_lst (en.seq (SqL.of h11)) (en.dns dd), rfl, rfl, SqL.of upd_same, sh, _, rfl, ?_⟩
  refine ifs_join (fun σ' H' => ∃ l ws, σ' = [some x, some y, some (.ref l)] ∧ Same H H' ∧ H l = none ∧ H' l = some (.lst ws) ∧ Res K H' ws one other (failH one other ∧ failH other one)) (fun c D' hD => ?_) (fun c D' hD => ?_) ?_
  · obtain ⟨rfl, f1⟩ := emp c
    have e1n := e1.trans en
    refine ⟨_, rfl, _, rfl, y, x, other, one, rfl, hy.same e1n, hx.same e1n, fun l2 w2 H2 e2 h20 h21 r2 => ?_⟩
    refine ⟨l2, w2, rfl, h21, fun a2 ha2 => ?_⟩
    refine ⟨a2, l2, w2, rfl, upd_same, (same_new ha2 _) _ _ h21, fun p hp => ?_⟩
    rw [del_upd ha2]
    have hp' : H2 p = none := (same_new ha2 _).free hp
    have ep := same_new hp' (HO.lst w2.reverse)
    refine hD _ _ ⟨p, w2.reverse, rfl, e1n.trans (e2.trans ep), (e1n.trans e2).free hp', upd_same, ?_⟩
    rcases r2 with ⟨rfl, f2⟩ | ⟨p1, p2, ⟨a, b, z1, z2, rfl, g1, g2, d1, d2⟩, fd⟩
    · exact .inl ⟨rfl, f1, f2⟩
    · exact .inr ⟨p2, p1, ⟨b, a, z2, z1, rfl, ep _ _ g2, ep _ _ g1, ep.dns d2, ep.dns d1⟩, fd.swap⟩
  · obtain ⟨p1, p2, tw, fd⟩ := non c
    exact hD _ _ ⟨l1, w1, rfl, e1.trans en, h10, en _ _ h11, .inr ⟨p1, p2, tw.same en, fd⟩⟩
  clear h11 h10 r1 dd emp non e1 en hne sh
  rintro σ' H2 ⟨l2, w2, rfl, e2, h20, h21, r2⟩
  obtain ⟨ds, dd, sh, emp, non⟩ := two_data r2
  refine ⟨_, rfl, Nat.zero_le _, fun ne' hne => ?_⟩
  have en := same_new hne (HO.lst [])
  refine ⟨_, ne', ds, dn_lst (en.seq (SqL.of h21)) (en.dns dd), rfl, rfl, SqL.of upd_same, sh, _, rfl, ?_⟩
  refine ifs_join (fun σ' H' => ∃ l ws, σ' = [some x, some y, some (.ref l)] ∧ Same H H' ∧ H l = none ∧ H' l = some (.lst ws) ∧ Res K H' ws one other (Cut.Fail one other)) (fun c D' hD => ?_) (fun c D' hD => ?_) ?_
  · obtain ⟨rfl, f1, f2⟩ := emp c
    have e1n := e2.trans en
    refine ⟨_, rfl, _, rfl, x, y, one, other, rfl, hx.same e1n, hy.same e1n, fun l3 w3 H3 e3 h30 h31 r3 => ?_⟩
    refine hD _ _ ⟨l3, w3, rfl, e1n.trans e3, e1n.free h30, h31, ?_⟩
    rcases r3 with ⟨rfl, f3⟩ | r3
    · exact .inl ⟨rfl, fail_all f1 f2 f3⟩
    · exact .inr r3
  · obtain ⟨p1, p2, tw, fd⟩ := non c
    exact hD _ _ ⟨l2, w2, rfl, e2.trans en, h20, en _ _ h21, .inr ⟨p1, p2, tw.same en, fd⟩⟩
  rintro σ' H3 ⟨l3, w3, rfl, e3, h30, h31, r3⟩
  exact ⟨_, rfl, q l3 w3 H3 e3 h30 h31 r3⟩
end
end K6a
set_option Elab.async false
set_option linter.all false
set_option maxRecDepth 100000
set_option maxHeartbeats 4000000
namespace K6a
open PySem L2 Hull SortM SepM
seal L2.PE L2.PT L2.PW L2.PA L2.PS L2.PSs L2.PG L2.PGs L2.PF L2.PI L2.PO
section
variable {P : Program} {w : World} {K : PySem.W.Frag} {mg : Str → Option Value} {base : Heap} {f : Addr} {fd : FuncData}
structure Txt_Meeting (K : PySem.W.Frag) (mg : Str → Option Value) (C : Addr) : Prop where
  cl : Cls K C
  nF : NoAttr K C "first"
  nS : NoAttr K C "second"
  mg : mg "Meeting" = some (.ref C)
  ha : PySem.W.findIn K (.ref C) "__class__" = some (some (.builtin "object.__class__"))
  hn : PySem.W.specialIn K (.builtin "object.__class__") "__get__" = some (some (.builtin "getset_descriptor.__get__"))
  htk : PySem.W.takesIn K (.builtin "object.__class__") = some true
  hm : PySem.W.mroIn K C (.type "object") = some true
  ki : PySem.W.kitOne K (.ref C) (.ref C) = some true
theorem fs_ne : ¬ (("first" : Str) = "second") := by decide +kernel
def mflds (a b : Addr) : List (Str × V) := putF "second" (.ref b) (putF "first" (.ref a) [])
theorem mflds_first (a b : Addr) : (mflds a b).lookup ("first" : Str) = some (.ref a) := by
  unfold mflds; rw [lookup_putF, if_neg fs_ne, lookup_putF, if_pos rfl]
theorem mflds_second (a b : Addr) : (mflds a b).lookup ("second" : Str) = some (.ref b) := by
  unfold mflds; rw [lookup_putF, if_pos rfl]
theorem mflds_no (a b : Addr) {m : Str} (h1 : ¬ m = "second") (h2 : ¬ m = "first") : (mflds a b).lookup m = none := by
  unfold mflds
  rw [lookup_putF, if_neg h1, lookup_putF, if_neg h2]
  all_goals rfl
inductive sp_init (K : PySem.W.Frag) (C : Addr) (vs : List V) (H : Hp) (Q : VK) (x_3 : XK) : Prop where
  | mk (x f s dx : Addr) (z1 z2 : List V) (h_0 : vs = [.ref x, .ref f, .ref s]) (h_1 : H x = some (.ins C dx [])) (h_2 : SqL K H f z1) (h_3 : SqL K H s z2) (h_4 : ∀ a b H', H a = none → H b = none → a ≠ b → H' a = some (.lst z1) → H' b = some (.lst z2) → H' x = some (.ins C dx (mflds a b)) → (∀ y o, H y = some o → y ≠ x → H' y = some o) → Q .non H')
theorem sq_ins {H : Hp} {x o : Addr} {C dx : Addr} {fs : List (Str × V)} {u : HO} {zs : List V} (hx : H x = some (.ins C dx fs)) (h : SqL K H o zs) : SqL K (upd H x u) o zs := by
  rcases h with (h1 | ⟨ob, h1⟩) | h1
  · exact .inl (.inl (by rw [upd_ne (by rintro rfl; rw [hx] at h1; cases h1)]; exact h1))
  · exact .inl (.inr ⟨ob, by rw [upd_ne (by rintro rfl; rw [hx] at h1; cases h1)]; exact h1⟩)
  · exact .inr h1
theorem ok_init {c_Meeting : Addr} (B : Bl mg) (T_Meeting : Txt_Meeting K mg c_Meeting) (F : Fun K "__init__" "Meeting.__init__" s_Meeting___init__ f fd) : FnOk P w K mg base CX0 1 f fd ["self", "first", "second"] (sp_init K c_Meeting) := by
  refine F.ok sc_Meeting___init__ (fun vs H Q E h => ?_) (fun cdv A outer s H vs Q E hr h => ?_)
  · obtain ⟨x, f, s, dx, z1, z2, rfl, _⟩ := h
    rfl
  obtain ⟨x, f, s, dx, z1, z2, rfl, hx, hf, hs, q⟩ := h
  have T := T_Meeting
  refine ⟨_, (pss_cons (ps_fld (pv 0) (pe_callTy call_list_of (by rfl) B.list PySem.L3.boot_list (pa_cons (pv 1) pa_nil)) rfl)
    (pss_one (ps_fld (pv 0) (pe_callTy call_list_of (by rfl) B.list PySem.L3.boot_list (pa_cons (pv 2) pa_nil)) rfl))), ?_⟩
  refine ⟨_, rfl, f, z1, rfl, .inl hf, fun a ha => ?_⟩
  have nxa : x ≠ a := ne_of_none hx ha
  have hx1 : (upd H a (.lst z1)) x = some (.ins c_Meeting dx []) := by rw [upd_ne nxa]; exact hx
  refine ⟨_, rfl, x, _, dx, _, rfl, hx1, T.cl, T.nF, (by show 0 < 1000; decide), ?_⟩
  have e1 := same_new ha (HO.lst z1)
  refine ⟨_, rfl, s, z2, rfl, .inl (sq_ins hx1 (e1.seq hs)), fun b hb => ?_⟩
  have nbx : b ≠ x := by rintro rfl; rw [upd_same] at hb; cases hb
  have hb1 : (upd H a (.lst z1)) b = none := by rwa [upd_ne nbx] at hb
  have nba : b ≠ a := by rintro rfl; rw [upd_same] at hb1; cases hb1
  have hb2 : H b = none := by rwa [upd_ne nba] at hb1
  refine ⟨_, rfl, x, _, dx, _, rfl, (by rw [upd_ne (Ne.symm nbx)]; exact upd_same), T.cl, T.nS, (by show 1 < 1000; decide), ?_⟩
  refine q a b _ ha hb2 (Ne.symm nba) ?_ ?_ upd_same fun y o hy hne => ?_
  · rw [upd_ne (Ne.symm nxa), upd_ne (Ne.symm nba), upd_ne (Ne.symm nxa), upd_same]
  · rw [upd_ne nbx, upd_same]
  · rw [upd_ne hne, upd_ne (ne_of_none hy hb2), upd_ne hne, upd_ne (ne_of_none hy ha)]; exact hy
end
end K6a
set_option Elab.async false
set_option linter.all false
set_option maxRecDepth 100000
set_option maxHeartbeats 4000000
namespace K6a
open PySem L2 Hull SortM SepM
seal L2.PE L2.PT L2.PW L2.PA L2.PS L2.PSs L2.PG L2.PGs L2.PF L2.PI L2.PO
section
variable {P : Program} {w : World} {K : PySem.W.Frag} {mg : Str → Option Value} {base : Heap} {f : Addr} {fd : FuncData}
inductive sp_reachT (K : PySem.W.Frag) (vs : List V) (H : Hp) (Q : VK) (x_3 : XK) : Prop where
  | mk (t : Addr) (y : V) (a b : Hull.P) (r : List V) (h_0 : vs = [.ref t, y]) (h_1 : SqT K H t (.int a.1 :: .int a.2 :: r)) (h_2 : Sp K H y b) (h_3 : Q (.int (dot a b)) H)
theorem ok_reachT (F : Fun K "reach" "reach" s_reach f fd) : FnOk P w K mg base CX0 1 f fd ["way", "spot"] (sp_reachT K) := by
  refine F.ok sc_reach (fun vs H Q E h => ?_) (fun cdv A outer s H vs Q E hr h => ?_)
  · obtain ⟨t, y, a, b, r, rfl, _⟩ := h
    rfl
  obtain ⟨t, y, a, b, r, rfl, ta, ⟨hb, hb1, hb2⟩, q⟩ := h
  obtain ⟨y, rfl, tb⟩ := hb.spot
  have i0 : atI (V.int a.1 :: V.int a.2 :: r) 0 = some (.int a.1) := atI_nat (j := 0) rfl
  have i1 : atI (V.int a.1 :: V.int a.2 :: r) 1 = some (.int a.2) := atI_nat (j := 1) rfl
  refine ⟨_, (pss_one (ps_ret (pe_op op_add (pe_op op_mul (pe_ix ix_tup (pv 0) pe_int (fun _ _ => rfl)) (pe_ix ix_tup (pv 1) pe_int (fun _ _ => rfl))) (pe_op op_mul (pe_ix ix_tup (pv 0) pe_int (fun _ _ => rfl)) (pe_ix ix_tup (pv 1) pe_int (fun _ _ => rfl)))))), ?_⟩
  refine ⟨_, rfl, t, _, _, _, rfl, rfl, ta, i0, _, rfl, y, _, _, _, rfl, rfl, tb, rfl, _, _, rfl, rfl, .inr ⟨by omega, by omega⟩, ?_⟩
  exact ⟨_, rfl, t, _, _, _, rfl, rfl, ta, i1, _, rfl, y, _, _, _, rfl, rfl, tb, rfl, _, _, rfl, rfl, .inr ⟨by omega, by omega⟩, _, _, rfl, rfl, q⟩
theorem reach_pair (C : Cal P w K mg base 1 "reach" (sp_reachT K)) : Cal P w K mg base 1 "reach" (sp_reach K) := C.imp fun vs H Q E h => by
  obtain ⟨x, y, a, b, rfl, ha, hb, q⟩ := h
  obtain ⟨t, rfl, ta⟩ := ha.spot
  exact ⟨t, y, a, b, [], rfl, ta, hb, q⟩
inductive sp_end (K : PySem.W.Frag) (fn : Hull.P → List Hull.P → Int) (vs : List V) (H : Hp) (Q : VK) (x_3 : XK) : Prop where
  | mk (x y : V) (a : Hull.P) (ps : List Hull.P) (h_0 : vs = [x, y]) (h_1 : Dn K H (spotD a) x) (h_2 : Hd K H y ps) (h_3 : ∀ H', Same H H' → Q (.int (fn a ps)) H')
theorem take_map {α β : Type} {L : List α} {i : Nat} {x : α} (g : α → β) (h : L[i]? = some x) : (L.take (i + 1)).map g = (L.take i).map g ++ [g x] := by
  rw [List.take_add_one, h, List.map_append]; rfl
theorem ok_far (B : Bl mg) (C_reach : Cal P w K mg base 1 "reach" (sp_reachT K)) (F : Fun K "far_end" "far_end" s_far_end f fd) : FnOk P w K mg base CX0 2 f fd ["way", "herd"] (sp_end K Cut.farP) := by
  refine F.ok sc_far_end (fun vs H Q E h => ?_) (fun cdv A outer s H vs Q E hr h => ?_)
  · obtain ⟨x, y, a, ps, rfl, _⟩ := h
    rfl
  obtain ⟨x, y, a, ps, rfl, hx, ⟨o, ys, rfl, ho, hd, hb, l1, l8⟩, q⟩ := h
  obtain ⟨t, rfl, ta⟩ := hx.spot
  have hz : ys.length = ps.length := by have := hd.length; rwa [List.length_map] at this
  refine ⟨_, (pss_one (ps_ret (pe_callB (call_maxL rfl) (by rfl) B.max PySem.L3.boot_max (pa_cons (pe_comp (Nc := ["spot", "way"]) (fi := [none, some 0]) (comp_sc rfl rfl rfl) rfl (comp_from_go rfl) (pi_list (pv 1)) (fun _ _ _ _ => ⟨(pg_name (i := 0) (show (["spot", "way"] : List Str).Nodup by decide +kernel) rfl (Or.inl rfl)), pf_nil, (pe_c C_reach (hr.mono (by decide)) (by rfl) (pa_cons (pv 1) (pa_cons (pv 0) pa_nil)))⟩)) pa_nil)))), ?_⟩
  refine ⟨_, rfl, o, rfl, ⟨_, ho⟩, fun _ _ _ _ l hl => ?_⟩
  refine comp_by ys.length (by rw [sizeLine_eq]; omega) (fun i zs σ' Hc => Same H Hc ∧ Hc l = some (.lst zs) ∧ zs = ((ps.take i).map fun p => V.int (dot a p)) ∧ ∃ o1, σ' = [o1, some (.ref t)]) ?_ (fun i zs σ' Hc ⟨_, e, y, _⟩ => ⟨e, by rw [y, List.length_map, List.length_take]; omega⟩) ?_ ?_
  · exact ⟨same_new hl _, upd_same, rfl, _, rfl⟩
  · rintro i zs σ' Hc hi ⟨e, el, rfl, o1, rfl⟩
    refine ⟨⟨_, ys[i], e.seq ho, by simp [hi]⟩, fun x H' y Kt Kf k1 _ => ?_⟩
    obtain ⟨rfl, hx⟩ := y
    have hx' := hx _ (e.seq ho)
    obtain ⟨d, hd1, hd2⟩ := hd.get' hx'
    rw [List.getElem?_map] at hd1
    obtain ⟨p, hp, rfl⟩ := Option.map_eq_some_iff.mp hd1
    simp only [gName, tYes, ↓reduceIte]
    refine ⟨_, rfl, _, rfl, t, x, a, p, [], rfl, e.seqT ta, ⟨e.dn hd2, hb p (List.mem_of_getElem? hp)⟩, ?_⟩
    exact k1 _ _ _ el ⟨same_upd hl e, upd_same, (take_map _ hp).symm, _, rfl⟩
  · rintro zs σ' Hc ⟨e, el, rfl, _⟩
    rw [hz, List.take_length] at el
    refine ⟨⟨_, e.seq ho, Nat.le_refl _⟩, l, ps.map (dot a), rfl, SqL.of (by rw [List.map_map]; exact el), (by intro z; rw [List.map_eq_nil_iff] at z; rw [z] at l1; simp at l1), fun m hm hmx => ?_⟩
    rw [Cut.mxI_eq hm hmx]; exact q _ e
theorem ok_near (B : Bl mg) (C_reach : Cal P w K mg base 1 "reach" (sp_reachT K)) (F : Fun K "near_end" "near_end" s_near_end f fd) : FnOk P w K mg base CX0 2 f fd ["way", "herd"] (sp_end K Cut.nearP) := by
  refine F.ok sc_near_end (fun vs H Q E h => ?_) (fun cdv A outer s H vs Q E hr h => ?_)
  · obtain ⟨x, y, a, ps, rfl, _⟩ := h
    rfl
  obtain ⟨x, y, a, ps, rfl, hx, ⟨o, ys, rfl, ho, hd, hb, l1, l8⟩, q⟩ := h
  obtain ⟨t, rfl, ta⟩ := hx.spot
  have hz : ys.length = ps.length := by have := hd.length; rwa [List.length_map] at this
  refine ⟨_, (pss_one (ps_ret (pe_callB (call_minL rfl) (by rfl) B.min PySem.L3.boot_min (pa_cons (pe_comp (Nc := ["spot", "way"]) (fi := [none, some 0]) (comp_sc rfl rfl rfl) rfl (comp_from_go rfl) (pi_list (pv 1)) (fun _ _ _ _ => ⟨(pg_name (i := 0) (show (["spot", "way"] : List Str).Nodup by decide +kernel) rfl (Or.inl rfl)), pf_nil, (pe_c C_reach (hr.mono (by decide)) (by rfl) (pa_cons (pv 1) (pa_cons (pv 0) pa_nil)))⟩)) pa_nil)))), ?_⟩
  refine ⟨_, rfl, o, rfl, ⟨_, ho⟩, fun _ _ _ _ l hl => ?_⟩
  refine comp_by ys.length (by rw [sizeLine_eq]; omega) (fun i zs σ' Hc => Same H Hc ∧ Hc l = some (.lst zs) ∧ zs = ((ps.take i).map fun p => V.int (dot a p)) ∧ ∃ o1, σ' = [o1, some (.ref t)]) ?_ (fun i zs σ' Hc ⟨_, e, y, _⟩ => ⟨e, by rw [y, List.length_map, List.length_take]; omega⟩) ?_ ?_
  · exact ⟨same_new hl _, upd_same, rfl, _, rfl⟩
  · rintro i zs σ' Hc hi ⟨e, el, rfl, o1, rfl⟩
    refine ⟨⟨_, ys[i], e.seq ho, by simp [hi]⟩, fun x H' y Kt Kf k1 _ => ?_⟩
    obtain ⟨rfl, hx⟩ := y
    have hx' := hx _ (e.seq ho)
    obtain ⟨d, hd1, hd2⟩ := hd.get' hx'
    rw [List.getElem?_map] at hd1
    obtain ⟨p, hp, rfl⟩ := Option.map_eq_some_iff.mp hd1
    simp only [gName, tYes, ↓reduceIte]
    refine ⟨_, rfl, _, rfl, t, x, a, p, [], rfl, e.seqT ta, ⟨e.dn hd2, hb p (List.mem_of_getElem? hp)⟩, ?_⟩
    exact k1 _ _ _ el ⟨same_upd hl e, upd_same, (take_map _ hp).symm, _, rfl⟩
  · rintro zs σ' Hc ⟨e, el, rfl, _⟩
    rw [hz, List.take_length] at el
    refine ⟨⟨_, e.seq ho, Nat.le_refl _⟩, l, ps.map (dot a), rfl, SqL.of (by rw [List.map_map]; exact el), (by intro z; rw [List.map_eq_nil_iff] at z; rw [z] at l1; simp at l1), fun m hm hmx => ?_⟩
    rw [Cut.mnI_eq hm hmx]; exact q _ e
end
end K6a
set_option Elab.async false
set_option linter.all false
set_option maxRecDepth 100000
set_option maxHeartbeats 4000000
namespace K6a
open PySem L2 Hull SortM SepM
seal L2.PE L2.PT L2.PW L2.PA L2.PS L2.PSs L2.PG L2.PGs L2.PF L2.PI L2.PO
section
variable {P : Program} {w : World} {K : PySem.W.Frag} {mg : Str → Option Value} {base : Heap} {f : Addr} {fd : FuncData}
inductive sp_ways (K : PySem.W.Frag) (vs : List V) (H : Hp) (Q : VK) (x_3 : XK) : Prop where
  | mk (x y : V) (one other : List Hull.P) (h_0 : vs = [x, y]) (h_1 : Hd K H x one) (h_2 : Hd K H y other) (h_3 : ∀ l zs H', Same H H' → H l = none → H' l = some (.lst zs) → Dns K H' ((Cut.wys one other).map spotD) zs → Q (.ref l) H')
theorem steps_take {one other : List Hull.P} {i : Nat} {p : Hull.P} (h : one[i]? = some p) : Cut.steps (one.take (i + 1)) other = Cut.steps (one.take i) other ++ other.map fun b => sb b p := by
  rw [List.take_add_one, h]
  unfold Cut.steps
  rw [List.flatMap_append]
  show _ ++ (_ ++ []) = _
  rw [List.append_nil]
def perpsTo (h : List Hull.P) (i : Nat) : List Hull.P := (h.take i).flatMap fun a => h.map fun b => (a.2 - b.2, b.1 - a.1)
theorem perps_take {h : List Hull.P} {i : Nat} {p : Hull.P} (e : h[i]? = some p) : perpsTo h (i + 1) = perpsTo h i ++ h.map fun b => (p.2 - b.2, b.1 - p.1) := by
  unfold perpsTo
  rw [List.take_add_one, e, List.flatMap_append]
  show _ ++ (_ ++ []) = _
  rw [List.append_nil]
theorem perps_all (h : List Hull.P) : perpsTo h h.length = Cut.perps h := by unfold perpsTo; rw [List.take_length]; rfl
theorem flat_len {α β : Type} (g : α → List β) (n : Nat) : ∀ (l : List α), (∀ a ∈ l, (g a).length ≤ n) → (l.flatMap g).length ≤ l.length * n
  | [], _ => by simp
  | a :: l, h => by
    rw [List.flatMap_cons, List.length_append, List.length_cons, Nat.succ_mul]
    have := flat_len g n l fun b hb => h b (by simp [hb])
    have := h a (by simp)
    omega
theorem steps_len {one other : List Hull.P} (h1 : one.length ≤ 8) (h2 : other.length ≤ 8) : (Cut.steps one other).length ≤ 64 := by
  have := flat_len (fun a => other.map fun b => sb b a) 8 one fun a _ => by rw [List.length_map]; exact h2
  unfold Cut.steps; omega
theorem perps_len {h : List Hull.P} (h1 : h.length ≤ 8) (i : Nat) : (perpsTo h i).length ≤ 64 := by
  have := flat_len (fun a => h.map fun b => (a.2 - b.2, b.1 - a.1)) 8 (h.take i) fun a _ => by rw [List.length_map]; exact h1
  have : (h.take i).length ≤ h.length := by rw [List.length_take]; omega
  unfold perpsTo; omega
def waysTo (one other : List Hull.P) : Nat → List Hull.P
  | 0 => []
  | 1 => Cut.perps one
  | _ => Cut.perps one ++ Cut.perps other
theorem ok_ways (B : Bl mg) (C_step : Cal P w K mg base 1 "step" (sp_step K)) (F : Fun K "ways_over" "ways_over" s_ways_over f fd) : FnOk P w K mg base CX0 2 f fd ["one", "other"] (sp_ways K) := by
  refine F.ok sc_ways_over (fun vs H Q E h => ?_) (fun cdv A outer s H vs Q E hr h => ?_)
  · obtain ⟨x, y, one, other, rfl, _⟩ := h
    rfl
  obtain ⟨x, y, one, other, rfl, ⟨o1, y1, rfl, h1, d1, b1, l1, l18⟩, ⟨o2, y2, rfl, h2, d2, b2, l2, l28⟩, q⟩ := h
  have z1 : y1.length = one.length := by have := d1.length; rwa [List.length_map] at this
  have z2 : y2.length = other.length := by have := d2.length; rwa [List.length_map] at this
  refine ⟨_, (pss_cons (ps_set (i := 2) sc_ways_over.nd rfl (Or.inl rfl) (pe_lst pa_nil))
    (pss_cons (ps_for PassesOwn.never rfl (pi_list (pv 0)) (pg_name (i := 3) sc_ways_over.nd rfl (Or.inr rfl)) (pss_one (ps_expr (pe_bm PySem.F.plainAttrs_list PySem.F.slot_list_extend PySem.F.type_list_extend mt_extend (pv 2) (pa_cons (pe_comp (Nc := ["end", "start"]) (fi := [none, some 3]) (comp_sc rfl rfl rfl) rfl (comp_from_go rfl) (pi_list (pv 1)) (fun _ _ _ _ => ⟨(pg_name (i := 0) (show (["end", "start"] : List Str).Nodup by decide +kernel) rfl (Or.inl rfl)), pf_nil, (pe_c C_step (hr.mono (by decide)) (by rfl) (pa_cons (pv 1) (pa_cons (pv 0) pa_nil)))⟩)) pa_nil)))))
    (pss_cons (ps_for PassesOwn.never rfl (pi_tup (pe_tup (pa_cons (pv 0) (pa_cons (pv 1) pa_nil)))) (pg_name (i := 4) sc_ways_over.nd rfl (Or.inl rfl)) (pss_one (ps_for PassesOwn.never rfl (pi_list (pv 4)) (pg_name (i := 3) sc_ways_over.nd rfl (Or.inr rfl)) (pss_one (ps_expr (pe_bm PySem.F.plainAttrs_list PySem.F.slot_list_extend PySem.F.type_list_extend mt_extend (pv 2) (pa_cons (pe_comp (Nc := ["end", "start"]) (fi := [none, some 3]) (comp_sc rfl rfl rfl) rfl (comp_from_go rfl) (pi_list (pv 4)) (fun _ _ _ _ => ⟨(pg_name (i := 0) (show (["end", "start"] : List Str).Nodup by decide +kernel) rfl (Or.inl rfl)), pf_nil, (pe_tup (pa_cons (pe_op op_sub (pe_ix ix_tup (pv 1) pe_int (fun _ _ => rfl)) (pe_ix ix_tup (pv 0) pe_int (fun _ _ => rfl))) (pa_cons (pe_op op_sub (pe_ix ix_tup (pv 0) pe_int (fun _ _ => rfl)) (pe_ix ix_tup (pv 1) pe_int (fun _ _ => rfl))) pa_nil)))⟩)) pa_nil)))))))
    (pss_one (ps_ret (pv 2)))))), ?_⟩
  refine ⟨Nat.zero_le _, fun l hl => ?_⟩
  have e0 := same_new hl (HO.lst [])
  -- from spot to spot
  refine ⟨_, rfl, o1, rfl, ⟨_, e0.seq h1⟩, for_list (xs := y1) (fun i σ' H' => ∃ zs c3 c4, σ' = [some (.ref o1), some (.ref o2), some (.ref l), c3, c4] ∧ Same H H' ∧ H' l = some (.lst zs) ∧ Dns K H' ((Cut.steps (one.take i) other).map spotD) zs)
    ⟨[], _, _, rfl, e0, upd_same, dns_nil⟩ (fun i σ' H' _ ⟨zs, c3, c4, _, e, _⟩ => e.seq h1) ?_ ?_⟩
  · rintro i x σ' H1 hx ⟨zs, c3, c4, rfl, e1, hl1, dz⟩
    obtain ⟨d, hd1, hd2⟩ := d1.get' hx
    rw [List.getElem?_map] at hd1
    obtain ⟨p, hp, rfl⟩ := Option.map_eq_some_iff.mp hd1
    have ll := dz.length
    rw [List.length_map] at ll
    refine ⟨_, rfl, .inl ⟨rfl, _, SqL.of hl1⟩, _, rfl, o2, rfl, ⟨_, e1.seq h2⟩, fun _ _ _ _ t ht => ?_⟩
    refine comp_by y2.length (by rw [sizeLine_eq]; omega) (fun j ws σ' Hc => Same H1 Hc ∧ Hc t = some (.lst ws) ∧ Dns K Hc (((other.take j).map fun b => sb b p).map spotD) ws ∧ ∃ c, σ' = [c, some x]) ?_ (fun j ws σ' Hc ⟨_, e, y, _⟩ => ⟨e, by have := y.length; rw [List.length_map, List.length_map, List.length_take] at this; omega⟩) ?_ ?_
    · exact ⟨same_new ht _, upd_same, dns_nil, _, rfl⟩
    · rintro j ws σ' Hc hj ⟨e, el, dw, c, rfl⟩
      refine ⟨⟨_, y2[j], e.seq (e1.seq h2), by simp [hj]⟩, fun v H' y Kt Kf k1 _ => ?_⟩
      obtain ⟨rfl, hv⟩ := y
      have hv' := hv _ (e.seq (e1.seq h2))
      obtain ⟨d', hd1', hd2'⟩ := d2.get' hv'
      rw [List.getElem?_map] at hd1'
      obtain ⟨p', hp', rfl⟩ := Option.map_eq_some_iff.mp hd1'
      simp only [gName, tYes, ↓reduceIte]
      have e2 := e1.trans e
      refine ⟨_, rfl, _, rfl, x, v, p, p', rfl, e2.dn hd2, e2.dn hd2', fun u H2 e3 du => ?_⟩
      refine k1 _ _ _ (e3 _ _ el) ⟨same_upd ht (e.trans e3), upd_same, ?_, _, rfl⟩
      rw [take_map _ hp', List.map_append]
      exact (spots_upd (e3 _ _ el) (e3.dns dw)).append (dns_cons (spot_upd (e3 _ _ el) du) dns_nil)
    · rintro ws σ' H2 ⟨e, el, dw, _⟩
      have hw := dw.length
      rw [z2, List.take_length] at dw
      rw [z2, List.take_length, List.length_map, List.length_map] at hw
      have s64 := steps_len (one := one.take i) (other := other) (by rw [List.length_take]; omega) l28
      refine ⟨⟨_, e.seq (e1.seq h2), Nat.le_refl _⟩, l, t, zs, ws, rfl, rfl, e _ _ hl1, el, by rw [sizeLine_eq]; omega, ?_⟩
      refine ⟨zs ++ ws, _, _, rfl, same_upd hl (e1.trans e), upd_same, ?_⟩
      rw [steps_take hp, List.map_append]
      exact (spots_upd (e _ _ hl1) (e.dns dz)).append (spots_upd (e _ _ hl1) dw)
  rintro σ' H1 ⟨zs, c3, c4, rfl, e1, hl1, dz⟩
  rw [z1, List.take_length] at dz
  have zl := dz.length
  rw [List.length_map] at zl
  have s64 := steps_len l18 l28 (one := one) (other := other)
  -- square from lines
  have key : ∀ i x, [V.ref o1, V.ref o2][i]? = some x → ∃ h o ys, x = V.ref o ∧ SqL K H o ys ∧ Dns K H (h.map spotD) ys ∧ h.length ≤ 8 ∧ waysTo one other (i + 1) = waysTo one other i ++ Cut.perps h ∧ (waysTo one other i).length ≤ 64 := by
    intro i x hx
    match i, hx with
    | 0, hx => exact ⟨one, o1, y1, (Option.some.inj hx).symm, h1, d1, l18, rfl, Nat.zero_le _⟩
    | 1, hx => exact ⟨other, o2, y2, (Option.some.inj hx).symm, h2, d2, l28, rfl, by rw [show waysTo one other 1 = Cut.perps one from rfl, ← perps_all]; exact perps_len l18 _⟩
  refine ⟨_, rfl, _, rfl, (by show 2 ≤ sizeLine; decide), fun tt htt => ⟨tt, rfl, ⟨_, SqT.of upd_same⟩, ?_⟩⟩
  have et := same_new htt (HO.tup [V.ref o1, V.ref o2])
  refine for_tup (xs := [V.ref o1, V.ref o2]) (fun i σ' H' => ∃ zs c3 c4, σ' = [some (.ref o1), some (.ref o2), some (.ref l), c3, c4] ∧ Same H H' ∧ H' tt = some (.tup [.ref o1, .ref o2]) ∧ H' l = some (.lst zs) ∧ Dns K H' ((Cut.steps one other ++ waysTo one other i).map spotD) zs)
    ⟨zs, _, _, rfl, e1.trans et, upd_same, et _ _ hl1, by rw [show waysTo one other 0 = [] from rfl, List.append_nil]; exact et.dns dz⟩ (fun i σ' H' _ ⟨_, _, _, _, _, h, _⟩ => SqT.of h) ?_ ?_
  · rintro i x σ' H2 hx ⟨zs, c3, c4, rfl, e2, ht2, hl2, dz⟩
    obtain ⟨h, o, ys, rfl, ho, dh, lh, hup, hlen⟩ := key i x hx
    have hz : ys.length = h.length := by have := dh.length; rwa [List.length_map] at this
    refine ⟨_, rfl, o, rfl, ⟨_, e2.seq ho⟩, for_list (xs := ys) (fun j σ' H' => ∃ zs c3, σ' = [some (.ref o1), some (.ref o2), some (.ref l), c3, some (.ref o)] ∧ Same H H' ∧ H' tt = some (.tup [.ref o1, .ref o2]) ∧ H' l = some (.lst zs) ∧ Dns K H' ((Cut.steps one other ++ (waysTo one other i ++ perpsTo h j)).map spotD) zs)
      ⟨zs, _, rfl, e2, ht2, hl2, by rw [show perpsTo h 0 = [] from rfl, List.append_nil]; exact dz⟩ (fun j σ' H' _ ⟨_, _, _, e, _⟩ => e.seq ho) ?_ ?_⟩
    · rintro j x σ' H3 hxj ⟨zs, c3, rfl, e3, ht3, hl3, dz⟩
      obtain ⟨d, hd1, hd2⟩ := dh.get' hxj
      rw [List.getElem?_map] at hd1
      obtain ⟨p, hp, rfl⟩ := Option.map_eq_some_iff.mp hd1
      obtain ⟨x, rfl, tx⟩ := hd2.spot
      have ll := dz.length
      rw [List.length_map, List.length_append, List.length_append] at ll
      have pl := perps_len lh j
      refine ⟨_, rfl, .inl ⟨rfl, _, SqL.of hl3⟩, _, rfl, o, rfl, ⟨_, e3.seq ho⟩, fun _ _ _ _ t ht => ?_⟩
      refine comp_by ys.length (by rw [sizeLine_eq]; omega) (fun k ws σ' Hc => Same H3 Hc ∧ Hc t = some (.lst ws) ∧ Dns K Hc (((h.take k).map fun b => (p.2 - b.2, b.1 - p.1)).map spotD) ws ∧ ∃ c, σ' = [c, some (.ref x)]) ?_ (fun k ws σ' Hc ⟨_, e, y, _⟩ => ⟨e, by have := y.length; rw [List.length_map, List.length_map, List.length_take] at this; omega⟩) ?_ ?_
      · exact ⟨same_new ht _, upd_same, dns_nil, _, rfl⟩
      · rintro k ws σ' Hc hk ⟨e, el, dw, c, rfl⟩
        refine ⟨⟨_, ys[k], e.seq (e3.seq ho), by simp [hk]⟩, fun v H' y Kt Kf k1 _ => ?_⟩
        obtain ⟨rfl, hv⟩ := y
        have hv' := hv _ (e.seq (e3.seq ho))
        obtain ⟨d', hd1', hd2'⟩ := dh.get' hv'
        rw [List.getElem?_map] at hd1'
        obtain ⟨p', hp', rfl⟩ := Option.map_eq_some_iff.mp hd1'
        obtain ⟨v, rfl, tv⟩ := hd2'.spot
        simp only [gName, tYes, ↓reduceIte]
        have e4 := e3.trans e
        have tx4 := e4.seqT tx
        have tv4 := e4.seqT tv
        refine ⟨_, rfl, x, _, _, _, rfl, rfl, tx4, rfl, _, rfl, v, _, _, _, rfl, rfl, tv4, rfl, _, _, rfl, rfl, ?_⟩
        refine ⟨_, rfl, v, _, _, _, rfl, rfl, tv4, rfl, _, rfl, x, _, _, _, rfl, rfl, tx4, rfl, _, _, rfl, rfl, (by show 2 ≤ sizeLine; decide), fun u hu => ?_⟩
        have eu := same_new hu (HO.tup [V.int (p.2 - p'.2), V.int (p'.1 - p.1)])
        refine k1 _ _ _ (eu _ _ el) ⟨same_upd ht (e.trans eu), upd_same, ?_, _, rfl⟩
        rw [take_map _ hp', List.map_append]
        exact (spots_upd (eu _ _ el) (eu.dns dw)).append (dns_cons (spot_upd (eu _ _ el) (dn_spot (p := (p.2 - p'.2, p'.1 - p.1)) (SqT.of upd_same))) dns_nil)
      · rintro ws σ' H4 ⟨e, el, dw, _⟩
        have hw := dw.length
        rw [hz, List.take_length] at dw
        rw [hz, List.take_length, List.length_map, List.length_map] at hw
        refine ⟨⟨_, e.seq (e3.seq ho), Nat.le_refl _⟩, l, t, zs, ws, rfl, rfl, e _ _ hl3, el, by rw [sizeLine_eq]; omega, ?_⟩
        have ntl : tt ≠ l := by rintro rfl; rw [ht3] at hl3; cases hl3
        refine ⟨zs ++ ws, _, rfl, same_upd hl (e3.trans e), by rw [upd_ne ntl]; exact e _ _ ht3, upd_same, ?_⟩
        rw [perps_take hp, ← List.append_assoc, ← List.append_assoc, List.map_append, List.append_assoc]
        exact (spots_upd (e _ _ hl3) (e.dns dz)).append (spots_upd (e _ _ hl3) dw)
    · rintro σ' H3 ⟨zs, c3, rfl, e3, ht3, hl3, dz⟩
      rw [hz, perps_all, ← hup] at dz
      exact ⟨zs, _, _, rfl, e3, ht3, hl3, dz⟩
  · rintro σ' H2 ⟨zs, c3, c4, rfl, e2, ht2, hl2, dz⟩
    exact ⟨_, rfl, q l zs H2 e2 hl hl2 dz⟩
end
end K6a
set_option Elab.async false
set_option linter.all false
set_option maxRecDepth 100000
set_option maxHeartbeats 4000000
namespace K6a
open PySem L2 Hull SortM SepM
seal L2.PE L2.PT L2.PW L2.PA L2.PS L2.PSs L2.PG L2.PGs L2.PF L2.PI L2.PO
section
variable {P : Program} {w : World} {K : PySem.W.Frag} {mg : Str → Option Value} {base : Heap} {f : Addr} {fd : FuncData}
abbrev lamQ : Str := "fence_between.<locals>.<lambda>"
inductive sp_fence (K : PySem.W.Frag) (T : Addr) (vs : List V) (H : Hp) (Q : VK) (x_3 : XK) : Prop where
  | mk (x y : V) (one other : List Hull.P) (h_0 : vs = [x, y]) (h_1 : Hd K H x one) (h_2 : Hd K H y other) (h_3 : H T = some (.cod 198 41 lamQ))
    (h_4 : ∀ t w H', Same H H' → H t = none → H' t = some (.tup [.int (2 * w.1), .int (2 * w.2), .int (Cut.farP w one + Cut.nearP w other)]) → w ∈ Cut.wys one other → (∀ v ∈ Cut.wys one other, Cut.nearP v other - Cut.farP v one ≤ Cut.nearP w other - Cut.farP w one) → Q (.ref t) H')
theorem hd_ne {H : Hp} {x : V} {ps : List Hull.P} (h : Hd K H x ps) : ps ≠ [] := by
  obtain ⟨_, _, _, _, _, _, l, _⟩ := h
  intro z; rw [z] at l; simp at l
theorem ok_fence {cc T : Addr} (B : Bl mg) (HD : PySem.W.CodeHd base cc T) (BM : Bmain mg base) (C_ways_over : Cal P w K mg base 2 "ways_over" (sp_ways K)) (C_far_end : Cal P w K mg base 2 "far_end" (sp_end K Cut.farP)) (C_near_end : Cal P w K mg base 2 "near_end" (sp_end K Cut.nearP))
    (hcd : fd.code = .ref cc) (F : Fun K "fence_between" "fence_between" s_fence_between f fd) : FnOk P w K mg base CX0 5 f fd ["one", "other"] (sp_fence K T) := by
  refine F.okC sc_fence_between (fun vs H Q E h => ?_) (fun cdv hcv A outer s H vs Q E hr h => ?_)
  · obtain ⟨x, y, one, other, rfl, _⟩ := h
    rfl
  obtain ⟨x, y, one, other, rfl, h1, h2, hT, q⟩ := h
  have hcode : cdv = .ref cc := hcv.symm.trans hcd
  refine ⟨_, (pss_cons (ps_set (i := 2) sc_fence_between.nd rfl (Or.inl rfl) (pe_maxK (x0 := "each") (Nc := ["other", "one"]) (fr := [some 1, some 0]) rfl (by rfl) B.max (pe_c C_ways_over (hr.mono (by decide)) (by rfl) (pa_cons (pv 0) (pa_cons (pv 1) pa_nil))) (comp_sc rfl rfl rfl) ⟨rfl, rfl, by decide +kernel, rfl⟩ (comp_from_go rfl) hr.depth hcode HD BM rfl rfl rfl rfl (fun _ _ _ _ => rfl) (fun _ _ _ _ => (pe_op op_sub (pe_c C_near_end (Room.deeper (Room.in1 (hr.mono (by decide))) _) (by rfl) (pa_cons (pv 0) (pa_cons (pv 1) pa_nil))) (pe_c C_far_end (Room.deeper (Room.in1 (hr.mono (by decide))) _) (by rfl) (pa_cons (pv 0) (pa_cons (pv 2) pa_nil)))))))
    (pss_one (ps_ret (pe_tup (pa_cons (pe_op op_mul pe_int (pe_ix ix_tup (pv 2) pe_int (fun _ _ => rfl))) (pa_cons (pe_op op_mul pe_int (pe_ix ix_tup (pv 2) pe_int (fun _ _ => rfl))) (pa_cons (pe_op op_add (pe_c C_far_end (hr.mono (by decide)) (by rfl) (pa_cons (pv 2) (pa_cons (pv 0) pa_nil))) (pe_c C_near_end (hr.mono (by decide)) (by rfl) (pa_cons (pv 2) (pa_cons (pv 1) pa_nil)))) pa_nil))))))), ?_⟩
  refine ⟨_, rfl, _, rfl, x, y, one, other, rfl, h1, h2, fun l zs H1 e1 hl0 hl1 dz => ?_⟩
  have zl := dz.length
  rw [List.length_map] at zl
  have lw := Cut.wys_ne (hd_ne h1) (hd_ne h2)
  have at_w : ∀ i v, zs[i]? = some v → ∃ w, (Cut.wys one other)[i]? = some w ∧ Dn K H1 (spotD w) v := fun i v hv => by
    obtain ⟨d, hd1, hd2⟩ := dz.get' hv
    rw [List.getElem?_map] at hd1
    obtain ⟨p, hp, rfl⟩ := Option.map_eq_some_iff.mp hd1
    exact ⟨p, hp, hd2⟩
  refine ⟨l, zs, fun i => Cut.nearP ((Cut.wys one other).getD i (0, 0)) other - Cut.farP ((Cut.wys one other).getD i (0, 0)) one, rfl, hl1, by omega, e1 _ _ hT, fun f cd s i v H2 hv e2 => ?_, fun i v H2 hv hbest e2 => ?_⟩
  · obtain ⟨p, hp, dp⟩ := at_w i v hv
    have hg : (Cut.wys one other).getD i (0, 0) = p := by rw [List.getD_eq_getElem?_getD, hp]; rfl
    rw [hg]
    have e12 := e1.trans e2
    refine ⟨_, rfl, _, rfl, v, y, p, other, rfl, e2.dn dp, h2.same e12, fun H3 e3 => ?_⟩
    refine ⟨_, rfl, _, rfl, v, x, p, one, rfl, (e2.trans e3).dn dp, h1.same (e12.trans e3), fun H4 e4 => ?_⟩
    exact ⟨_, _, rfl, rfl, rfl, e3.trans e4⟩
  · obtain ⟨p, hp, dp⟩ := at_w i v hv
    have hg : ∀ {j : Nat} {p : Hull.P}, (Cut.wys one other)[j]? = some p → (Cut.wys one other).getD j (0, 0) = p := fun {j p} h => by rw [List.getD_eq_getElem?_getD, h]; rfl
    rw [hg hp] at hbest
    obtain ⟨v, rfl, tv⟩ := (e2.dn dp).spot
    have e12 := e1.trans e2
    refine ⟨_, rfl, v, _, _, _, rfl, rfl, tv, rfl, _, _, rfl, rfl, .inl ⟨by decide, by decide⟩, ?_⟩
    refine ⟨_, rfl, v, _, _, _, rfl, rfl, tv, rfl, _, _, rfl, rfl, .inl ⟨by decide, by decide⟩, ?_⟩
    refine ⟨_, rfl, _, rfl, .ref v, x, p, one, rfl, e2.dn dp, h1.same e12, fun H3 e3 => ?_⟩
    refine ⟨_, rfl, _, rfl, .ref v, y, p, other, rfl, (e2.trans e3).dn dp, h2.same (e12.trans e3), fun H4 e4 => ?_⟩
    refine ⟨_, _, rfl, rfl, (by show 3 ≤ sizeLine; decide), fun t ht => ?_⟩
    have e14 := e12.trans (e3.trans e4)
    refine q t p _ (e14.trans (same_new ht _)) (e14.free ht) upd_same (List.mem_of_getElem? hp) fun u hu => ?_
    obtain ⟨j, hj, rfl⟩ := List.getElem_of_mem hu
    have := hbest j (by omega)
    rw [hg (List.getElem?_eq_getElem hj)] at this
    exact this
end
end K6a
set_option Elab.async false
set_option linter.all false
set_option maxRecDepth 100000
set_option maxHeartbeats 4000000
namespace K6a
open PySem L2 Hull SortM SepM
seal L2.PE L2.PT L2.PW L2.PA L2.PS L2.PSs L2.PG L2.PGs L2.PF L2.PI L2.PO
section
variable {P : Program} {w : World} {K : PySem.W.Frag} {mg : Str → Option Value} {base : Heap} {f : Addr} {fd : FuncData}
inductive sp_frac (K : PySem.W.Frag) (vs : List V) (H : Hp) (Q : VK) (x_3 : XK) : Prop where
  | mk (x : V) (p : Int × Int) (h_0 : vs = [x]) (h_1 : Dn K H (spotD p) x) (h_2 : 0 < p.2) (h_3 : K9.g p.1 p.2 = 1) (h_4 : ∀ H', Same H H' → Q (.bl true) H')
theorem ok_frac (B : Bl mg) (C_is_number : Cal P w K mg base 1 "is_number" sp_num) (C_common_divisor : Cal P w K mg base 1 "common_divisor" sp_cd) (F : Fun K "is_fraction" "is_fraction" s_is_fraction f fd) : FnOk P w K mg base CX0 2 f fd ["value"] (sp_frac K) := by
  refine F.ok sc_is_fraction (fun vs H Q E h => ?_) (fun cdv A outer s H vs Q E hr h => ?_)
  · obtain ⟨x, p, rfl, _⟩ := h
    rfl
  obtain ⟨x, p, rfl, hx, p0, pg, q⟩ := h
  obtain ⟨t, rfl, ht⟩ := hx.spot
  refine ⟨_, (pss_cons (ps_if (PW.pt (pw_or (pt_not (pt_val (pe_callB call_isSeq (by rfl) B.isinstance PySem.L3.boot_isinstance (pa_cons (pv 0) (pa_cons (pe_bltn (v := .ty "tuple") (by rfl) B.tuple PySem.L3.boot_tuple rfl) pa_nil))))) (pw_or (pt_cmpR op_ne (pe_callB call_len_seq (by rfl) B.len PySem.L3.boot_len (pa_cons (pv 0) pa_nil)) pe_int (nomark _)) (pw_or1 (pt_not (pt_val (pe_callB (call_all rfl) (by rfl) B.all PySem.L3.boot_all (pa_cons (pe_comp (Nc := ["part"]) (fi := [none]) (comp_sc rfl rfl rfl) rfl (comp_from_go rfl) (pi_tup (pv 0)) (fun _ _ _ _ => ⟨(pg_name (i := 0) (show (["part"] : List Str).Nodup by decide +kernel) rfl (Or.inl rfl)), pf_nil, (pe_c C_is_number (hr.mono (by decide)) (by rfl) (pa_cons (pv 0) pa_nil))⟩)) pa_nil)))))))) (pss_one (ps_ret pe_bl)) pss_nil)
    (pss_one (ps_ret (pe_and (pe_cmpR op_gt (pe_ix ix_tup (pv 0) pe_int (fun _ _ => rfl)) pe_int (nomark _)) (pe_one (pe_cmpR op_eq (pe_c C_common_divisor (hr.mono (by decide)) (by rfl) (pa_cons (pe_ix ix_tup (pv 0) pe_int (fun _ _ => rfl)) (pa_cons (pe_ix ix_tup (pv 0) pe_int (fun _ _ => rfl)) pa_nil))) pe_int (nomark _))))))), ?_⟩
  refine ⟨_, rfl, t, _, "tuple", true, rfl, .inl ⟨ht, rfl⟩, _, rfl, ?_⟩
  refine iteF ⟨_, rfl, t, _, rfl, .inr ht, rfl, _, rfl, ?_⟩
  refine iteF ?_
  refine ⟨_, rfl, t, rfl, ⟨_, ht⟩, fun _ _ _ _ l hl => ?_⟩
  refine comp_by 2 (by show 2 ≤ sizeLine; decide) (fun i ys σ' Hc => Same H Hc ∧ Hc l = some (.lst ys) ∧ ys = List.replicate i (V.bl true) ∧ σ'.length = 1) ?_ (fun i ys σ' Hc ⟨_, e, y, _⟩ => ⟨e, by rw [y]; simp⟩) ?_ ?_
  · exact ⟨same_new hl _, upd_same, rfl, rfl⟩
  · rintro i ys σ' Hc hi ⟨e, el, rfl, hσ⟩
    have ht' := e.seqT ht
    refine ⟨⟨_, if i = 0 then .int p.1 else .int p.2, ht', by match i, hi with | 0, _ => rfl | 1, _ => rfl⟩, fun x H' y Kt Kf k1 _ => ?_⟩
    obtain ⟨rfl, hx⟩ := y
    have hx' := hx _ ht'
    obtain ⟨z, rfl⟩ : ∃ z : Int, x = .int z := by
      match i, hi, hx' with
      | 0, _, h => exact ⟨p.1, (Option.some.inj h).symm⟩
      | 1, _, h => exact ⟨p.2, (Option.some.inj h).symm⟩
    obtain ⟨c, rfl⟩ : ∃ c, σ' = [c] := List.length_eq_one_iff.mp hσ
    simp only [gName, tYes, ↓reduceIte]
    refine ⟨_, rfl, z, rfl, ?_⟩
    exact k1 _ _ _ el ⟨same_upd hl e, upd_same, by rw [List.replicate_succ'], rfl⟩
  rintro ys σ' Hc ⟨e, el, rfl, _⟩
  refine ⟨⟨_, e.seqT ht, Nat.le_refl _⟩, l, [true, true], rfl, SqL.of el, _, rfl, iteF ?_⟩
  have ht' := e.seqT ht
  refine ⟨_, rfl, t, _, _, _, rfl, rfl, ht', rfl, _, _, rfl, rfl, _, rfl, ite2 (fun _ => ?_) (fun c => absurd (decide_eq_true (show (0 : Int) < p.2 from p0)) c)⟩
  refine ⟨_, rfl, t, _, _, _, rfl, rfl, ht', rfl, _, rfl, t, _, _, _, rfl, rfl, ht', rfl, p.1, p.2, rfl, rfl, ?_⟩
  rw [pg]
  exact q _ e
end
end K6a
set_option Elab.async false
set_option linter.all false
set_option maxRecDepth 100000
set_option maxHeartbeats 4000000
namespace K6a
open PySem L2 Hull SortM SepM
seal L2.PE L2.PT L2.PW L2.PA L2.PS L2.PSs L2.PG L2.PGs L2.PF L2.PI L2.PO
section
variable {P : Program} {w : World} {K : PySem.W.Frag} {mg : Str → Option Value} {base : Heap} {f : Addr} {fd : FuncData}
def gD (x : G6.GP) : PyData := .tuple [.int x.1, spotD x.2]
theorem Dn.gp {H : Hp} {v : V} {x : G6.GP} (h : Dn K H (gD x) v) : ∃ t w, v = .ref t ∧ SqT K H t [.int x.1, w] ∧ Dn K H (spotD x.2) w := by
  obtain ⟨t, xs, rfl, h1, h2⟩ := L2.Dn.tup h
  obtain ⟨a, r, rfl, d1, h3⟩ := L2.Dns.cons h2
  obtain ⟨b, r2, rfl, d2, h4⟩ := L2.Dns.cons h3
  obtain rfl := L2.Dns.nil h4
  obtain rfl := L2.Dn.int d1
  exact ⟨t, b, rfl, h1, d2⟩
theorem dn_gp {H : Hp} {t : Addr} {w' : V} {x : G6.GP} (h : SqT K H t [.int x.1, w']) (d : Dn K H (spotD x.2) w') : Dn K H (gD x) (.ref t) := dn_tup h (dns_cons dn_int (dns_cons d dns_nil))
theorem gp_upd {H : Hp} {l : Addr} {zs : List V} {o : HO} (hl : H l = some (.lst zs)) {x : G6.GP} {v : V} (h : Dn K H (gD x) v) : Dn K (upd H l o) (gD x) v := by
  obtain ⟨t, w', rfl, h1, h2⟩ := Dn.gp h
  refine dn_gp ?_ (spot_upd hl h2)
  rcases h1 with (h1 | ⟨ob, h1⟩) | h1
  · exact .inl (.inl (by rw [upd_ne (by rintro rfl; rw [hl] at h1; cases h1)]; exact h1))
  · exact .inl (.inr ⟨ob, by rw [upd_ne (by rintro rfl; rw [hl] at h1; cases h1)]; exact h1⟩)
  · exact .inr h1
theorem gps_upd {H : Hp} {l : Addr} {zs : List V} {o : HO} (hl : H l = some (.lst zs)) : ∀ {ps : List G6.GP} {ys : List V}, Dns K H (ps.map gD) ys → Dns K (upd H l o) (ps.map gD) ys
  | [], _, h => by rw [L2.Dns.nil h]; exact dns_nil
  | p :: ps, _, h => by
    obtain ⟨a, r, rfl, d1, h3⟩ := L2.Dns.cons h
    exact dns_cons (gp_upd hl d1) (gps_upd hl h3)
structure PG (K : PySem.W.Frag) (H : Hp) (p : Addr) (L : List G6.GP) : Prop where
  ex : ∃ zs, H p = some (.lst zs) ∧ Dns K H (L.map gD) zs
  w : ∀ x ∈ L, G6.WOk x.2
  len : L.length ≤ 16
theorem PG.same {H H' : Hp} {p : Addr} {L : List G6.GP} (e : Same H H') (h : PG K H p L) : PG K H' p L :=
  ⟨let ⟨zs, h1, h2⟩ := h.ex; ⟨zs, e _ _ h1, e.dns h2⟩, h.w, h.len⟩
theorem PG.at {H : Hp} {zs : List V} {L : List G6.GP} (h2 : Dns K H (L.map gD) zs) {i : Nat} {v : V} (hv : zs[i]? = some v) : ∃ x, L[i]? = some x ∧ Dn K H (gD x) v := by
  obtain ⟨d, hd1, hd2⟩ := h2.get' hv
  rw [List.getElem?_map] at hd1
  obtain ⟨p, hp, rfl⟩ := Option.map_eq_some_iff.mp hd1
  exact ⟨p, hp, hd2⟩
inductive sp_partG (K : PySem.W.Frag) (vs : List V) (H : Hp) (Q : VK) (x_3 : XK) : Prop where
  | mk (v : V) (o : Addr) (ys : List V) (x : G6.GP) (h_0 : vs = [v, .ref o]) (h_1 : Dn K H (gD x) v) (h_2 : SqL K H o ys) (h_3 : G6.WOk x.2) (h_4 : ∀ b H', Same H H' → (b = true ↔ (0 ≤ x.1 ∧ x.1 < ((ys.length : Nat) : Int) ∧ 0 < x.2.1)) → Q (.bl b) H')
theorem ok_partG (B : Bl mg) (C_is_number : Cal P w K mg base 1 "is_number" sp_num) (C_is_fraction : Cal P w K mg base 2 "is_fraction" (sp_frac K)) (F : Fun K "is_part" "is_part" s_is_part f fd) : FnOk P w K mg base CX0 3 f fd ["part", "herd"] (sp_partG K) := by
  refine F.ok sc_is_part (fun vs H Q E h => ?_) (fun cdv A outer s H vs Q E hr h => ?_)
  · obtain ⟨v, o, ys, x, rfl, _⟩ := h
    rfl
  obtain ⟨v, o, ys, x, rfl, hx, ho, ⟨⟨x2, _⟩, x3, _⟩, q⟩ := h
  obtain ⟨t, w', rfl, ht, hw⟩ := Dn.gp hx
  refine ⟨_, (pss_cons (ps_if (PW.pt (pw_or (pt_not (pt_val (pe_callB call_isSeq (by rfl) B.isinstance PySem.L3.boot_isinstance (pa_cons (pv 0) (pa_cons (pe_bltn (v := .ty "tuple") (by rfl) B.tuple PySem.L3.boot_tuple rfl) pa_nil))))) (pw_or1 (pt_cmpR op_ne (pe_callB call_len_seq (by rfl) B.len PySem.L3.boot_len (pa_cons (pv 0) pa_nil)) pe_int (nomark _))))) (pss_one (ps_ret pe_bl)) pss_nil)
    (pss_cons (ps_if (PW.pt (pw_or (pt_not (pt_val (pe_c C_is_number (hr.mono (by decide)) (by rfl) (pa_cons (pe_ix ix_tup (pv 0) pe_int (fun _ _ => rfl)) pa_nil)))) (pw_or1 (pt_not (pt_chain op_le op_lt pe_int (pe_ix ix_tup (pv 0) pe_int (fun _ _ => rfl)) (pe_callB call_len_seq (by rfl) B.len PySem.L3.boot_len (pa_cons (pv 1) pa_nil))))))) (pss_one (ps_ret pe_bl)) pss_nil)
    (pss_one (ps_ret (pe_and (pe_c C_is_fraction (hr.mono (by decide)) (by rfl) (pa_cons (pe_ix ix_tup (pv 0) pe_int (fun _ _ => rfl)) pa_nil)) (pe_one (pe_cmpR op_gt (pe_ix ix_tup (pe_ix ix_tup (pv 0) pe_int (fun _ _ => rfl)) pe_int (fun _ _ => rfl)) pe_int (nomark _)))))))), ?_⟩
  refine ⟨_, rfl, t, _, "tuple", true, rfl, .inl ⟨ht, rfl⟩, _, rfl, ?_⟩
  refine iteF ⟨_, rfl, t, _, rfl, .inr ht, rfl, _, rfl, ?_⟩
  refine iteF ?_
  refine ⟨_, rfl, t, _, _, _, rfl, rfl, ht, rfl, _, rfl, _, rfl, ?_⟩
  refine iteF ?_
  refine ⟨_, rfl, t, _, _, _, rfl, rfl, ht, rfl, _, _, rfl, rfl, _, rfl, ite2 (fun c0 => ?_) (fun c0 => ?_)⟩
  · have c0' : (0 : Int) ≤ x.1 := of_decide_eq_true c0
    refine ⟨_, rfl, o, ys, rfl, .inl ho, _, _, rfl, rfl, _, rfl, ?_⟩
    by_cases c1 : x.1 < ((ys.length : Nat) : Int)
    · rw [decide_eq_true c1]
      refine iteF ?_
      refine ⟨_, rfl, t, _, _, _, rfl, rfl, ht, rfl, w', x.2, rfl, hw, x2, x3, fun H1 e1 => ?_⟩
      refine ⟨_, rfl, iteT ?_⟩
      obtain ⟨tw, rfl, htw⟩ := hw.spot
      refine ⟨_, rfl, t, _, _, _, rfl, rfl, e1.seqT ht, rfl, tw, _, _, _, rfl, rfl, e1.seqT htw, rfl, _, _, rfl, rfl, ?_⟩
      exact q _ _ e1 ⟨fun z => ⟨c0', c1, of_decide_eq_true z⟩, fun z => decide_eq_true z.2.2⟩
    · rw [decide_eq_false c1]
      exact iteT (q _ _ (Same.refl _) ⟨fun z => (by cases z), fun z => absurd z.2.1 c1⟩)
  · have c0' : ¬ (0 : Int) ≤ x.1 := fun z => c0 (decide_eq_true z)
    exact ⟨_, rfl, iteT (q false _ (Same.refl _) ⟨fun z => (by cases z), fun z => absurd z.1 c0'⟩)⟩
def rsB (g : List Int) (i : Nat) : Bool := decide (g.getD i 0 < g.getD (i + 1) 0)
theorem rise_iff : ∀ g : List Int, ((List.range (g.length - 1)).map (rsB g)).all id = true ↔ g.Pairwise (· < ·) := by
  intro g
  constructor
  · intro h
    have step : ∀ i, i + 1 < g.length → g.getD i 0 < g.getD (i + 1) 0 := fun i hi => by
      have := List.all_eq_true.mp h (rsB g i) (List.mem_map.mpr ⟨i, List.mem_range.mpr (by omega), rfl⟩)
      exact of_decide_eq_true this
    have far : ∀ d i, i + d + 1 < g.length → g.getD i 0 < g.getD (i + d + 1) 0 := fun d => by
      induction d with
      | zero => intro i hi; exact step i hi
      | succ d ih => intro i hi; have a := ih i (by omega); have b := step (i + d + 1) (by omega); exact Int.lt_trans a b
    rw [List.pairwise_iff_getElem]
    intro i j hi hj hij
    have := far (j - i - 1) i (by omega)
    rw [show i + (j - i - 1) + 1 = j by omega] at this
    rw [List.getD_eq_getElem?_getD, List.getD_eq_getElem?_getD, List.getElem?_eq_getElem hi, List.getElem?_eq_getElem hj] at this
    exact this
  · intro h
    refine List.all_eq_true.mpr fun b hb => ?_
    obtain ⟨i, hi, rfl⟩ := List.mem_map.mp hb
    have hi' := List.mem_range.mp hi
    have h1 : i < g.length := by omega
    have h2 : i + 1 < g.length := by omega
    have := List.pairwise_iff_getElem.mp h i (i + 1) h1 h2 (by omega)
    show rsB g i = true
    unfold rsB
    rw [List.getD_eq_getElem?_getD, List.getD_eq_getElem?_getD, List.getElem?_eq_getElem h1, List.getElem?_eq_getElem h2]
    exact decide_eq_true this
theorem len2 {α : Type} : ∀ {l : List α}, l.length = 2 → ∃ a b, l = [a, b]
  | [a, b], _ => ⟨a, b, rfl⟩
theorem cut_tailI (g : List Int) : cutV (g.map V.int) (some 1) none = g.tail.map V.int := by
  unfold cutV
  rw [List.length_map]
  have e1 : HT.sIx g.length 0 (some 1) = min 1 g.length := by simp [HT.sIx]
  have e2 : HT.sIx g.length g.length none = g.length := by simp [HT.sIx]
  rw [e1, e2]
  cases g with
  | nil => rfl
  | cons a g =>
    have : min 1 (a :: g).length = 1 := by simp
    rw [this]
    show List.take ((a :: g).length - 1) (g.map _) = g.map _
    rw [List.take_of_length_le (by simp)]
end
end K6a
set_option Elab.async false
set_option linter.all false
set_option maxRecDepth 100000
set_option maxHeartbeats 4000000
namespace K6a
open PySem L2 Hull SortM SepM
seal L2.PE L2.PT L2.PW L2.PA L2.PS L2.PSs L2.PG L2.PGs L2.PF L2.PI L2.PO
section
variable {P : Program} {w : World} {K : PySem.W.Frag} {mg : Str → Option Value} {base : Heap} {f : Addr} {fd : FuncData}
inductive sp_riseG (K : PySem.W.Frag) (vs : List V) (H : Hp) (Q : VK) (x_3 : XK) : Prop where
  | mk (o : Addr) (g : List Int) (h_0 : vs = [.ref o]) (h_1 : H o = some (.lst (g.map V.int))) (h_3 : g.length ≤ 16) (h_4 : ∀ b H', Same H H' → (b = true ↔ g.Pairwise (· < ·)) → Q (.bl b) H')
theorem ok_riseG (B : Bl mg) (F : Fun K "is_rising" "is_rising" s_is_rising f fd) : FnOk P w K mg base CX0 1 f fd ["places"] (sp_riseG K) := by
  refine F.ok sc_is_rising (fun vs H Q E h => ?_) (fun cdv A outer s H vs Q E hr h => ?_)
  · obtain ⟨o, g, rfl, _⟩ := h
    rfl
  obtain ⟨o, g, rfl, ho, h8, q⟩ := h
  refine ⟨_, (pss_one (ps_ret (pe_callB (call_all rfl) (by rfl) B.all PySem.L3.boot_all (pa_cons (pe_comp (Nc := ["before", "behind"]) (fi := [none, none]) (comp_sc rfl rfl rfl) rfl (comp_from_go rfl) (pi_zip (by rfl) B.zip (pa_cons (pv 0) (pa_cons (pe_slice sl_list (pv 0) (po_some pe_int) po_none) pa_nil))) (fun _ _ _ _ => ⟨(pg_tup rfl (pgs_cons (pg_name (i := 0) (show (["before", "behind"] : List Str).Nodup by decide +kernel) rfl (Or.inl rfl)) (pgs_cons (pg_name (i := 1) (show (["before", "behind"] : List Str).Nodup by decide +kernel) rfl (Or.inl rfl)) pgs_nil))), pf_nil, (pe_cmpR op_lt (pv 0) (pv 1) (nomark _))⟩)) pa_nil)))), ?_⟩
  refine ⟨_, rfl, _, rfl, 1, rfl, o, _, rfl, SqL.of ho, fun t ht => ?_⟩
  rw [cut_tailI]
  have et := same_new ht (HO.lst (g.tail.map V.int))
  have sqo := et.seq (K := K) (SqL.of ho)
  refine ⟨o, t, rfl, ⟨_, sqo⟩, ⟨_, SqL.of upd_same⟩, fun _ _ _ _ l hl => ?_⟩
  refine comp_by g.tail.length (by rw [List.length_tail, sizeLine_eq]; omega) (fun i zs σ' Hc => Same (upd H t (.lst (g.tail.map V.int))) Hc ∧ Hc l = some (.lst zs) ∧ zs = ((List.range i).map (rsB g)).map V.bl ∧ σ'.length = 2) ?_ (fun i zs σ' Hc ⟨_, e, y, _⟩ => ⟨e, by rw [y]; simp⟩) ?_ ?_
  · exact ⟨same_new hl _, upd_same, rfl, rfl⟩
  · rintro i zs σ' Hc hi ⟨e, el, rfl, hσ⟩
    have hi' : i + 1 < g.length := by rw [List.length_tail] at hi; omega
    have hp1 : (g.map V.int)[i]? = some (V.int g[i]) := by rw [List.getElem?_map, List.getElem?_eq_getElem (by omega)]; rfl
    have hp2 : (g.tail.map V.int)[i]? = some (V.int g[i + 1]) := by rw [List.getElem?_map, List.getElem?_tail, List.getElem?_eq_getElem hi']; rfl
    have sq1 := e.seq sqo
    have sq2 : SqL K Hc t (g.tail.map V.int) := e.seq (SqL.of upd_same)
    refine ⟨⟨_, _, _, _, sq1, sq2, hp1, hp2⟩, fun v H' y Kt Kf k1 _ => ?_⟩
    obtain ⟨T, x, y, rfl, hT, rfl, hx, hy⟩ := y
    have hx' := hx _ sq1
    have hy' := hy _ sq2
    rw [hp1] at hx'; cases hx'
    rw [hp2] at hy'; cases hy'
    have eT := same_new hT (HO.tup [V.int g[i], V.int g[i + 1]])
    obtain ⟨c0, c1, rfl⟩ : ∃ c d, σ' = [c, d] := len2 hσ
    refine ⟨T, _, rfl, SqT.of upd_same, rfl, _, _, rfl, _, _, rfl, rfl, ?_⟩
    simp only [tYes, ↓reduceIte]
    refine ⟨_, rfl, _, rfl, _, _, rfl, rfl, ?_⟩
    refine k1 _ _ _ (eT _ _ el) ⟨same_upd hl (e.trans eT), upd_same, ?_, rfl⟩
    rw [List.range_succ, List.map_append, List.map_append]
    congr 1
    show _ = [V.bl (rsB g i)]
    unfold rsB
    rw [List.getD_eq_getElem?_getD, List.getD_eq_getElem?_getD, List.getElem?_eq_getElem (show i < g.length by omega), List.getElem?_eq_getElem hi']; rfl
  · rintro zs σ' H2 ⟨e, el, rfl, _⟩
    refine ⟨⟨_, _, e.seq sqo, e.seq (SqL.of upd_same), .inr (by rw [List.length_map]; exact Nat.le_refl _)⟩, l, _, rfl, SqL.of el, ?_⟩
    rw [List.length_tail]
    exact q _ _ (et.trans e) (rise_iff g)
end
end K6a
set_option Elab.async false
set_option linter.all false
set_option maxRecDepth 100000
set_option maxHeartbeats 4000000
namespace K6a
open PySem L2 Hull SortM SepM
seal L2.PE L2.PT L2.PW L2.PA L2.PS L2.PSs L2.PG L2.PGs L2.PF L2.PI L2.PO
section
variable {P : Program} {w : World} {K : PySem.W.Frag} {mg : Str → Option Value} {base : Heap} {f : Addr} {fd : FuncData}
theorem tot_bd : ∀ (n : Nat) (L : List (Int × Int)), L.length = n → (∀ q ∈ L, 1 ≤ q.2 ∧ q.2 ≤ 100000000) → 1 ≤ (G6.totF L).2 ∧ (G6.totF L).2 ≤ 100000000 ^ n
  | 0, L, hn, _ => by rw [List.length_eq_zero_iff.mp hn]; exact ⟨by decide, by decide⟩
  | n + 1, L, hn, h => by
    have hne : L ≠ [] := by intro e; rw [e] at hn; simp at hn
    obtain ⟨M, x, rfl⟩ : ∃ M x, L = M ++ [x] := ⟨L.dropLast, L.getLast hne, (List.dropLast_concat_getLast hne).symm⟩
    have ih := tot_bd n M (by simp at hn; omega) fun q hq => h q (by simp [hq])
    have hx := h x (by simp)
    rw [G6.tot_snoc]
    unfold G6.plusF
    have pp : 0 < (G6.totF M).2 * x.2 := Int.mul_pos (by omega) (by omega)
    refine ⟨K9.mk_pos pp, Int.le_trans (K9.mk_le pp) ?_⟩
    rw [Int.pow_succ]
    exact Int.le_trans (Int.mul_le_mul_of_nonneg_right ih.2 (by omega)) (Int.mul_le_mul_of_nonneg_left hx.2 (Int.le_of_lt (Int.pow_pos (by decide))))
theorem pow3 {n : Nat} (h : n ≤ 2) : (100000000 : Int) ^ n ≤ 2 ^ 60 := by
  match n, h with
  | 0, _ => decide
  | 1, _ => decide
  | 2, _ => decide
inductive sp_totalG (K : PySem.W.Frag) (vs : List V) (H : Hp) (Q : VK) (x_3 : XK) : Prop where
  | mk (o : Addr) (zs : List V) (L : List (Int × Int)) (h_0 : vs = [.ref o]) (h_1 : H o = some (.lst zs)) (h_2 : Dns K H (L.map spotD) zs) (h_3 : L.length ≤ 3) (h_4 : ∀ q ∈ L, 1 ≤ q.2 ∧ q.2 ≤ 100000000) (h_5 : ∀ v H', Same H H' → Dn K H' (spotD (G6.totF L)) v → Q v H')
theorem ok_totalG (C_plus : Cal P w K mg base 3 "plus" (sp_plus K)) (F : Fun K "total" "total" s_total f fd) : FnOk P w K mg base CX0 4 f fd ["row"] (sp_totalG K) := by
  refine F.ok sc_total (fun vs H Q E h => ?_) (fun cdv A outer s H vs Q E hr h => ?_)
  · obtain ⟨o, zs, L, rfl, _⟩ := h
    rfl
  obtain ⟨o, zs, L, rfl, ho, hd, l3, hq, q⟩ := h
  have hz : zs.length = L.length := by have := hd.length; rwa [List.length_map] at this
  refine ⟨_, (pss_cons (ps_set (i := 1) sc_total.nd rfl (Or.inl rfl) (pe_tup (pa_cons pe_int (pa_cons pe_int pa_nil))))
    (pss_cons (ps_for PassesOwn.never rfl (pi_list (pv 0)) (pg_name (i := 2) sc_total.nd rfl (Or.inl rfl)) (pss_one (ps_set (i := 1) sc_total.nd rfl (Or.inl rfl) (pe_c C_plus (hr.mono (by decide)) (by rfl) (pa_cons (pv 1) (pa_cons (pv 2) pa_nil))))))
    (pss_one (ps_ret (pv 1))))), ?_⟩
  refine ⟨(by show 2 ≤ sizeLine; decide), fun t ht => ?_⟩
  have et := same_new ht (HO.tup [V.int 0, V.int 1])
  refine ⟨_, rfl, o, rfl, ⟨_, et.seq (SqL.of ho)⟩, ?_⟩
  refine for_list (xs := zs) (fun i σ' H' => ∃ v c2, σ' = [some (.ref o), some v, c2] ∧ Same H H' ∧ Dn K H' (spotD (G6.totF (L.take i))) v) ⟨_, _, rfl, et, dn_spot (p := (0, 1)) (SqT.of upd_same)⟩ (fun i σ' H' _ h => ?_) ?_ ?_
  · obtain ⟨v, c2, rfl, e, _⟩ := h
    exact e.seq (SqL.of ho)
  · rintro i x σ' H1 hx ⟨v, c2, rfl, e1, dv⟩
    have hi : i < L.length := by rw [← hz]; exact (List.getElem?_eq_some_iff.mp hx).1
    obtain ⟨d, hd1, hd2⟩ := hd.get' hx
    rw [List.getElem?_map, List.getElem?_eq_getElem hi] at hd1
    cases hd1
    have b1 := tot_bd i (L.take i) (by rw [List.length_take]; omega) fun q hq' => hq q (List.mem_of_mem_take hq')
    have b2 := hq _ (List.getElem_mem hi)
    have b3 := pow3 (n := i) (by omega)
    refine ⟨_, rfl, _, rfl, v, x, _, _, rfl, dv, e1.dn hd2, ⟨b1.1, by omega⟩, ⟨b2.1, by omega⟩, fun v' H2 e2 dv' => ?_⟩
    refine ⟨v', _, rfl, e1.trans e2, ?_⟩
    rw [List.take_add_one, List.getElem?_eq_getElem hi]
    show Dn K H2 (spotD (G6.totF (L.take i ++ [L[i]]))) v'
    rw [G6.tot_snoc]; exact dv'
  · rintro σ' H1 ⟨v, c2, rfl, e1, dv⟩
    rw [hz, List.take_length] at dv
    exact ⟨_, rfl, q v H1 e1 dv⟩
end
end K6a
set_option Elab.async false
set_option linter.all false
set_option maxRecDepth 100000
set_option maxHeartbeats 4000000
namespace K6a
open PySem L2 Hull SortM SepM
seal L2.PE L2.PT L2.PW L2.PA L2.PS L2.PSs L2.PG L2.PGs L2.PF L2.PI L2.PO
section
variable {P : Program} {w : World} {K : PySem.W.Frag} {mg : Str → Option Value} {base : Heap} {f : Addr} {fd : FuncData}
def MxAt (K : PySem.W.Frag) (H : Hp) (p : Addr) (h : List Hull.P) (L : List (Nat × Int)) (W : Int) : Prop := ∃ zs, H p = some (.lst zs) ∧ Dns K H ((Cut.parts L W).map partD) zs ∧ Cut.MxA h L W
theorem ws_bd {L : List G6.GP} (w : ∀ x ∈ L, G6.WOk x.2) : ∀ q ∈ G6.ws L, 1 ≤ q.2 ∧ q.2 ≤ 100000000 := fun q hq => by
  obtain ⟨x, hx, rfl⟩ := List.mem_map.mp hq
  have := (w x hx).1
  omega
theorem ws_one {L : List G6.GP} (w : ∀ x ∈ L, G6.WOk x.2) : G6.totF (G6.ws L) = (1, 1) ↔ G6.Tot1 L := by
  have hp : ∀ q ∈ G6.ws L, 0 < q.2 := fun q hq => by have := ws_bd w q hq; omega
  have hs : (G6.ws L).map (fun q => K9.mk q.1 q.2) = G6.ws L := G6.map_self fun q hq => by
    obtain ⟨x, hx, rfl⟩ := List.mem_map.mp hq
    exact ⟨(w x hx).1.1, (w x hx).2.1⟩
  obtain ⟨h1, h2⟩ := G6.tot_np hp
  rw [hs] at h1
  rw [h1, G6.mk_int_iff h2, Int.one_mul]
  exact Iff.rfl
inductive sp_ismixG (K : PySem.W.Frag) (vs : List V) (H : Hp) (Q : VK) (x_3 : XK) : Prop where
  | mk (p : Addr) (x : V) (h : List Hull.P) (L : List G6.GP) (h_0 : vs = [.ref p, x]) (h_1 : PG K H p L) (h_2 : Hd K H x h) (h_3 : ∀ b H', Same H H' → (b = true ↔ (G6.Okk h.length L ∧ G6.Tot1 L)) → Q (.bl b) H')
theorem ok_ismixG (B : Bl mg) (C_is_part : Cal P w K mg base 3 "is_part" (sp_partG K)) (C_is_rising : Cal P w K mg base 1 "is_rising" (sp_riseG K)) (C_total : Cal P w K mg base 4 "total" (sp_totalG K)) (F : Fun K "is_mixture" "is_mixture" s_is_mixture f fd) : FnOk P w K mg base CX0 5 f fd ["parts", "herd"] (sp_ismixG K) := by
  refine F.ok sc_is_mixture (fun vs H Q E h => ?_) (fun cdv A outer s H vs Q E hr h => ?_)
  · obtain ⟨p, x, h, L, rfl, _⟩ := h
    rfl
  obtain ⟨p, x, h, L, rfl, ⟨⟨zs, hp, dz⟩, hw, l16⟩, hx, q⟩ := h
  obtain ⟨o1, y1, rfl, h1, d1, b1, l1, l8⟩ := id hx
  have hy : h.length = y1.length := by have := d1.length; rw [List.length_map] at this; omega
  have hz : zs.length = L.length := by have := dz.length; rwa [List.length_map] at this
  have hu := hr.units
  refine ⟨_, (pss_cons (ps_if (PW.pt (pw_or (pt_not (pt_val (pe_callB call_isSeq (by rfl) B.isinstance PySem.L3.boot_isinstance (pa_cons (pv 0) (pa_cons (pe_bltn (v := .ty "list") (by rfl) B.list PySem.L3.boot_list rfl) pa_nil))))) (pw_or1 (pt_cmpR op_gt (pe_callB call_len_seq (by rfl) B.len PySem.L3.boot_len (pa_cons (pv 0) pa_nil)) (pe_glob (v := .int 3) (by rfl) B.g_MOST_PARTS.choose_spec ⟨_, rfl⟩) (nomark _))))) (pss_one (ps_ret pe_bl)) pss_nil)
    (pss_cons (ps_if (pt_not (pt_val (pe_callB (call_all rfl) (by rfl) B.all PySem.L3.boot_all (pa_cons (pe_comp (Nc := ["part", "herd"]) (fi := [none, some 1]) (comp_sc rfl rfl rfl) rfl (comp_from_go rfl) (pi_list (pv 0)) (fun _ _ _ _ => ⟨(pg_name (i := 0) (show (["part", "herd"] : List Str).Nodup by decide +kernel) rfl (Or.inl rfl)), pf_nil, (pe_c C_is_part (hr.mono (by decide)) (by rfl) (pa_cons (pv 0) (pa_cons (pv 1) pa_nil)))⟩)) pa_nil)))) (pss_one (ps_ret pe_bl)) pss_nil)
    (pss_one (ps_ret (pe_and (pe_c C_is_rising (hr.mono (by decide)) (by rfl) (pa_cons (pe_comp (Nc := ["place", "weight"]) (fi := [none, none]) (comp_sc rfl rfl rfl) rfl (comp_from_go rfl) (pi_list (pv 0)) (fun _ _ _ _ => ⟨(pg_tup rfl (pgs_cons (pg_name (i := 0) (show (["place", "weight"] : List Str).Nodup by decide +kernel) rfl (Or.inl rfl)) (pgs_cons (pg_name (i := 1) (show (["place", "weight"] : List Str).Nodup by decide +kernel) rfl (Or.inl rfl)) pgs_nil))), pf_nil, (pv 0)⟩)) pa_nil)) (pe_one (pe_cmpR (op_eqSp hu) (pe_c C_total (hr.mono (by decide)) (by rfl) (pa_cons (pe_comp (Nc := ["place", "weight"]) (fi := [none, none]) (comp_sc rfl rfl rfl) rfl (comp_from_go rfl) (pi_list (pv 0)) (fun _ _ _ _ => ⟨(pg_tup rfl (pgs_cons (pg_name (i := 0) (show (["place", "weight"] : List Str).Nodup by decide +kernel) rfl (Or.inl rfl)) (pgs_cons (pg_name (i := 1) (show (["place", "weight"] : List Str).Nodup by decide +kernel) rfl (Or.inl rfl)) pgs_nil))), pf_nil, (pv 1)⟩)) pa_nil)) (pe_tup (pa_cons pe_int (pa_cons pe_int pa_nil))) (nomark _)))))))), ?_⟩
  refine ⟨_, rfl, p, _, "list", true, rfl, .inr ⟨SqL.of hp, rfl⟩, _, rfl, ?_⟩
  refine iteF ?_
  refine ⟨_, rfl, p, zs, rfl, .inl (SqL.of hp), _, _, rfl, rfl, _, rfl, ite2 (fun c => ?_) (fun c => ?_)⟩
  · have c' : (3 : Int) < ((zs.length : Nat) : Int) := of_decide_eq_true c
    exact q _ _ (Same.refl _) ⟨fun z => (by cases z), fun z => (by have := z.1.1; omega)⟩
  have l3 : L.length ≤ 3 := by
    have c' : ¬ (3 : Int) < ((zs.length : Nat) : Int) := fun z => c (decide_eq_true z)
    omega
  refine ⟨_, rfl, p, rfl, ⟨_, SqL.of hp⟩, fun _ _ _ _ l hl => ?_⟩
  refine comp_by L.length (by rw [sizeLine_eq]; omega) (fun i ys σ' Hc => Same H Hc ∧ Hc l = some (.lst ys) ∧ (∃ bs : List Bool, ys = bs.map V.bl ∧ bs.length = i ∧ (bs.all id = true ↔ ∀ x ∈ L.take i, 0 ≤ x.1 ∧ x.1 < ((y1.length : Nat) : Int) ∧ 0 < x.2.1)) ∧ ∃ c, σ' = [c, some (.ref o1)]) ?_ (fun i ys σ' Hc ⟨_, e, ⟨bs, y, lb, _⟩, _⟩ => ⟨e, by rw [y, List.length_map, lb]; exact Nat.le_refl _⟩) ?_ ?_
  · exact ⟨same_new hl _, upd_same, ⟨[], rfl, rfl, ⟨fun _ x hx => absurd hx (by simp), fun _ => rfl⟩⟩, _, rfl⟩
  · rintro i ys σ' Hc hi ⟨e, el, ⟨bs, rfl, lb, hb⟩, c, rfl⟩
    refine ⟨⟨_, zs[i], e.seq (SqL.of hp), by simp [hz, hi]⟩, fun v' H' y' Kt Kf k1 _ => ?_⟩
    obtain ⟨rfl, hv⟩ := y'
    have hv' := hv _ (e.seq (SqL.of hp))
    obtain ⟨x, hxi, dx⟩ := PG.at dz hv'
    simp only [gName, tYes, ↓reduceIte]
    refine ⟨_, rfl, _, rfl, v', o1, y1, x, rfl, e.dn dx, e.seq h1, hw x (List.mem_of_getElem? hxi), fun b H2 e2 hbi => ?_⟩
    refine k1 _ _ _ (e2 _ _ el) ⟨same_upd hl (e.trans e2), upd_same, ⟨bs ++ [b], by rw [List.map_append]; rfl, by rw [List.length_append, lb]; rfl, ?_⟩, _, rfl⟩
    rw [List.take_add_one, hxi, List.all_append, Bool.and_eq_true]
    constructor
    · rintro ⟨g1, g2⟩ y hyy
      rcases List.mem_append.mp hyy with g | g
      · exact hb.mp g1 y g
      · have : y = x := by simpa using g
        rw [this]; exact hbi.mp (by simpa using g2)
    · intro g
      exact ⟨hb.mpr fun y hyy => g y (List.mem_append_left _ hyy), by simpa using hbi.mpr (g x (by simp))⟩
  rintro ys σ' H1 ⟨e1, el, ⟨bs, rfl, lb, hb⟩, _⟩
  rw [List.take_length] at hb
  refine ⟨⟨_, e1.seq (SqL.of hp), by omega⟩, l, bs, rfl, SqL.of el, _, rfl, ?_⟩
  by_cases ha : bs.all id = true
  case neg =>
    have ha' : bs.all id = false := by simpa using ha
    rw [ha']
    exact iteT (q _ _ e1 ⟨fun z => (by cases z), fun z => absurd (hb.mpr (by rw [← hy]; exact z.1.2.1)) ha⟩)
  rw [ha]
  refine iteF ?_
  have hok := hb.mp ha
  have hp1 := e1 _ _ hp
  -- the places
  refine ⟨_, rfl, p, rfl, ⟨_, SqL.of hp1⟩, fun _ _ _ _ t ht => ?_⟩
  refine comp_by L.length (by rw [sizeLine_eq]; omega) (fun i ys σ' Hc => Same H1 Hc ∧ Hc t = some (.lst ys) ∧ ys = ((L.take i).map (·.1)).map V.int ∧ σ'.length = 2) ?_ (fun i ys σ' Hc ⟨_, e, y, _⟩ => ⟨e, by rw [y, List.length_map, List.length_map, List.length_take]; omega⟩) ?_ ?_
  · exact ⟨same_new ht _, upd_same, rfl, rfl⟩
  · rintro i ys σ' Hc hi ⟨e, el, rfl, hσ⟩
    refine ⟨⟨_, zs[i], e.seq (SqL.of hp1), by simp [hz, hi]⟩, fun v' H' y' Kt Kf k1 _ => ?_⟩
    obtain ⟨rfl, hv⟩ := y'
    have hv' := hv _ (e.seq (SqL.of hp1))
    obtain ⟨x, hxi, dx⟩ := PG.at dz hv'
    obtain ⟨tt, w', rfl, t1, t2⟩ := Dn.gp ((e1.trans e).dn dx)
    obtain ⟨c0, c1, rfl⟩ := len2 hσ
    refine ⟨tt, _, rfl, t1, rfl, _, _, rfl, _, _, rfl, rfl, ?_⟩
    simp only [tYes, ↓reduceIte]
    refine ⟨_, rfl, k1 _ _ _ el ⟨same_upd ht e, upd_same, ?_, rfl⟩⟩
    rw [take_map _ hxi, List.map_append]; rfl
  rintro ys σ' H2 ⟨e2, ht2, rfl, _⟩
  rw [List.take_length] at ht2
  refine ⟨⟨_, e2.seq (SqL.of hp1), by omega⟩, t, L.map (·.1), rfl, ht2, by rw [List.length_map]; omega, fun br H3 e3 hbr => ?_⟩
  have e13 := e2.trans e3
  cases br with
  | false => exact ⟨_, rfl, iteF (q _ _ (e1.trans e13) ⟨fun z => (by cases z), fun z => (by have := hbr.mpr z.1.2.2; cases this)⟩)⟩
  | true =>
  refine ⟨_, rfl, iteT ?_⟩
  have okk : G6.Okk h.length L := ⟨l3, (by rw [hy]; exact hok), hbr.mp rfl⟩
  have hp3 := e13 _ _ hp1
  -- the weights
  refine ⟨_, rfl, p, rfl, ⟨_, SqL.of hp3⟩, fun _ _ _ _ u hu0 => ?_⟩
  refine comp_by L.length (by rw [sizeLine_eq]; omega) (fun i ys σ' Hc => Same H3 Hc ∧ Hc u = some (.lst ys) ∧ Dns K Hc (((L.take i).map (·.2)).map spotD) ys ∧ ys.length = i ∧ σ'.length = 2) ?_ (fun i ys σ' Hc ⟨_, e, _, y, _⟩ => ⟨e, by rw [y]; exact Nat.le_refl _⟩) ?_ ?_
  · exact ⟨same_new hu0 _, upd_same, dns_nil, rfl, rfl⟩
  · rintro i ys σ' Hc hi ⟨e, el, dy, ly, hσ⟩
    refine ⟨⟨_, zs[i], e.seq (SqL.of hp3), by simp [hz, hi]⟩, fun v' H' y' Kt Kf k1 _ => ?_⟩
    obtain ⟨rfl, hv⟩ := y'
    have hv' := hv _ (e.seq (SqL.of hp3))
    obtain ⟨x, hxi, dx⟩ := PG.at dz hv'
    obtain ⟨tt, w', rfl, t1, t2⟩ := Dn.gp ((e1.trans (e13.trans e)).dn dx)
    obtain ⟨c0, c1, rfl⟩ := len2 hσ
    refine ⟨tt, _, rfl, t1, rfl, _, _, rfl, _, _, rfl, rfl, ?_⟩
    simp only [tYes, ↓reduceIte]
    refine ⟨_, rfl, k1 _ _ _ el ⟨same_upd hu0 e, upd_same, ?_, by rw [List.length_append, ly]; rfl, rfl⟩⟩
    rw [take_map _ hxi, List.map_append]
    exact (spots_upd el dy).append (dns_cons (spot_upd el t2) dns_nil)
  rintro ys σ' H4 ⟨e4, hu4, dy, _⟩
  rw [List.take_length] at dy
  refine ⟨⟨_, e4.seq (SqL.of hp3), by omega⟩, u, ys, G6.ws L, rfl, hu4, dy, by unfold G6.ws; rw [List.length_map]; exact l3, ws_bd hw, fun v H5 e5 dv => ?_⟩
  refine ⟨(by show 2 ≤ sizeLine; decide), fun tz htz => ?_⟩
  have ez := same_new htz (HO.tup [V.int 1, V.int 1])
  refine ⟨_, (1, 1), ez.dn dv, dn_spot (p := (1, 1)) (SqT.of upd_same), ?_⟩
  refine q _ _ (e1.trans (e13.trans (e4.trans (e5.trans ez)))) ⟨fun z => ⟨okk, (ws_one hw).mp (of_decide_eq_true z)⟩, fun z => decide_eq_true ((ws_one hw).mpr z.2)⟩
end
end K6a
set_option Elab.async false
set_option linter.all false
set_option maxRecDepth 100000
set_option maxHeartbeats 4000000
namespace K6a
open PySem L2 Hull SortM SepM
seal L2.PE L2.PT L2.PW L2.PA L2.PS L2.PSs L2.PG L2.PGs L2.PF L2.PI L2.PO
section
variable {P : Program} {w : World} {K : PySem.W.Frag} {mg : Str → Option Value} {base : Heap} {f : Addr} {fd : FuncData}
def crd (f : Hull.P → Int) (h : List Hull.P) (L : List G6.GP) : List (Int × Int) := L.map fun y => K9.mk (y.2.1 * f (Cut.at_ h y.1.toNat)) y.2.2
def ptG (h : List Hull.P) (L : List G6.GP) : PyData := .tuple [spotD (G6.totF (crd (·.1) h L)), spotD (G6.totF (crd (·.2) h L))]
theorem crd_np {f : Hull.P → Int} {h : List Hull.P} {L : List G6.GP} (w : ∀ x ∈ L, G6.WOk x.2) : G6.totF (crd f h L) = K9.mk (G6.np (G6.co f h L)).1 (G6.np (G6.ws L)).2 ∧ 0 < (G6.np (G6.ws L)).2 := by
  have hp : ∀ q ∈ G6.co f h L, 0 < q.2 := fun q hq => by
    obtain ⟨x, hx, rfl⟩ := List.mem_map.mp hq
    exact (w x hx).1.1
  have e : crd f h L = (G6.co f h L).map fun q => K9.mk q.1 q.2 := by unfold crd G6.co; rw [List.map_map]; rfl
  obtain ⟨h1, h2⟩ := G6.tot_np hp
  rw [G6.co_den] at h1 h2
  exact ⟨by rw [e]; exact h1, h2⟩
theorem crd_bd {f : Hull.P → Int} {h : List Hull.P} {L : List G6.GP} (w : ∀ x ∈ L, G6.WOk x.2) : ∀ q ∈ crd f h L, 1 ≤ q.2 ∧ q.2 ≤ 100000000 := fun q hq => by
  obtain ⟨x, hx, rfl⟩ := List.mem_map.mp hq
  have := (w x hx).1
  exact ⟨K9.mk_pos this.1, Int.le_trans (K9.mk_le this.1) this.2⟩
inductive sp_pointG (K : PySem.W.Frag) (vs : List V) (H : Hp) (Q : VK) (x_3 : XK) : Prop where
  | mk (p : Addr) (x : V) (h : List Hull.P) (L : List G6.GP) (h_0 : vs = [.ref p, x]) (h_1 : PG K H p L) (h_2 : Hd K H x h) (h_3 : G6.Okk h.length L) (h_4 : ∀ v H', Same H H' → Dn K H' (ptG h L) v → Q v H')
theorem ok_pointG (C_total : Cal P w K mg base 4 "total" (sp_totalG K)) (C_times : Cal P w K mg base 3 "times" (sp_times K)) (F : Fun K "point" "point" s_point f fd) : FnOk P w K mg base CX0 5 f fd ["parts", "herd"] (sp_pointG K) := by
  refine F.ok sc_point (fun vs H Q E h => ?_) (fun cdv A outer s H vs Q E hr h => ?_)
  · obtain ⟨p, x, h, L, rfl, _⟩ := h
    rfl
  obtain ⟨p, x, h, L, rfl, ⟨⟨zs, hp, dz⟩, hw, l16⟩, hx, okk, q⟩ := h
  obtain ⟨o1, y1, rfl, h1, d1, b1, l1, l8⟩ := id hx
  have hz : zs.length = L.length := by have := dz.length; rwa [List.length_map] at this
  have l3 := okk.1
  have spot : ∀ {y : G6.GP}, y ∈ L → ∃ (us : Addr) (s : Hull.P), atI y1 y.1 = some (.ref us) ∧ SqT K H us [.int s.1, .int s.2] ∧ Bd s ∧ Cut.at_ h y.1.toNat = s := fun {y} hy => by
    obtain ⟨a1, a2, _⟩ := okk.2.1 y hy
    have hlt : y.1.toNat < h.length := by omega
    obtain ⟨u, u1, u2⟩ := d1.get (i := y.1.toNat) (d := spotD h[y.1.toNat]) (by simp [hlt])
    obtain ⟨us, rfl, u3⟩ := u2.spot
    refine ⟨us, _, ?_, u3, b1 _ (List.getElem_mem hlt), at_get hlt⟩
    have := atI_nat u1
    rwa [Int.toNat_of_nonneg a1] at this
  refine ⟨_, (pss_cons (ps_set (i := 2) sc_point.nd rfl (Or.inl rfl) (pe_c C_total (hr.mono (by decide)) (by rfl) (pa_cons (pe_comp (Nc := ["place", "weight", "herd"]) (fi := [none, none, some 1]) (comp_sc rfl rfl rfl) rfl (comp_from_go rfl) (pi_list (pv 0)) (fun _ _ _ _ => ⟨(pg_tup rfl (pgs_cons (pg_name (i := 0) (show (["place", "weight", "herd"] : List Str).Nodup by decide +kernel) rfl (Or.inl rfl)) (pgs_cons (pg_name (i := 1) (show (["place", "weight", "herd"] : List Str).Nodup by decide +kernel) rfl (Or.inl rfl)) pgs_nil))), pf_nil, (pe_c C_times (hr.mono (by decide)) (by rfl) (pa_cons (pv 1) (pa_cons (pe_tup (pa_cons (pe_ix ix_tup (pe_ix ix_list (pv 2) (pv 0) (fun _ _ => rfl)) pe_int (fun _ _ => rfl)) (pa_cons pe_int pa_nil))) pa_nil)))⟩)) pa_nil)))
    (pss_cons (ps_set (i := 3) sc_point.nd rfl (Or.inl rfl) (pe_c C_total (hr.mono (by decide)) (by rfl) (pa_cons (pe_comp (Nc := ["place", "weight", "herd"]) (fi := [none, none, some 1]) (comp_sc rfl rfl rfl) rfl (comp_from_go rfl) (pi_list (pv 0)) (fun _ _ _ _ => ⟨(pg_tup rfl (pgs_cons (pg_name (i := 0) (show (["place", "weight", "herd"] : List Str).Nodup by decide +kernel) rfl (Or.inl rfl)) (pgs_cons (pg_name (i := 1) (show (["place", "weight", "herd"] : List Str).Nodup by decide +kernel) rfl (Or.inl rfl)) pgs_nil))), pf_nil, (pe_c C_times (hr.mono (by decide)) (by rfl) (pa_cons (pv 1) (pa_cons (pe_tup (pa_cons (pe_ix ix_tup (pe_ix ix_list (pv 2) (pv 0) (fun _ _ => rfl)) pe_int (fun _ _ => rfl)) (pa_cons pe_int pa_nil))) pa_nil)))⟩)) pa_nil)))
    (pss_one (ps_ret (pe_tup (pa_cons (pv 2) (pa_cons (pv 3) pa_nil))))))), ?_⟩
  refine ⟨_, rfl, p, rfl, ⟨_, SqL.of hp⟩, fun _ _ _ _ t ht => ?_⟩
  refine comp_by L.length (by rw [sizeLine_eq]; omega) (fun i ys σ' Hc => Same H Hc ∧ Hc t = some (.lst ys) ∧ Dns K Hc ((crd (·.1) h (L.take i)).map spotD) ys ∧ ys.length = i ∧ ∃ c0 c1, σ' = [c0, c1, some (.ref o1)]) ?_ (fun i ys σ' Hc ⟨_, e, _, y, _⟩ => ⟨e, by rw [y]; exact Nat.le_refl _⟩) ?_ ?_
  · exact ⟨same_new ht _, upd_same, dns_nil, rfl, _, _, rfl⟩
  · rintro i ys σ' Hc hi ⟨e, el, dy, ly, c0, c1, rfl⟩
    refine ⟨⟨_, zs[i], e.seq (SqL.of hp), by simp [hz, hi]⟩, fun v' H' y' Kt Kf k1 _ => ?_⟩
    obtain ⟨rfl, hv⟩ := y'
    have hv' := hv _ (e.seq (SqL.of hp))
    obtain ⟨x, hxi, dx⟩ := PG.at dz hv'
    have hxm := List.mem_of_getElem? hxi
    obtain ⟨tt, w', rfl, t1, t2⟩ := Dn.gp (e.dn dx)
    obtain ⟨us, sp, a1, u3, bs, hat⟩ := spot hxm
    have wx := (hw x hxm).1
    refine ⟨tt, _, rfl, t1, rfl, _, _, rfl, _, _, rfl, rfl, ?_⟩
    simp only [tYes, ↓reduceIte]
    refine ⟨_, rfl, _, rfl, _, rfl, o1, y1, _, _, rfl, rfl, e.seq h1, a1, us, _, _, _, rfl, rfl, e.seqT u3, rfl, (by show 2 ≤ sizeLine; decide), fun tz htz => ?_⟩
    have ez := same_new htz (HO.tup [V.int sp.1, V.int 1])
    refine ⟨w', .ref tz, x.2, (sp.1, 1), rfl, ez.dn t2, dn_spot (SqT.of upd_same), ⟨bs.1.1, bs.1.2⟩, ⟨by omega, by omega⟩, ⟨by show (1 : Int) ≤ 1; decide, by show (1 : Int) ≤ 2 ^ 60; decide⟩, fun v H2 e2 dv => ?_⟩
    have el2 := e2 _ _ (ez _ _ el)
    refine k1 _ _ _ el2 ⟨same_upd ht (e.trans (ez.trans e2)), upd_same, ?_, by rw [List.length_append, ly]; rfl, _, _, rfl⟩
    unfold crd at dy ⊢
    rw [take_map _ hxi, List.map_append, hat]
    rw [Int.mul_one] at dv
    exact (spots_upd el2 ((ez.trans e2).dns dy)).append (dns_cons (spot_upd el2 dv) dns_nil)
  rintro ys σ' H1 ⟨e1, ht1, dy, _⟩
  rw [List.take_length] at dy
  refine ⟨⟨_, e1.seq (SqL.of hp), by omega⟩, t, ys, _, rfl, ht1, dy, by unfold crd; rw [List.length_map]; exact l3, crd_bd hw, fun v1 H2 e2 dv1 => ?_⟩
  have e12 := e1.trans e2
  have hp2 := e12 _ _ hp
  refine ⟨_, rfl, p, rfl, ⟨_, SqL.of hp2⟩, fun _ _ _ _ t' ht' => ?_⟩
  refine comp_by L.length (by rw [sizeLine_eq]; omega) (fun i ys σ' Hc => Same H2 Hc ∧ Hc t' = some (.lst ys) ∧ Dns K Hc ((crd (·.2) h (L.take i)).map spotD) ys ∧ ys.length = i ∧ ∃ c0 c1, σ' = [c0, c1, some (.ref o1)]) ?_ (fun i ys σ' Hc ⟨_, e, _, y, _⟩ => ⟨e, by rw [y]; exact Nat.le_refl _⟩) ?_ ?_
  · exact ⟨same_new ht' _, upd_same, dns_nil, rfl, _, _, rfl⟩
  · rintro i ys σ' Hc hi ⟨e, el, dy, ly, c0, c1, rfl⟩
    refine ⟨⟨_, zs[i], e.seq (SqL.of hp2), by simp [hz, hi]⟩, fun v' H' y' Kt Kf k1 _ => ?_⟩
    obtain ⟨rfl, hv⟩ := y'
    have hv' := hv _ (e.seq (SqL.of hp2))
    obtain ⟨x, hxi, dx⟩ := PG.at dz hv'
    have hxm := List.mem_of_getElem? hxi
    obtain ⟨tt, w', rfl, t1, t2⟩ := Dn.gp ((e12.trans e).dn dx)
    obtain ⟨us, sp, a1, u3, bs, hat⟩ := spot hxm
    have wx := (hw x hxm).1
    refine ⟨tt, _, rfl, t1, rfl, _, _, rfl, _, _, rfl, rfl, ?_⟩
    simp only [tYes, ↓reduceIte]
    refine ⟨_, rfl, _, rfl, _, rfl, o1, y1, _, _, rfl, rfl, (e12.trans e).seq h1, a1, us, _, _, _, rfl, rfl, (e12.trans e).seqT u3, rfl, (by show 2 ≤ sizeLine; decide), fun tz htz => ?_⟩
    have ez := same_new htz (HO.tup [V.int sp.2, V.int 1])
    refine ⟨w', .ref tz, x.2, (sp.2, 1), rfl, ez.dn t2, dn_spot (SqT.of upd_same), ⟨bs.2.1, bs.2.2⟩, ⟨by omega, by omega⟩, ⟨by show (1 : Int) ≤ 1; decide, by show (1 : Int) ≤ 2 ^ 60; decide⟩, fun v H2 e2 dv => ?_⟩
    have el2 := e2 _ _ (ez _ _ el)
    refine k1 _ _ _ el2 ⟨same_upd ht' (e.trans (ez.trans e2)), upd_same, ?_, by rw [List.length_append, ly]; rfl, _, _, rfl⟩
    unfold crd at dy ⊢
    rw [take_map _ hxi, List.map_append, hat]
    rw [Int.mul_one] at dv
    exact (spots_upd el2 ((ez.trans e2).dns dy)).append (dns_cons (spot_upd el2 dv) dns_nil)
  rintro ys2 σ' H3 ⟨e3, ht3, dy2, _⟩
  rw [List.take_length] at dy2
  refine ⟨⟨_, e3.seq (SqL.of hp2), by omega⟩, t', ys2, _, rfl, ht3, dy2, by unfold crd; rw [List.length_map]; exact l3, crd_bd hw, fun v2 H4 e4 dv2 => ?_⟩
  refine ⟨_, rfl, _, rfl, (by show 2 ≤ sizeLine; decide), fun tz htz => ?_⟩
  have ez := same_new htz (HO.tup [v1, v2])
  exact q _ _ (e12.trans (e3.trans (e4.trans ez))) (dn_tup (SqT.of upd_same) (dns_cons ((e3.trans (e4.trans ez)).dn dv1) (dns_cons (ez.dn dv2) dns_nil)))
theorem pt_shaped (a b : Hull.P) : SeqAt.shaped (.tuple [spotD a, spotD b]) = true := by
  obtain ⟨h1, h2⟩ := spot_can a
  obtain ⟨h3, h4⟩ := spot_can b
  unfold SeqAt.shaped
  have : (PyData.tuple [spotD a, spotD b]).depth ≤ 64 := by
    rw [PyData.depth, PyData.depthAll, PyData.depthAll, PyData.depthAll]; omega
  rw [decide_eq_true this, PyData.canLay0, PyData.canLayAll0, PyData.canLayAll0, PyData.canLayAll0, h1, h3]; rfl
theorem pt_eqv2 (a b c d : Hull.P) : PyData.eqv (.tuple [spotD a, spotD b]) (.tuple [spotD c, spotD d]) = (decide (a = c) && decide (b = d)) := by
  rw [PyData.eqv, PyData.eqvAll, PyData.eqvAll, PyData.eqvAll, spot_eqv, spot_eqv]; simp
end
end K6a
set_option Elab.async false
set_option linter.all false
set_option maxRecDepth 100000
set_option maxHeartbeats 4000000
namespace K6a
open PySem L2 Hull SortM SepM
seal L2.PE L2.PT L2.PW L2.PA L2.PS L2.PSs L2.PG L2.PGs L2.PF L2.PI L2.PO
section
variable {P : Program} {w : World} {K : PySem.W.Frag} {mg : Str → Option Value} {base : Heap} {f : Addr} {fd : FuncData}
structure TxtK (K : PySem.W.Frag) (mg : Str → Option Value) (n fld : Str) (C : Addr) : Prop where
  cl : Cls K C
  nF : NoAttr K C fld
  mg : mg n = some (.ref C)
  ha : PySem.W.findIn K (.ref C) "__class__" = some (some (.builtin "object.__class__"))
  hn : PySem.W.specialIn K (.builtin "object.__class__") "__get__" = some (some (.builtin "getset_descriptor.__get__"))
  htk : PySem.W.takesIn K (.builtin "object.__class__") = some true
  hm : PySem.W.mroIn K C (.type "object") = some true
  ki : PySem.W.kitOne K (.ref C) (.ref C) = some true
abbrev Txt_Mixed (K : PySem.W.Frag) (mg : Str → Option Value) (C : Addr) : Prop := TxtK K mg "Mixed" "parts" C
abbrev Txt_Parted (K : PySem.W.Frag) (mg : Str → Option Value) (C : Addr) : Prop := TxtK K mg "Parted" "fence" C
abbrev Txt_Apart (K : PySem.W.Frag) (mg : Str → Option Value) (C : Addr) : Prop := TxtK K mg "Apart" "fence" C
def fld1 (n : Str) (a : Addr) : List (Str × V) := putF n (.ref a) []
theorem fld1_at (n : Str) (a : Addr) : (fld1 n a).lookup n = some (.ref a) := by unfold fld1; rw [lookup_putF, if_pos rfl]
theorem fld1_no {n m : Str} (a : Addr) (h : ¬ m = n) : (fld1 n a).lookup m = none := by
  unfold fld1; rw [lookup_putF, if_neg h]; rfl
inductive sp_initM (K : PySem.W.Frag) (C : Addr) (vs : List V) (H : Hp) (Q : VK) (x_3 : XK) : Prop where
  | mk (x f dx : Addr) (z1 : List V) (h_0 : vs = [.ref x, .ref f]) (h_1 : H x = some (.ins C dx [])) (h_2 : SqL K H f z1) (h_3 : ∀ a H', H a = none → H' a = some (.lst z1) → H' x = some (.ins C dx (fld1 "parts" a)) → (∀ y o, H y = some o → y ≠ x → H' y = some o) → Q .non H')
theorem ok_initM {c_Mixed : Addr} (B : Bl mg) (T_Mixed : Txt_Mixed K mg c_Mixed) (F : Fun K "__init__" "Mixed.__init__" s_Mixed___init__ f fd) : FnOk P w K mg base CX0 1 f fd ["self", "parts"] (sp_initM K c_Mixed) := by
  refine F.ok sc_Mixed___init__ (fun vs H Q E h => ?_) (fun cdv A outer s H vs Q E hr h => ?_)
  · obtain ⟨x, f, dx, z1, rfl, _⟩ := h
    rfl
  obtain ⟨x, f, dx, z1, rfl, hx, hf, q⟩ := h
  have T := T_Mixed
  refine ⟨_, (pss_one (ps_fld (pv 0) (pe_callTy call_list_of (by rfl) B.list PySem.L3.boot_list (pa_cons (pv 1) pa_nil)) rfl)), ?_⟩
  refine ⟨_, rfl, f, z1, rfl, .inl hf, fun a ha => ?_⟩
  have nxa : x ≠ a := ne_of_none hx ha
  have hx1 : (upd H a (.lst z1)) x = some (.ins c_Mixed dx []) := by rw [upd_ne nxa]; exact hx
  refine ⟨_, rfl, x, _, dx, _, rfl, hx1, T.cl, T.nF, (by show 0 < 1000; decide), ?_⟩
  refine q a _ ha ?_ upd_same fun y o hy hne => ?_
  · rw [upd_ne (Ne.symm nxa), upd_same]
  · rw [upd_ne hne, upd_ne (ne_of_none hy ha)]; exact hy
inductive sp_initA (K : PySem.W.Frag) (C : Addr) (vs : List V) (H : Hp) (Q : VK) (x_3 : XK) : Prop where
  | mk (x t dx : Addr) (h_0 : vs = [.ref x, .ref t]) (h_1 : H x = some (.ins C dx [])) (h_2 : ∀ H', H' x = some (.ins C dx (fld1 "fence" t)) → (∀ y o, H y = some o → y ≠ x → H' y = some o) → Q .non H')
theorem ok_initA {c_Apart : Addr} (T_Apart : Txt_Apart K mg c_Apart) (F : Fun K "__init__" "Apart.__init__" s_Apart___init__ f fd) : FnOk P w K mg base CX0 1 f fd ["self", "fence"] (sp_initA K c_Apart) := by
  refine F.ok sc_Apart___init__ (fun vs H Q E h => ?_) (fun cdv A outer s H vs Q E hr h => ?_)
  · obtain ⟨x, t, dx, rfl, _⟩ := h
    rfl
  obtain ⟨x, t, dx, rfl, hx, q⟩ := h
  have T := T_Apart
  refine ⟨_, (pss_one (ps_fld (pv 0) (pv 1) rfl)), ?_⟩
  refine ⟨_, rfl, _, rfl, x, _, dx, _, rfl, hx, T.cl, T.nF, (by show 0 < 1000; decide), ?_⟩
  refine q _ upd_same fun y o hy hne => ?_
  rw [upd_ne hne]; exact hy
inductive sp_chkS (K : PySem.W.Frag) (vs : List V) (H : Hp) (Q : VK) (x_3 : XK) : Prop where
  | mk (x : V) (p : Hull.P) (h_0 : vs = [x]) (h_1 : Sp K H x p) (h_2 : ∀ H', Same H H' → Q .non H')
theorem ok_chkS (C_is_pair : Cal P w K mg base 2 "is_pair" (sp_pair K)) (F : Fun K "check_spot" "check_spot" s_check_spot f fd) : FnOk P w K mg base CX0 3 f fd ["spot"] (sp_chkS K) := by
  refine F.ok sc_check_spot (fun vs H Q E h => ?_) (fun cdv A outer s H vs Q E hr h => ?_)
  · obtain ⟨x, p, rfl, _⟩ := h
    rfl
  obtain ⟨x, p, rfl, h1, q⟩ := h
  refine ⟨_, (pss_one (ps_if (pt_not (pt_val (pe_c C_is_pair (hr.mono (by decide)) (by rfl) (pa_cons (pv 0) pa_nil)))) (pss_one ps_never) pss_nil)), ?_⟩
  refine ⟨_, rfl, x, p, rfl, h1, fun H' e => ?_⟩
  exact ⟨_, rfl, ite2 (fun c => by cases c) fun _ => q _ e⟩
inductive sp_within (K : PySem.W.Frag) (T cM cA : Addr) (vs : List V) (H : Hp) (Q : VK) (x_3 : XK) : Prop where
  | mk (x y : V) (h : List Hull.P) (s : Hull.P) (h_0 : vs = [x, y]) (h_1 : Hd K H x h) (h_2 : Sp K H y s) (h_3 : H T = some (.cod 198 41 lamQ))
    (h_4 : ∀ m dx a L W H', Same H H' → H m = none → H a = none → H' m = some (.ins cM dx (fld1 "parts" a)) → MxAt K H' a h L W → Q (.ref m) H')
    (h_5 : ∀ m dx t a b c H', Same H H' → H m = none → H' m = some (.ins cA dx (fld1 "fence" t)) → H' t = some (.tup [.int a, .int b, .int c]) → Q (.ref m) H')
theorem ok_within {T c_Mixed c_Apart : Addr} (B : Bl mg) (C_check_herd : Cal P w K mg base 4 "check_herd" (sp_check K)) (C_check_spot : Cal P w K mg base 3 "check_spot" (sp_chkS K)) (C_mixture_at : Cal P w K mg base 4 "mixture_at" (sp_mix K)) (C_fence_between : Cal P w K mg base 5 "fence_between" (sp_fence K T))
    (C_Mixed : CalK P w K mg base 1 "Mixed" c_Mixed (sp_initM K c_Mixed)) (C_Apart : CalK P w K mg base 1 "Apart" c_Apart (sp_initA K c_Apart)) (F : Fun K "within" "within" s_within f fd) : FnOk P w K mg base CX0 6 f fd ["herd", "spot"] (sp_within K T c_Mixed c_Apart) := by
  refine F.ok sc_within (fun vs H Q E h => ?_) (fun cdv A outer s H vs Q E hr h => ?_)
  · obtain ⟨x, y, h, s, rfl, _⟩ := h
    rfl
  obtain ⟨x, y, h, sp, rfl, h1, h2, hT, qM, qA⟩ := h
  obtain ⟨o1, y1, rfl, k1, d1, b1, l1, l8⟩ := id h1
  have hu := hr.units
  refine ⟨_, (pss_cons (ps_expr (pe_c C_check_herd (hr.mono (by decide)) (by rfl) (pa_cons (pv 0) pa_nil)))
    (pss_cons (ps_expr (pe_c C_check_spot (hr.mono (by decide)) (by rfl) (pa_cons (pv 1) pa_nil)))
    (pss_cons (ps_set (i := 2) sc_within.nd rfl (Or.inl rfl) (pe_c C_mixture_at (hr.mono (by decide)) (by rfl) (pa_cons (pv 0) (pa_cons (pv 1) pa_nil))))
    (pss_cons (ps_if (pt_cmpR (op_eqNil hu) (pv 2) (pe_lst pa_nil) (nomark _)) (pss_one (ps_ret (pe_mk C_Apart (hr.mono (by decide)) (by rfl) (pa_cons (pe_c C_fence_between (hr.mono (by decide)) (by rfl) (pa_cons (pv 0) (pa_cons (pe_lst (pa_cons (pv 1) pa_nil)) pa_nil))) pa_nil)))) pss_nil)
    (pss_one (ps_ret (pe_mk C_Mixed (hr.mono (by decide)) (by rfl) (pa_cons (pv 2) pa_nil)))))))), ?_⟩
  refine ⟨_, rfl, o1, y1, h, rfl, k1, d1, b1, l1, l8, fun H1 e1 => ?_⟩
  refine ⟨_, rfl, y, sp, rfl, h2.same e1, fun H2 e2 => ?_⟩
  have e12 := e1.trans e2
  refine ⟨_, rfl, _, rfl, o1, y, y1, h, sp, rfl, e12.seq k1, e12.dns d1, b1, l1, l8, h2.same e12, fun lp zp H3 prt e3 hlp0 hlp dp mx => ?_⟩
  have e13 := e12.trans e3
  refine ⟨_, rfl, Nat.zero_le _, fun ne' hne => ?_⟩
  have en := same_new hne (HO.lst [])
  have e14 := e13.trans en
  generalize hH4 : upd H3 ne' (HO.lst []) = H4 at *
  have hne4 : H4 ne' = some (.lst []) := by rw [← hH4]; exact upd_same
  refine ⟨_, ne', prt.map partD, dn_lst (en.seq (SqL.of hlp)) (en.dns dp), rfl, rfl, SqL.of hne4, parts_shaped _, _, rfl, ite2 (fun c => ?_) (fun c => ?_)⟩
  · have c' : prt = [] := isEmpty_parts.mp (by simpa using c)
    subst c'
    refine ⟨_, rfl, _, rfl, (by show 1 ≤ sizeLine; decide), fun lo hlo => ?_⟩
    have eo := same_new hlo (HO.lst [y])
    have e15 := e14.trans eo
    have hd2 : Hd K (upd H4 lo (.lst [y])) (.ref lo) [sp] := ⟨lo, [y], rfl, SqL.of upd_same, dns_cons (e15.dn h2.1) dns_nil, fun p hp => by rw [List.mem_singleton.mp hp]; exact h2.2, by simp, by simp⟩
    refine ⟨.ref o1, .ref lo, h, [sp], rfl, h1.same e15, hd2, e15 _ _ hT, fun t v H6 e6 ht0 ht6 hw hbest => ?_⟩
    intro m dx hm hdx hdm
    have nmt : t ≠ m := ne_of_none ht6 hm
    have ndt : t ≠ dx := ne_of_none ht6 hdx
    refine ⟨m, t, dx, rfl, upd_same, fun H7 h7 keep => ⟨rfl, ?_⟩⟩
    have e16 := e15.trans e6
    have e17 : Same H H7 := fun b o hb => keep b o (by
      have hb6 := e16 _ _ hb
      rw [upd_ne (ne_of_none hb6 hm), upd_ne (ne_of_none hb6 hdx)]; exact hb6) (ne_of_none (e16 _ _ hb) hm)
    exact qA m dx t _ _ _ H7 e17 (e16.free hm) h7 (keep t _ ((upd_ne nmt).trans ((upd_ne ndt).trans ht6)) nmt)
  · have c' : prt ≠ [] := fun z => by subst z; exact absurd rfl c
    obtain ⟨g, hg, hs, rfl⟩ := mixd_ne mx c'
    obtain ⟨w1, w2, w3⟩ := Cut.wg b1 hg h2.2 hs
    refine ⟨_, rfl, fun m dx hm hdx hdm => ?_⟩
    have hlp4 := en _ _ hlp
    have sq5 : SqL K (upd (upd H4 dx (.own m)) m (.ins c_Mixed dx [])) lp zp := SqL.of (by rw [upd_ne (ne_of_none hlp4 hm), upd_ne (ne_of_none hlp4 hdx)]; exact hlp4)
    refine ⟨m, lp, dx, zp, rfl, upd_same, sq5, fun a H7 ha h7a h7m keep => ⟨rfl, ?_⟩⟩
    have sk : Same H4 H7 := fun b o hb => keep b o (by rw [upd_ne (ne_of_none hb hm), upd_ne (ne_of_none hb hdx)]; exact hb) (ne_of_none hb hm)
    have nam : a ≠ m := by rintro rfl; rw [upd_same] at ha; cases ha
    have ha' : upd H4 dx (.own m) a = none := by rwa [upd_ne nam] at ha
    have nad : a ≠ dx := by rintro rfl; rw [upd_same] at ha'; cases ha'
    have ha4 : H4 a = none := by rwa [upd_ne nad] at ha'
    exact qM m dx a _ _ H7 (e14.trans sk) (e14.free hm) (e14.free ha4) h7m ⟨zp, h7a, sk.dns (en.dns dp), w1⟩
end
end K6a
set_option Elab.async false
set_option linter.all false
set_option maxRecDepth 100000
set_option maxHeartbeats 4000000
namespace K6a
open PySem L2 Hull SortM SepM
seal L2.PE L2.PT L2.PW L2.PA L2.PS L2.PSs L2.PG L2.PGs L2.PF L2.PI L2.PO
section
variable {P : Program} {w : World} {K : PySem.W.Frag} {mg : Str → Option Value} {base : Heap} {f : Addr} {fd : FuncData}
theorem ok_initP {c_Parted : Addr} (T_Parted : Txt_Parted K mg c_Parted) (F : Fun K "__init__" "Parted.__init__" s_Parted___init__ f fd) : FnOk P w K mg base CX0 1 f fd ["self", "fence"] (sp_initA K c_Parted) := by
  refine F.ok sc_Parted___init__ (fun vs H Q E h => ?_) (fun cdv A outer s H vs Q E hr h => ?_)
  · obtain ⟨x, t, dx, rfl, _⟩ := h
    rfl
  obtain ⟨x, t, dx, rfl, hx, q⟩ := h
  have T := T_Parted
  refine ⟨_, (pss_one (ps_fld (pv 0) (pv 1) rfl)), ?_⟩
  refine ⟨_, rfl, _, rfl, x, _, dx, _, rfl, hx, T.cl, T.nF, (by show 0 < 1000; decide), ?_⟩
  refine q _ upd_same fun y o hy hne => ?_
  rw [upd_ne hne]; exact hy
inductive sp_between (K : PySem.W.Frag) (T cP cE : Addr) (vs : List V) (H : Hp) (Q : VK) (x_3 : XK) : Prop where
  | mk (x y : V) (one other : List Hull.P) (h_0 : vs = [x, y]) (h_1 : Hd K H x one) (h_2 : Hd K H y other) (h_3 : H T = some (.cod 198 41 lamQ))
    (h_4 : ∀ m dx t a b c H', Same H H' → H m = none → H' m = some (.ins cP dx (fld1 "fence" t)) → H' t = some (.tup [.int a, .int b, .int c]) → Q (.ref m) H')
    (h_5 : ∀ m dx a b z1 z2 p1 p2 H', Same H H' → H m = none → H a = none → H b = none → a ≠ b → H' m = some (.ins cE dx (mflds a b)) → H' a = some (.lst z1) → H' b = some (.lst z2) → Dns K H' (p1.map partD) z1 → Dns K H' (p2.map partD) z2 → Cut.Found one other p1 p2 → Q (.ref m) H')
theorem ok_between {T c_Parted c_Meeting : Addr} (B : Bl mg) (C_check_herd : Cal P w K mg base 4 "check_herd" (sp_check K)) (C_shared : Cal P w K mg base 6 "shared" (sp_two K Cut.Fail)) (C_fence_between : Cal P w K mg base 5 "fence_between" (sp_fence K T))
    (C_Parted : CalK P w K mg base 1 "Parted" c_Parted (sp_initA K c_Parted)) (C_Meeting : CalK P w K mg base 1 "Meeting" c_Meeting (sp_init K c_Meeting)) (F : Fun K "between" "between" s_between f fd) : FnOk P w K mg base CX0 7 f fd ["one", "other"] (sp_between K T c_Parted c_Meeting) := by
  refine F.ok sc_between (fun vs H Q E h => ?_) (fun cdv A outer s H vs Q E hr h => ?_)
  · obtain ⟨x, y, one, other, rfl, _⟩ := h
    rfl
  obtain ⟨x, y, one, other, rfl, h1, h2, hT, qP, qE⟩ := h
  obtain ⟨o1, y1, rfl, k1, d1, b1, l1, l8⟩ := id h1
  obtain ⟨o2, y2, rfl, k2, d2, b2, m1, m8⟩ := id h2
  have hu := hr.units
  refine ⟨_, (pss_cons (ps_expr (pe_c C_check_herd (hr.mono (by decide)) (by rfl) (pa_cons (pv 0) pa_nil)))
    (pss_cons (ps_expr (pe_c C_check_herd (hr.mono (by decide)) (by rfl) (pa_cons (pv 1) pa_nil)))
    (pss_cons (ps_set (i := 2) sc_between.nd rfl (Or.inl rfl) (pe_c C_shared (hr.mono (by decide)) (by rfl) (pa_cons (pv 0) (pa_cons (pv 1) pa_nil))))
    (pss_cons (ps_if (pt_cmpR (op_eqNil hu) (pv 2) (pe_lst pa_nil) (nomark _)) (pss_one (ps_ret (pe_mk C_Parted (hr.mono (by decide)) (by rfl) (pa_cons (pe_c C_fence_between (hr.mono (by decide)) (by rfl) (pa_cons (pv 0) (pa_cons (pv 1) pa_nil))) pa_nil)))) pss_nil)
    (pss_one (ps_ret (pe_mk C_Meeting (hr.mono (by decide)) (by rfl) (pa_cons (pe_ix ix_list (pv 2) pe_int (fun _ _ => rfl)) (pa_cons (pe_ix ix_list (pv 2) pe_int (fun _ _ => rfl)) pa_nil))))))))), ?_⟩
  refine ⟨_, rfl, o1, y1, one, rfl, k1, d1, b1, l1, l8, fun H1 e1 => ?_⟩
  refine ⟨_, rfl, o2, y2, other, rfl, e1.seq k2, e1.dns d2, b2, m1, m8, fun H2 e2 => ?_⟩
  have e12 := e1.trans e2
  refine ⟨_, rfl, _, rfl, .ref o1, .ref o2, one, other, rfl, h1.same e12, h2.same e12, fun l ws H3 e3 hl0 hl res => ?_⟩
  have e13 := e12.trans e3
  obtain ⟨ds, k1', k2', k3, k4⟩ := two_data res
  refine ⟨_, rfl, Nat.zero_le _, fun ne' hne => ?_⟩
  have en := same_new hne (HO.lst [])
  have e14 := e13.trans en
  generalize hH4 : upd H3 ne' (HO.lst []) = H4 at *
  have hne4 : H4 ne' = some (.lst []) := by rw [← hH4]; exact upd_same
  have hl4 := en _ _ hl
  refine ⟨_, ne', ds, dn_lst (SqL.of hl4) (en.dns k1'), rfl, rfl, SqL.of hne4, k2', _, rfl, ite2 (fun c => ?_) (fun c => ?_)⟩
  · obtain ⟨_, hf⟩ := k3 (by simpa using c)
    refine ⟨_, rfl, _, rfl, .ref o1, .ref o2, one, other, rfl, h1.same e14, h2.same e14, e14 _ _ hT, fun t v H6 e6 ht0 ht6 hw hbest => ?_⟩
    intro m dx hm hdx hdm
    have nmt : t ≠ m := ne_of_none ht6 hm
    have ndt : t ≠ dx := ne_of_none ht6 hdx
    refine ⟨m, t, dx, rfl, upd_same, fun H7 h7 keep => ⟨rfl, ?_⟩⟩
    have e16 := e14.trans e6
    have e17 : Same H H7 := fun b o hb => keep b o (by
      have hb6 := e16 _ _ hb
      rw [upd_ne (ne_of_none hb6 hm), upd_ne (ne_of_none hb6 hdx)]; exact hb6) (ne_of_none (e16 _ _ hb) hm)
    exact qP m dx t _ _ _ H7 e17 (e16.free hm) h7 (keep t _ ((upd_ne nmt).trans ((upd_ne ndt).trans ht6)) nmt)
  · obtain ⟨p1, p2, ⟨a, b, z1, z2, rfl, ha, hb, da, db⟩, fd⟩ := k4 (by simpa using c)
    refine ⟨_, rfl, l, _, _, _, rfl, rfl, SqL.of hl4, rfl, ?_⟩
    refine ⟨_, rfl, l, _, _, _, rfl, rfl, SqL.of hl4, rfl, ?_⟩
    intro m dx hm hdx hdm
    have ha4 := en _ _ ha
    have hb4 := en _ _ hb
    have s5 : ∀ {q : Addr} {z : List V}, H4 q = some (.lst z) → SqL K (upd (upd H4 dx (.own m)) m (.ins c_Meeting dx [])) q z := fun {q z} h => SqL.of (by rw [upd_ne (ne_of_none h hm), upd_ne (ne_of_none h hdx)]; exact h)
    refine ⟨m, a, b, dx, z1, z2, rfl, upd_same, s5 ha4, s5 hb4, fun a' b' H7 ha' hb' nab h7a h7b h7m keep => ⟨rfl, ?_⟩⟩
    have sk : Same H4 H7 := fun q o hq => keep q o (by rw [upd_ne (ne_of_none hq hm), upd_ne (ne_of_none hq hdx)]; exact hq) (ne_of_none hq hm)
    have fr : ∀ {q : Addr}, upd (upd H4 dx (.own m)) m (.ins c_Meeting dx []) q = none → H4 q = none := fun {q} h => by
      have n1 : q ≠ m := by rintro rfl; rw [upd_same] at h; cases h
      rw [upd_ne n1] at h
      have n2 : q ≠ dx := by rintro rfl; rw [upd_same] at h; cases h
      rwa [upd_ne n2] at h
    exact qE m dx a' b' z1 z2 p1 p2 H7 (e14.trans sk) (e14.free hm) (e14.free (fr ha')) (e14.free (fr hb')) nab h7m h7a h7b (sk.dns (en.dns da)) (sk.dns (en.dns db)) fd
end
end K6a
set_option Elab.async false
set_option linter.all false
set_option maxRecDepth 100000
set_option maxHeartbeats 4000000
namespace K6a
open PySem L2 Hull SortM SepM
seal L2.PE L2.PT L2.PW L2.PA L2.PS L2.PSs L2.PG L2.PGs L2.PF L2.PI L2.PO
section
variable {P : Program} {w : World} {K : PySem.W.Frag} {mg : Str → Option Value} {base : Heap} {f : Addr} {fd : FuncData}
theorem three_at {a b c : Int} {i : Nat} {x : V} (h : [V.int a, V.int b, V.int c][i]? = some x) : ∃ z : Int, x = .int z := by
  match i, h with
  | 0, h => exact ⟨a, (Option.some.inj h).symm⟩
  | 1, h => exact ⟨b, (Option.some.inj h).symm⟩
  | 2, h => exact ⟨c, (Option.some.inj h).symm⟩
inductive sp_beyond (K : PySem.W.Frag) (vs : List V) (H : Hp) (Q : VK) (x_3 : XK) : Prop where
  | mk (t : Addr) (y : V) (a b c : Int) (p : Hull.P) (h_0 : vs = [.ref t, y]) (h_1 : SqT K H t [.int a, .int b, .int c]) (h_2 : Sp K H y p) (h_3 : Q (.bl (decide (c < dot (a, b) p))) H)
theorem ok_beyond (C_reach : Cal P w K mg base 1 "reach" (sp_reachT K)) (F : Fun K "is_beyond" "is_beyond" s_is_beyond f fd) : FnOk P w K mg base CX0 2 f fd ["fence", "spot"] (sp_beyond K) := by
  refine F.ok sc_is_beyond (fun vs H Q E h => ?_) (fun cdv A outer s H vs Q E hr h => ?_)
  · obtain ⟨t, y, a, b, c, p, rfl, _⟩ := h
    rfl
  obtain ⟨t, y, a, b, c, p, rfl, ht, hp, q⟩ := h
  refine ⟨_, (pss_one (ps_ret (pe_cmpR op_gt (pe_c C_reach (hr.mono (by decide)) (by rfl) (pa_cons (pv 0) (pa_cons (pv 1) pa_nil))) (pe_ix ix_tup (pv 0) pe_int (fun _ _ => rfl)) (nomark _)))), ?_⟩
  refine ⟨_, rfl, _, rfl, t, y, (a, b), p, [.int c], rfl, ht, hp, ?_⟩
  exact ⟨_, rfl, t, _, _, _, rfl, rfl, ht, rfl, _, _, rfl, rfl, q⟩
inductive sp_beneath (K : PySem.W.Frag) (vs : List V) (H : Hp) (Q : VK) (x_3 : XK) : Prop where
  | mk (t : Addr) (y : V) (a b c : Int) (p : Hull.P) (h_0 : vs = [.ref t, y]) (h_1 : SqT K H t [.int a, .int b, .int c]) (h_2 : Sp K H y p) (h_3 : Q (.bl (decide (dot (a, b) p < c))) H)
theorem ok_beneath (C_reach : Cal P w K mg base 1 "reach" (sp_reachT K)) (F : Fun K "is_beneath" "is_beneath" s_is_beneath f fd) : FnOk P w K mg base CX0 2 f fd ["fence", "spot"] (sp_beneath K) := by
  refine F.ok sc_is_beneath (fun vs H Q E h => ?_) (fun cdv A outer s H vs Q E hr h => ?_)
  · obtain ⟨t, y, a, b, c, p, rfl, _⟩ := h
    rfl
  obtain ⟨t, y, a, b, c, p, rfl, ht, hp, q⟩ := h
  refine ⟨_, (pss_one (ps_ret (pe_cmpR op_lt (pe_c C_reach (hr.mono (by decide)) (by rfl) (pa_cons (pv 0) (pa_cons (pv 1) pa_nil))) (pe_ix ix_tup (pv 0) pe_int (fun _ _ => rfl)) (nomark _)))), ?_⟩
  refine ⟨_, rfl, _, rfl, t, y, (a, b), p, [.int c], rfl, ht, hp, ?_⟩
  exact ⟨_, rfl, t, _, _, _, rfl, rfl, ht, rfl, _, _, rfl, rfl, q⟩
inductive sp_lover (K : PySem.W.Frag) (vs : List V) (H : Hp) (Q : VK) (x_3 : XK) : Prop where
  | mk (t : Addr) (y : V) (a b c : Int) (p : Hull.P) (h_0 : vs = [.ref t, y]) (h_1 : SqT K H t [.int a, .int b, .int c]) (h_2 : Sp K H y p) (h_3 : Q (.int (dot (a, b) p - c)) H)
theorem ok_lover (F : Fun K "_law_over" "_law_over" s__law_over f fd) : FnOk P w K mg base CX0 1 f fd ["_law_fence_here", "_law_spot_here"] (sp_lover K) := by
  refine F.ok sc__law_over (fun vs H Q E h => ?_) (fun cdv A outer s H vs Q E hr h => ?_)
  · obtain ⟨t, y, a, b, c, p, rfl, _⟩ := h
    rfl
  obtain ⟨t, y, a, b, c, p, rfl, ta, ⟨hb, hb1, hb2⟩, q⟩ := h
  obtain ⟨y, rfl, tb⟩ := hb.spot
  refine ⟨_, (pss_one (ps_ret (pe_op op_sub (pe_op op_add (pe_op op_mul (pe_ix ix_tup (pv 0) pe_int (fun _ _ => rfl)) (pe_ix ix_tup (pv 1) pe_int (fun _ _ => rfl))) (pe_op op_mul (pe_ix ix_tup (pv 0) pe_int (fun _ _ => rfl)) (pe_ix ix_tup (pv 1) pe_int (fun _ _ => rfl)))) (pe_ix ix_tup (pv 0) pe_int (fun _ _ => rfl))))), ?_⟩
  refine ⟨_, rfl, t, _, _, _, rfl, rfl, ta, rfl, _, rfl, y, _, _, _, rfl, rfl, tb, rfl, _, _, rfl, rfl, .inr ⟨by omega, by omega⟩, ?_⟩
  refine ⟨_, rfl, t, _, _, _, rfl, rfl, ta, rfl, _, rfl, y, _, _, _, rfl, rfl, tb, rfl, _, _, rfl, rfl, .inr ⟨by omega, by omega⟩, _, _, rfl, rfl, ?_⟩
  exact ⟨_, rfl, t, _, _, _, rfl, rfl, ta, rfl, _, _, rfl, rfl, q⟩
end
end K6a
set_option Elab.async false
set_option linter.all false
set_option maxRecDepth 100000
set_option maxHeartbeats 4000000
namespace K6a
open PySem L2 Hull SortM SepM
seal L2.PE L2.PT L2.PW L2.PA L2.PS L2.PSs L2.PG L2.PGs L2.PF L2.PI L2.PO
section
variable {P : Program} {w : World} {K : PySem.W.Frag} {mg : Str → Option Value} {base : Heap} {f : Addr} {fd : FuncData}
theorem mk_n {a W : Int} (w0 : 0 < W) (a0 : 0 < a) (aw : a ≤ 100000000) : 1 ≤ (K9.mk a W).1 ∧ (K9.mk a W).1 ≤ 100000000 := by
  have h1 := K9.mk_abs (B := 100000000) w0 (show -100000000 ≤ a by omega) aw
  have p1 := K9.mk_pos (a := a) w0
  have p2 := K9.mk_same (a := a) w0
  have : 0 < (K9.mk a W).1 * W := by rw [p2]; exact Int.mul_pos a0 (by omega)
  have := Int.pos_of_mul_pos_left this (by omega)
  omega
theorem amt_le {h : List Hull.P} {L : List (Nat × Int)} {W : Int} (m : Cut.MxA h L W) : ∀ x ∈ L, x.2 ≤ 100000000 := by
  have hs := m.sum
  have hp := m.pos
  have hb := m.bd
  have aux : ∀ L : List (Nat × Int), (∀ x ∈ L, 0 < x.2) → 0 ≤ Cut.sumA L (fun _ => 1) ∧ ∀ x ∈ L, x.2 ≤ Cut.sumA L (fun _ => 1) := by
    intro L
    induction L with
    | nil => intro _; exact ⟨Int.le_refl _, fun x hx => absurd hx (by simp)⟩
    | cons y L ih =>
      intro hL
      obtain ⟨i1, i2⟩ := ih fun x hx => hL x (by simp [hx])
      have h0 := hL y (by simp)
      refine ⟨by show 0 ≤ y.2 * 1 + Cut.sumA L (fun _ => 1); omega, fun x hx => ?_⟩
      show x.2 ≤ y.2 * 1 + Cut.sumA L (fun _ => 1)
      rcases List.mem_cons.mp hx with rfl | hx
      · omega
      · have := i2 x hx; omega
  intro x hx
  have := (aux L hp).2 x hx
  omega
end
end K6a
set_option Elab.async false
set_option linter.all false
set_option maxRecDepth 100000
set_option maxHeartbeats 4000000
namespace K6a
open PySem L2 Hull SortM SepM
seal L2.PE L2.PT L2.PW L2.PA L2.PS L2.PSs L2.PG L2.PGs L2.PF L2.PI L2.PO
section
variable {P : Program} {w : World} {K : PySem.W.Frag} {mg : Str → Option Value} {base : Heap} {f : Addr} {fd : FuncData}
theorem nz_iff {a : Int} : (!decide (V.int a = V.int 0)) = true ↔ ¬ a = 0 := by simp
inductive sp_isfenceG (K : PySem.W.Frag) (vs : List V) (H : Hp) (Q : VK) (x_3 : XK) : Prop where
  | mk (t : Addr) (a b c : Int) (h_0 : vs = [.ref t]) (h_1 : SqT K H t [.int a, .int b, .int c]) (h_3 : ∀ r H', Same H H' → (r = true ↔ ¬ (a = 0 ∧ b = 0)) → Q (.bl r) H')
theorem ok_isfenceG (B : Bl mg) (C_is_number : Cal P w K mg base 1 "is_number" sp_num) (F : Fun K "is_fence" "is_fence" s_is_fence f fd) : FnOk P w K mg base CX0 2 f fd ["fence"] (sp_isfenceG K) := by
  refine F.ok sc_is_fence (fun vs H Q E h => ?_) (fun cdv A outer s H vs Q E hr h => ?_)
  · obtain ⟨t, a, b, c, rfl, _⟩ := h
    rfl
  obtain ⟨t, a, b, c, rfl, ht, q⟩ := h
  refine ⟨_, (pss_cons (ps_if (PW.pt (pw_or (pt_not (pt_val (pe_callB call_isSeq (by rfl) B.isinstance PySem.L3.boot_isinstance (pa_cons (pv 0) (pa_cons (pe_bltn (v := .ty "tuple") (by rfl) B.tuple PySem.L3.boot_tuple rfl) pa_nil))))) (pw_or (pt_cmpR op_ne (pe_callB call_len_seq (by rfl) B.len PySem.L3.boot_len (pa_cons (pv 0) pa_nil)) pe_int (nomark _)) (pw_or1 (pt_not (pt_val (pe_callB (call_all rfl) (by rfl) B.all PySem.L3.boot_all (pa_cons (pe_comp (Nc := ["part"]) (fi := [none]) (comp_sc rfl rfl rfl) rfl (comp_from_go rfl) (pi_tup (pv 0)) (fun _ _ _ _ => ⟨(pg_name (i := 0) (show (["part"] : List Str).Nodup by decide +kernel) rfl (Or.inl rfl)), pf_nil, (pe_c C_is_number (hr.mono (by decide)) (by rfl) (pa_cons (pv 0) pa_nil))⟩)) pa_nil)))))))) (pss_one (ps_ret pe_bl)) pss_nil)
    (pss_one (ps_ret (pe_or (pe_cmpR op_ne (pe_ix ix_tup (pv 0) pe_int (fun _ _ => rfl)) pe_int (nomark _)) (pe_one (pe_cmpR op_ne (pe_ix ix_tup (pv 0) pe_int (fun _ _ => rfl)) pe_int (nomark _))))))), ?_⟩
  refine ⟨_, rfl, t, _, "tuple", true, rfl, .inl ⟨ht, rfl⟩, _, rfl, iteF ?_⟩
  refine ⟨_, rfl, t, _, rfl, .inr ht, rfl, _, rfl, iteF ?_⟩
  refine ⟨_, rfl, t, rfl, ⟨_, ht⟩, fun _ _ _ _ l hl => ?_⟩
  refine comp_by 3 (by show 3 ≤ sizeLine; decide) (fun i ys σ' Hc => Same H Hc ∧ Hc l = some (.lst ys) ∧ ys = List.replicate i (V.bl true) ∧ σ'.length = 1) ?_ (fun i ys σ' Hc ⟨_, e, y, _⟩ => ⟨e, by rw [y]; simp⟩) ?_ ?_
  · exact ⟨same_new hl _, upd_same, rfl, rfl⟩
  · rintro i ys σ' Hc hi ⟨e, el, rfl, hσ⟩
    have ht' := e.seqT ht
    refine ⟨⟨_, [V.int a, V.int b, V.int c][i], ht', by simp⟩, fun x H' y Kt Kf k1 _ => ?_⟩
    obtain ⟨rfl, hx⟩ := y
    obtain ⟨z, rfl⟩ := three_at (hx _ ht')
    obtain ⟨c0, rfl⟩ : ∃ c, σ' = [c] := List.length_eq_one_iff.mp hσ
    simp only [gName, tYes, ↓reduceIte]
    refine ⟨_, rfl, z, rfl, ?_⟩
    exact k1 _ _ _ el ⟨same_upd hl e, upd_same, by rw [List.replicate_succ'], rfl⟩
  rintro ys σ' Hc ⟨e, el, rfl, _⟩
  refine ⟨⟨_, e.seqT ht, Nat.le_refl _⟩, l, [true, true, true], rfl, SqL.of el, _, rfl, iteF ?_⟩
  have ht' := e.seqT ht
  refine ⟨_, rfl, t, _, _, _, rfl, rfl, ht', rfl, rfl, _, rfl, ite2 (fun c1 => ?_) (fun c1 => ?_)⟩
  · exact q _ _ e ⟨fun _ z => nz_iff.mp c1 z.1, fun _ => rfl⟩
  have a0 : a = 0 := by simpa using c1
  refine ⟨_, rfl, t, _, _, _, rfl, rfl, ht', rfl, rfl, ?_⟩
  exact q _ _ e ⟨fun z y => nz_iff.mp z y.2, fun z => nz_iff.mpr fun y => z ⟨a0, y⟩⟩
theorem all_map {f : Hull.P → Bool} (h : List Hull.P) : (h.map f).all id = true ↔ ∀ p ∈ h, f p = true := by simp
def ShA (h : List Hull.P) (s : Hull.P) (a b c : Int) : Prop := ¬ (a = 0 ∧ b = 0) ∧ c < dot (a, b) s ∧ ∀ p ∈ h, ¬ c < dot (a, b) p
def ShP (one other : List Hull.P) (a b c : Int) : Prop := ¬ (a = 0 ∧ b = 0) ∧ (∀ p ∈ one, dot (a, b) p < c) ∧ ∀ p ∈ other, c < dot (a, b) p
inductive sp_showsAG (K : PySem.W.Frag) (C : Addr) (vs : List V) (H : Hp) (Q : VK) (x_3 : XK) : Prop where
  | mk (m dx t : Addr) (x y : V) (h : List Hull.P) (s : Hull.P) (a b c : Int) (h_0 : vs = [.ref m, x, y]) (h_1 : H m = some (.ins C dx (fld1 "fence" t))) (h_2 : H t = some (.tup [.int a, .int b, .int c])) (h_4 : Hd K H x h) (h_5 : Sp K H y s) (h_6 : ∀ r H', Same H H' → (r = true ↔ ShA h s a b c) → Q (.bl r) H')
theorem ok_showsAG {c_Apart : Addr} (B : Bl mg) (T_Apart : Txt_Apart K mg c_Apart) (C_is_fence : Cal P w K mg base 2 "is_fence" (sp_isfenceG K)) (C_is_beyond : Cal P w K mg base 2 "is_beyond" (sp_beyond K)) (F : Fun K "shows" "Apart.shows" s_Apart_shows f fd) : FnOk P w K mg base CX0 3 f fd ["self", "herd", "spot"] (sp_showsAG K c_Apart) := by
  refine F.ok sc_Apart_shows (fun vs H Q E h => ?_) (fun cdv A outer s H vs Q E hr h => ?_)
  · obtain ⟨m, dx, t, x, y, h, s, a, b, c, rfl, _⟩ := h
    rfl
  obtain ⟨m, dx, t, x, y, h, sp, a, b, c, rfl, hm, ht, hx, hy, q⟩ := h
  have T := T_Apart
  have n1 := fld1_at "fence" t
  refine ⟨_, (pss_cons (ps_if (PW.pt (pw_or (pt_not (pt_val (pe_c C_is_fence (hr.mono (by decide)) (by rfl) (pa_cons (pe_fld (pv 0) rfl) pa_nil)))) (pw_or1 (pt_not (pt_val (pe_c C_is_beyond (hr.mono (by decide)) (by rfl) (pa_cons (pe_fld (pv 0) rfl) (pa_cons (pv 2) pa_nil)))))))) (pss_one (ps_ret pe_bl)) pss_nil)
    (pss_one (ps_ret (pe_callB (call_all rfl) (by rfl) B.all PySem.L3.boot_all (pa_cons (pe_comp (Nc := ["own", "self"]) (fi := [none, some 0]) (comp_sc rfl rfl rfl) rfl (comp_from_go rfl) (pi_list (pv 1)) (fun _ _ _ _ => ⟨(pg_name (i := 0) (show (["own", "self"] : List Str).Nodup by decide +kernel) rfl (Or.inl rfl)), pf_nil, (pe_not (pe_c C_is_beyond (hr.mono (by decide)) (by rfl) (pa_cons (pe_fld (pv 1) rfl) (pa_cons (pv 0) pa_nil))))⟩)) pa_nil))))), ?_⟩
  refine ⟨_, rfl, m, _, dx, _, _, rfl, hm, T.cl, T.nF, n1, t, a, b, c, rfl, SqT.of ht, fun r1 H1 e1 i1 => ?_⟩
  cases r1 with
  | false => exact ⟨_, rfl, iteT (q _ _ e1 ⟨fun z => (by cases z), fun z => i1.mpr z.1⟩)⟩
  | true =>
  refine ⟨_, rfl, iteF ?_⟩
  refine ⟨_, rfl, m, _, dx, _, _, rfl, e1 _ _ hm, T.cl, T.nF, n1, _, rfl, t, y, a, b, c, sp, rfl, SqT.of (e1 _ _ ht), hy.same e1, ?_⟩
  by_cases c1 : c < dot (a, b) sp
  case neg =>
    rw [decide_eq_false c1]
    exact ⟨_, rfl, iteT (q _ _ e1 ⟨fun z => (by cases z), fun z => absurd z.2.1 c1⟩)⟩
  rw [decide_eq_true c1]
  refine ⟨_, rfl, iteF ?_⟩
  obtain ⟨o1, y1, rfl, h1, d1, b1, l1, l8⟩ := id hx
  have hz : y1.length = h.length := by have := d1.length; rwa [List.length_map] at this
  refine ⟨_, rfl, o1, rfl, ⟨_, e1.seq h1⟩, fun _ _ _ _ l hl => ?_⟩
  refine comp_by y1.length (by rw [sizeLine_eq]; omega) (fun i zs σ' Hc => Same H1 Hc ∧ Hc l = some (.lst zs) ∧ zs = ((h.take i).map fun p => !decide (c < dot (a, b) p)).map V.bl ∧ ∃ c0, σ' = [c0, some (.ref m)]) ?_ (fun i zs σ' Hc ⟨_, e, y, _⟩ => ⟨e, by rw [y, List.length_map, List.length_map, List.length_take]; omega⟩) ?_ ?_
  · exact ⟨same_new hl _, upd_same, rfl, _, rfl⟩
  · rintro i zs σ' Hc hi ⟨e, el, rfl, c0, rfl⟩
    have e12 := e1.trans e
    refine ⟨⟨_, y1[i], e12.seq h1, by simp [hi]⟩, fun x H' y Kt Kf k1 _ => ?_⟩
    obtain ⟨rfl, hx⟩ := y
    have hx' := hx _ (e12.seq h1)
    obtain ⟨d, hd1, hd2⟩ := d1.get' hx'
    rw [List.getElem?_map] at hd1
    obtain ⟨p, hp, rfl⟩ := Option.map_eq_some_iff.mp hd1
    have hpm := List.mem_of_getElem? hp
    simp only [gName, tYes, ↓reduceIte]
    refine ⟨_, rfl, m, _, dx, _, _, rfl, e12 _ _ hm, T.cl, T.nF, n1, _, rfl, t, x, a, b, c, p, rfl, SqT.of (e12 _ _ ht), ⟨e12.dn hd2, b1 p hpm⟩, ?_⟩
    refine ⟨_, rfl, ?_⟩
    exact k1 _ _ _ el ⟨same_upd hl e, upd_same, by rw [take_map _ hp, List.map_append]; rfl, _, rfl⟩
  · rintro zs σ' Hc ⟨e, el, rfl, _⟩
    rw [hz, List.take_length] at el
    refine ⟨⟨_, (e1.trans e).seq h1, Nat.le_refl _⟩, l, _, rfl, SqL.of el, ?_⟩
    refine q _ _ (e1.trans e) ?_
    rw [all_map]
    exact ⟨fun z => ⟨i1.mp rfl, c1, fun p hp => by simpa using z p hp⟩, fun z p hp => by simpa using z.2.2 p hp⟩
end
end K6a
set_option Elab.async false
set_option linter.all false
set_option maxRecDepth 100000
set_option maxHeartbeats 4000000
namespace K6a
open PySem L2 Hull SortM SepM
seal L2.PE L2.PT L2.PW L2.PA L2.PS L2.PSs L2.PG L2.PGs L2.PF L2.PI L2.PO
section
variable {P : Program} {w : World} {K : PySem.W.Frag} {mg : Str → Option Value} {base : Heap} {f : Addr} {fd : FuncData}
inductive sp_showsPG (K : PySem.W.Frag) (C : Addr) (vs : List V) (H : Hp) (Q : VK) (x_3 : XK) : Prop where
  | mk (m dx t : Addr) (x y : V) (one other : List Hull.P) (a b c : Int) (h_0 : vs = [.ref m, x, y]) (h_1 : H m = some (.ins C dx (fld1 "fence" t))) (h_2 : H t = some (.tup [.int a, .int b, .int c])) (h_4 : Hd K H x one) (h_5 : Hd K H y other) (h_6 : ∀ r H', Same H H' → (r = true ↔ ShP one other a b c) → Q (.bl r) H')
theorem ok_showsPG {c_Parted : Addr} (B : Bl mg) (T_Parted : Txt_Parted K mg c_Parted) (C_is_fence : Cal P w K mg base 2 "is_fence" (sp_isfenceG K)) (C_is_beneath : Cal P w K mg base 2 "is_beneath" (sp_beneath K)) (C_is_beyond : Cal P w K mg base 2 "is_beyond" (sp_beyond K)) (F : Fun K "shows" "Parted.shows" s_Parted_shows f fd) : FnOk P w K mg base CX0 3 f fd ["self", "one", "other"] (sp_showsPG K c_Parted) := by
  refine F.ok sc_Parted_shows (fun vs H Q E h => ?_) (fun cdv A outer s H vs Q E hr h => ?_)
  · obtain ⟨m, dx, t, x, y, one, other, a, b, c, rfl, _⟩ := h
    rfl
  obtain ⟨m, dx, t, x, y, one, other, a, b, c, rfl, hm, ht, hx, hy, q⟩ := h
  have T := T_Parted
  have n1 := fld1_at "fence" t
  refine ⟨_, (pss_cons (ps_if (PW.pt (pw_or (pt_not (pt_val (pe_c C_is_fence (hr.mono (by decide)) (by rfl) (pa_cons (pe_fld (pv 0) rfl) pa_nil)))) (pw_or1 (pt_not (pt_val (pe_callB (call_all rfl) (by rfl) B.all PySem.L3.boot_all (pa_cons (pe_comp (Nc := ["spot", "self"]) (fi := [none, some 0]) (comp_sc rfl rfl rfl) rfl (comp_from_go rfl) (pi_list (pv 1)) (fun _ _ _ _ => ⟨(pg_name (i := 0) (show (["spot", "self"] : List Str).Nodup by decide +kernel) rfl (Or.inl rfl)), pf_nil, (pe_c C_is_beneath (hr.mono (by decide)) (by rfl) (pa_cons (pe_fld (pv 1) rfl) (pa_cons (pv 0) pa_nil)))⟩)) pa_nil))))))) (pss_one (ps_ret pe_bl)) pss_nil)
    (pss_one (ps_ret (pe_callB (call_all rfl) (by rfl) B.all PySem.L3.boot_all (pa_cons (pe_comp (Nc := ["spot", "self"]) (fi := [none, some 0]) (comp_sc rfl rfl rfl) rfl (comp_from_go rfl) (pi_list (pv 2)) (fun _ _ _ _ => ⟨(pg_name (i := 0) (show (["spot", "self"] : List Str).Nodup by decide +kernel) rfl (Or.inl rfl)), pf_nil, (pe_c C_is_beyond (hr.mono (by decide)) (by rfl) (pa_cons (pe_fld (pv 1) rfl) (pa_cons (pv 0) pa_nil)))⟩)) pa_nil))))), ?_⟩
  refine ⟨_, rfl, m, _, dx, _, _, rfl, hm, T.cl, T.nF, n1, t, a, b, c, rfl, SqT.of ht, fun r1 H1 e1 i1 => ?_⟩
  cases r1 with
  | false => exact ⟨_, rfl, iteT (q _ _ e1 ⟨fun z => (by cases z), fun z => i1.mpr z.1⟩)⟩
  | true =>
  refine ⟨_, rfl, iteF ?_⟩
  obtain ⟨o1, y1, rfl, h1, d1, b1, l1, l8⟩ := id hx
  have hz : y1.length = one.length := by have := d1.length; rwa [List.length_map] at this
  refine ⟨_, rfl, o1, rfl, ⟨_, e1.seq h1⟩, fun _ _ _ _ l hl => ?_⟩
  refine comp_by y1.length (by rw [sizeLine_eq]; omega) (fun i zs σ' Hc => Same H1 Hc ∧ Hc l = some (.lst zs) ∧ zs = ((one.take i).map fun p => decide (dot (a, b) p < c)).map V.bl ∧ ∃ c0, σ' = [c0, some (.ref m)]) ?_ (fun i zs σ' Hc ⟨_, e, y, _⟩ => ⟨e, by rw [y, List.length_map, List.length_map, List.length_take]; omega⟩) ?_ ?_
  · exact ⟨same_new hl _, upd_same, rfl, _, rfl⟩
  · rintro i zs σ' Hc hi ⟨e, el, rfl, c0, rfl⟩
    have e12 := e1.trans e
    refine ⟨⟨_, y1[i], e12.seq h1, by simp [hi]⟩, fun x H' y Kt Kf k1 _ => ?_⟩
    obtain ⟨rfl, hx⟩ := y
    have hx' := hx _ (e12.seq h1)
    obtain ⟨d, hd1, hd2⟩ := d1.get' hx'
    rw [List.getElem?_map] at hd1
    obtain ⟨p, hp, rfl⟩ := Option.map_eq_some_iff.mp hd1
    have hpm := List.mem_of_getElem? hp
    simp only [gName, tYes, ↓reduceIte]
    refine ⟨_, rfl, m, _, dx, _, _, rfl, e12 _ _ hm, T.cl, T.nF, n1, _, rfl, t, x, a, b, c, p, rfl, SqT.of (e12 _ _ ht), ⟨e12.dn hd2, b1 p hpm⟩, ?_⟩
    exact k1 _ _ _ el ⟨same_upd hl e, upd_same, by rw [take_map _ hp, List.map_append]; rfl, _, rfl⟩
  rintro zs σ' H2 ⟨e2, el, rfl, _⟩
  have e12 := e1.trans e2
  rw [hz, List.take_length] at el
  refine ⟨⟨_, e12.seq h1, Nat.le_refl _⟩, l, _, rfl, SqL.of el, ?_⟩
  have j1 := all_map (f := fun p => decide (dot (a, b) p < c)) one
  generalize (one.map fun p => decide (dot (a, b) p < c)).all id = r2 at j1 ⊢
  cases r2 with
  | false => exact ⟨_, rfl, iteT (q _ _ e12 ⟨fun z => (by cases z), fun z => j1.mpr fun p hp => decide_eq_true (z.2.1 p hp)⟩)⟩
  | true =>
  refine ⟨_, rfl, iteF ?_⟩
  obtain ⟨o2, y2, rfl, h2, d2, b2, l2, l28⟩ := id hy
  have hz2 : y2.length = other.length := by have := d2.length; rwa [List.length_map] at this
  refine ⟨_, rfl, o2, rfl, ⟨_, e12.seq h2⟩, fun _ _ _ _ l' hl' => ?_⟩
  refine comp_by y2.length (by rw [sizeLine_eq]; omega) (fun i zs σ' Hc => Same H2 Hc ∧ Hc l' = some (.lst zs) ∧ zs = ((other.take i).map fun p => decide (c < dot (a, b) p)).map V.bl ∧ ∃ c0, σ' = [c0, some (.ref m)]) ?_ (fun i zs σ' Hc ⟨_, e, y, _⟩ => ⟨e, by rw [y, List.length_map, List.length_map, List.length_take]; omega⟩) ?_ ?_
  · exact ⟨same_new hl' _, upd_same, rfl, _, rfl⟩
  · rintro i zs σ' Hc hi ⟨e, el, rfl, c0, rfl⟩
    have e13 := e12.trans e
    refine ⟨⟨_, y2[i], e13.seq h2, by simp [hi]⟩, fun x H' y Kt Kf k1 _ => ?_⟩
    obtain ⟨rfl, hx⟩ := y
    have hx' := hx _ (e13.seq h2)
    obtain ⟨d, hd1, hd2⟩ := d2.get' hx'
    rw [List.getElem?_map] at hd1
    obtain ⟨p, hp, rfl⟩ := Option.map_eq_some_iff.mp hd1
    have hpm := List.mem_of_getElem? hp
    simp only [gName, tYes, ↓reduceIte]
    refine ⟨_, rfl, m, _, dx, _, _, rfl, e13 _ _ hm, T.cl, T.nF, n1, _, rfl, t, x, a, b, c, p, rfl, SqT.of (e13 _ _ ht), ⟨e13.dn hd2, b2 p hpm⟩, ?_⟩
    exact k1 _ _ _ el ⟨same_upd hl' e, upd_same, by rw [take_map _ hp, List.map_append]; rfl, _, rfl⟩
  · rintro zs σ' Hc ⟨e, el, rfl, _⟩
    rw [hz2, List.take_length] at el
    refine ⟨⟨_, (e12.trans e).seq h2, Nat.le_refl _⟩, l', _, rfl, SqL.of el, ?_⟩
    refine q _ _ (e12.trans e) ?_
    rw [all_map]
    exact ⟨fun z => ⟨i1.mp rfl, fun p hp => of_decide_eq_true (j1.mp rfl p hp), fun p hp => of_decide_eq_true (z p hp)⟩, fun z p hp => decide_eq_true (z.2.2 p hp)⟩
end
end K6a
set_option Elab.async false
set_option linter.all false
set_option maxRecDepth 100000
set_option maxHeartbeats 4000000
namespace K6a
open PySem L2 Hull SortM SepM
seal L2.PE L2.PT L2.PW L2.PA L2.PS L2.PSs L2.PG L2.PGs L2.PF L2.PI L2.PO
section
variable {P : Program} {w : World} {K : PySem.W.Frag} {mg : Str → Option Value} {base : Heap} {f : Addr} {fd : FuncData}
theorem showsM_iff {h : List Hull.P} {s : Hull.P} {L : List G6.GP} (w : ∀ x ∈ L, G6.WOk x.2) (o : G6.Okk h.length L ∧ G6.Tot1 L) : (decide (G6.totF (crd (·.1) h L) = (s.1, 1)) && decide (G6.totF (crd (·.2) h L) = (s.2, 1))) = true ↔ G6.ShowsM h s L := by
  obtain ⟨c1, p⟩ := crd_np (f := (·.1)) (h := h) w
  obtain ⟨c2, _⟩ := crd_np (f := (·.2)) (h := h) w
  rw [Bool.and_eq_true, decide_eq_true_iff, decide_eq_true_iff, c1, c2, G6.mk_int_iff p, G6.mk_int_iff p]
  exact ⟨fun z => ⟨o.1, o.2, z.1, z.2⟩, fun z => ⟨z.2.2.1, z.2.2.2⟩⟩
theorem showsE_iff {h k : List Hull.P} {L M : List G6.GP} (w : ∀ x ∈ L, G6.WOk x.2) (v : ∀ x ∈ M, G6.WOk x.2) (o : G6.Okk h.length L ∧ G6.Tot1 L) (o' : G6.Okk k.length M ∧ G6.Tot1 M) : (decide (G6.totF (crd (·.1) h L) = G6.totF (crd (·.1) k M)) && decide (G6.totF (crd (·.2) h L) = G6.totF (crd (·.2) k M))) = true ↔ G6.ShowsE h k L M := by
  obtain ⟨c1, p⟩ := crd_np (f := (·.1)) (h := h) w
  obtain ⟨c2, _⟩ := crd_np (f := (·.2)) (h := h) w
  obtain ⟨c3, p'⟩ := crd_np (f := (·.1)) (h := k) v
  obtain ⟨c4, _⟩ := crd_np (f := (·.2)) (h := k) v
  rw [Bool.and_eq_true, decide_eq_true_iff, decide_eq_true_iff, c1, c2, c3, c4, G6.mk_iff p p', G6.mk_iff p p']
  exact ⟨fun z => ⟨o, o', z.1, z.2⟩, fun z => ⟨z.2.2.1, z.2.2.2⟩⟩
inductive sp_showsMG (K : PySem.W.Frag) (C : Addr) (vs : List V) (H : Hp) (Q : VK) (x_3 : XK) : Prop where
  | mk (m dx a : Addr) (x y : V) (h : List Hull.P) (s : Hull.P) (L : List G6.GP) (h_0 : vs = [.ref m, x, y]) (h_1 : H m = some (.ins C dx (fld1 "parts" a))) (h_2 : PG K H a L) (h_4 : Hd K H x h) (h_5 : Sp K H y s) (h_6 : ∀ r H', Same H H' → (r = true ↔ G6.ShowsM h s L) → Q (.bl r) H')
theorem ok_showsMG {c_Mixed : Addr} (T_Mixed : Txt_Mixed K mg c_Mixed) (C_is_mixture : Cal P w K mg base 5 "is_mixture" (sp_ismixG K)) (C_point : Cal P w K mg base 5 "point" (sp_pointG K)) (F : Fun K "shows" "Mixed.shows" s_Mixed_shows f fd) : FnOk P w K mg base CX0 6 f fd ["self", "herd", "spot"] (sp_showsMG K c_Mixed) := by
  refine F.ok sc_Mixed_shows (fun vs H Q E h => ?_) (fun cdv A outer s H vs Q E hr h => ?_)
  · obtain ⟨m, dx, a, x, y, h, s, L, rfl, _⟩ := h
    rfl
  obtain ⟨m, dx, a, x, y, h, sp, L, rfl, hm, M, hx, hy, q⟩ := h
  have T := T_Mixed
  have hu := hr.units
  have n1 := fld1_at "parts" a
  refine ⟨_, (pss_one (ps_ret (pe_and (pe_c C_is_mixture (hr.mono (by decide)) (by rfl) (pa_cons (pe_fld (pv 0) rfl) (pa_cons (pv 1) pa_nil))) (pe_one (pe_cmpR (op_eqD hu) (pe_c C_point (hr.mono (by decide)) (by rfl) (pa_cons (pe_fld (pv 0) rfl) (pa_cons (pv 1) pa_nil))) (pe_tup (pa_cons (pe_tup (pa_cons (pe_ix ix_tup (pv 2) pe_int (fun _ _ => rfl)) (pa_cons pe_int pa_nil))) (pa_cons (pe_tup (pa_cons (pe_ix ix_tup (pv 2) pe_int (fun _ _ => rfl)) (pa_cons pe_int pa_nil))) pa_nil))) (nomark _)))))), ?_⟩
  refine ⟨_, rfl, m, _, dx, _, _, rfl, hm, T.cl, T.nF, n1, _, rfl, a, x, h, L, rfl, M, hx, fun r1 H1 e1 i1 => ?_⟩
  cases r1 with
  | false => exact ⟨false, rfl, iteF (q _ _ e1 ⟨fun z => (by cases z), fun z => i1.mpr ⟨z.1, z.2.1⟩⟩)⟩
  | true =>
  have ok := i1.mp rfl
  refine ⟨true, rfl, iteT ?_⟩
  refine ⟨_, rfl, m, _, dx, _, _, rfl, e1 _ _ hm, T.cl, T.nF, n1, _, rfl, a, x, h, L, rfl, M.same e1, hx.same e1, ok.1, fun v H2 e2 dv => ?_⟩
  have e12 := e1.trans e2
  obtain ⟨t, rfl, tt⟩ := (e12.dn hy.1).spot
  refine ⟨_, rfl, t, _, _, _, rfl, rfl, tt, rfl, (by show 2 ≤ sizeLine; decide), fun p1 hp1 => ?_⟩
  have f1 := same_new hp1 (HO.tup [V.int sp.1, V.int 1])
  refine ⟨_, rfl, t, _, _, _, rfl, rfl, f1.seqT tt, rfl, (by show 2 ≤ sizeLine; decide), fun p2 hp2 => ?_⟩
  have f2 := same_new hp2 (HO.tup [V.int sp.2, V.int 1])
  refine ⟨(by show 2 ≤ sizeLine; decide), fun p3 hp3 => ?_⟩
  have f3 := same_new hp3 (HO.tup [V.ref p1, V.ref p2])
  unfold ptG at dv
  have dn1 : Dn K (upd (upd (upd H2 p1 (.tup [V.int sp.1, V.int 1])) p2 (.tup [V.int sp.2, V.int 1])) p3 (.tup [V.ref p1, V.ref p2])) (spotD (sp.1, 1)) (.ref p1) := dn_spot (p := (sp.1, 1)) (f3.seqT (f2.seqT (SqT.of upd_same)))
  have dn2 : Dn K (upd (upd (upd H2 p1 (.tup [V.int sp.1, V.int 1])) p2 (.tup [V.int sp.2, V.int 1])) p3 (.tup [V.ref p1, V.ref p2])) (spotD (sp.2, 1)) (.ref p2) := dn_spot (p := (sp.2, 1)) (f3.seqT (SqT.of upd_same))
  refine ⟨_, _, (f1.trans (f2.trans f3)).dn dv, dn_tup (SqT.of upd_same) (dns_cons dn1 (dns_cons dn2 dns_nil)), pt_shaped _ _, pt_shaped _ _, ?_⟩
  rw [if_neg (by decide), pt_eqv2]
  exact q _ _ (e12.trans (f1.trans (f2.trans f3))) (showsM_iff M.w ok)
inductive sp_showsEG (K : PySem.W.Frag) (C : Addr) (vs : List V) (H : Hp) (Q : VK) (x_3 : XK) : Prop where
  | mk (m dx a b : Addr) (x y : V) (h k : List Hull.P) (L M : List G6.GP) (h_0 : vs = [.ref m, x, y]) (h_1 : H m = some (.ins C dx (mflds a b))) (h_2 : PG K H a L) (h_3 : PG K H b M) (h_4 : Hd K H x h) (h_5 : Hd K H y k) (h_6 : ∀ r H', Same H H' → (r = true ↔ G6.ShowsE h k L M) → Q (.bl r) H')
theorem ok_showsEG {c_Meeting : Addr} (T_Meeting : Txt_Meeting K mg c_Meeting) (C_is_mixture : Cal P w K mg base 5 "is_mixture" (sp_ismixG K)) (C_point : Cal P w K mg base 5 "point" (sp_pointG K)) (F : Fun K "shows" "Meeting.shows" s_Meeting_shows f fd) : FnOk P w K mg base CX0 6 f fd ["self", "one", "other"] (sp_showsEG K c_Meeting) := by
  refine F.ok sc_Meeting_shows (fun vs H Q E h => ?_) (fun cdv A outer s H vs Q E hr h => ?_)
  · obtain ⟨m, dx, a, b, x, y, h, k, L, M, rfl, _⟩ := h
    rfl
  obtain ⟨m, dx, a, b, x, y, h, k, L, M, rfl, hm, L1, M1, hx, hy, q⟩ := h
  have T := T_Meeting
  have hu := hr.units
  have n1 := mflds_first a b
  have n2 := mflds_second a b
  refine ⟨_, (pss_cons (ps_if (PW.pt (pw_or (pt_not (pt_val (pe_c C_is_mixture (hr.mono (by decide)) (by rfl) (pa_cons (pe_fld (pv 0) rfl) (pa_cons (pv 1) pa_nil))))) (pw_or1 (pt_not (pt_val (pe_c C_is_mixture (hr.mono (by decide)) (by rfl) (pa_cons (pe_fld (pv 0) rfl) (pa_cons (pv 2) pa_nil)))))))) (pss_one (ps_ret pe_bl)) pss_nil)
    (pss_one (ps_ret (pe_cmpR (op_eqD hu) (pe_c C_point (hr.mono (by decide)) (by rfl) (pa_cons (pe_fld (pv 0) rfl) (pa_cons (pv 1) pa_nil))) (pe_c C_point (hr.mono (by decide)) (by rfl) (pa_cons (pe_fld (pv 0) rfl) (pa_cons (pv 2) pa_nil))) (nomark _))))), ?_⟩
  refine ⟨_, rfl, m, _, dx, _, _, rfl, hm, T.cl, T.nF, n1, _, rfl, a, x, h, L, rfl, L1, hx, fun r1 H1 e1 i1 => ?_⟩
  cases r1 with
  | false => exact ⟨_, rfl, iteT (q _ _ e1 ⟨fun z => (by cases z), fun z => i1.mpr z.1⟩)⟩
  | true =>
  refine ⟨_, rfl, iteF ?_⟩
  refine ⟨_, rfl, m, _, dx, _, _, rfl, e1 _ _ hm, T.cl, T.nS, n2, _, rfl, b, y, k, M, rfl, M1.same e1, hy.same e1, fun r2 H2 e2 i2 => ?_⟩
  have e12 := e1.trans e2
  cases r2 with
  | false => exact ⟨_, rfl, iteT (q _ _ e12 ⟨fun z => (by cases z), fun z => i2.mpr z.2.1⟩)⟩
  | true =>
  refine ⟨_, rfl, iteF ?_⟩
  have o1 := i1.mp rfl
  have o2 := i2.mp rfl
  refine ⟨_, rfl, m, _, dx, _, _, rfl, e12 _ _ hm, T.cl, T.nF, n1, _, rfl, a, x, h, L, rfl, L1.same e12, hx.same e12, o1.1, fun v1 H3 e3 dv1 => ?_⟩
  have e13 := e12.trans e3
  refine ⟨_, rfl, m, _, dx, _, _, rfl, e13 _ _ hm, T.cl, T.nS, n2, _, rfl, b, y, k, M, rfl, M1.same e13, hy.same e13, o2.1, fun v2 H4 e4 dv2 => ?_⟩
  unfold ptG at dv1 dv2
  refine ⟨_, _, e4.dn dv1, dv2, pt_shaped _ _, pt_shaped _ _, ?_⟩
  rw [if_neg (by decide), pt_eqv2]
  exact q _ _ (e13.trans e4) (showsE_iff L1.w M1.w o1 o2)
end
end K6a
set_option Elab.async false
set_option linter.all false
set_option maxRecDepth 100000
set_option maxHeartbeats 4000000
namespace K6a
open PySem L2 Hull SortM SepM
seal L2.PE L2.PT L2.PW L2.PA L2.PS L2.PSs L2.PG L2.PGs L2.PF L2.PI L2.PO
section
variable {P : Program} {w : World} {K : PySem.W.Frag} {mg : Str → Option Value} {base : Heap} {f : Addr} {fd : FuncData}
structure Up (n : Nat) (M : List G6.GP) (last : Int) : Prop where
  ok : ∀ x ∈ M, 0 ≤ x.1 ∧ x.1 < (n : Int) ∧ 0 < x.2.1
  rise : (M.map (·.1)).Pairwise (· < ·)
  le : ∀ x ∈ M, x.1 ≤ last
  m1 : -1 ≤ last
  at_ : last = -1 ∨ ∃ y ∈ M, y.1 = last
theorem Up.nil {n : Nat} : Up n [] (-1) := ⟨fun _ h => absurd h (by simp), List.Pairwise.nil, fun _ h => absurd h (by simp), by decide, .inl rfl⟩
theorem Up.snoc {n : Nat} {M : List G6.GP} {last : Int} {x : G6.GP} (u : Up n M last) (h1 : last < x.1) (h2 : x.1 < (n : Int)) (h3 : 0 < x.2.1) : Up n (M ++ [x]) x.1 where
  ok := fun y hy => by
    rcases List.mem_append.mp hy with g | g
    · exact u.ok y g
    · rw [List.mem_singleton.mp g]; exact ⟨by have := u.m1; omega, h2, h3⟩
  rise := by
    rw [List.map_append, List.pairwise_append]
    refine ⟨u.rise, by simp, fun a ha b hb => ?_⟩
    obtain ⟨y, hy, rfl⟩ := List.mem_map.mp ha
    obtain ⟨z, hz, rfl⟩ := List.mem_map.mp hb
    rw [List.mem_singleton.mp hz]
    have := u.le y hy
    omega
  le := fun y hy => by
    rcases List.mem_append.mp hy with g | g
    · have := u.le y g; omega
    · rw [List.mem_singleton.mp g]; exact Int.le_refl _
  m1 := by have := u.m1; omega
  at_ := .inr ⟨x, by simp, rfl⟩
theorem Up.due {n : Nat} {L : List G6.GP} {i : Nat} {x : G6.GP} {last : Int} (u : Up n (L.take i) last) (o : G6.Okk n L) (hx : L[i]? = some x) : last < x.1 ∧ x.1 < (n : Int) ∧ 0 < x.2.1 := by
  obtain ⟨h1, h2, h3⟩ := o.2.1 x (List.mem_of_getElem? hx)
  refine ⟨?_, h2, h3⟩
  rcases u.at_ with e | ⟨y, hy, rfl⟩
  · omega
  · obtain ⟨j, hj, hy'⟩ := List.getElem_of_mem hy
    obtain ⟨hi, rfl⟩ := List.getElem?_eq_some_iff.mp hx
    rw [List.getElem_take] at hy'
    rw [List.length_take] at hj
    have := List.pairwise_iff_getElem.mp o.2.2 j i (by rw [List.length_map]; omega) (by rw [List.length_map]; omega) (by omega)
    rw [List.getElem_map, List.getElem_map, hy'] at this
    exact this
theorem u_bd {L : List G6.GP} (w : ∀ x ∈ L, G6.WOk x.2) (l3 : L.length ≤ 3) : 0 < (G6.np (G6.ws L)).2 ∧ (G6.np (G6.ws L)).2 ≤ 2 ^ 80 := by
  have hq : ∀ q ∈ G6.ws L, (0 < q.2 ∧ q.2 ≤ 100000000) ∧ -100000000 ≤ q.1 ∧ q.1 ≤ 100000000 := fun q hq => by
    obtain ⟨x, hx, rfl⟩ := List.mem_map.mp hq
    have := w x hx
    exact ⟨this.1, this.2.2⟩
  refine ⟨G6.np_pos fun q h => (hq q h).1.1, ?_⟩
  have := G6.np_bd (G6.ws L) 0 1 100000000 1 100000000 hq (by decide) (by decide) (by decide) (by decide) (by decide)
  refine Int.le_trans this ?_
  have hl : (G6.ws L).length = L.length := by unfold G6.ws; rw [List.length_map]
  rw [hl]
  match L.length, l3 with
  | 0, _ => decide
  | 1, _ => decide
  | 2, _ => decide
  | 3, _ => decide
theorem shr_bd {U : Int} (u0 : 0 ≤ U) (u1 : U ≤ 2 ^ 80) {g : G6.GP → Int} {C : Int} (hC : 100000000 * 2 ^ 80 * 1000 = C) : ∀ L : List G6.GP, (∀ x ∈ L, G6.WOk x.2 ∧ -1000 ≤ g x ∧ g x ≤ 1000) → -((L.length : Int) * C) ≤ G6.shr U g L ∧ G6.shr U g L ≤ (L.length : Int) * C
  | [], _ => by
    have : G6.shr U g [] = 0 := rfl
    rw [this]; simp
  | x :: L, h => by
    obtain ⟨⟨⟨w1, w2⟩, _, w3, w4⟩, g1, g2⟩ := h x (by simp)
    obtain ⟨i1, i2⟩ := shr_bd u0 u1 hC L fun y hy => h y (by simp [hy])
    have e : G6.shr U g (x :: L) = x.2.1 * (U / x.2.2) * g x + G6.shr U g L := rfl
    have d0 : 0 ≤ U / x.2.2 := Int.ediv_nonneg u0 (by omega)
    have d1 : U / x.2.2 ≤ U := Int.ediv_le_self _ u0
    have m1 := Cut.mul_bd (a := x.2.1) (b := U / x.2.2) (A := 100000000) (B := 2 ^ 80) (by omega) w4 (by omega) (by omega)
    have m2 := Cut.mul_bd (a := x.2.1 * (U / x.2.2)) (b := g x) (A := 100000000 * 2 ^ 80) (B := 1000) m1.1 m1.2 g1 g2
    rw [hC] at m2
    have l1 : ((x :: L).length : Int) * C = (L.length : Int) * C + C := by
      rw [List.length_cons, Int.natCast_add, Int.add_mul]; simp
    rw [e, l1]
    generalize (L.length : Int) * C = D at *
    generalize x.2.1 * (U / x.2.2) * g x = y at *
    omega
theorem shr_bd3 {U : Int} (u0 : 0 ≤ U) (u1 : U ≤ 2 ^ 80) {g : G6.GP → Int} {L : List G6.GP} (l3 : L.length ≤ 3) (h : ∀ x ∈ L, G6.WOk x.2 ∧ -1000 ≤ g x ∧ g x ≤ 1000) : -(2 ^ 200) < G6.shr U g L ∧ G6.shr U g L < 2 ^ 200 := by
  have := shr_bd u0 u1 rfl L h
  have m : (L.length : Int) * (100000000 * 2 ^ 80 * 1000) ≤ 3 * (100000000 * 2 ^ 80 * 1000) := Int.mul_le_mul_of_nonneg_right (by omega) (by decide)
  have n : (3 : Int) * (100000000 * 2 ^ 80 * 1000) < 2 ^ 200 := by decide
  generalize (L.length : Int) * (100000000 * 2 ^ 80 * 1000) = D at *
  generalize (3 : Int) * (100000000 * 2 ^ 80 * 1000) = E at *
  generalize (2 : Int) ^ 200 = G at *
  omega
theorem co_shr (f : Hull.P → Int) (h : List Hull.P) {L : List G6.GP} (w : ∀ x ∈ L, G6.WOk x.2) : G6.shr (G6.np (G6.ws L)).2 (fun x => f (Cut.at_ h x.1.toNat)) L = (G6.np (G6.co f h L)).1 :=
  G6.shr_np _ _ L rfl fun x hx => (w x hx).1.1
theorem one_shr {L : List G6.GP} (w : ∀ x ∈ L, G6.WOk x.2) : G6.shr (G6.np (G6.ws L)).2 (fun _ => 1) L = (G6.np (G6.ws L)).1 := by
  rw [G6.shr_np (fun _ => 1) _ L rfl fun x hx => (w x hx).1.1]
  have e : (L.map fun x : G6.GP => (x.2.1 * 1, x.2.2)) = G6.ws L := by
    unfold G6.ws; exact List.map_congr_left fun x _ => by rw [Int.mul_one]
  show (G6.np (L.map fun x : G6.GP => (x.2.1 * 1, x.2.2))).1 = _
  rw [e]
theorem co_bd (f : Hull.P → Int) {h : List Hull.P} {L : List G6.GP} (w : ∀ x ∈ L, G6.WOk x.2) (o : G6.Okk h.length L) (hf : ∀ p ∈ h, -1000 ≤ f p ∧ f p ≤ 1000) : -(2 ^ 200) < (G6.np (G6.co f h L)).1 ∧ (G6.np (G6.co f h L)).1 < 2 ^ 200 := by
  obtain ⟨u0, u1⟩ := u_bd w o.1
  rw [← co_shr f h w]
  refine shr_bd3 (by omega) u1 o.1 fun x hx => ⟨w x hx, ?_⟩
  obtain ⟨a, b, _⟩ := o.2.1 x hx
  have hlt : x.1.toNat < h.length := by omega
  show -1000 ≤ f (Cut.at_ h x.1.toNat) ∧ f (Cut.at_ h x.1.toNat) ≤ 1000
  rw [at_get hlt]
  exact hf _ (List.getElem_mem hlt)
end
end K6a
set_option Elab.async false
set_option linter.all false
set_option maxRecDepth 100000
set_option maxHeartbeats 4000000
namespace K6a
open PySem L2 Hull SortM SepM
seal L2.PE L2.PT L2.PW L2.PA L2.PS L2.PSs L2.PG L2.PGs L2.PF L2.PI L2.PO
section
variable {P : Program} {w : World} {K : PySem.W.Frag} {mg : Str → Option Value} {base : Heap} {f : Addr} {fd : FuncData}
inductive sp_lpointG (K : PySem.W.Frag) (vs : List V) (H : Hp) (Q : VK) (x_3 : XK) : Prop where
  | mk (x : V) (p : Addr) (h : List Hull.P) (L : List G6.GP) (h_0 : vs = [x, .ref p]) (h_1 : Hd K H x h) (h_2 : PG K H p L) (h_3 : ¬ (G6.Okk h.length L ∧ G6.Tot1 L) → ∀ H', Same H H' → Q .non H')
    (h_4 : G6.Okk h.length L ∧ G6.Tot1 L → ∀ t H', Same H H' → SqT K H' t [.int (G6.np (G6.co (·.1) h L)).1, .int (G6.np (G6.co (·.2) h L)).1, .int (G6.np (G6.ws L)).2] → Q (.ref t) H')
theorem ok_lpointG (B : Bl mg) (F : Fun K "_law_point" "_law_point" s__law_point f fd) : FnOk P w K mg base CX0 1 f fd ["_law_herd_here", "_law_parts"] (sp_lpointG K) := by
  refine F.ok sc__law_point (fun vs H Q E h => ?_) (fun cdv A outer s H vs Q E hr h => ?_)
  · obtain ⟨x, p, h, L, rfl, _⟩ := h
    rfl
  obtain ⟨x, p, h, L, rfl, hx, ⟨⟨zs, hp, dz⟩, hw, l16⟩, qN, qY⟩ := h
  obtain ⟨o1, y1, rfl, h1, d1, b1, l1, l8⟩ := id hx
  have hy : h.length = y1.length := by have := d1.length; rw [List.length_map] at this; omega
  have hz : zs.length = L.length := by have := dz.length; rwa [List.length_map] at this
  refine ⟨_, (pss_cons (ps_if (pt_cmpR op_gt (pe_callB call_len_seq (by rfl) B.len PySem.L3.boot_len (pa_cons (pv 1) pa_nil)) pe_int (nomark _)) (pss_one (ps_ret pe_non)) pss_nil)
    (pss_cons (ps_asg (pe_tup (pa_cons pe_int (pa_cons (pe_un un_neg pe_int) pa_nil))) (pg_tup rfl (pgs_cons (pg_name (i := 2) sc__law_point.nd rfl (Or.inl rfl)) (pgs_cons (pg_name (i := 3) sc__law_point.nd rfl (Or.inl rfl)) pgs_nil))))
    (pss_cons (ps_for PassesOwn.never rfl (pi_list (pv 1)) (pg_tup rfl (pgs_cons (pg_name (i := 4) sc__law_point.nd rfl (Or.inl rfl)) (pgs_cons (pg_name (i := 5) sc__law_point.nd rfl (Or.inl rfl)) pgs_nil))) (pss_cons (ps_if (PW.pt (pw_or (pt_not (pt_chain op_lt op_lt (pv 3) (pv 4) (pe_callB call_len_seq (by rfl) B.len PySem.L3.boot_len (pa_cons (pv 0) pa_nil)))) (pw_or1 (pt_cmpR op_lt (pe_ix ix_tup (pv 5) pe_int (fun _ _ => rfl)) pe_int (nomark _))))) (pss_one (ps_ret pe_non)) pss_nil)
    (pss_one (ps_par (i := 2) (j := 3) rfl sc__law_point.nd rfl rfl (by decide) rfl rfl (pa_cons (pe_op op_mul (pv 2) (pe_ix ix_tup (pv 5) pe_int (fun _ _ => rfl))) (pa_cons (pv 4) pa_nil)) (by with_unfolding_all rfl)))))
    (pss_cons (ps_asg (pe_tup (pa_cons pe_int (pa_cons pe_int (pa_cons pe_int pa_nil)))) (pg_tup rfl (pgs_cons (pg_name (i := 6) sc__law_point.nd rfl (Or.inl rfl)) (pgs_cons (pg_name (i := 7) sc__law_point.nd rfl (Or.inl rfl)) (pgs_cons (pg_name (i := 8) sc__law_point.nd rfl (Or.inl rfl)) pgs_nil)))))
    (pss_cons (ps_for PassesOwn.never rfl (pi_list (pv 1)) (pg_tup rfl (pgs_cons (pg_name (i := 4) sc__law_point.nd rfl (Or.inl rfl)) (pgs_cons (pg_name (i := 5) sc__law_point.nd rfl (Or.inl rfl)) pgs_nil))) (pss_cons (ps_set (i := 9) sc__law_point.nd rfl (Or.inl rfl) (pe_op op_mul (pe_ix ix_tup (pv 5) pe_int (fun _ _ => rfl)) (pe_op op_fdiv (pv 2) (pe_ix ix_tup (pv 5) pe_int (fun _ _ => rfl)))))
    (pss_cons (ps_set (i := 6) sc__law_point.nd rfl (Or.inl rfl) (pe_op op_add (pv 6) (pe_op op_mul (pv 9) (pe_ix ix_tup (pe_ix ix_list (pv 0) (pv 4) (fun _ _ => rfl)) pe_int (fun _ _ => rfl)))))
    (pss_cons (ps_set (i := 7) sc__law_point.nd rfl (Or.inl rfl) (pe_op op_add (pv 7) (pe_op op_mul (pv 9) (pe_ix ix_tup (pe_ix ix_list (pv 0) (pv 4) (fun _ _ => rfl)) pe_int (fun _ _ => rfl)))))
    (pss_one (ps_set (i := 8) sc__law_point.nd rfl (Or.inl rfl) (pe_op op_add (pv 8) (pv 9))))))))
    (pss_one (ps_ret (pe_ifExp (pt_cmpR op_eq (pv 8) (pv 2) (nomark _)) (pe_tup (pa_cons (pv 6) (pa_cons (pv 7) (pa_cons (pv 2) pa_nil)))) pe_non)))))))), ?_⟩
  refine ⟨_, rfl, p, zs, rfl, .inl (SqL.of hp), _, _, rfl, rfl, _, rfl, ite2 (fun c => ?_) (fun c => ?_)⟩
  · have c' : (3 : Int) < ((zs.length : Nat) : Int) := of_decide_eq_true c
    exact qN (fun z => by have := z.1.1; omega) _ (Same.refl _)
  have l3 : L.length ≤ 3 := by
    have c' : ¬ (3 : Int) < ((zs.length : Nat) : Int) := fun z => c (decide_eq_true z)
    omega
  refine ⟨_, rfl, (by show 2 ≤ sizeLine; decide), fun tc htc => ?_⟩
  have ec := same_new htc (HO.tup [V.int 1, V.int (-1)])
  refine ⟨tc, _, rfl, SqT.of upd_same, rfl, _, _, rfl, _, _, rfl, rfl, ?_⟩
  generalize upd H tc (HO.tup [V.int 1, V.int (-1)]) = H0 at *
  have hp0 := ec _ _ hp
  have h10 := ec.seq h1
  refine ⟨_, rfl, p, rfl, ⟨_, SqL.of hp0⟩, ?_⟩
  refine for_list (xs := zs) (fun i σ' H' => ∃ last c4 c5 c6 c7 c8 c9, σ' = [some (.ref o1), some (.ref p), some (.int (G6.np (G6.ws (L.take i))).2), some (.int last), c4, c5, c6, c7, c8, c9] ∧ H' = H0 ∧ Up h.length (L.take i) last) ⟨_, _, _, _, _, _, _, rfl, rfl, Up.nil⟩ (fun i σ' H' _ h => ?_) ?_ ?_
  · obtain ⟨last, c4, c5, c6, c7, c8, c9, rfl, rfl, _⟩ := h
    exact SqL.of hp0
  · rintro i v σ' H1 hv ⟨last, c4, c5, c6, c7, c8, c9, rfl, rfl, up⟩
    obtain ⟨x, hxi, dx⟩ := PG.at dz hv
    have hxm := List.mem_of_getElem? hxi
    obtain ⟨tt, w', rfl, t1, t2⟩ := Dn.gp (ec.dn dx)
    obtain ⟨tw, rfl, t3⟩ := t2.spot
    obtain ⟨⟨w1, w2⟩, _, w3, w4⟩ := hw x hxm
    refine ⟨tt, _, rfl, t1, rfl, _, _, rfl, _, _, rfl, rfl, ?_⟩
    refine ⟨_, rfl, _, rfl, _, _, rfl, rfl, _, rfl, ite2 (fun c1 => ?_) (fun c1 => ?_)⟩
    · have c1' : last < x.1 := of_decide_eq_true c1
      refine ⟨_, rfl, o1, y1, rfl, .inl h10, _, _, rfl, rfl, _, rfl, ?_⟩
      show if (!(decide (x.1 < ((y1.length : Nat) : Int)))) = true then _ else _
      by_cases c2 : x.1 < ((y1.length : Nat) : Int)
      · rw [decide_eq_true c2]
        refine iteF ?_
        refine ⟨_, rfl, tw, _, _, _, rfl, rfl, t3, rfl, _, _, rfl, rfl, _, rfl, ite2 (fun c3 => ?_) (fun c3 => ?_)⟩
        · have c3' : x.2.1 < 1 := of_decide_eq_true c3
          exact qN (fun o => by have := (up.due o.1 hxi).2.2; omega) _ ec
        have c3' : ¬ x.2.1 < 1 := fun z => c3 (decide_eq_true z)
        refine ⟨_, rfl, _, rfl, tw, _, _, _, rfl, rfl, t3, rfl, _, _, rfl, rfl, .inr ⟨by show -(2 ^ 64) < x.2.2; omega, by show x.2.2 < 2 ^ 64; omega⟩, _, rfl, _, _, rfl, ?_⟩
        have et : L.take (i + 1) = L.take i ++ [x] := by rw [List.take_add_one, hxi]; rfl
        have e1 : (G6.np (G6.ws (L.take (i + 1)))).2 = (G6.np (G6.ws (L.take i))).2 * x.2.2 := by
          have : G6.ws (L.take i ++ [x]) = G6.ws (L.take i) ++ [x.2] := by unfold G6.ws; rw [List.map_append]; rfl
          rw [et, this, G6.np_snoc]; rfl
        have up' := up.snoc c1' (by omega) (show 0 < x.2.1 by omega)
        rw [← et] at up'
        rw [e1]
        exact ⟨x.1, _, _, _, _, _, _, rfl, rfl, up'⟩
      · rw [decide_eq_false c2]
        exact iteT (qN (fun o => c2 (by have := (up.due o.1 hxi).2.1; omega)) _ ec)
    · exact ⟨_, rfl, iteT (qN (fun o => c1 (decide_eq_true (up.due o.1 hxi).1)) _ ec)⟩
  rintro σ' H1 ⟨last, c4, c5, c6, c7, c8, c9, rfl, rfl, up⟩
  rw [hz, List.take_length] at up ⊢
  have okk : G6.Okk h.length L := ⟨l3, up.ok, up.rise⟩
  obtain ⟨u0, u1⟩ := u_bd hw l3
  have s1 := co_shr (·.1) h hw
  have s2 := co_shr (·.2) h hw
  have s3 := one_shr hw
  obtain ⟨U, hU⟩ : ∃ U, U = (G6.np (G6.ws L)).2 := ⟨_, rfl⟩
  rw [← hU] at u0 u1 s1 s2 s3 ⊢
  refine ⟨(by show 3 ≤ sizeLine; decide), fun td htd => ?_⟩
  have ed := same_new htd (HO.tup [V.int 0, V.int 0, V.int 0])
  refine ⟨td, _, rfl, SqT.of upd_same, rfl, _, _, rfl, _, _, rfl, _, _, rfl, rfl, ?_⟩
  generalize upd H1 td (HO.tup [V.int 0, V.int 0, V.int 0]) = H2 at *
  have ecd := ec.trans ed
  have hp2 := ed _ _ hp0
  have h12 := ed.seq h10
  refine ⟨_, rfl, p, rfl, ⟨_, SqL.of hp2⟩, ?_⟩
  refine for_list (xs := zs) (fun i σ' H' => ∃ c4 c5 c9, σ' = [some (.ref o1), some (.ref p), some (.int U), some (.int last), c4, c5, some (.int (G6.shr U (fun x => (Cut.at_ h x.1.toNat).1) (L.take i))), some (.int (G6.shr U (fun x => (Cut.at_ h x.1.toNat).2) (L.take i))), some (.int (G6.shr U (fun _ => 1) (L.take i))), c9] ∧ H' = H2) ⟨_, _, _, rfl, rfl⟩ (fun i σ' H' _ h => ?_) ?_ ?_
  · obtain ⟨c4, c5, c9, rfl, rfl⟩ := h
    exact SqL.of hp2
  · rintro i v σ' H3 hv ⟨c4, c5, c9, rfl, rfl⟩
    obtain ⟨x, hxi, dx⟩ := PG.at dz hv
    have hxm := List.mem_of_getElem? hxi
    obtain ⟨tt, w', rfl, t1, t2⟩ := Dn.gp (ecd.dn dx)
    obtain ⟨tw, rfl, t3⟩ := t2.spot
    obtain ⟨⟨w1, w2⟩, _, w3, w4⟩ := hw x hxm
    obtain ⟨a0, a1, _⟩ := okk.2.1 x hxm
    have hlt : x.1.toNat < h.length := by omega
    obtain ⟨u, u1', u2⟩ := d1.get (i := x.1.toNat) (d := spotD h[x.1.toNat]) (by simp [hlt])
    obtain ⟨us, rfl, u3⟩ := u2.spot
    have bs := b1 _ (List.getElem_mem hlt)
    have hat := at_get hlt
    have iat : atI y1 x.1 = some (.ref us) := by have := atI_nat u1'; rwa [Int.toNat_of_nonneg a0] at this
    have u3' := ecd.seqT u3
    refine ⟨tt, _, rfl, t1, rfl, _, _, rfl, _, _, rfl, rfl, ?_⟩
    refine ⟨_, rfl, tw, _, _, _, rfl, rfl, t3, rfl, _, rfl, _, rfl, tw, _, _, _, rfl, rfl, t3, rfl, _, _, rfl, rfl, ⟨by show 0 < x.2.2; omega, by show x.2.2 < 1073741824; omega⟩, _, _, rfl, rfl, .inl ⟨by show -(2 ^ 64) < x.2.1; omega, by show x.2.1 < 2 ^ 64; omega⟩, ?_⟩
    refine ⟨_, rfl, _, rfl, _, rfl, _, rfl, o1, y1, _, _, rfl, rfl, h12, iat, us, _, _, _, rfl, rfl, u3', rfl, _, _, rfl, rfl, .inr ⟨by show -(2 ^ 64) < h[x.1.toNat].1; have := bs.1.1; omega, by show h[x.1.toNat].1 < 2 ^ 64; have := bs.1.2; omega⟩, _, _, rfl, rfl, ?_⟩
    refine ⟨_, rfl, _, rfl, _, rfl, _, rfl, o1, y1, _, _, rfl, rfl, h12, iat, us, _, _, _, rfl, rfl, u3', rfl, _, _, rfl, rfl, .inr ⟨by show -(2 ^ 64) < h[x.1.toNat].2; have := bs.2.1; omega, by show h[x.1.toNat].2 < 2 ^ 64; have := bs.2.2; omega⟩, _, _, rfl, rfl, ?_⟩
    refine ⟨_, rfl, _, rfl, _, _, rfl, rfl, ?_⟩
    have et : L.take (i + 1) = L.take i ++ [x] := by rw [List.take_add_one, hxi]; rfl
    have k1 : G6.shr U (fun x => (Cut.at_ h x.1.toNat).1) (L.take (i + 1)) = G6.shr U (fun x => (Cut.at_ h x.1.toNat).1) (L.take i) + x.2.1 * (U / x.2.2) * h[x.1.toNat].1 := by rw [et, G6.shr_snoc, ← hat]
    have k2 : G6.shr U (fun x => (Cut.at_ h x.1.toNat).2) (L.take (i + 1)) = G6.shr U (fun x => (Cut.at_ h x.1.toNat).2) (L.take i) + x.2.1 * (U / x.2.2) * h[x.1.toNat].2 := by rw [et, G6.shr_snoc, ← hat]
    have k3 : G6.shr U (fun _ => 1) (L.take (i + 1)) = G6.shr U (fun _ => 1) (L.take i) + x.2.1 * (U / x.2.2) := by rw [et, G6.shr_snoc, Int.mul_one]
    rw [k1, k2, k3]
    exact ⟨_, _, _, rfl, rfl⟩
  · rintro σ' H3 ⟨c4, c5, c9, rfl, rfl⟩
    rw [hz, List.take_length, s1, s2, s3]
    refine ⟨_, rfl, _, rfl, rfl, _, rfl, ?_⟩
    refine ite2 (fun c => ?_) (fun c => ?_)
    · have t1 : G6.Tot1 L := by
        have := of_decide_eq_true c
        injection this with e
        unfold G6.Tot1
        rw [e, hU]
      refine ⟨_, rfl, _, rfl, _, rfl, (by show 3 ≤ sizeLine; decide), fun te hte => ?_⟩
      exact qY ⟨okk, t1⟩ te _ (ecd.trans (same_new hte _)) (by rw [← hU]; exact SqT.of upd_same)
    · exact qN (fun z => c (decide_eq_true (by rw [hU]; exact congrArg V.int z.2))) _ ecd
end
end K6a
set_option Elab.async false
set_option linter.all false
set_option maxRecDepth 100000
set_option maxHeartbeats 4000000
namespace K6a
open PySem L2 Hull SortM SepM
seal L2.PE L2.PT L2.PW L2.PA L2.PS L2.PSs L2.PG L2.PGs L2.PF L2.PI L2.PO
section
variable {P : Program} {w : World} {K : PySem.W.Frag} {mg : Str → Option Value} {base : Heap} {f : Addr} {fd : FuncData}
theorem int_inj {a b : Int} (h : decide (V.int a = V.int b) = true) : a = b := by have := of_decide_eq_true h; injection this
inductive sp_alikeG (K : PySem.W.Frag) (vs : List V) (H : Hp) (Q : VK) (x_3 : XK) : Prop where
  | a (v1 v2 : V) (h_0 : vs = [v1, v2]) (h_1 : v1 = .non ∨ v2 = .non) (h_2 : Q (.bl false) H)
  | b (t u : Addr) (F1 S1 U1 F2 S2 U2 : Int) (h_0 : vs = [.ref t, .ref u]) (h_1 : SqT K H t [.int F1, .int S1, .int U1]) (h_2 : SqT K H u [.int F2, .int S2, .int U2]) (h_3 : CMulB F1 U2) (h_4 : CMulB F2 U1) (h_5 : CMulB S1 U2) (h_6 : CMulB S2 U1) (h_7 : ∀ r, (r = true ↔ (F1 * U2 = F2 * U1 ∧ S1 * U2 = S2 * U1)) → Q (.bl r) H)
theorem ok_alikeG (F : Fun K "_law_alike" "_law_alike" s__law_alike f fd) : FnOk P w K mg base CX0 1 f fd ["_law_one_here", "_law_other"] (sp_alikeG K) := by
  refine F.ok sc__law_alike (fun vs H Q E h => ?_) (fun cdv A outer s H vs Q E hr h => ?_)
  · rcases h with ⟨v1, v2, rfl, _⟩ | ⟨t, u, F1, S1, U1, F2, S2, U2, rfl, _⟩ <;> rfl
  refine ⟨_, (pss_cons (ps_if (PW.pt (pw_or (pt_cmpR op_isN (pv 0) pe_non (nomark _)) (pw_or1 (pt_cmpR op_isN (pv 1) pe_non (nomark _))))) (pss_one (ps_ret pe_bl)) pss_nil)
    (pss_one (ps_ret (pe_and (pe_cmpR op_eq (pe_op op_mulB (pe_ix ix_tup (pv 0) pe_int (fun _ _ => rfl)) (pe_ix ix_tup (pv 1) pe_int (fun _ _ => rfl))) (pe_op op_mulB (pe_ix ix_tup (pv 1) pe_int (fun _ _ => rfl)) (pe_ix ix_tup (pv 0) pe_int (fun _ _ => rfl))) (nomark _)) (pe_one (pe_cmpR op_eq (pe_op op_mulB (pe_ix ix_tup (pv 0) pe_int (fun _ _ => rfl)) (pe_ix ix_tup (pv 1) pe_int (fun _ _ => rfl))) (pe_op op_mulB (pe_ix ix_tup (pv 1) pe_int (fun _ _ => rfl)) (pe_ix ix_tup (pv 0) pe_int (fun _ _ => rfl))) (nomark _))))))), ?_⟩
  rcases h with ⟨v1, v2, rfl, hn, q⟩ | ⟨t, u, F1, S1, U1, F2, S2, U2, rfl, h1, h2, c1, c2, c3, c4, q⟩
  · refine ⟨_, rfl, rfl, _, rfl, ite2 (fun _ => q) (fun c => ?_)⟩
    refine ⟨_, rfl, rfl, _, rfl, ite2 (fun _ => q) (fun d => ?_)⟩
    rcases hn with e | e
    · exact absurd (decide_eq_true e) c
    · exact absurd (decide_eq_true e) d
  refine ⟨_, rfl, rfl, _, rfl, ite2 (fun c => absurd (of_decide_eq_true c) (fun z => by cases z)) (fun _ => ?_)⟩
  refine ⟨_, rfl, rfl, _, rfl, ite2 (fun c => absurd (of_decide_eq_true c) (fun z => by cases z)) (fun _ => ?_)⟩
  refine ⟨_, rfl, t, _, _, _, rfl, rfl, h1, rfl, _, rfl, u, _, _, _, rfl, rfl, h2, rfl, _, _, rfl, rfl, c1, _, rfl, u, _, _, _, rfl, rfl, h2, rfl, _, rfl, t, _, _, _, rfl, rfl, h1, rfl, _, _, rfl, rfl, c2, ?_⟩
  refine ⟨rfl, _, rfl, ite2 (fun c => ?_) (fun c => ?_)⟩
  · refine ⟨_, rfl, t, _, _, _, rfl, rfl, h1, rfl, _, rfl, u, _, _, _, rfl, rfl, h2, rfl, _, _, rfl, rfl, c3, _, rfl, u, _, _, _, rfl, rfl, h2, rfl, _, rfl, t, _, _, _, rfl, rfl, h1, rfl, _, _, rfl, rfl, c4, ?_⟩
    refine ⟨rfl, ?_⟩
    exact q _ ⟨fun z => ⟨int_inj c, int_inj z⟩, fun z => decide_eq_true (congrArg V.int z.2)⟩
  · exact q false ⟨fun z => (by cases z), fun z => absurd (decide_eq_true (congrArg V.int z.1)) c⟩
inductive sp_says (vs : List V) (H : Hp) (Q : VK) (x_3 : XK) : Prop where
  | mk (a : Bool) (h_0 : vs = [.bl a, .bl a]) (h_1 : Q (.bl true) H)
theorem ok_says (B : Bl mg) (F : Fun K "_law_says" "_law_says" s__law_says f fd) : FnOk P w K mg base CX0 1 f fd ["_law_told", "_law_due"] sp_says := by
  refine F.ok sc__law_says (fun vs H Q E h => ?_) (fun cdv A outer s H vs Q E hr h => ?_)
  · obtain ⟨a, rfl, _⟩ := h
    rfl
  obtain ⟨a, rfl, q⟩ := h
  refine ⟨_, (pss_one (ps_ret (pe_and (pe_callB call_isinstance (by rfl) B.isinstance PySem.L3.boot_isinstance (pa_cons (pv 0) (pa_cons (pe_bltn (v := .ty "bool") (by rfl) B.bool PySem.L3.boot_bool rfl) pa_nil))) (pe_one (pe_cmpR op_eq (pv 0) (pv 1) (nomark _)))))), ?_⟩
  refine ⟨_, rfl, _, "bool", _, true, rfl, .bl a, rfl, ?_⟩
  refine ⟨true, rfl, ?_⟩
  refine ite2 (fun _ => ?_) (fun h => absurd rfl h)
  refine ⟨_, rfl, _, rfl, rfl, ?_⟩
  rw [decide_eq_true (rfl : V.bl a = V.bl a)]
  exact q
end
end K6a
set_option Elab.async false
set_option linter.all false
set_option maxRecDepth 100000
set_option maxHeartbeats 4000000
namespace K6a
open PySem L2 Hull SortM SepM
seal L2.PE L2.PT L2.PW L2.PA L2.PS L2.PSs L2.PG L2.PGs L2.PF L2.PI L2.PO
section
variable {P : Program} {w : World} {K : PySem.W.Frag} {mg : Str → Option Value} {base : Heap} {f : Addr} {fd : FuncData}
inductive sp_lapart (K : PySem.W.Frag) (vs : List V) (H : Hp) (Q : VK) (x_3 : XK) : Prop where
  | mk (x y : V) (t : Addr) (h : List Hull.P) (s : Hull.P) (a b c : Int) (h_0 : vs = [x, y, .ref t]) (h_1 : H t = some (.tup [.int a, .int b, .int c])) (h_2 : Hd K H x h) (h_3 : Sp K H y s) (h_4 : ∀ r H', Same H H' → (r = true ↔ ShA h s a b c) → Q (.bl r) H')
theorem ok_lapart (B : Bl mg) (C__law_over : Cal P w K mg base 1 "_law_over" (sp_lover K)) (F : Fun K "_law_apart" "_law_apart" s__law_apart f fd) : FnOk P w K mg base CX0 2 f fd ["_law_herd_here", "_law_spot_here", "_law_fence_here"] (sp_lapart K) := by
  refine F.ok sc__law_apart (fun vs H Q E h => ?_) (fun cdv A outer s H vs Q E hr h => ?_)
  · obtain ⟨x, y, t, h, s, a, b, c, rfl, _⟩ := h
    rfl
  obtain ⟨x, y, t, h, sp, a, b, c, rfl, ht, hx, hy, q⟩ := h
  have hu := hr.units
  refine ⟨_, (pss_cons (ps_if (PW.pt (pw_or (pt_cmpR (op_eqSp hu) (pe_slice sl_tup (pv 2) po_none (po_some pe_int)) (pe_tup (pa_cons pe_int (pa_cons pe_int pa_nil))) (nomark _)) (pw_or1 (pt_cmpR op_le (pe_c C__law_over (hr.mono (by decide)) (by rfl) (pa_cons (pv 2) (pa_cons (pv 1) pa_nil))) pe_int (nomark _))))) (pss_one (ps_ret pe_bl)) pss_nil)
    (pss_one (ps_ret (pe_callB (call_all rfl) (by rfl) B.all PySem.L3.boot_all (pa_cons (pe_comp (Nc := ["_law_one_here", "_law_fence_here"]) (fi := [none, some 2]) (comp_sc rfl rfl rfl) rfl (comp_from_go rfl) (pi_list (pv 0)) (fun _ _ _ _ => ⟨(pg_name (i := 0) (show (["_law_one_here", "_law_fence_here"] : List Str).Nodup by decide +kernel) rfl (Or.inl rfl)), pf_nil, (pe_cmpR op_le (pe_c C__law_over (hr.mono (by decide)) (by rfl) (pa_cons (pv 1) (pa_cons (pv 0) pa_nil))) pe_int (nomark _))⟩)) pa_nil))))), ?_⟩
  refine ⟨_, rfl, _, rfl, t, _, rfl, SqT.of ht, (by show ¬ (0 = 0 ∧ 2 = 3); decide), fun u hu' => ?_⟩
  have eu := same_new hu' (HO.tup (cutV [V.int a, V.int b, V.int c] none (some 2)))
  refine ⟨(by show 2 ≤ sizeLine; decide), fun z hz' => ?_⟩
  have ez := same_new hz' (HO.tup [V.int 0, V.int 0])
  refine ⟨(a, b), (0, 0), dn_spot (p := (a, b)) (ez.seqT (SqT.of upd_same)), dn_spot (p := (0, 0)) (SqT.of upd_same), _, rfl, ?_⟩
  have e0 := eu.trans ez
  by_cases hne : a = 0 ∧ b = 0
  · rw [decide_eq_true (show ((a, b) : Int × Int) = (0, 0) by rw [hne.1, hne.2])]
    exact iteT (q _ _ e0 ⟨fun z => (by cases z), fun z => absurd hne z.1⟩)
  rw [decide_eq_false (show ¬ ((a, b) : Int × Int) = (0, 0) from fun z => hne (by injection z with z1 z2; exact ⟨z1, z2⟩))]
  refine iteF ?_
  generalize hH1 : upd (upd H u (HO.tup (cutV [V.int a, V.int b, V.int c] none (some 2)))) z (HO.tup [V.int 0, V.int 0]) = H1 at *
  refine ⟨_, rfl, _, rfl, t, y, a, b, c, sp, rfl, SqT.of (e0 _ _ ht), hy.same e0, ?_⟩
  refine ⟨_, _, rfl, rfl, _, rfl, ite2 (fun c0 => ?_) (fun c0 => ?_)⟩
  · have c1 : dot (a, b) sp - c ≤ 0 := of_decide_eq_true c0
    exact q _ _ e0 ⟨fun z => (by cases z), fun z => (by have := z.2.1; omega)⟩
  have c1 : ¬ dot (a, b) sp - c ≤ 0 := fun z => c0 (decide_eq_true z)
  obtain ⟨o1, y1, rfl, h1, d1, b1, l1, l8⟩ := id hx
  have hz : y1.length = h.length := by have := d1.length; rwa [List.length_map] at this
  refine ⟨_, rfl, o1, rfl, ⟨_, e0.seq h1⟩, fun _ _ _ _ l hl => ?_⟩
  refine comp_by y1.length (by rw [sizeLine_eq]; omega) (fun i zs σ' Hc => Same H1 Hc ∧ Hc l = some (.lst zs) ∧ zs = ((h.take i).map fun p => decide (dot (a, b) p - c ≤ 0)).map V.bl ∧ ∃ c0, σ' = [c0, some (.ref t)]) ?_ (fun i zs σ' Hc ⟨_, e, y, _⟩ => ⟨e, by rw [y, List.length_map, List.length_map, List.length_take]; omega⟩) ?_ ?_
  · exact ⟨same_new hl _, upd_same, rfl, _, rfl⟩
  · rintro i zs σ' Hc hi ⟨e, el, rfl, c0, rfl⟩
    have e12 := e0.trans e
    refine ⟨⟨_, y1[i], e12.seq h1, by simp [hi]⟩, fun x H' y Kt Kf k1 _ => ?_⟩
    obtain ⟨rfl, hx⟩ := y
    have hx' := hx _ (e12.seq h1)
    obtain ⟨d, hd1, hd2⟩ := d1.get' hx'
    rw [List.getElem?_map] at hd1
    obtain ⟨p, hp, rfl⟩ := Option.map_eq_some_iff.mp hd1
    have hpm := List.mem_of_getElem? hp
    simp only [gName, tYes, ↓reduceIte]
    refine ⟨_, rfl, _, rfl, t, x, a, b, c, p, rfl, SqT.of (e12 _ _ ht), ⟨e12.dn hd2, b1 p hpm⟩, ?_⟩
    refine ⟨_, _, rfl, rfl, ?_⟩
    exact k1 _ _ _ el ⟨same_upd hl e, upd_same, by rw [take_map _ hp, List.map_append]; rfl, _, rfl⟩
  · rintro zs σ' Hc ⟨e, el, rfl, _⟩
    rw [hz, List.take_length] at el
    refine ⟨⟨_, (e0.trans e).seq h1, Nat.le_refl _⟩, l, _, rfl, SqL.of el, ?_⟩
    refine q _ _ (e0.trans e) ?_
    rw [all_map]
    exact ⟨fun z => ⟨hne, by omega, fun p hp => by have := of_decide_eq_true (z p hp); omega⟩, fun z p hp => decide_eq_true (by have := z.2.2 p hp; omega)⟩
inductive sp_lparted (K : PySem.W.Frag) (vs : List V) (H : Hp) (Q : VK) (x_3 : XK) : Prop where
  | mk (x y : V) (t : Addr) (one other : List Hull.P) (a b c : Int) (h_0 : vs = [x, y, .ref t]) (h_1 : H t = some (.tup [.int a, .int b, .int c])) (h_2 : Hd K H x one) (h_3 : Hd K H y other) (h_4 : ∀ r H', Same H H' → (r = true ↔ ShP one other a b c) → Q (.bl r) H')
theorem ok_lparted (B : Bl mg) (C__law_over : Cal P w K mg base 1 "_law_over" (sp_lover K)) (F : Fun K "_law_parted" "_law_parted" s__law_parted f fd) : FnOk P w K mg base CX0 2 f fd ["_law_one_here", "_law_other", "_law_fence_here"] (sp_lparted K) := by
  refine F.ok sc__law_parted (fun vs H Q E h => ?_) (fun cdv A outer s H vs Q E hr h => ?_)
  · obtain ⟨x, y, t, one, other, a, b, c, rfl, _⟩ := h
    rfl
  obtain ⟨x, y, t, one, other, a, b, c, rfl, ht, hx, hy, q⟩ := h
  have hu := hr.units
  refine ⟨_, (pss_cons (ps_if (PW.pt (pw_or (pt_cmpR (op_eqSp hu) (pe_slice sl_tup (pv 2) po_none (po_some pe_int)) (pe_tup (pa_cons pe_int (pa_cons pe_int pa_nil))) (nomark _)) (pw_or1 (pt_not (pt_val (pe_callB (call_all rfl) (by rfl) B.all PySem.L3.boot_all (pa_cons (pe_comp (Nc := ["_law_spot_here", "_law_fence_here"]) (fi := [none, some 2]) (comp_sc rfl rfl rfl) rfl (comp_from_go rfl) (pi_list (pv 0)) (fun _ _ _ _ => ⟨(pg_name (i := 0) (show (["_law_spot_here", "_law_fence_here"] : List Str).Nodup by decide +kernel) rfl (Or.inl rfl)), pf_nil, (pe_cmpR op_lt (pe_c C__law_over (hr.mono (by decide)) (by rfl) (pa_cons (pv 1) (pa_cons (pv 0) pa_nil))) pe_int (nomark _))⟩)) pa_nil))))))) (pss_one (ps_ret pe_bl)) pss_nil)
    (pss_one (ps_ret (pe_callB (call_all rfl) (by rfl) B.all PySem.L3.boot_all (pa_cons (pe_comp (Nc := ["_law_spot_here", "_law_fence_here"]) (fi := [none, some 2]) (comp_sc rfl rfl rfl) rfl (comp_from_go rfl) (pi_list (pv 1)) (fun _ _ _ _ => ⟨(pg_name (i := 0) (show (["_law_spot_here", "_law_fence_here"] : List Str).Nodup by decide +kernel) rfl (Or.inl rfl)), pf_nil, (pe_cmpR op_gt (pe_c C__law_over (hr.mono (by decide)) (by rfl) (pa_cons (pv 1) (pa_cons (pv 0) pa_nil))) pe_int (nomark _))⟩)) pa_nil))))), ?_⟩
  refine ⟨_, rfl, _, rfl, t, _, rfl, SqT.of ht, (by show ¬ (0 = 0 ∧ 2 = 3); decide), fun u hu' => ?_⟩
  have eu := same_new hu' (HO.tup (cutV [V.int a, V.int b, V.int c] none (some 2)))
  refine ⟨(by show 2 ≤ sizeLine; decide), fun z hz' => ?_⟩
  have ez := same_new hz' (HO.tup [V.int 0, V.int 0])
  refine ⟨(a, b), (0, 0), dn_spot (p := (a, b)) (ez.seqT (SqT.of upd_same)), dn_spot (p := (0, 0)) (SqT.of upd_same), _, rfl, ?_⟩
  have e0 := eu.trans ez
  by_cases hne : a = 0 ∧ b = 0
  · rw [decide_eq_true (show ((a, b) : Int × Int) = (0, 0) by rw [hne.1, hne.2])]
    exact iteT (q _ _ e0 ⟨fun z => (by cases z), fun z => absurd hne z.1⟩)
  rw [decide_eq_false (show ¬ ((a, b) : Int × Int) = (0, 0) from fun z => hne (by injection z with z1 z2; exact ⟨z1, z2⟩))]
  refine iteF ?_
  generalize hH1 : upd (upd H u (HO.tup (cutV [V.int a, V.int b, V.int c] none (some 2)))) z (HO.tup [V.int 0, V.int 0]) = H1 at *
  obtain ⟨o1, y1, rfl, h1, d1, b1, l1, l8⟩ := id hx
  have hz : y1.length = one.length := by have := d1.length; rwa [List.length_map] at this
  refine ⟨_, rfl, o1, rfl, ⟨_, e0.seq h1⟩, fun _ _ _ _ l hl => ?_⟩
  refine comp_by y1.length (by rw [sizeLine_eq]; omega) (fun i zs σ' Hc => Same H1 Hc ∧ Hc l = some (.lst zs) ∧ zs = ((one.take i).map fun p => decide (dot (a, b) p - c < 0)).map V.bl ∧ ∃ c0, σ' = [c0, some (.ref t)]) ?_ (fun i zs σ' Hc ⟨_, e, y, _⟩ => ⟨e, by rw [y, List.length_map, List.length_map, List.length_take]; omega⟩) ?_ ?_
  · exact ⟨same_new hl _, upd_same, rfl, _, rfl⟩
  · rintro i zs σ' Hc hi ⟨e, el, rfl, c0, rfl⟩
    have e12 := e0.trans e
    refine ⟨⟨_, y1[i], e12.seq h1, by simp [hi]⟩, fun x H' y Kt Kf k1 _ => ?_⟩
    obtain ⟨rfl, hx⟩ := y
    have hx' := hx _ (e12.seq h1)
    obtain ⟨d, hd1, hd2⟩ := d1.get' hx'
    rw [List.getElem?_map] at hd1
    obtain ⟨p, hp, rfl⟩ := Option.map_eq_some_iff.mp hd1
    have hpm := List.mem_of_getElem? hp
    simp only [gName, tYes, ↓reduceIte]
    refine ⟨_, rfl, _, rfl, t, x, a, b, c, p, rfl, SqT.of (e12 _ _ ht), ⟨e12.dn hd2, b1 p hpm⟩, ?_⟩
    refine ⟨_, _, rfl, rfl, ?_⟩
    exact k1 _ _ _ el ⟨same_upd hl e, upd_same, by rw [take_map _ hp, List.map_append]; rfl, _, rfl⟩
  rintro zs σ' H2 ⟨e2, el, rfl, _⟩
  have e12 := e0.trans e2
  rw [hz, List.take_length] at el
  refine ⟨⟨_, e12.seq h1, Nat.le_refl _⟩, l, _, rfl, SqL.of el, ?_⟩
  have j1 := all_map (f := fun p => decide (dot (a, b) p - c < 0)) one
  generalize (one.map fun p => decide (dot (a, b) p - c < 0)).all id = r2 at j1 ⊢
  cases r2 with
  | false => exact ⟨_, rfl, iteT (q _ _ e12 ⟨fun z => (by cases z), fun z => j1.mpr fun p hp => decide_eq_true (by have := z.2.1 p hp; omega)⟩)⟩
  | true =>
  refine ⟨_, rfl, iteF ?_⟩
  obtain ⟨o2, y2, rfl, h2, d2, b2, l2, l28⟩ := id hy
  have hz2 : y2.length = other.length := by have := d2.length; rwa [List.length_map] at this
  refine ⟨_, rfl, o2, rfl, ⟨_, e12.seq h2⟩, fun _ _ _ _ l' hl' => ?_⟩
  refine comp_by y2.length (by rw [sizeLine_eq]; omega) (fun i zs σ' Hc => Same H2 Hc ∧ Hc l' = some (.lst zs) ∧ zs = ((other.take i).map fun p => decide (0 < dot (a, b) p - c)).map V.bl ∧ ∃ c0, σ' = [c0, some (.ref t)]) ?_ (fun i zs σ' Hc ⟨_, e, y, _⟩ => ⟨e, by rw [y, List.length_map, List.length_map, List.length_take]; omega⟩) ?_ ?_
  · exact ⟨same_new hl' _, upd_same, rfl, _, rfl⟩
  · rintro i zs σ' Hc hi ⟨e, el, rfl, c0, rfl⟩
    have e13 := e12.trans e
    refine ⟨⟨_, y2[i], e13.seq h2, by simp [hi]⟩, fun x H' y Kt Kf k1 _ => ?_⟩
    obtain ⟨rfl, hx⟩ := y
    have hx' := hx _ (e13.seq h2)
    obtain ⟨d, hd1, hd2⟩ := d2.get' hx'
    rw [List.getElem?_map] at hd1
    obtain ⟨p, hp, rfl⟩ := Option.map_eq_some_iff.mp hd1
    have hpm := List.mem_of_getElem? hp
    simp only [gName, tYes, ↓reduceIte]
    refine ⟨_, rfl, _, rfl, t, x, a, b, c, p, rfl, SqT.of (e13 _ _ ht), ⟨e13.dn hd2, b2 p hpm⟩, ?_⟩
    refine ⟨_, _, rfl, rfl, ?_⟩
    exact k1 _ _ _ el ⟨same_upd hl' e, upd_same, by rw [take_map _ hp, List.map_append]; rfl, _, rfl⟩
  · rintro zs σ' Hc ⟨e, el, rfl, _⟩
    rw [hz2, List.take_length] at el
    refine ⟨⟨_, (e12.trans e).seq h2, Nat.le_refl _⟩, l', _, rfl, SqL.of el, ?_⟩
    refine q _ _ (e12.trans e) ?_
    rw [all_map]
    exact ⟨fun z => ⟨hne, fun p hp => by have := of_decide_eq_true (j1.mp rfl p hp); omega, fun p hp => by have := of_decide_eq_true (z p hp); omega⟩, fun z p hp => decide_eq_true (by have := z.2.2 p hp; omega)⟩
end
end K6a
set_option Elab.async false
set_option linter.all false
set_option maxRecDepth 100000
set_option maxHeartbeats 4000000
namespace K6a
open PySem L2 Hull SortM SepM
seal L2.PE L2.PT L2.PW L2.PA L2.PS L2.PSs L2.PG L2.PGs L2.PF L2.PI L2.PO
section
variable {P : Program} {w : World} {K : PySem.W.Frag} {mg : Str → Option Value} {base : Heap} {f : Addr} {fd : FuncData}
theorem fork {t u : TS} {D : Ends} {σ : St} {H : Hp} (R : St → Hp → Prop) (h2 : ∀ T : St → Hp → Prop, (∀ σ' H', R σ' H' → T σ' H') → t { D with nx := T } σ H) (h1 : ∀ σ' H', R σ' H' → u D σ' H') : tSeq t u D σ H := h2 (u D) h1
inductive sp_crooked (K : PySem.W.Frag) (vs : List V) (H : Hp) (Q : VK) (x_3 : XK) : Prop where
  | mk (t : Addr) (e a b c : Int) (h_0 : vs = [.ref t, .int e]) (h_1 : H t = some (.tup [.int a, .int b, .int c])) (h_2 : ∀ u a' b' c' H', Same H H' → H' u = some (.tup [.int a', .int b', .int c']) → Q (.ref u) H')
theorem ok_crooked (C__law_draw : Cal P w K mg base 1 "_law_draw" sp_draw) (F : Fun K "_law_crooked" "_law_crooked" s__law_crooked f fd) : FnOk P w K mg base CX0 2 f fd ["_law_fence_here", "_law_cell"] (sp_crooked K) := by
  refine F.ok sc__law_crooked (fun vs H Q E h => ?_) (fun cdv A outer s H vs Q E hr h => ?_)
  · obtain ⟨t, e, a, b, c, rfl, _⟩ := h
    rfl
  obtain ⟨t, e, a, b, c, rfl, ht, q⟩ := h
  refine ⟨_, (pss_cons (ps_par (i := 2) (j := 3) rfl sc__law_crooked.nd rfl rfl (by decide) rfl rfl (pa_cons (pe_c C__law_draw (hr.mono (by decide)) (by rfl) (pa_cons (pv 1) (pa_cons pe_int (pa_cons pe_int pa_nil)))) (pa_cons (pe_op op_sub (pe_c C__law_draw (hr.mono (by decide)) (by rfl) (pa_cons (pv 1) (pa_cons pe_int (pa_cons pe_int pa_nil)))) pe_int) pa_nil)) (by with_unfolding_all rfl))
    (pss_cons (ps_if (pt_cmpR op_eq (pv 2) pe_int (nomark _)) (pss_one (ps_ret (pe_tup (pa_cons (pe_op op_add (pe_ix ix_tup (pv 0) pe_int (fun _ _ => rfl)) (pv 3)) (pa_cons (pe_ix ix_tup (pv 0) pe_int (fun _ _ => rfl)) (pa_cons (pe_ix ix_tup (pv 0) pe_int (fun _ _ => rfl)) pa_nil)))))) pss_nil)
    (pss_cons (ps_if (pt_cmpR op_eq (pv 2) pe_int (nomark _)) (pss_one (ps_ret (pe_tup (pa_cons (pe_ix ix_tup (pv 0) pe_int (fun _ _ => rfl)) (pa_cons (pe_ix ix_tup (pv 0) pe_int (fun _ _ => rfl)) (pa_cons (pe_op op_add (pe_ix ix_tup (pv 0) pe_int (fun _ _ => rfl)) (pv 3)) pa_nil)))))) pss_nil)
    (pss_cons (ps_if (pt_cmpR op_eq (pv 2) pe_int (nomark _)) (pss_one (ps_ret (pe_tup (pa_cons pe_int (pa_cons pe_int (pa_cons (pv 3) pa_nil)))))) pss_nil)
    (pss_cons (ps_if (pt_cmpR op_eq (pv 2) pe_int (nomark _)) (pss_one (ps_ret (pe_tup (pa_cons (pv 3) (pa_cons (pe_op op_sub (pe_c C__law_draw (hr.mono (by decide)) (by rfl) (pa_cons (pv 1) (pa_cons pe_int (pa_cons pe_int pa_nil)))) pe_int) (pa_cons (pe_op op_sub (pe_c C__law_draw (hr.mono (by decide)) (by rfl) (pa_cons (pv 1) (pa_cons pe_int (pa_cons pe_int pa_nil)))) pe_int) pa_nil)))))) pss_nil)
    (pss_one (ps_ret (pv 0)))))))), ?_⟩
  refine ⟨_, rfl, e, 1, 6, rfl, by decide, fun r1 H1 _ _ e1 => ?_⟩
  refine ⟨_, rfl, e, 2, 5, rfl, by decide, fun r2 H2 _ _ e2 => ?_⟩
  have e12 := e1.trans e2
  have ht2 := e12 _ _ ht
  refine ⟨_, _, rfl, rfl, _, _, rfl, ?_⟩
  refine ⟨_, rfl, rfl, _, rfl, ite2 (fun _ => ?_) (fun _ => ?_)⟩
  · refine ⟨_, rfl, t, _, _, _, rfl, rfl, SqT.of ht2, rfl, _, rfl, _, _, rfl, rfl, ?_⟩
    refine ⟨_, rfl, t, _, _, _, rfl, rfl, SqT.of ht2, rfl, ?_⟩
    refine ⟨_, rfl, t, _, _, _, rfl, rfl, SqT.of ht2, rfl, (by show 3 ≤ sizeLine; decide), fun u hu => ?_⟩
    exact q u _ _ _ _ (e12.trans (same_new hu _)) upd_same
  refine ⟨_, rfl, rfl, _, rfl, ite2 (fun _ => ?_) (fun _ => ?_)⟩
  · refine ⟨_, rfl, t, _, _, _, rfl, rfl, SqT.of ht2, rfl, ?_⟩
    refine ⟨_, rfl, t, _, _, _, rfl, rfl, SqT.of ht2, rfl, ?_⟩
    refine ⟨_, rfl, t, _, _, _, rfl, rfl, SqT.of ht2, rfl, _, rfl, _, _, rfl, rfl, (by show 3 ≤ sizeLine; decide), fun u hu => ?_⟩
    exact q u _ _ _ _ (e12.trans (same_new hu _)) upd_same
  refine ⟨_, rfl, rfl, _, rfl, ite2 (fun _ => ?_) (fun _ => ?_)⟩
  · refine ⟨_, rfl, (by show 3 ≤ sizeLine; decide), fun u hu => ?_⟩
    exact q u _ _ _ _ (e12.trans (same_new hu _)) upd_same
  refine ⟨_, rfl, rfl, _, rfl, ite2 (fun _ => ?_) (fun _ => ?_)⟩
  · refine ⟨_, rfl, _, rfl, e, 3, 5, rfl, by decide, fun r3 H3 _ _ e3 => ?_⟩
    refine ⟨_, _, rfl, rfl, _, rfl, e, 4, 9, rfl, by decide, fun r4 H4 _ _ e4 => ?_⟩
    refine ⟨_, _, rfl, rfl, (by show 3 ≤ sizeLine; decide), fun u hu => ?_⟩
    exact q u _ _ _ _ ((e12.trans (e3.trans e4)).trans (same_new hu _)) upd_same
  · exact ⟨_, rfl, q t _ _ _ _ e12 ht2⟩
end
end K6a
set_option Elab.async false
set_option linter.all false
set_option maxRecDepth 100000
set_option maxHeartbeats 4000000
namespace K6a
open PySem L2 Hull SortM SepM
seal L2.PE L2.PT L2.PW L2.PA L2.PS L2.PSs L2.PG L2.PGs L2.PF L2.PI L2.PO
section
variable {P : Program} {w : World} {K : PySem.W.Frag} {mg : Str → Option Value} {base : Heap} {f : Addr} {fd : FuncData}
theorem gp_can (x : G6.GP) : (gD x).canLay0 = true ∧ (gD x).depth ≤ 3 := by
  obtain ⟨h1, h2⟩ := spot_can x.2
  unfold gD
  rw [PyData.canLay0, PyData.canLayAll0, PyData.canLayAll0, PyData.canLayAll0, h1, PyData.depth, PyData.depthAll, PyData.depthAll, PyData.depthAll]
  refine ⟨rfl, ?_⟩
  rw [PyData.depth]
  omega
theorem gps_can : ∀ ps : List G6.GP, PyData.canLayAll0 (ps.map gD) = true ∧ PyData.depthAll (ps.map gD) ≤ 3
  | [] => ⟨rfl, by rw [List.map_nil, PyData.depthAll]; exact Nat.zero_le _⟩
  | p :: ps => by
    obtain ⟨h1, h2⟩ := gps_can ps
    obtain ⟨g1, g2⟩ := gp_can p
    rw [List.map_cons, PyData.canLayAll0, PyData.depthAll, h1, g1]
    exact ⟨rfl, Nat.max_le.mpr ⟨g2, h2⟩⟩
theorem gps_shaped (ps : List G6.GP) : SeqAt.shaped (.list (ps.map gD)) = true := by
  obtain ⟨h1, h2⟩ := gps_can ps
  unfold SeqAt.shaped
  have : (PyData.list (ps.map gD)).depth ≤ 64 := by rw [PyData.depth]; omega
  rw [decide_eq_true this, PyData.canLay0, h1]; rfl
theorem gp_eqv (x : G6.GP) : PyData.eqv (gD x) (gD x) = true := by
  unfold gD
  rw [PyData.eqv, PyData.eqvAll, PyData.eqvAll, PyData.eqvAll, spot_eqv]
  simp [PyData.eqv]
theorem gps_eqv : ∀ ps : List G6.GP, PyData.eqvAll (ps.map gD) (ps.map gD) = true
  | [] => by rw [List.map_nil, PyData.eqvAll]
  | p :: ps => by rw [List.map_cons, PyData.eqvAll, gps_eqv ps, gp_eqv p]; rfl
theorem gpl_eqv (ps : List G6.GP) : PyData.eqv (.list (ps.map gD)) (.list (ps.map gD)) = true := by rw [PyData.eqv]; exact gps_eqv ps
theorem fence_shaped (a b c : Int) : SeqAt.shaped (.tuple [.int a, .int b, .int c]) = true := by
  simp [SeqAt.shaped, PyData.depth, PyData.depthAll, PyData.canLay0, PyData.canLayAll0]
theorem fence_eqv (a b c : Int) : PyData.eqv (.tuple [.int a, .int b, .int c]) (.tuple [.int a, .int b, .int c]) = true := by
  simp [PyData.eqv, PyData.eqvAll]
theorem dns_drop {H : Hp} : ∀ (n : Nat) {ds : List PyData} {zs : List V}, Dns K H ds zs → Dns K H (ds.drop n) (zs.drop n)
  | 0, _, _, h => h
  | n + 1, [], _, h => by rw [L2.Dns.nil h]; exact dns_nil
  | n + 1, d :: ds, _, h => by
    obtain ⟨a, r, rfl, _, h2⟩ := L2.Dns.cons h
    exact dns_drop n h2
theorem dns_take {H : Hp} : ∀ (n : Nat) {ds : List PyData} {zs : List V}, Dns K H ds zs → Dns K H (ds.take n) (zs.take n)
  | 0, _, _, _ => dns_nil
  | n + 1, [], _, h => by rw [L2.Dns.nil h]; exact dns_nil
  | n + 1, d :: ds, _, h => by
    obtain ⟨a, r, rfl, h1, h2⟩ := L2.Dns.cons h
    exact dns_cons h1 (dns_take n h2)
theorem dns_rev {H : Hp} : ∀ {ds : List PyData} {zs : List V}, Dns K H ds zs → Dns K H ds.reverse zs.reverse
  | [], _, h => by rw [L2.Dns.nil h]; exact dns_nil
  | d :: ds, _, h => by
    obtain ⟨a, r, rfl, h1, h2⟩ := L2.Dns.cons h
    rw [List.reverse_cons, List.reverse_cons]
    exact (dns_rev h2).append (dns_cons h1 dns_nil)
theorem gps_cut {H : Hp} {M : List G6.GP} {zs : List V} (dz : Dns K H (M.map gD) zs) (lo hi : Option Int) : ∃ M' : List G6.GP, Dns K H (M'.map gD) (cutV zs lo hi) ∧ (∀ x ∈ M', x ∈ M) ∧ M'.length ≤ M.length := by
  refine ⟨(M.drop (HT.sIx zs.length 0 lo)).take (HT.sIx zs.length zs.length hi - HT.sIx zs.length 0 lo), ?_, fun x hx => List.mem_of_mem_drop (List.mem_of_mem_take hx), ?_⟩
  · rw [List.map_take, List.map_drop]; exact dns_take _ (dns_drop _ dz)
  · rw [List.length_take, List.length_drop]; omega
theorem gps_put {H : Hp} {l t : Addr} {M : List G6.GP} {zs : List V} (hl : H l = some (.lst zs)) (dz : Dns K H (M.map gD) zs) (w : ∀ x ∈ M, G6.WOk x.2) (len : M.length ≤ 16) {x : G6.GP} (hx : Dn K H (gD x) (.ref t)) (wx : G6.WOk x.2) (n : Nat) : PG K (upd H l (.lst (zs.set n (.ref t)))) l (M.set n x) :=
  ⟨⟨_, upd_same, by have := (gps_upd (o := .lst (zs.set n (.ref t))) hl dz).set (gp_upd hl hx) n; rwa [← List.map_set] at this⟩, fun y hy => (List.mem_or_eq_of_mem_set hy).elim (w y) (fun e => e ▸ wx), by rw [List.length_set]; exact len⟩
theorem ixN_nat {m n : Nat} (h : n < m) : ixN m (n : Int) = some n := by
  unfold ixN; rw [if_pos (by omega), if_pos (by omega)]; simp
theorem wok5 {t1 t2 t3 t4 t5 : Addr} {H : Hp} (h1 : SqT K H t1 [.int 1, .int 2]) (h2 : SqT K H t2 [.int 0, .int 1]) (h3 : SqT K H t3 [.int (-1), .int 2]) (h4 : SqT K H t4 [.int 3, .int 4]) (h5 : SqT K H t5 [.int 1, .int 1]) {r : Int} (r0 : 0 ≤ r) (r1 : r < 5) :
    ∃ (t : Addr) (q : Int × Int), atI [V.ref t1, V.ref t2, V.ref t3, V.ref t4, V.ref t5] r = some (.ref t) ∧ Dn K H (spotD q) (.ref t) ∧ G6.WOk q := by
  obtain ⟨n, rfl⟩ : ∃ n : Nat, r = (n : Int) := ⟨r.toNat, by omega⟩
  have hn : n < 5 := by omega
  match n, hn with
  | 0, _ => exact ⟨t1, (1, 2), rfl, dn_spot (p := (1, 2)) h1, ⟨by decide, by decide⟩, by decide +kernel, by decide, by decide⟩
  | 1, _ => exact ⟨t2, (0, 1), rfl, dn_spot (p := (0, 1)) h2, ⟨by decide, by decide⟩, by decide +kernel, by decide, by decide⟩
  | 2, _ => exact ⟨t3, (-1, 2), rfl, dn_spot (p := (-1, 2)) h3, ⟨by decide, by decide⟩, by decide +kernel, by decide, by decide⟩
  | 3, _ => exact ⟨t4, (3, 4), rfl, dn_spot (p := (3, 4)) h4, ⟨by decide, by decide⟩, by decide +kernel, by decide, by decide⟩
  | 4, _ => exact ⟨t5, (1, 1), rfl, dn_spot (p := (1, 1)) h5, ⟨by decide, by decide⟩, by decide +kernel, by decide, by decide⟩
theorem wok3 {t1 t2 t3 : Addr} {H : Hp} (h1 : SqT K H t1 [.int 1, .int 2]) (h2 : SqT K H t2 [.int 1, .int 5]) (h3 : SqT K H t3 [.int 0, .int 1]) {r : Int} (r0 : 0 ≤ r) (r1 : r < 3) :
    ∃ (t : Addr) (q : Int × Int), atI [V.ref t1, V.ref t2, V.ref t3] r = some (.ref t) ∧ Dn K H (spotD q) (.ref t) ∧ G6.WOk q := by
  obtain ⟨n, rfl⟩ : ∃ n : Nat, r = (n : Int) := ⟨r.toNat, by omega⟩
  have hn : n < 3 := by omega
  match n, hn with
  | 0, _ => exact ⟨t1, (1, 2), rfl, dn_spot (p := (1, 2)) h1, ⟨by decide, by decide⟩, by decide +kernel, by decide, by decide⟩
  | 1, _ => exact ⟨t2, (1, 5), rfl, dn_spot (p := (1, 5)) h2, ⟨by decide, by decide⟩, by decide +kernel, by decide, by decide⟩
  | 2, _ => exact ⟨t3, (0, 1), rfl, dn_spot (p := (0, 1)) h3, ⟨by decide, by decide⟩, by decide +kernel, by decide, by decide⟩
theorem wok_one {d : Int} (h0 : 1 ≤ d) (h1 : d ≤ 100) : G6.WOk (1, d) := by
  refine ⟨⟨by show 0 < d; omega, by show d ≤ 100000000; omega⟩, ?_, by show (-100000000 : Int) ≤ 1; decide, by show (1 : Int) ≤ 100000000; decide⟩
  show K9.g 1 d = 1
  unfold K9.g; simp
end
end K6a
set_option Elab.async false
set_option linter.all false
set_option maxRecDepth 100000
set_option maxHeartbeats 4000000
namespace K6a
open PySem L2 Hull SortM SepM
seal L2.PE L2.PT L2.PW L2.PA L2.PS L2.PSs L2.PG L2.PGs L2.PF L2.PI L2.PO
section
variable {P : Program} {w : World} {K : PySem.W.Frag} {mg : Str → Option Value} {base : Heap} {f : Addr} {fd : FuncData}
def BtR (K : PySem.W.Frag) (H : Hp) (p : Addr) (c k at_ : Int) (R : List G6.GP → Prop) (σ' : St) (H' : Hp) : Prop :=
  ∃ (l : Addr) (M : List G6.GP) (c5 : Option V), σ' = [some (.ref p), some (.int c), some (.ref l), some (.int k), some (.int at_), c5] ∧ Same H H' ∧ H l = none ∧ PG K H' l M ∧ R M
inductive sp_bent (K : PySem.W.Frag) (vs : List V) (H : Hp) (Q : VK) (x_3 : XK) : Prop where
  | mk (p : Addr) (c : Int) (L : List G6.GP) (h_0 : vs = [.ref p, .int c]) (h_1 : PG K H p L) (h_2 : L.length ≤ 3) (h_3 : ∀ l M H', Same H H' → H l = none → PG K H' l M → Q (.ref l) H')
theorem ok_bent (B : Bl mg) (C__law_draw : Cal P w K mg base 1 "_law_draw" sp_draw) (F : Fun K "_law_bent" "_law_bent" s__law_bent f fd) : FnOk P w K mg base CX0 2 f fd ["_law_parts", "_law_cell"] (sp_bent K) := by
  refine F.ok sc__law_bent (fun vs H Q E h => ?_) (fun cdv A outer s H vs Q E hr h => ?_)
  · obtain ⟨p, c, L, rfl, _⟩ := h
    rfl
  obtain ⟨p, c, L, rfl, ⟨⟨zs, hp, dz⟩, hw, l16⟩, l3, q⟩ := h
  have hz : zs.length = L.length := by have := dz.length; rwa [List.length_map] at this
  have hu := hr.units
  refine ⟨_, (pss_cons (ps_set (i := 2) sc__law_bent.nd rfl (Or.inl rfl) (pe_callTy call_list_of (by rfl) B.list PySem.L3.boot_list (pa_cons (pv 0) pa_nil)))
    (pss_cons (ps_par (i := 3) (j := 4) rfl sc__law_bent.nd rfl rfl (by decide) rfl rfl (pa_cons (pe_c C__law_draw (hr.mono (by decide)) (by rfl) (pa_cons (pv 1) (pa_cons pe_int (pa_cons pe_int pa_nil)))) (pa_cons (pe_c C__law_draw (hr.mono (by decide)) (by rfl) (pa_cons (pv 1) (pa_cons pe_int (pa_cons (pe_callB (call_max2 rfl) (by rfl) B.max PySem.L3.boot_max (pa_cons pe_int (pa_cons (pe_callB call_len_seq (by rfl) B.len PySem.L3.boot_len (pa_cons (pv 0) pa_nil)) pa_nil))) pa_nil)))) pa_nil)) (by with_unfolding_all rfl))
    (pss_cons (ps_if (PW.pt (pw_and (pt_cmpR op_eq (pv 3) pe_int (nomark _)) (pw_and1 (pt_cmpR (op_neNil hu) (pv 2) (pe_lst pa_nil) (nomark _))))) (pss_one (ps_asg (pe_tup (pa_cons (pe_op op_sub (pe_op op_add (pe_ix ix_tup (pe_ix ix_list (pv 2) (pv 4) (fun _ _ => rfl)) pe_int (fun _ _ => rfl)) (pe_c C__law_draw (hr.mono (by decide)) (by rfl) (pa_cons (pv 1) (pa_cons pe_int (pa_cons pe_int pa_nil))))) pe_int) (pa_cons (pe_ix ix_tup (pe_ix ix_list (pv 2) (pv 4) (fun _ _ => rfl)) pe_int (fun _ _ => rfl)) pa_nil))) (pg_sub (pv 2) (pv 4) set_list))) pss_nil)
    (pss_cons (ps_if (PW.pt (pw_and (pt_cmpR op_eq (pv 3) pe_int (nomark _)) (pw_and1 (pt_cmpR (op_neNil hu) (pv 2) (pe_lst pa_nil) (nomark _))))) (pss_one (ps_asg (pe_tup (pa_cons (pe_ix ix_tup (pe_ix ix_list (pv 2) (pv 4) (fun _ _ => rfl)) pe_int (fun _ _ => rfl)) (pa_cons (pe_ix ix_tup (pe_tup (pa_cons (pe_tup (pa_cons pe_int (pa_cons pe_int pa_nil))) (pa_cons (pe_tup (pa_cons pe_int (pa_cons pe_int pa_nil))) (pa_cons (pe_tup (pa_cons (pe_un un_neg pe_int) (pa_cons pe_int pa_nil))) (pa_cons (pe_tup (pa_cons pe_int (pa_cons pe_int pa_nil))) (pa_cons (pe_tup (pa_cons pe_int (pa_cons pe_int pa_nil))) pa_nil)))))) (pe_c C__law_draw (hr.mono (by decide)) (by rfl) (pa_cons (pv 1) (pa_cons pe_int (pa_cons pe_int pa_nil)))) (fun _ _ => rfl)) pa_nil))) (pg_sub (pv 2) (pv 4) set_list))) pss_nil)
    (pss_cons (ps_if (pt_cmpR op_eq (pv 3) pe_int (nomark _)) (pss_one (ps_set (i := 2) sc__law_bent.nd rfl (Or.inl rfl) (pe_op op_cat (pe_slice sl_list (pv 2) po_none (po_some (pv 4))) (pe_slice sl_list (pv 2) (po_some (pe_op op_add (pv 4) pe_int)) po_none)))) pss_nil)
    (pss_cons (ps_if (pt_cmpR op_eq (pv 3) pe_int (nomark _)) (pss_one (ps_set (i := 2) sc__law_bent.nd rfl (Or.inl rfl) (pe_op op_cat (pv 2) (pe_lst (pa_cons (pe_tup (pa_cons (pe_c C__law_draw (hr.mono (by decide)) (by rfl) (pa_cons (pv 1) (pa_cons pe_int (pa_cons pe_int pa_nil)))) (pa_cons (pe_ix ix_tup (pe_tup (pa_cons (pe_tup (pa_cons pe_int (pa_cons pe_int pa_nil))) (pa_cons (pe_tup (pa_cons pe_int (pa_cons pe_int pa_nil))) (pa_cons (pe_tup (pa_cons pe_int (pa_cons pe_int pa_nil))) pa_nil)))) (pe_c C__law_draw (hr.mono (by decide)) (by rfl) (pa_cons (pv 1) (pa_cons pe_int (pa_cons pe_int pa_nil)))) (fun _ _ => rfl)) pa_nil))) pa_nil))))) pss_nil)
    (pss_cons (ps_if (pt_cmpR op_eq (pv 3) pe_int (nomark _)) (pss_one (ps_set (i := 2) sc__law_bent.nd rfl (Or.inl rfl) (pe_sliceRev (pv 2) (pe_un un_neg pe_int)))) pss_nil)
    (pss_cons (ps_if (pt_cmpR op_eq (pv 3) pe_int (nomark _)) (pss_cons (ps_set (i := 5) sc__law_bent.nd rfl (Or.inr rfl) (pe_c C__law_draw (hr.mono (by decide)) (by rfl) (pa_cons (pv 1) (pa_cons pe_int (pa_cons pe_int pa_nil)))))
    (pss_one (ps_setComp (i := 2) (Nc := ["_law_place", "_law_many"]) (fi := [none, some 5]) (comp_sc rfl rfl rfl) rfl (comp_from_go rfl) sc__law_bent.nd rfl rfl (pi_range1 (by rfl) B.range (pa_cons (pv 5) pa_nil)) (fun _ _ _ _ => ⟨(pg_name (i := 0) (show (["_law_place", "_law_many"] : List Str).Nodup by decide +kernel) rfl (Or.inl rfl)), pf_nil, (pe_tup (pa_cons (pv 0) (pa_cons (pe_tup (pa_cons pe_int (pa_cons (pe_callB (call_max2 rfl) (by rfl) B.max PySem.L3.boot_max (pa_cons pe_int (pa_cons (pv 1) pa_nil))) pa_nil))) pa_nil)))⟩) rfl))) pss_nil)
    (pss_one (ps_ret (pv 2))))))))))), ?_⟩
  refine hold fun J1 j1 => ?_
  refine ⟨_, rfl, p, zs, rfl, .inl (SqL.of hp), fun l hl => ?_⟩
  have el := same_new hl (HO.lst zs)
  refine j1 _ _ _ (hold fun J2 j2 => ?_)
  refine ⟨_, rfl, c, 1, 8, rfl, by decide, fun k H1 _ _ e1 => ?_⟩
  have g1 := el.trans e1
  have hm : 0 < (if ((zs.length : Nat) : Int) > 1 then ((zs.length : Nat) : Int) else 1) := by split <;> omega
  refine ⟨_, rfl, _, rfl, p, zs, rfl, .inl (SqL.of (g1 _ _ hp)), _, _, rfl, c, 2, _, rfl, by omega, fun r2 H2 a0 a1 e2 => ?_⟩
  obtain ⟨n, rfl⟩ : ∃ n : Nat, r2 = (n : Int) := ⟨r2.toNat, by omega⟩
  have g2 := g1.trans e2
  have hl2 : H2 l = some (.lst zs) := e2 _ _ (e1 _ _ upd_same)
  have hn : L ≠ [] → n < L.length := fun z => by
    have : 0 < L.length := List.length_pos_iff.mpr z
    split at a1 <;> omega
  refine ⟨_, _, rfl, ?_⟩
  refine j2 _ _ _ (fork (BtR K H p c k n fun M => M.length = L.length) (fun T kT => ?_) ?_)
  · have pg2 : PG K H2 l L := ⟨⟨zs, hl2, g2.dns dz⟩, hw, l16⟩
    refine ⟨_, rfl, rfl, _, rfl, ite2 (fun _ => ?_) (fun _ => ?_)⟩
    · refine ⟨_, rfl, Nat.zero_le _, fun ne hne => ?_⟩
      have en := same_new hne (HO.lst [])
      have g3 := g2.trans en
      refine ⟨_, ne, L.map gD, dn_lst (en.seq (SqL.of hl2)) (g3.dns dz), rfl, rfl, SqL.of upd_same, gps_shaped _, _, rfl, ite2 (fun cc => ?_) (fun cc => ?_)⟩
      · have hL : L ≠ [] := fun z => by rw [z] at cc; simp at cc
        have hnl := hn hL
        have hl3 := en _ _ hl2
        obtain ⟨v, v1, v2⟩ := dz.get (i := n) (d := gD L[n]) (by simp [hnl])
        obtain ⟨tt, w', rfl, t1, t2⟩ := Dn.gp (g3.dn v2)
        refine ⟨_, rfl, _, rfl, l, zs, _, _, rfl, rfl, SqL.of hl3, atI_nat v1, tt, _, _, _, rfl, rfl, t1, rfl, _, rfl, c, 3, 5, rfl, by decide, fun r3 H4 _ _ e4 => ?_⟩
        refine ⟨_, _, rfl, rfl, _, _, rfl, rfl, ?_⟩
        have hl4 := e4 _ _ hl3
        have g4 := g3.trans e4
        refine ⟨_, rfl, _, rfl, l, zs, _, _, rfl, rfl, SqL.of hl4, atI_nat v1, tt, _, _, _, rfl, rfl, e4.seqT t1, rfl, (by show 2 ≤ sizeLine; decide), fun u hu => ?_⟩
        have eu := same_new hu (HO.tup [V.int (L[n].1 + r3 - 2), w'])
        have g5 := g4.trans eu
        refine ⟨_, rfl, _, rfl, l, zs, _, n, rfl, rfl, eu _ _ hl4, ixN_nat (by omega), ?_⟩
        have dnu : Dn K (upd H4 u (HO.tup [V.int (L[n].1 + r3 - 2), w'])) (gD (L[n].1 + r3 - 2, L[n].2)) (.ref u) := dn_gp (x := (L[n].1 + r3 - 2, L[n].2)) (SqT.of upd_same) ((e4.trans eu).dn t2)
        exact kT _ _ ⟨l, L.set n (L[n].1 + r3 - 2, L[n].2), _, rfl, same_upd hl g5, hl, gps_put (eu _ _ hl4) (g5.dns dz) hw l16 dnu (hw L[n] (List.getElem_mem hnl)) n, by show List.length _ = _; rw [List.length_set]⟩
      · exact kT _ _ ⟨l, L, _, rfl, g3, hl, pg2.same en, rfl⟩
    · refine ite2 (fun h => by cases h) (fun _ => ?_)
      exact kT _ _ ⟨l, L, _, rfl, g2, hl, pg2, rfl⟩
  clear hl2 g2 g1 el hl e1 e2 j1 j2
  rintro σ' H3 ⟨l, M, c5, rfl, g3, hl, ⟨⟨zs, hl3, dz⟩, hw, l16⟩, hM⟩
  refine fork (BtR K H p c k n fun M => M.length ≤ 3) (fun T kT => ?_) ?_
  · have pg3 : PG K H3 l M := ⟨⟨zs, hl3, dz⟩, hw, l16⟩
    have hz : zs.length = M.length := by have := dz.length; rwa [List.length_map] at this
    refine ⟨_, rfl, rfl, _, rfl, ite2 (fun _ => ?_) (fun _ => ?_)⟩
    · refine ⟨_, rfl, Nat.zero_le _, fun ne hne => ?_⟩
      have en := same_new hne (HO.lst [])
      refine ⟨_, ne, M.map gD, dn_lst (en.seq (SqL.of hl3)) (en.dns dz), rfl, rfl, SqL.of upd_same, gps_shaped _, _, rfl, ite2 (fun cc => ?_) (fun cc => ?_)⟩
      · have hL : L ≠ [] := fun z => by
          rw [z] at hM
          rw [List.length_eq_zero_iff.mp hM] at cc; simp at cc
        have hnl : n < M.length := by rw [hM]; exact hn hL
        have hl4 := en _ _ hl3
        obtain ⟨v, v1, v2⟩ := dz.get (i := n) (d := gD M[n]) (by simp [hnl])
        obtain ⟨tt, w', rfl, t1, t2⟩ := Dn.gp (en.dn v2)
        have g4 := g3.trans en
        generalize upd H3 ne (HO.lst []) = H4 at *
        refine ⟨_, rfl, _, rfl, l, zs, _, _, rfl, rfl, SqL.of hl4, atI_nat v1, tt, _, _, _, rfl, rfl, t1, rfl, ?_⟩
        refine ⟨(by show 2 ≤ sizeLine; decide), fun w1 hw1 => ?_⟩
        have f1 := same_new hw1 (HO.tup [V.int 1, V.int 2])
        have s1 : upd H4 w1 (HO.tup [V.int 1, V.int 2]) w1 = some (.tup [V.int 1, V.int 2]) := upd_same
        generalize upd H4 w1 (HO.tup [V.int 1, V.int 2]) = H5 at *
        refine ⟨(by show 2 ≤ sizeLine; decide), fun w2 hw2 => ?_⟩
        have f2 := same_new hw2 (HO.tup [V.int 0, V.int 1])
        have s2 : upd H5 w2 (HO.tup [V.int 0, V.int 1]) w2 = some (.tup [V.int 0, V.int 1]) := upd_same
        generalize upd H5 w2 (HO.tup [V.int 0, V.int 1]) = H6 at *
        refine ⟨_, rfl, (by show 2 ≤ sizeLine; decide), fun w3 hw3 => ?_⟩
        have f3 := same_new hw3 (HO.tup [V.int (-1), V.int 2])
        have s3 : upd H6 w3 (HO.tup [V.int (-1), V.int 2]) w3 = some (.tup [V.int (-1), V.int 2]) := upd_same
        generalize upd H6 w3 (HO.tup [V.int (-1), V.int 2]) = H7 at *
        refine ⟨(by show 2 ≤ sizeLine; decide), fun w4 hw4 => ?_⟩
        have f4 := same_new hw4 (HO.tup [V.int 3, V.int 4])
        have s4 : upd H7 w4 (HO.tup [V.int 3, V.int 4]) w4 = some (.tup [V.int 3, V.int 4]) := upd_same
        generalize upd H7 w4 (HO.tup [V.int 3, V.int 4]) = H8 at *
        refine ⟨(by show 2 ≤ sizeLine; decide), fun w5 hw5 => ?_⟩
        have f5 := same_new hw5 (HO.tup [V.int 1, V.int 1])
        have s5 : upd H8 w5 (HO.tup [V.int 1, V.int 1]) w5 = some (.tup [V.int 1, V.int 1]) := upd_same
        generalize upd H8 w5 (HO.tup [V.int 1, V.int 1]) = H9 at *
        refine ⟨(by show 5 ≤ sizeLine; decide), fun w6 hw6 => ?_⟩
        have f6 := same_new hw6 (HO.tup [V.ref w1, V.ref w2, V.ref w3, V.ref w4, V.ref w5])
        have s6 : upd H9 w6 (HO.tup [V.ref w1, V.ref w2, V.ref w3, V.ref w4, V.ref w5]) w6 = some (.tup [V.ref w1, V.ref w2, V.ref w3, V.ref w4, V.ref w5]) := upd_same
        generalize upd H9 w6 (HO.tup [V.ref w1, V.ref w2, V.ref w3, V.ref w4, V.ref w5]) = H10 at *
        refine ⟨_, rfl, c, 3, 5, rfl, by decide, fun r H11 r0 r1 e11 => ?_⟩
        have k5 := f6.trans e11
        have k4 := f5.trans k5
        have k3 := f4.trans k4
        have k2 := f3.trans k3
        have k1 := f2.trans k2
        have k0 := f1.trans k1
        obtain ⟨tq, qq, hq1, hq2, hq3⟩ := wok5 (K := K) (SqT.of (k1 _ _ s1)) (SqT.of (k2 _ _ s2)) (SqT.of (k3 _ _ s3)) (SqT.of (k4 _ _ s4)) (SqT.of (k5 _ _ s5)) r0 r1
        refine ⟨w6, _, _, _, rfl, rfl, SqT.of (e11 _ _ s6), hq1, (by show 2 ≤ sizeLine; decide), fun u hu => ?_⟩
        have eu := same_new hu (HO.tup [V.int M[n].1, V.ref tq])
        have g5 := (g4.trans k0).trans eu
        have hl5 := eu _ _ (k0 _ _ hl4)
        refine ⟨_, rfl, _, rfl, l, zs, _, n, rfl, rfl, hl5, ixN_nat (by omega), ?_⟩
        have dnu : Dn K (upd H11 u (HO.tup [V.int M[n].1, V.ref tq])) (gD (M[n].1, qq)) (.ref u) := dn_gp (x := (M[n].1, qq)) (SqT.of upd_same) (eu.dn hq2)
        exact kT _ _ ⟨l, M.set n (M[n].1, qq), _, rfl, same_upd hl g5, hl, gps_put hl5 ((en.trans (k0.trans eu)).dns dz) hw l16 dnu hq3 n, by show List.length _ ≤ _; rw [List.length_set]; omega⟩
      · exact kT _ _ ⟨l, M, _, rfl, g3.trans en, hl, pg3.same en, by omega⟩
    · refine ite2 (fun h => by cases h) (fun _ => ?_)
      exact kT _ _ ⟨l, M, _, rfl, g3, hl, pg3, by omega⟩
  clear hl3 g3 hl dz hw l16 hM hz
  rintro σ' H3 ⟨l, M, c5, rfl, g3, hl, ⟨⟨zs, hl3, dz⟩, hw, l16⟩, hM⟩
  refine fork (BtR K H p c k n fun M => M.length ≤ 6) (fun T kT => ?_) ?_
  · have pg3 : PG K H3 l M := ⟨⟨zs, hl3, dz⟩, hw, l16⟩
    refine ⟨_, rfl, rfl, _, rfl, ite2 (fun _ => ?_) (fun _ => ?_)⟩
    · obtain ⟨M1, d1, m1, n1⟩ := gps_cut dz none (some (n : Int))
      obtain ⟨M2, d2, m2, n2⟩ := gps_cut dz (some ((n : Int) + 1)) none
      refine ⟨_, rfl, _, rfl, _, rfl, l, zs, rfl, SqL.of hl3, fun u hu => ?_⟩
      have e1 := same_new hu (HO.lst (cutV zs none (some (n : Int))))
      refine ⟨_, rfl, _, rfl, _, _, rfl, rfl, _, rfl, l, zs, rfl, SqL.of (e1 _ _ hl3), fun u2 hu2 => ?_⟩
      have e2 := same_new hu2 (HO.lst (cutV zs (some ((n : Int) + 1)) none))
      have z1 : (cutV zs none (some (n : Int))).length = M1.length := by have := d1.length; rwa [List.length_map] at this
      have z2 : (cutV zs (some ((n : Int) + 1)) none).length = M2.length := by have := d2.length; rwa [List.length_map] at this
      refine ⟨u, u2, _, _, rfl, rfl, e2 _ _ upd_same, upd_same, by rw [sizeLine_eq]; omega, fun u3 hu3 => ?_⟩
      have e3 := same_new hu3 (HO.lst (cutV zs none (some (n : Int)) ++ cutV zs (some ((n : Int) + 1)) none))
      have e13 := (e1.trans e2).trans e3
      refine kT _ _ ⟨u3, M1 ++ M2, _, rfl, g3.trans e13, (g3.trans (e1.trans e2)).free hu3, ⟨⟨_, upd_same, ?_⟩, fun x hx => ?_, by rw [List.length_append]; omega⟩, by show List.length _ ≤ _; rw [List.length_append]; omega⟩
      · rw [List.map_append]; exact (e13.dns d1).append (e13.dns d2)
      · rcases List.mem_append.mp hx with g | g
        · exact hw x (m1 x g)
        · exact hw x (m2 x g)
    · exact kT _ _ ⟨l, M, _, rfl, g3, hl, pg3, by omega⟩
  clear hl3 g3 hl dz hw l16 hM
  rintro σ' H3 ⟨l, M, c5, rfl, g3, hl, ⟨⟨zs, hl3, dz⟩, hw, l16⟩, hM⟩
  refine fork (BtR K H p c k n fun M => M.length ≤ 7) (fun T kT => ?_) ?_
  · have pg3 : PG K H3 l M := ⟨⟨zs, hl3, dz⟩, hw, l16⟩
    have hz : zs.length = M.length := by have := dz.length; rwa [List.length_map] at this
    refine ⟨_, rfl, rfl, _, rfl, ite2 (fun _ => ?_) (fun _ => ?_)⟩
    · refine ⟨_, rfl, _, rfl, c, 3, 9, rfl, by decide, fun r3 H4 _ _ e4 => ?_⟩
      refine ⟨(by show 2 ≤ sizeLine; decide), fun w1 hw1 => ?_⟩
      have f1 := same_new hw1 (HO.tup [V.int 1, V.int 2])
      have s1 : upd H4 w1 (HO.tup [V.int 1, V.int 2]) w1 = some (.tup [V.int 1, V.int 2]) := upd_same
      generalize upd H4 w1 (HO.tup [V.int 1, V.int 2]) = H5 at *
      refine ⟨(by show 2 ≤ sizeLine; decide), fun w2 hw2 => ?_⟩
      have f2 := same_new hw2 (HO.tup [V.int 1, V.int 5])
      have s2 : upd H5 w2 (HO.tup [V.int 1, V.int 5]) w2 = some (.tup [V.int 1, V.int 5]) := upd_same
      generalize upd H5 w2 (HO.tup [V.int 1, V.int 5]) = H6 at *
      refine ⟨(by show 2 ≤ sizeLine; decide), fun w3 hw3 => ?_⟩
      have f3 := same_new hw3 (HO.tup [V.int 0, V.int 1])
      have s3 : upd H6 w3 (HO.tup [V.int 0, V.int 1]) w3 = some (.tup [V.int 0, V.int 1]) := upd_same
      generalize upd H6 w3 (HO.tup [V.int 0, V.int 1]) = H7 at *
      refine ⟨(by show 3 ≤ sizeLine; decide), fun w6 hw6 => ?_⟩
      have f6 := same_new hw6 (HO.tup [V.ref w1, V.ref w2, V.ref w3])
      have s6 : upd H7 w6 (HO.tup [V.ref w1, V.ref w2, V.ref w3]) w6 = some (.tup [V.ref w1, V.ref w2, V.ref w3]) := upd_same
      generalize upd H7 w6 (HO.tup [V.ref w1, V.ref w2, V.ref w3]) = H10 at *
      refine ⟨_, rfl, c, 4, 3, rfl, by decide, fun r H11 r0 r1 e11 => ?_⟩
      have k3 := f6.trans e11
      have k2 := f3.trans k3
      have k1 := f2.trans k2
      have k0 := f1.trans k1
      obtain ⟨tq, qq, hq1, hq2, hq3⟩ := wok3 (K := K) (SqT.of (k1 _ _ s1)) (SqT.of (k2 _ _ s2)) (SqT.of (k3 _ _ s3)) r0 r1
      refine ⟨w6, _, _, _, rfl, rfl, SqT.of (e11 _ _ s6), hq1, (by show 2 ≤ sizeLine; decide), fun u hu => ?_⟩
      have eu := same_new hu (HO.tup [V.int r3, V.ref tq])
      have dnu : Dn K (upd H11 u (HO.tup [V.int r3, V.ref tq])) (gD (r3, qq)) (.ref u) := dn_gp (x := (r3, qq)) (SqT.of upd_same) (eu.dn hq2)
      refine ⟨(by show 1 ≤ sizeLine; decide), fun lo hlo => ?_⟩
      have eo := same_new hlo (HO.lst [V.ref u])
      have j := (e4.trans k0).trans (eu.trans eo)
      refine ⟨l, lo, zs, _, rfl, rfl, j _ _ hl3, upd_same, by rw [sizeLine_eq]; simp only [List.length_cons, List.length_nil]; omega, fun p' hp' => ?_⟩
      have ep := same_new hp' (HO.lst (zs ++ [V.ref u]))
      refine kT _ _ ⟨p', M ++ [(r3, qq)], _, rfl, g3.trans (j.trans ep), (g3.trans j).free hp', ⟨⟨_, upd_same, ?_⟩, fun x hx => ?_, by rw [List.length_append]; simp only [List.length_cons, List.length_nil]; omega⟩, by show List.length _ ≤ _; rw [List.length_append]; simp only [List.length_cons, List.length_nil]; omega⟩
      · rw [List.map_append]; exact ((j.trans ep).dns dz).append (dns_cons ((eo.trans ep).dn dnu) dns_nil)
      · rcases List.mem_append.mp hx with g | g
        · exact hw x g
        · rw [List.mem_singleton.mp g]; exact hq3
    · exact kT _ _ ⟨l, M, _, rfl, g3, hl, pg3, by omega⟩
  clear hl3 g3 hl dz hw l16 hM
  rintro σ' H3 ⟨l, M, c5, rfl, g3, hl, ⟨⟨zs, hl3, dz⟩, hw, l16⟩, hM⟩
  refine fork (BtR K H p c k n fun M => M.length ≤ 7) (fun T kT => ?_) ?_
  · have pg3 : PG K H3 l M := ⟨⟨zs, hl3, dz⟩, hw, l16⟩
    refine ⟨_, rfl, rfl, _, rfl, ite2 (fun _ => ?_) (fun _ => ?_)⟩
    · refine ⟨_, rfl, _, rfl, l, zs, rfl, rfl, SqL.of hl3, fun u hu => ?_⟩
      have e1 := same_new hu (HO.lst zs.reverse)
      refine kT _ _ ⟨u, M.reverse, _, rfl, g3.trans e1, g3.free hu, ⟨⟨_, upd_same, ?_⟩, fun x hx => hw x (List.mem_reverse.mp hx), by rw [List.length_reverse]; exact l16⟩, by show List.length _ ≤ _; rw [List.length_reverse]; exact hM⟩
      rw [List.map_reverse]; exact e1.dns (dns_rev dz)
    · exact kT _ _ ⟨l, M, _, rfl, g3, hl, pg3, hM⟩
  clear hl3 g3 hl dz hw l16 hM
  rintro σ' H3 ⟨l, M, c5, rfl, g3, hl, ⟨⟨zs, hl3, dz⟩, hw, l16⟩, hM⟩
  refine fork (BtR K H p c k n fun M => True) (fun T kT => ?_) ?_
  · have pg3 : PG K H3 l M := ⟨⟨zs, hl3, dz⟩, hw, l16⟩
    refine ⟨_, rfl, rfl, _, rfl, ite2 (fun _ => ?_) (fun _ => ?_)⟩
    · refine ⟨_, rfl, c, 3, 6, rfl, by decide, fun r H4 r0 r1 e4 => ?_⟩
      have hd1 : 1 ≤ (if r > 1 then r else 1) := by split <;> omega
      have hd2 : (if r > 1 then r else 1) ≤ 100 := by split <;> omega
      have wd := wok_one hd1 hd2
      refine ⟨_, rfl, _, rfl, by omega, by omega, fun _ _ _ _ t ht => ?_⟩
      refine comp_by r.toNat (by rw [sizeLine_eq]; omega) (fun i ys σ' Hc => Same H4 Hc ∧ Hc t = some (.lst ys) ∧ (∃ N : List G6.GP, Dns K Hc (N.map gD) ys ∧ N.length = i ∧ ∀ x ∈ N, x.2 = (1, if r > 1 then r else 1)) ∧ ys.length = i ∧ ∃ c0, σ' = [c0, some (.int r)]) ?_ (fun i ys σ' Hc ⟨_, e, _, y, _⟩ => ⟨e, by rw [y]; exact Nat.le_refl _⟩) ?_ ?_
      · exact ⟨same_new ht _, upd_same, ⟨[], dns_nil, rfl, fun _ h => absurd h (by simp)⟩, rfl, _, rfl⟩
      · rintro i ys σ' Hc hi ⟨e, el, ⟨N, dN, lN, hN⟩, ly, c0, rfl⟩
        refine ⟨by show i < _; omega, fun x H' y Kt Kf k1 _ => ?_⟩
        obtain ⟨rfl, rfl⟩ := y
        simp only [gName, tYes, ↓reduceIte]
        refine ⟨_, rfl, _, rfl, _, _, rfl, (by show 2 ≤ sizeLine; decide), fun w1 hw1 => ?_⟩
        have f1 := same_new hw1 (HO.tup [V.int 1, V.int (if r > 1 then r else 1)])
        refine ⟨(by show 2 ≤ sizeLine; decide), fun w2 hw2 => ?_⟩
        have f2 := same_new hw2 (HO.tup [V.int (0 + i), V.ref w1])
        have f12 := f1.trans f2
        have el2 := f12 _ _ el
        have dnu : Dn K (upd (upd H' w1 (HO.tup [V.int 1, V.int (if r > 1 then r else 1)])) w2 (HO.tup [V.int (0 + i), V.ref w1])) (gD (0 + (i : Int), (1, if r > 1 then r else 1))) (.ref w2) := dn_gp (x := (0 + (i : Int), (1, if r > 1 then r else 1))) (SqT.of upd_same) (f2.dn (dn_spot (p := (1, if r > 1 then r else 1)) (SqT.of upd_same)))
        refine k1 _ _ _ el2 ⟨same_upd ht (e.trans f12), upd_same, ⟨N ++ [((0 + (i : Int), (1, if r > 1 then r else 1)) : G6.GP)], ?_, by rw [List.length_append, lN]; rfl, fun x hx => ?_⟩, by rw [List.length_append, ly]; rfl, _, rfl⟩
        · rw [List.map_append]; exact (gps_upd el2 (f12.dns dN)).append (dns_cons (gp_upd el2 dnu) dns_nil)
        · rcases List.mem_append.mp hx with g | g
          · exact hN x g
          · rw [List.mem_singleton.mp g]
      · rintro ys σ' H5 ⟨e, el, ⟨N, dN, lN, hN⟩, ly, _⟩
        refine ⟨by show _ ≤ r.toNat; omega, ?_⟩
        exact kT _ _ ⟨t, N, _, rfl, g3.trans (e4.trans e), (g3.trans e4).free ht, ⟨⟨_, el, dN⟩, fun x hx => by rw [hN x hx]; exact wd, by omega⟩, trivial⟩
    · exact kT _ _ ⟨l, M, _, rfl, g3, hl, pg3, trivial⟩
  rintro σ' H6 ⟨l, M, c5, rfl, g6, hl, pg, _⟩
  exact ⟨_, rfl, q l M H6 g6 hl pg⟩
end
end K6a
set_option Elab.async false
set_option linter.all false
set_option maxRecDepth 100000
set_option maxHeartbeats 4000000
namespace K6a
open PySem L2 Hull SortM SepM
seal L2.PE L2.PT L2.PW L2.PA L2.PS L2.PSs L2.PG L2.PGs L2.PF L2.PI L2.PO
section
variable {P : Program} {w : World} {K : PySem.W.Frag} {mg : Str → Option Value} {base : Heap} {f : Addr} {fd : FuncData}
structure Kits (K : PySem.W.Frag) (cM cA cP cE : Addr) : Prop where
  aM : PySem.W.kitOne K (.ref cA) (.ref cM) = some false
  eP : PySem.W.kitOne K (.ref cE) (.ref cP) = some false
theorem fr_ins {H : Hp} {dx m q C : Addr} (h : upd (upd H dx (.own m)) m (.ins C dx []) q = none) : H q = none := by
  have n1 : q ≠ m := by rintro rfl; rw [upd_same] at h; cases h
  rw [upd_ne n1] at h
  have n2 : q ≠ dx := by rintro rfl; rw [upd_same] at h; cases h
  rwa [upd_ne n2] at h
theorem keep_same {H H7 : Hp} {dx m C : Addr} (hm : H m = none) (hdx : H dx = none) (keep : ∀ y o, upd (upd H dx (.own m)) m (.ins C dx []) y = some o → y ≠ m → H7 y = some o) : Same H H7 := fun b o hb => keep b o (by rw [upd_ne (ne_of_none hb hm), upd_ne (ne_of_none hb hdx)]; exact hb) (ne_of_none hb hm)
theorem ins_sq {H : Hp} {dx m C l : Addr} {z : List V} (hm : H m = none) (hdx : H dx = none) (h : H l = some (.lst z)) : SqL K (upd (upd H dx (.own m)) m (.ins C dx [])) l z := SqL.of (by rw [upd_ne (ne_of_none h hm), upd_ne (ne_of_none h hdx)]; exact h)
theorem mx_pg {H : Hp} {p : Addr} {h : List Hull.P} {L : List (Nat × Int)} {W : Int} (m : MxAt K H p h L W) : ∃ M : List G6.GP, PG K H p M ∧ M.length ≤ 3 := by
  obtain ⟨zs, hp, dz, mx⟩ := m
  refine ⟨L.map fun x => ((x.1 : Int), K9.mk x.2 W), ⟨⟨zs, hp, ?_⟩, fun y hy => ?_, by rw [List.length_map]; have := mx.len; omega⟩, by rw [List.length_map]; exact mx.len⟩
  · have e : (Cut.parts L W).map partD = (L.map fun x => (((x.1 : Int), K9.mk x.2 W) : G6.GP)).map gD := by unfold Cut.parts; rw [List.map_map, List.map_map]; rfl
    rw [← e]; exact dz
  · obtain ⟨x, hx, rfl⟩ := List.mem_map.mp hy
    have w0 := mx.wpos
    have n := mk_n w0 (mx.pos x hx) (amt_le mx x hx)
    exact ⟨⟨K9.mk_pos w0, Int.le_trans (K9.mk_le w0) mx.bd⟩, K9.mk_co w0, by show (-100000000 : Int) ≤ (K9.mk x.2 W).1; omega, n.2⟩
def Told (K : PySem.W.Frag) (H : Hp) (cM cA : Addr) (v : V) : Prop :=
  (∃ m dx a L, v = .ref m ∧ H m = some (.ins cM dx (fld1 "parts" a)) ∧ PG K H a L ∧ L.length ≤ 3) ∨
  (∃ m dx t a b c, v = .ref m ∧ H m = some (.ins cA dx (fld1 "fence" t)) ∧ H t = some (.tup [.int a, .int b, .int c]))
theorem Told.same {H H' : Hp} {cM cA : Addr} {v : V} (e : Same H H') (h : Told K H cM cA v) : Told K H' cM cA v := by
  rcases h with ⟨m, dx, a, L, h0, h1, h2, h3⟩ | ⟨m, dx, t, a, b, c, h0, h1, h2⟩
  · exact .inl ⟨m, dx, a, L, h0, e _ _ h1, h2.same e, h3⟩
  · exact .inr ⟨m, dx, t, a, b, c, h0, e _ _ h1, e _ _ h2⟩
def Both (K : PySem.W.Frag) (H : Hp) (cP cE : Addr) (v : V) : Prop :=
  (∃ m dx t a b c, v = .ref m ∧ H m = some (.ins cP dx (fld1 "fence" t)) ∧ H t = some (.tup [.int a, .int b, .int c])) ∨
  (∃ m dx a b L M, v = .ref m ∧ H m = some (.ins cE dx (mflds a b)) ∧ PG K H a L ∧ PG K H b M ∧ L.length ≤ 3 ∧ M.length ≤ 3)
theorem Both.same {H H' : Hp} {cP cE : Addr} {v : V} (e : Same H H') (h : Both K H cP cE v) : Both K H' cP cE v := by
  rcases h with ⟨m, dx, t, a, b, c, h0, h1, h2⟩ | ⟨m, dx, a, b, L, M, h0, h1, h2, h3, h4, h5⟩
  · exact .inl ⟨m, dx, t, a, b, c, h0, e _ _ h1, e _ _ h2⟩
  · exact .inr ⟨m, dx, a, b, L, M, h0, e _ _ h1, h2.same e, h3.same e, h4, h5⟩
inductive sp_tell (K : PySem.W.Frag) (T cM cA : Addr) (vs : List V) (H : Hp) (Q : VK) (x_3 : XK) : Prop where
  | mk (x y : V) (h : List Hull.P) (s : Hull.P) (h_0 : vs = [x, y]) (h_1 : Hd K H x h) (h_2 : Sp K H y s) (h_3 : H T = some (.cod 198 41 lamQ)) (h_4 : ∀ v H', Same H H' → Told K H' cM cA v → Q v H')
theorem tell {T cM cA : Addr} (C : Cal P w K mg base 6 "within" (sp_within K T cM cA)) : Cal P w K mg base 6 "within" (sp_tell K T cM cA) := C.imp fun vs H Q E h => by
  obtain ⟨x, y, h, s, rfl, h1, h2, h3, q⟩ := h
  refine ⟨x, y, h, s, rfl, h1, h2, h3, fun m dx a L W H' e _ _ hm mx => ?_, fun m dx t a b c H' e _ hm ht => ?_⟩
  · obtain ⟨M, pg, l3⟩ := mx_pg mx
    exact q _ _ e (.inl ⟨m, dx, a, M, rfl, hm, pg, l3⟩)
  · exact q _ _ e (.inr ⟨m, dx, t, a, b, c, rfl, hm, ht⟩)
inductive sp_tell2 (K : PySem.W.Frag) (T cP cE : Addr) (vs : List V) (H : Hp) (Q : VK) (x_3 : XK) : Prop where
  | mk (x y : V) (one other : List Hull.P) (h_0 : vs = [x, y]) (h_1 : Hd K H x one) (h_2 : Hd K H y other) (h_3 : H T = some (.cod 198 41 lamQ)) (h_4 : ∀ v H', Same H H' → Both K H' cP cE v → Q v H')
theorem tell2 {T cP cE : Addr} (C : Cal P w K mg base 7 "between" (sp_between K T cP cE)) : Cal P w K mg base 7 "between" (sp_tell2 K T cP cE) := C.imp fun vs H Q E h => by
  obtain ⟨x, y, one, other, rfl, h1, h2, h3, q⟩ := h
  refine ⟨x, y, one, other, rfl, h1, h2, h3, fun m dx t a b c H' e _ hm ht => ?_, fun m dx a b z1 z2 p1 p2 H' e _ _ _ _ hm ha hb d1 d2 fd => ?_⟩
  · exact q _ _ e (.inl ⟨m, dx, t, a, b, c, rfl, hm, ht⟩)
  · obtain ⟨L1, W1, L2, W2, rfl, rfl, m1, m2, _⟩ := fd.ex
    obtain ⟨M1, pg1, l1⟩ := mx_pg (K := K) ⟨z1, ha, d1, m1⟩
    obtain ⟨M2, pg2, l2⟩ := mx_pg (K := K) ⟨z2, hb, d2, m2⟩
    exact q _ _ e (.inr ⟨m, dx, a, b, M1, M2, rfl, hm, pg1, pg2, l1, l2⟩)
end
end K6a
set_option Elab.async false
set_option linter.all false
set_option maxRecDepth 100000
set_option maxHeartbeats 4000000
namespace K6a
open PySem L2 Hull SortM SepM
seal L2.PE L2.PT L2.PW L2.PA L2.PS L2.PSs L2.PG L2.PGs L2.PF L2.PI L2.PO
section
variable {P : Program} {w : World} {K : PySem.W.Frag} {mg : Str → Option Value} {base : Heap} {f : Addr} {fd : FuncData}
theorem fence_dn {H : Hp} {u : Addr} {a b c : Int} (h : H u = some (.tup [.int a, .int b, .int c])) : Dn K H (.tuple [.int a, .int b, .int c]) (.ref u) := dn_tup (SqT.of h) (dns_cons dn_int (dns_cons dn_int (dns_cons dn_int dns_nil)))
inductive sp_one (K : PySem.W.Frag) (cM cA : Addr) (vs : List V) (H : Hp) (Q : VK) (x_3 : XK) : Prop where
  | mk (x y v : V) (h : List Hull.P) (s : Hull.P) (c : Int) (h_0 : vs = [x, y, v, .int c]) (h_1 : Told K H cM cA v) (h_2 : Hd K H x h) (h_3 : Sp K H y s) (h_4 : ∀ H', Same H H' → Q (.bl true) H')
theorem ok_one {c_Mixed c_Apart c_Parted c_Meeting : Addr} (B : Bl mg) (T_Mixed : Txt_Mixed K mg c_Mixed) (T_Apart : Txt_Apart K mg c_Apart) (KT : Kits K c_Mixed c_Apart c_Parted c_Meeting)
    (C_Mixed : CalK P w K mg base 1 "Mixed" c_Mixed (sp_initM K c_Mixed)) (C_Apart : CalK P w K mg base 1 "Apart" c_Apart (sp_initA K c_Apart)) (C_Mixed_shows : CalM P w K mg base 6 c_Mixed "shows" (sp_showsMG K c_Mixed)) (C_Apart_shows : CalM P w K mg base 3 c_Apart "shows" (sp_showsAG K c_Apart))
    (C__law_point : Cal P w K mg base 1 "_law_point" (sp_lpointG K)) (C__law_alike : Cal P w K mg base 1 "_law_alike" (sp_alikeG K)) (C__law_bent : Cal P w K mg base 2 "_law_bent" (sp_bent K)) (C__law_crooked : Cal P w K mg base 2 "_law_crooked" (sp_crooked K)) (C__law_apart : Cal P w K mg base 2 "_law_apart" (sp_lapart K)) (C__law_says : Cal P w K mg base 1 "_law_says" sp_says)
    (F : Fun K "_law_one" "_law_one" s__law_one f fd) : FnOk P w K mg base CX0 7 f fd ["_law_herd_here", "_law_spot_here", "_law_found", "_law_cell"] (sp_one K c_Mixed c_Apart) := by
  refine F.ok sc__law_one (fun vs H Q E h => ?_) (fun cdv A outer s H vs Q E hr h => ?_)
  · obtain ⟨x, y, v, h, s, c, rfl, _⟩ := h
    rfl
  obtain ⟨x, y, v, h, sp, c, rfl, told, hx, hy, q⟩ := h
  have hu := hr.units
  refine ⟨_, (pss_cons (ps_if (pt_val (pe_callB call_isOwn (by rfl) B.isinstance PySem.L3.boot_isinstance (pa_cons (pv 2) (pa_cons (pe_glob (v := .ref c_Mixed) (by rfl) T_Mixed.mg rfl) pa_nil)))) (pss_cons (ps_set (i := 4) sc__law_one.nd rfl (Or.inl rfl) (pe_c C__law_bent (hr.mono (by decide)) (by rfl) (pa_cons (pe_fld (pv 2) rfl) (pa_cons (pv 3) pa_nil))))
    (pss_cons (ps_set (i := 5) sc__law_one.nd rfl (Or.inl rfl) (pe_callTy call_list_of (by rfl) B.list PySem.L3.boot_list (pa_cons (pv 4) pa_nil)))
    (pss_cons (ps_set (i := 6) sc__law_one.nd rfl (Or.inl rfl) (pe_mk C_Mixed (hr.mono (by decide)) (by rfl) (pa_cons (pv 5) pa_nil)))
    (pss_cons (ps_expr (pe_bm PySem.F.plainAttrs_list PySem.F.slot_list_append PySem.F.type_list_append mt_append (pv 5) (pa_cons pe_int pa_nil)))
    (pss_cons (ps_set (i := 7) sc__law_one.nd rfl (Or.inl rfl) (pe_c C__law_alike (hr.mono (by decide)) (by rfl) (pa_cons (pe_c C__law_point (hr.mono (by decide)) (by rfl) (pa_cons (pv 0) (pa_cons (pv 4) pa_nil))) (pa_cons (pe_tup (pa_cons (pe_ix ix_tup (pv 1) pe_int (fun _ _ => rfl)) (pa_cons (pe_ix ix_tup (pv 1) pe_int (fun _ _ => rfl)) (pa_cons pe_int pa_nil)))) pa_nil))))
    (pss_one (ps_ret (pe_and (pe_cmpR (op_eqD hu) (pe_fld (pv 6) rfl) (pv 4) (nomark _)) (pe_one (pe_c C__law_says (hr.mono (by decide)) (by rfl) (pa_cons (pe_m C_Mixed_shows (hr.mono (by decide)) (pv 6) (pa_cons (pv 0) (pa_cons (pv 1) pa_nil))) (pa_cons (pv 7) pa_nil)))))))))))) pss_nil)
    (pss_cons (ps_set (i := 8) sc__law_one.nd rfl (Or.inl rfl) (pe_c C__law_crooked (hr.mono (by decide)) (by rfl) (pa_cons (pe_fld (pv 2) rfl) (pa_cons (pv 3) pa_nil))))
    (pss_cons (ps_set (i := 6) sc__law_one.nd rfl (Or.inl rfl) (pe_mk C_Apart (hr.mono (by decide)) (by rfl) (pa_cons (pv 8) pa_nil)))
    (pss_cons (ps_set (i := 7) sc__law_one.nd rfl (Or.inl rfl) (pe_c C__law_apart (hr.mono (by decide)) (by rfl) (pa_cons (pv 0) (pa_cons (pv 1) (pa_cons (pv 8) pa_nil)))))
    (pss_one (ps_ret (pe_and (pe_cmpR (op_eqD hu) (pe_fld (pv 6) rfl) (pv 8) (nomark _)) (pe_one (pe_c C__law_says (hr.mono (by decide)) (by rfl) (pa_cons (pe_m C_Apart_shows (hr.mono (by decide)) (pv 6) (pa_cons (pv 0) (pa_cons (pv 1) pa_nil))) (pa_cons (pv 7) pa_nil))))))))))), ?_⟩
  refine hold fun J0 j0 => ?_
  rcases told with ⟨m, dx, a, L, rfl, hm, pgL, l3⟩ | ⟨m, dx, t, a, b, e, rfl, hm, ht⟩
  · have T := T_Mixed
    have n1 := fld1_at "parts" a
    refine ⟨_, rfl, _, _, _, true, rfl, TyOf.ins hm T.cl T.ha T.hn T.htk T.hm, T.ki, _, rfl, iteT ?_⟩
    refine hold fun J1 j1 => ?_
    refine ⟨_, rfl, m, _, dx, _, _, rfl, hm, T.cl, T.nF, n1, _, rfl, a, c, L, rfl, pgL, l3, fun l M H1 e1 hl0 pgM => ?_⟩
    obtain ⟨⟨zs, hl1, dM⟩, wM, lM⟩ := id pgM
    have hz : zs.length = M.length := by have := dM.length; rwa [List.length_map] at this
    refine j1 _ _ _ (hold fun J2 j2 => ?_)
    refine ⟨_, rfl, l, zs, rfl, .inl (SqL.of hl1), fun hd hhd => ?_⟩
    have eh := same_new hhd (HO.lst zs)
    have hhd2 : upd H1 hd (HO.lst zs) hd = some (.lst zs) := upd_same
    generalize upd H1 hd (HO.lst zs) = H2 at *
    refine j2 _ _ _ (hold fun J3 j3 => ?_)
    refine ⟨_, rfl, fun m2 dx2 hm2 hdx2 hdm2 => ?_⟩
    refine ⟨m2, hd, dx2, zs, rfl, upd_same, ins_sq hm2 hdx2 hhd2, fun a2 H3 ha2 h3a h3m keep => ⟨rfl, ?_⟩⟩
    have sk := keep_same hm2 hdx2 keep
    have na : a2 ≠ hd := (ne_of_none hhd2 (fr_ins ha2)).symm
    have nm : m2 ≠ hd := (ne_of_none hhd2 hm2).symm
    have hhd3 := sk _ _ hhd2
    refine j3 _ _ _ (hold fun J4 j4 => ?_)
    refine ⟨_, rfl, .inl ⟨rfl, _, SqL.of hhd3⟩, hd, zs, _, rfl, rfl, hhd3, by rw [sizeLine_eq]; omega, ?_⟩
    have h4a : (upd H3 hd (.lst (zs ++ [V.int 0]))) a2 = some (.lst zs) := by rw [upd_ne na]; exact h3a
    have h4m : (upd H3 hd (.lst (zs ++ [V.int 0]))) m2 = some (.ins c_Mixed dx2 (fld1 "parts" a2)) := by rw [upd_ne nm]; exact h3m
    have e14 : Same H1 (upd H3 hd (.lst (zs ++ [V.int 0]))) := same_upd hhd (eh.trans sk)
    generalize upd H3 hd (HO.lst (zs ++ [V.int 0])) = H4 at *
    have e4 := e1.trans e14
    have pgA : PG K H4 a2 M := ⟨⟨zs, h4a, e14.dns dM⟩, wM, lM⟩
    refine j4 _ _ _ (fork (fun σ' H' => ∃ r c8, σ' = [some x, some y, some (.ref m), some (.int c), some (.ref l), some (.ref hd), some (.ref m2), some (.bl r), c8] ∧ Same H4 H' ∧ (r = true ↔ G6.ShowsM h sp M)) (fun T' k => ?_) ?_)
    · obtain ⟨ty', hty, tt⟩ := hy.1.spot
      subst hty
      refine ⟨_, rfl, _, rfl, x, l, h, M, rfl, hx.same e4, pgM.same e14, fun no H5 e5 => ?_, fun yes t H5 e5 ht => ?_⟩
      · have tt5 := (e4.trans e5).seqT tt
        refine ⟨_, rfl, ty', _, _, _, rfl, rfl, tt5, rfl, _, rfl, ty', _, _, _, rfl, rfl, tt5, rfl, (by show 3 ≤ sizeLine; decide), fun u hu => ?_⟩
        refine .a _ _ rfl (.inl rfl) ?_
        exact k _ _ ⟨false, _, rfl, e5.trans (same_new hu _), fun z => (by cases z), fun z => absurd ⟨z.1, z.2.1⟩ no⟩
      · have tt5 := (e4.trans e5).seqT tt
        refine ⟨_, rfl, ty', _, _, _, rfl, rfl, tt5, rfl, _, rfl, ty', _, _, _, rfl, rfl, tt5, rfl, (by show 3 ≤ sizeLine; decide), fun u hu => ?_⟩
        have eu := same_new hu (HO.tup [V.int sp.1, V.int sp.2, V.int 1])
        obtain ⟨u0, u1⟩ := u_bd wM yes.1.1
        obtain ⟨_, _, _, _, _, bh, _, _⟩ := hx
        have bF := co_bd (·.1) wM yes.1 fun p hp => (bh p hp).1
        have bS := co_bd (·.2) wM yes.1 fun p hp => (bh p hp).2
        obtain ⟨⟨r1, r2⟩, r3, r4⟩ := hy.2
        refine .b t u _ _ _ sp.1 sp.2 1 rfl (eu.seqT ht) (SqT.of upd_same) ⟨bF, by omega, by omega⟩ ⟨⟨by omega, by omega⟩, by omega, by omega⟩ ⟨bS, by omega, by omega⟩ ⟨⟨by omega, by omega⟩, by omega, by omega⟩ fun r hr' => ?_
        rw [Int.mul_one, Int.mul_one] at hr'
        exact k _ _ ⟨r, _, rfl, e5.trans eu, fun z => ⟨yes.1, yes.2, (hr'.mp z).1, (hr'.mp z).2⟩, fun z => hr'.mpr ⟨z.2.2.1, z.2.2.2⟩⟩
    · rintro σ' H5 ⟨r, c8, rfl, e5, hr'⟩
      have m5 := e5 _ _ h4m
      refine ⟨_, rfl, m2, _, dx2, _, _, rfl, m5, T.cl, T.nF, fld1_at "parts" a2, _, rfl, _, _, dn_lst (SqL.of (e5 _ _ h4a)) ((e14.trans e5).dns dM), dn_lst ((e14.trans e5).seq (SqL.of hl1)) ((e14.trans e5).dns dM), gps_shaped _, gps_shaped _, ?_⟩
      rw [if_neg (by decide), gpl_eqv]
      refine ⟨true, rfl, iteT ?_⟩
      refine ⟨_, rfl, m2, dx2, _, rfl, m5, fld1_no a2 (by decide +kernel), _, rfl, _, rfl, m2, dx2, a2, x, y, h, sp, M, rfl, m5, pgA.same e5, hx.same (e4.trans e5), hy.same (e4.trans e5), fun r2 H6 e6 i6 => ?_⟩
      obtain rfl : r2 = r := Bool.eq_iff_iff.mpr (i6.trans hr'.symm)
      exact ⟨_, rfl, r2, rfl, q _ (e4.trans (e5.trans e6))⟩
  · have T := T_Apart
    refine ⟨_, rfl, _, _, _, false, rfl, TyOf.ins hm T.cl T.ha T.hn T.htk T.hm, KT.aM, _, rfl, iteF ?_⟩
    refine j0 _ _ _ (hold fun J1 j1 => ?_)
    refine ⟨_, rfl, m, _, dx, _, _, rfl, hm, T.cl, T.nF, fld1_at "fence" t, _, rfl, t, c, a, b, e, rfl, ht, fun u a' b' e' H1 e1 hu1 => ?_⟩
    refine j1 _ _ _ (hold fun J2 j2 => ?_)
    refine ⟨_, rfl, fun m2 dx2 hm2 hdx2 hdm2 => ?_⟩
    refine ⟨m2, u, dx2, rfl, upd_same, fun H2 h2m keep => ⟨rfl, ?_⟩⟩
    have sk := keep_same hm2 hdx2 keep
    have e2 := e1.trans sk
    have hu2 := sk _ _ hu1
    refine j2 _ _ _ (hold fun J3 j3 => ?_)
    refine ⟨_, rfl, _, rfl, _, rfl, x, y, u, h, sp, a', b', e', rfl, hu2, hx.same e2, hy.same e2, fun r H3 e3 i3 => ?_⟩
    refine j3 _ _ _ ?_
    have m3 := e3 _ _ h2m
    have u3 := e3 _ _ hu2
    have e23 := e2.trans e3
    refine ⟨_, rfl, m2, _, dx2, _, _, rfl, m3, T.cl, T.nF, fld1_at "fence" u, _, rfl, _, _, fence_dn u3, fence_dn u3, fence_shaped _ _ _, fence_shaped _ _ _, ?_⟩
    rw [if_neg (by decide), fence_eqv]
    refine ⟨true, rfl, iteT ?_⟩
    refine ⟨_, rfl, m2, dx2, _, rfl, m3, fld1_no u (by decide +kernel), _, rfl, _, rfl, m2, dx2, u, x, y, h, sp, a', b', e', rfl, m3, u3, hx.same e23, hy.same e23, fun r2 H4 e4 i4 => ?_⟩
    obtain rfl : r2 = r := Bool.eq_iff_iff.mpr (i4.trans i3.symm)
    exact ⟨_, rfl, r2, rfl, q _ (e23.trans e4)⟩
end
end K6a
set_option Elab.async false
set_option linter.all false
set_option maxRecDepth 100000
set_option maxHeartbeats 4000000
namespace K6a
open PySem L2 Hull SortM SepM
seal L2.PE L2.PT L2.PW L2.PA L2.PS L2.PSs L2.PG L2.PGs L2.PF L2.PI L2.PO
section
variable {P : Program} {w : World} {K : PySem.W.Frag} {mg : Str → Option Value} {base : Heap} {f : Addr} {fd : FuncData}
inductive sp_duo (K : PySem.W.Frag) (cP cE : Addr) (vs : List V) (H : Hp) (Q : VK) (x_3 : XK) : Prop where
  | mk (x y v : V) (one other : List Hull.P) (c : Int) (h_0 : vs = [x, y, v, .int c]) (h_1 : Both K H cP cE v) (h_2 : Hd K H x one) (h_3 : Hd K H y other) (h_4 : ∀ H', Same H H' → Q (.bl true) H')
theorem ok_two {c_Mixed c_Apart c_Parted c_Meeting : Addr} (B : Bl mg) (T_Parted : Txt_Parted K mg c_Parted) (T_Meeting : Txt_Meeting K mg c_Meeting) (KT : Kits K c_Mixed c_Apart c_Parted c_Meeting)
    (C_Parted : CalK P w K mg base 1 "Parted" c_Parted (sp_initA K c_Parted)) (C_Meeting : CalK P w K mg base 1 "Meeting" c_Meeting (sp_init K c_Meeting)) (C_Parted_shows : CalM P w K mg base 3 c_Parted "shows" (sp_showsPG K c_Parted)) (C_Meeting_shows : CalM P w K mg base 6 c_Meeting "shows" (sp_showsEG K c_Meeting))
    (C__law_point : Cal P w K mg base 1 "_law_point" (sp_lpointG K)) (C__law_alike : Cal P w K mg base 1 "_law_alike" (sp_alikeG K)) (C__law_bent : Cal P w K mg base 2 "_law_bent" (sp_bent K)) (C__law_crooked : Cal P w K mg base 2 "_law_crooked" (sp_crooked K)) (C__law_parted : Cal P w K mg base 2 "_law_parted" (sp_lparted K)) (C__law_says : Cal P w K mg base 1 "_law_says" sp_says)
    (F : Fun K "_law_two" "_law_two" s__law_two f fd) : FnOk P w K mg base CX0 7 f fd ["_law_one_here", "_law_other", "_law_found", "_law_cell"] (sp_duo K c_Parted c_Meeting) := by
  refine F.ok sc__law_two (fun vs H Q E h => ?_) (fun cdv A outer s H vs Q E hr h => ?_)
  · obtain ⟨x, y, v, one, other, c, rfl, _⟩ := h
    rfl
  obtain ⟨x, y, v, one, other, c, rfl, both, hx, hy, q⟩ := h
  have hu := hr.units
  refine ⟨_, (pss_cons (ps_if (pt_val (pe_callB call_isOwn (by rfl) B.isinstance PySem.L3.boot_isinstance (pa_cons (pv 2) (pa_cons (pe_glob (v := .ref c_Parted) (by rfl) T_Parted.mg rfl) pa_nil)))) (pss_cons (ps_set (i := 4) sc__law_two.nd rfl (Or.inl rfl) (pe_c C__law_crooked (hr.mono (by decide)) (by rfl) (pa_cons (pe_fld (pv 2) rfl) (pa_cons (pv 3) pa_nil))))
    (pss_cons (ps_set (i := 5) sc__law_two.nd rfl (Or.inl rfl) (pe_mk C_Parted (hr.mono (by decide)) (by rfl) (pa_cons (pv 4) pa_nil)))
    (pss_cons (ps_set (i := 6) sc__law_two.nd rfl (Or.inl rfl) (pe_c C__law_parted (hr.mono (by decide)) (by rfl) (pa_cons (pv 0) (pa_cons (pv 1) (pa_cons (pv 4) pa_nil)))))
    (pss_one (ps_ret (pe_and (pe_cmpR (op_eqD hu) (pe_fld (pv 5) rfl) (pv 4) (nomark _)) (pe_one (pe_c C__law_says (hr.mono (by decide)) (by rfl) (pa_cons (pe_m C_Parted_shows (hr.mono (by decide)) (pv 5) (pa_cons (pv 0) (pa_cons (pv 1) pa_nil))) (pa_cons (pv 6) pa_nil)))))))))) pss_nil)
    (pss_cons (ps_par (i := 7) (j := 8) rfl sc__law_two.nd rfl rfl (by decide) rfl rfl (pa_cons (pe_c C__law_bent (hr.mono (by decide)) (by rfl) (pa_cons (pe_fld (pv 2) rfl) (pa_cons (pv 3) pa_nil))) (pa_cons (pe_c C__law_bent (hr.mono (by decide)) (by rfl) (pa_cons (pe_fld (pv 2) rfl) (pa_cons (pe_op op_fdiv (pv 3) pe_int) pa_nil))) pa_nil)) (by with_unfolding_all rfl))
    (pss_cons (ps_set (i := 9) sc__law_two.nd rfl (Or.inl rfl) (pe_lst (pa_cons (pe_callTy call_list_of (by rfl) B.list PySem.L3.boot_list (pa_cons (pv 7) pa_nil)) (pa_cons (pe_callTy call_list_of (by rfl) B.list PySem.L3.boot_list (pa_cons (pv 8) pa_nil)) pa_nil))))
    (pss_cons (ps_set (i := 5) sc__law_two.nd rfl (Or.inl rfl) (pe_mk C_Meeting (hr.mono (by decide)) (by rfl) (pa_cons (pe_ix ix_list (pv 9) pe_int (fun _ _ => rfl)) (pa_cons (pe_ix ix_list (pv 9) pe_int (fun _ _ => rfl)) pa_nil))))
    (pss_cons (ps_expr (pe_bm PySem.F.plainAttrs_list PySem.F.slot_list_append PySem.F.type_list_append mt_append (pe_ix ix_list (pv 9) pe_int (fun _ _ => rfl)) (pa_cons pe_int pa_nil)))
    (pss_cons (ps_expr (pe_bm PySem.F.plainAttrs_list PySem.F.slot_list_append PySem.F.type_list_append mt_append (pe_ix ix_list (pv 9) pe_int (fun _ _ => rfl)) (pa_cons pe_int pa_nil)))
    (pss_cons (ps_if (PW.pt (pw_or (pt_cmpR (op_neD hu) (pe_fld (pv 5) rfl) (pv 7) (nomark _)) (pw_or1 (pt_cmpR (op_neD hu) (pe_fld (pv 5) rfl) (pv 8) (nomark _))))) (pss_one (ps_ret pe_bl)) pss_nil)
    (pss_cons (ps_set (i := 6) sc__law_two.nd rfl (Or.inl rfl) (pe_c C__law_alike (hr.mono (by decide)) (by rfl) (pa_cons (pe_c C__law_point (hr.mono (by decide)) (by rfl) (pa_cons (pv 0) (pa_cons (pv 7) pa_nil))) (pa_cons (pe_c C__law_point (hr.mono (by decide)) (by rfl) (pa_cons (pv 1) (pa_cons (pv 8) pa_nil))) pa_nil))))
    (pss_one (ps_ret (pe_c C__law_says (hr.mono (by decide)) (by rfl) (pa_cons (pe_m C_Meeting_shows (hr.mono (by decide)) (pv 5) (pa_cons (pv 0) (pa_cons (pv 1) pa_nil))) (pa_cons (pv 6) pa_nil))))))))))))), ?_⟩
  refine hold fun J0 j0 => ?_
  rcases both with ⟨m, dx, t, a, b, e, rfl, hm, ht⟩ | ⟨m, dx, a, b, L, M, rfl, hm, pgL, pgM, l3, m3⟩
  · have T := T_Parted
    refine ⟨_, rfl, _, _, _, true, rfl, TyOf.ins hm T.cl T.ha T.hn T.htk T.hm, T.ki, _, rfl, iteT ?_⟩
    refine hold fun J1 j1 => ?_
    refine ⟨_, rfl, m, _, dx, _, _, rfl, hm, T.cl, T.nF, fld1_at "fence" t, _, rfl, t, c, a, b, e, rfl, ht, fun u a' b' e' H1 e1 hu1 => ?_⟩
    refine j1 _ _ _ (hold fun J2 j2 => ?_)
    refine ⟨_, rfl, fun m2 dx2 hm2 hdx2 hdm2 => ?_⟩
    refine ⟨m2, u, dx2, rfl, upd_same, fun H2 h2m keep => ⟨rfl, ?_⟩⟩
    have sk := keep_same hm2 hdx2 keep
    have e2 := e1.trans sk
    have hu2 := sk _ _ hu1
    refine j2 _ _ _ (hold fun J3 j3 => ?_)
    refine ⟨_, rfl, _, rfl, _, rfl, x, y, u, one, other, a', b', e', rfl, hu2, hx.same e2, hy.same e2, fun r H3 e3 i3 => ?_⟩
    refine j3 _ _ _ ?_
    have m3 := e3 _ _ h2m
    have u3 := e3 _ _ hu2
    have e23 := e2.trans e3
    refine ⟨_, rfl, m2, _, dx2, _, _, rfl, m3, T.cl, T.nF, fld1_at "fence" u, _, rfl, _, _, fence_dn u3, fence_dn u3, fence_shaped _ _ _, fence_shaped _ _ _, ?_⟩
    rw [if_neg (by decide), fence_eqv]
    refine ⟨true, rfl, iteT ?_⟩
    refine ⟨_, rfl, m2, dx2, _, rfl, m3, fld1_no u (by decide +kernel), _, rfl, _, rfl, m2, dx2, u, x, y, one, other, a', b', e', rfl, m3, u3, hx.same e23, hy.same e23, fun r2 H4 e4 i4 => ?_⟩
    obtain rfl : r2 = r := Bool.eq_iff_iff.mpr (i4.trans i3.symm)
    exact ⟨_, rfl, r2, rfl, q _ (e23.trans e4)⟩
  · have T := T_Meeting
    have n1 := mflds_first a b
    have n2 := mflds_second a b
    refine ⟨_, rfl, _, _, _, false, rfl, TyOf.ins hm T.cl T.ha T.hn T.htk T.hm, KT.eP, _, rfl, iteF ?_⟩
    refine j0 _ _ _ (hold fun J1 j1 => ?_)
    refine ⟨_, rfl, m, _, dx, _, _, rfl, hm, T.cl, T.nF, n1, _, rfl, a, c, L, rfl, pgL, l3, fun l1 L' H1 e1 _ pg1 => ?_⟩
    refine ⟨_, rfl, m, _, dx, _, _, rfl, e1 _ _ hm, T.cl, T.nS, n2, _, rfl, _, _, rfl, rfl, ⟨by decide, by decide⟩, b, c / 7, M, rfl, pgM.same e1, m3, fun l2 M' H2 e2 _ pg2 => ?_⟩
    refine ⟨_, _, rfl, ?_⟩
    have e12 := e1.trans e2
    have pg1 := pg1.same e2
    obtain ⟨⟨z1, h1, d1⟩, w1, k1⟩ := id pg1
    obtain ⟨⟨z2, h2, d2⟩, w2, k2⟩ := id pg2
    have lz1 : z1.length = L'.length := by have := d1.length; rwa [List.length_map] at this
    have lz2 : z2.length = M'.length := by have := d2.length; rwa [List.length_map] at this
    refine j1 _ _ _ (hold fun J2 j2 => ?_)
    refine ⟨_, rfl, l1, z1, rfl, .inl (SqL.of h1), fun g1 hg1 => ?_⟩
    have f1 := same_new hg1 (HO.lst z1)
    have s1 : upd H2 g1 (HO.lst z1) g1 = some (.lst z1) := upd_same
    generalize upd H2 g1 (HO.lst z1) = H3 at *
    refine ⟨_, rfl, l2, z2, rfl, .inl (SqL.of (f1 _ _ h2)), fun g2 hg2 => ?_⟩
    have f2 := same_new hg2 (HO.lst z2)
    have s2 : upd H3 g2 (HO.lst z2) g2 = some (.lst z2) := upd_same
    have n12 : g1 ≠ g2 := ne_of_none s1 hg2
    generalize upd H3 g2 (HO.lst z2) = H4 at *
    refine ⟨(by show 2 ≤ sizeLine; decide), fun hd hhd => ?_⟩
    have f3 := same_new hhd (HO.lst [V.ref g1, V.ref g2])
    have s3 : upd H4 hd (HO.lst [V.ref g1, V.ref g2]) hd = some (.lst [V.ref g1, V.ref g2]) := upd_same
    have s1' := f2 _ _ s1
    have nh1 : g1 ≠ hd := ne_of_none s1' hhd
    have nh2 : g2 ≠ hd := ne_of_none s2 hhd
    have s1 := f3 _ _ s1'
    have s2 := f3 _ _ s2
    have f13 := f1.trans (f2.trans f3)
    generalize upd H4 hd (HO.lst [V.ref g1, V.ref g2]) = H5 at *
    refine j2 _ _ _ (hold fun J3 j3 => ?_)
    refine ⟨_, rfl, hd, _, _, _, rfl, rfl, SqL.of s3, rfl, ?_⟩
    refine ⟨_, rfl, hd, _, _, _, rfl, rfl, SqL.of s3, rfl, fun m2 dx2 hm2 hdx2 hdm2 => ?_⟩
    refine ⟨m2, g1, g2, dx2, z1, z2, rfl, upd_same, ins_sq hm2 hdx2 s1, ins_sq hm2 hdx2 s2, fun a2 b2 H6 ha2 hb2 nab h6a h6b h6m keep => ⟨rfl, ?_⟩⟩
    have sk := keep_same hm2 hdx2 keep
    have na1 : a2 ≠ g1 := (ne_of_none s1 (fr_ins ha2)).symm
    have na2 : a2 ≠ g2 := (ne_of_none s2 (fr_ins ha2)).symm
    have nb1 : b2 ≠ g1 := (ne_of_none s1 (fr_ins hb2)).symm
    have nb2 : b2 ≠ g2 := (ne_of_none s2 (fr_ins hb2)).symm
    have nm1 : m2 ≠ g1 := (ne_of_none s1 hm2).symm
    have nm2 : m2 ≠ g2 := (ne_of_none s2 hm2).symm
    have s1 := sk _ _ s1
    have s2 := sk _ _ s2
    have s3 := sk _ _ s3
    refine j3 _ _ _ (hold fun J4 j4 => ?_)
    refine ⟨_, rfl, hd, _, _, _, rfl, rfl, SqL.of s3, rfl, .inl ⟨rfl, _, SqL.of s1⟩, g1, z1, _, rfl, rfl, s1, by rw [sizeLine_eq]; omega, ?_⟩
    have r3 : upd H6 g1 (.lst (z1 ++ [V.int 0])) hd = some (.lst [V.ref g1, V.ref g2]) := by rw [upd_ne nh1.symm]; exact s3
    have r2 : upd H6 g1 (.lst (z1 ++ [V.int 0])) g2 = some (.lst z2) := by rw [upd_ne n12.symm]; exact s2
    have ra : upd H6 g1 (.lst (z1 ++ [V.int 0])) a2 = some (.lst z1) := by rw [upd_ne na1]; exact h6a
    have rb : upd H6 g1 (.lst (z1 ++ [V.int 0])) b2 = some (.lst z2) := by rw [upd_ne nb1]; exact h6b
    have rm : upd H6 g1 (.lst (z1 ++ [V.int 0])) m2 = some (.ins c_Meeting dx2 (mflds a2 b2)) := by rw [upd_ne nm1]; exact h6m
    have re : Same H2 (upd H6 g1 (.lst (z1 ++ [V.int 0]))) := same_upd hg1 (f13.trans sk)
    generalize upd H6 g1 (HO.lst (z1 ++ [V.int 0])) = H7 at *
    refine j4 _ _ _ (hold fun J5 j5 => ?_)
    refine ⟨_, rfl, hd, _, _, _, rfl, rfl, SqL.of r3, rfl, .inl ⟨rfl, _, SqL.of r2⟩, g2, z2, _, rfl, rfl, r2, by rw [sizeLine_eq]; omega, ?_⟩
    have qa : upd H7 g2 (.lst (z2 ++ [V.int 0])) a2 = some (.lst z1) := by rw [upd_ne na2]; exact ra
    have qb : upd H7 g2 (.lst (z2 ++ [V.int 0])) b2 = some (.lst z2) := by rw [upd_ne nb2]; exact rb
    have qm : upd H7 g2 (.lst (z2 ++ [V.int 0])) m2 = some (.ins c_Meeting dx2 (mflds a2 b2)) := by rw [upd_ne nm2]; exact rm
    have qe : Same H2 (upd H7 g2 (.lst (z2 ++ [V.int 0]))) := same_upd (f1.free hg2) re
    generalize upd H7 g2 (HO.lst (z2 ++ [V.int 0])) = H8 at *
    have e8 := e12.trans qe
    refine j5 _ _ _ (hold fun J6 j6 => ?_)
    refine ⟨_, rfl, m2, _, dx2, _, _, rfl, qm, T.cl, T.nF, mflds_first a2 b2, _, rfl, _, _, dn_lst (SqL.of qa) (qe.dns d1), dn_lst (qe.seq (SqL.of h1)) (qe.dns d1), gps_shaped _, gps_shaped _, ?_⟩
    rw [if_pos rfl, gpl_eqv]
    refine ⟨_, rfl, iteF ?_⟩
    refine ⟨_, rfl, m2, _, dx2, _, _, rfl, qm, T.cl, T.nS, mflds_second a2 b2, _, rfl, _, _, dn_lst (SqL.of qb) (qe.dns d2), dn_lst (qe.seq (SqL.of h2)) (qe.dns d2), gps_shaped _, gps_shaped _, ?_⟩
    rw [if_pos rfl, gpl_eqv]
    refine ⟨_, rfl, iteF ?_⟩
    have pgA : PG K H8 a2 L' := ⟨⟨z1, qa, qe.dns d1⟩, w1, k1⟩
    have pgB : PG K H8 b2 M' := ⟨⟨z2, qb, qe.dns d2⟩, w2, k2⟩
    have hx8 := hx.same e8
    have hy8 := hy.same e8
    refine j6 _ _ _ (fork (fun σ' H' => ∃ r c4, σ' = [some x, some y, some (.ref m), some (.int c), c4, some (.ref m2), some (.bl r), some (.ref l1), some (.ref l2), some (.ref hd)] ∧ Same H8 H' ∧ (r = true ↔ G6.ShowsE one other L' M')) (fun T' k => ?_) ?_)
    · refine ⟨_, rfl, _, rfl, x, l1, one, L', rfl, hx8, pg1.same qe, fun no H9 e9 => ?_, fun yes t H9 e9 ht => ?_⟩
      · refine ⟨_, rfl, _, rfl, y, l2, other, M', rfl, hy8.same e9, pg2.same (qe.trans e9), fun _ Ha ea => ?_, fun _ u Ha ea _ => ?_⟩
        · exact .a _ _ rfl (.inl rfl) (k _ _ ⟨false, _, rfl, e9.trans ea, fun z => (by cases z), fun z => absurd z.1 no⟩)
        · exact .a _ _ rfl (.inl rfl) (k _ _ ⟨false, _, rfl, e9.trans ea, fun z => (by cases z), fun z => absurd z.1 no⟩)
      · refine ⟨_, rfl, _, rfl, y, l2, other, M', rfl, hy8.same e9, pg2.same (qe.trans e9), fun no Ha ea => ?_, fun yes2 u Ha ea hu' => ?_⟩
        · exact .a _ _ rfl (.inr rfl) (k _ _ ⟨false, _, rfl, e9.trans ea, fun z => (by cases z), fun z => absurd z.2.1 no⟩)
        · obtain ⟨u0, u1⟩ := u_bd w1 yes.1.1
          obtain ⟨v0, v1⟩ := u_bd w2 yes2.1.1
          obtain ⟨_, _, _, _, _, bh, _, _⟩ := hx
          obtain ⟨_, _, _, _, _, bk, _, _⟩ := hy
          have bF := co_bd (·.1) w1 yes.1 fun p hp => (bh p hp).1
          have bS := co_bd (·.2) w1 yes.1 fun p hp => (bh p hp).2
          have cF := co_bd (·.1) w2 yes2.1 fun p hp => (bk p hp).1
          have cS := co_bd (·.2) w2 yes2.1 fun p hp => (bk p hp).2
          refine .b t u _ _ _ _ _ _ rfl (ea.seqT ht) hu' ⟨bF, by omega, by omega⟩ ⟨cF, by omega, by omega⟩ ⟨bS, by omega, by omega⟩ ⟨cS, by omega, by omega⟩ fun r hr' => ?_
          exact k _ _ ⟨r, _, rfl, e9.trans ea, fun z => ⟨yes, yes2, (hr'.mp z).1, (hr'.mp z).2⟩, fun z => hr'.mpr ⟨z.2.2.1, z.2.2.2⟩⟩
    · rintro σ' H9 ⟨r, c4, rfl, e9, hr'⟩
      have m9 := e9 _ _ qm
      refine ⟨_, rfl, m2, dx2, _, rfl, m9, mflds_no a2 b2 (by decide +kernel) (by decide +kernel), _, rfl, _, rfl, m2, dx2, a2, b2, x, y, one, other, L', M', rfl, m9, pgA.same e9, pgB.same e9, hx8.same e9, hy8.same e9, fun r2 Ha ea ia => ?_⟩
      obtain rfl : r2 = r := Bool.eq_iff_iff.mpr (ia.trans hr'.symm)
      exact ⟨_, rfl, r2, rfl, q _ (e8.trans (e9.trans ea))⟩
end
end K6a
set_option Elab.async false
set_option linter.all false
set_option maxRecDepth 100000
set_option maxHeartbeats 4000000
namespace K6a
open PySem L2 Hull SortM SepM
seal L2.PE L2.PT L2.PW L2.PA L2.PS L2.PSs L2.PG L2.PGs L2.PF L2.PI L2.PO
section
variable {P : Program} {w : World} {K : PySem.W.Frag} {mg : Str → Option Value} {base : Heap} {f : Addr} {fd : FuncData}
theorem two_at (r : Int) (h0 : 0 ≤ r) (h1 : r < 2) : ∃ b : Int, atI [V.int 2, V.int 9] r = some (.int b) ∧ 1 ≤ b ∧ b ≤ 1000 := by
  obtain ⟨n, rfl⟩ : ∃ n : Nat, r = (n : Int) := ⟨r.toNat, by omega⟩
  have hn : n < 2 := by omega
  match n, hn with
  | 0, _ => exact ⟨2, rfl, by decide, by decide⟩
  | 1, _ => exact ⟨9, rfl, by decide, by decide⟩
abbrev four : List Hull.P := [(0, 0), (2, 0), (0, 2), (2, 2)]
abbrev half : List G6.GP := [(0, (1, 2)), (3, (1, 2))]
theorem half_shows : G6.ShowsM four (1, 1) half := by
  refine ⟨⟨by decide, by decide, by decide⟩, by unfold G6.Tot1; decide +kernel, by decide +kernel, by decide +kernel⟩
theorem wok12 : G6.WOk (1, 2) := ⟨⟨by decide, by decide⟩, by decide +kernel, by decide, by decide⟩
theorem wok14 : G6.WOk (1, 4) := ⟨⟨by decide, by decide⟩, by decide +kernel, by decide, by decide⟩
inductive sp_law (K : PySem.W.Frag) (T : Addr) (vs : List V) (H : Hp) (Q : VK) (x_3 : XK) : Prop where
  | mk (a : Addr) (ns : List Int) (h_0 : vs = [.ref a]) (h_1 : SqL K H a (ns.map V.int)) (h_2 : ns.length ≤ 63) (h_3 : H T = some (.cod 198 41 lamQ)) (h_4 : ∀ H', Q (.bl true) H')
theorem ok_law {T c_Mixed c_Apart c_Parted c_Meeting : Addr} (B : Bl mg) (C_Mixed : CalK P w K mg base 1 "Mixed" c_Mixed (sp_initM K c_Mixed)) (C_Meeting : CalK P w K mg base 1 "Meeting" c_Meeting (sp_init K c_Meeting)) (C_Mixed_shows : CalM P w K mg base 6 c_Mixed "shows" (sp_showsMG K c_Mixed)) (C_Meeting_shows : CalM P w K mg base 6 c_Meeting "shows" (sp_showsEG K c_Meeting))
    (C_within : Cal P w K mg base 6 "within" (sp_tell K T c_Mixed c_Apart)) (C_between : Cal P w K mg base 7 "between" (sp_tell2 K T c_Parted c_Meeting)) (C__law_cell_at : Cal P w K mg base 1 "_law_cell_at" (sp_cell K)) (C__law_draw : Cal P w K mg base 1 "_law_draw" sp_draw) (C__law_spot : Cal P w K mg base 2 "_law_spot" (sp_spot K)) (C__law_herd : Cal P w K mg base 3 "_law_herd" (sp_herd K))
    (C__law_one : Cal P w K mg base 7 "_law_one" (sp_one K c_Mixed c_Apart)) (C__law_two : Cal P w K mg base 7 "_law_two" (sp_duo K c_Parted c_Meeting)) (F : Fun K "law" "law" s_law f fd) : FnOk P w K mg base CX0 8 f fd ["_law_script"] (sp_law K T) := by
  refine F.ok sc_law (fun vs H Q E h => ?_) (fun cdv A outer s H vs Q E hr h => ?_)
  · obtain ⟨a, ns, rfl, _⟩ := h
    rfl
  obtain ⟨sa, ns, rfl, hS, hlen, hT, q⟩ := h
  refine ⟨_, (pss_cons (ps_set (i := 1) sc_law.nd rfl (Or.inl rfl) (pe_c C__law_herd (hr.mono (by decide)) (by rfl) (pa_cons (pe_op op_add (pe_c C__law_cell_at (hr.mono (by decide)) (by rfl) (pa_cons (pv 0) (pa_cons pe_int pa_nil))) (pe_op op_mul pe_int (pe_c C__law_cell_at (hr.mono (by decide)) (by rfl) (pa_cons (pv 0) (pa_cons pe_int pa_nil))))) (pa_cons pe_int pa_nil))))
    (pss_cons (ps_set (i := 2) sc_law.nd rfl (Or.inl rfl) (pe_c C__law_herd (hr.mono (by decide)) (by rfl) (pa_cons (pe_op op_add (pe_c C__law_cell_at (hr.mono (by decide)) (by rfl) (pa_cons (pv 0) (pa_cons pe_int pa_nil))) (pe_op op_mul pe_int (pe_c C__law_cell_at (hr.mono (by decide)) (by rfl) (pa_cons (pv 0) (pa_cons pe_int pa_nil))))) (pa_cons pe_int pa_nil))))
    (pss_cons (ps_set (i := 3) sc_law.nd rfl (Or.inl rfl) (pe_c C__law_cell_at (hr.mono (by decide)) (by rfl) (pa_cons (pv 0) (pa_cons pe_int pa_nil))))
    (pss_cons (ps_set (i := 4) sc_law.nd rfl (Or.inl rfl) (pe_c C__law_spot (hr.mono (by decide)) (by rfl) (pa_cons (pv 3) (pa_cons (pe_ix ix_tup (pe_tup (pa_cons pe_int (pa_cons pe_int pa_nil))) (pe_c C__law_draw (hr.mono (by decide)) (by rfl) (pa_cons (pv 3) (pa_cons pe_int (pa_cons pe_int pa_nil)))) (fun _ _ => rfl)) (pa_cons pe_int pa_nil)))))
    (pss_cons (ps_par (i := 5) (j := 6) rfl sc_law.nd rfl rfl (by decide) rfl rfl (pa_cons (pe_c C_within (hr.mono (by decide)) (by rfl) (pa_cons (pv 1) (pa_cons (pv 4) pa_nil))) (pa_cons (pe_c C_between (hr.mono (by decide)) (by rfl) (pa_cons (pv 1) (pa_cons (pv 2) pa_nil))) pa_nil)) (by with_unfolding_all rfl))
    (pss_cons (ps_if (PW.pt (pw_or (pt_not (pt_val (pe_c C__law_one (hr.mono (by decide)) (by rfl) (pa_cons (pv 1) (pa_cons (pv 4) (pa_cons (pv 5) (pa_cons (pv 3) pa_nil))))))) (pw_or1 (pt_not (pt_val (pe_c C__law_two (hr.mono (by decide)) (by rfl) (pa_cons (pv 1) (pa_cons (pv 2) (pa_cons (pv 6) (pa_cons (pe_op op_add (pv 3) pe_int) pa_nil)))))))))) (pss_one (ps_ret pe_bl)) pss_nil)
    (pss_cons (ps_if (PW.pt (pw_or (pt_not (pt_val (pe_c C__law_one (hr.mono (by decide)) (by rfl) (pa_cons (pv 2) (pa_cons (pv 4) (pa_cons (pv 5) (pa_cons pe_int pa_nil))))))) (pw_or1 (pt_not (pt_val (pe_c C__law_two (hr.mono (by decide)) (by rfl) (pa_cons (pv 2) (pa_cons (pv 1) (pa_cons (pv 6) (pa_cons pe_int pa_nil)))))))))) (pss_one (ps_ret pe_bl)) pss_nil)
    (pss_cons (ps_if (pt_not (pt_val (pe_c C__law_one (hr.mono (by decide)) (by rfl) (pa_cons (pv 1) (pa_cons (pe_ix ix_list (pv 2) pe_int (fun _ _ => rfl)) (pa_cons (pv 5) (pa_cons (pe_op op_add (pv 3) pe_int) pa_nil))))))) (pss_one (ps_ret pe_bl)) pss_nil)
    (pss_cons (ps_set (i := 7) sc_law.nd rfl (Or.inl rfl) (pe_lst (pa_cons (pe_tup (pa_cons pe_int (pa_cons pe_int pa_nil))) (pa_cons (pe_tup (pa_cons pe_int (pa_cons pe_int pa_nil))) (pa_cons (pe_tup (pa_cons pe_int (pa_cons pe_int pa_nil))) (pa_cons (pe_tup (pa_cons pe_int (pa_cons pe_int pa_nil))) pa_nil))))))
    (pss_cons (ps_setComp (i := 8) (Nc := ["_law_place"]) (fi := [none]) (comp_sc rfl rfl rfl) rfl (comp_from_go rfl) sc_law.nd rfl rfl (pi_range1 (by rfl) B.range (pa_cons pe_int pa_nil)) (fun _ _ _ _ => ⟨(pg_name (i := 0) (show (["_law_place"] : List Str).Nodup by decide +kernel) rfl (Or.inl rfl)), pf_nil, (pe_tup (pa_cons (pv 0) (pa_cons (pe_tup (pa_cons pe_int (pa_cons pe_int pa_nil))) pa_nil)))⟩) rfl)
    (pss_cons (ps_if (PW.pt (pw_or (pt_cmpR op_isnotB (pe_m C_Mixed_shows (hr.mono (by decide)) (pe_mk C_Mixed (hr.mono (by decide)) (by rfl) (pa_cons (pv 8) pa_nil)) (pa_cons (pv 7) (pa_cons (pe_tup (pa_cons pe_int (pa_cons pe_int pa_nil))) pa_nil))) pe_bl (nomark _)) (pw_or1 (pt_cmpR op_isnotB (pe_m C_Meeting_shows (hr.mono (by decide)) (pe_mk C_Meeting (hr.mono (by decide)) (by rfl) (pa_cons (pv 8) (pa_cons (pv 8) pa_nil))) (pa_cons (pv 7) (pa_cons (pv 7) pa_nil))) pe_bl (nomark _))))) (pss_one (ps_ret pe_bl)) pss_nil)
    (pss_cons (ps_set (i := 9) sc_law.nd rfl (Or.inl rfl) (pe_lst (pa_cons (pe_tup (pa_cons pe_int (pa_cons (pe_tup (pa_cons pe_int (pa_cons pe_int pa_nil))) pa_nil))) (pa_cons (pe_tup (pa_cons pe_int (pa_cons (pe_tup (pa_cons pe_int (pa_cons pe_int pa_nil))) pa_nil))) pa_nil))))
    (pss_cons (ps_if (PW.pt (pw_or (pt_cmpR op_isnotB (pe_m C_Mixed_shows (hr.mono (by decide)) (pe_mk C_Mixed (hr.mono (by decide)) (by rfl) (pa_cons (pv 9) pa_nil)) (pa_cons (pv 7) (pa_cons (pe_tup (pa_cons pe_int (pa_cons pe_int pa_nil))) pa_nil))) pe_bl (nomark _)) (pw_or1 (pt_cmpR op_isnotB (pe_m C_Meeting_shows (hr.mono (by decide)) (pe_mk C_Meeting (hr.mono (by decide)) (by rfl) (pa_cons (pv 9) (pa_cons (pv 8) pa_nil))) (pa_cons (pv 7) (pa_cons (pv 7) pa_nil))) pe_bl (nomark _))))) (pss_one (ps_ret pe_bl)) pss_nil)
    (pss_one (ps_ret (pe_c C__law_two (hr.mono (by decide)) (by rfl) (pa_cons (pv 1) (pa_cons (pv 1) (pa_cons (pe_c C_between (hr.mono (by decide)) (by rfl) (pa_cons (pv 1) (pa_cons (pv 1) pa_nil))) (pa_cons (pe_op op_add (pv 3) pe_int) pa_nil)))))))))))))))))))), ?_⟩
  refine hold fun J1 j1 => ?_
  refine ⟨_, rfl, sa, ns, 0, rfl, hS, fun c0 => ?_⟩
  refine ⟨_, rfl, sa, ns, 1, rfl, hS, fun c1 => ?_⟩
  refine ⟨_, _, rfl, rfl, .inl ⟨by decide, by decide⟩, _, _, rfl, rfl, ?_⟩
  refine ⟨_, 6, rfl, by decide, by decide, fun l1 y1 p1 H1 e1 hl10 hl1 d1 b1 n1 n8 => ?_⟩
  refine j1 _ _ _ (hold fun J2 j2 => ?_)
  refine ⟨_, rfl, sa, ns, 2, rfl, e1.seq hS, fun c2 => ?_⟩
  refine ⟨_, rfl, sa, ns, 1, rfl, e1.seq hS, fun c1' => ?_⟩
  refine ⟨_, _, rfl, rfl, .inl ⟨by decide, by decide⟩, _, _, rfl, rfl, ?_⟩
  refine ⟨_, 6, rfl, by decide, by decide, fun l2 y2 p2 H2 e2 hl20 hl2 d2 b2 m1 m8 => ?_⟩
  have e12 := e1.trans e2
  have hA : Hd K H2 (.ref l1) p1 := ⟨l1, y1, rfl, e2.seq (SqL.of hl1), e2.dns d1, b1, n1, by omega⟩
  have hB : Hd K H2 (.ref l2) p2 := ⟨l2, y2, rfl, SqL.of hl2, d2, b2, m1, by omega⟩
  have z2 : y2.length = p2.length := by have := d2.length; rwa [List.length_map] at this
  refine j2 _ _ _ (hold fun J3 j3 => ?_)
  refine ⟨_, rfl, sa, ns, 3, rfl, e12.seq hS, fun c3 => ?_⟩
  refine j3 _ _ _ (hold fun J4 j4 => ?_)
  refine ⟨_, rfl, (by show 2 ≤ sizeLine; decide), fun t ht => ?_⟩
  have f1 := same_new ht (HO.tup [V.int 2, V.int 9])
  refine ⟨_, rfl, c3, 6, 2, rfl, by decide, fun r H3 r0 r1 e3 => ?_⟩
  obtain ⟨bm, hbm, bm1, bm2⟩ := two_at r r0 r1
  refine ⟨t, _, _, _, rfl, rfl, SqT.of (e3 _ _ upd_same), hbm, ?_⟩
  refine ⟨c3, bm, 0, rfl, bm1, bm2, fun sv H4 sp e4 hsp => ?_⟩
  have e24 := f1.trans (e3.trans e4)
  have hA := hA.same e24
  have hB := hB.same e24
  have hT4 := (e12.trans e24) _ _ hT
  have hl24 := e24 _ _ hl2
  have d24 := e24.dns d2
  refine j4 _ _ _ (hold fun J5 j5 => ?_)
  refine ⟨_, rfl, _, rfl, .ref l1, sv, p1, sp, rfl, hA, hsp, hT4, fun told H5 e5 hto => ?_⟩
  refine ⟨_, rfl, _, rfl, .ref l1, .ref l2, p1, p2, rfl, hA.same e5, hB.same e5, e5 _ _ hT4, fun both H6 e6 hbo => ?_⟩
  refine ⟨_, _, rfl, ?_⟩
  have e56 := e5.trans e6
  have hto := hto.same e6
  have hA := hA.same e56
  have hB := hB.same e56
  have hsp := hsp.same e56
  have hT6 := e56 _ _ hT4
  have hl26 := e56 _ _ hl24
  have d26 := e56.dns d24
  clear e1 e2 e12 e24 e3 e4 f1 hT hT4 hl24 d24 hS
  -- one and two
  refine j5 _ _ _ (hold fun J6 j6 => ?_)
  refine ⟨_, rfl, _, rfl, _, rfl, _, rfl, .ref l1, sv, told, p1, sp, c3, rfl, hto, hA, hsp, fun H7 e7 => ⟨_, rfl, iteF ?_⟩⟩
  refine ⟨_, rfl, _, rfl, _, rfl, _, rfl, _, _, rfl, rfl, .ref l1, .ref l2, both, p1, p2, c3 + 1, rfl, hbo.same e7, hA.same e7, hB.same e7, fun H8 e8 => ⟨_, rfl, iteF ?_⟩⟩
  have g8 := e7.trans e8
  refine j6 _ _ _ (hold fun J7 j7 => ?_)
  refine ⟨_, rfl, _, rfl, _, rfl, .ref l2, sv, told, p2, sp, 0, rfl, hto.same g8, hB.same g8, hsp.same g8, fun H9 e9 => ⟨_, rfl, iteF ?_⟩⟩
  have g9 := g8.trans e9
  refine ⟨_, rfl, _, rfl, _, rfl, .ref l2, .ref l1, both, p2, p1, 0, rfl, hbo.same g9, hB.same g9, hA.same g9, fun Ha ea => ⟨_, rfl, iteF ?_⟩⟩
  have ga := g9.trans ea
  refine j7 _ _ _ (hold fun J8 j8 => ?_)
  have hp0 : 0 < p2.length := by omega
  obtain ⟨v0, a1, a2⟩ := d26.get (i := 0) (d := spotD (p2[0]'hp0)) (by simp [hp0])
  refine ⟨_, rfl, _, rfl, l2, y2, 0, v0, rfl, rfl, SqL.of (ga _ _ hl26), atI_nat (j := 0) a1, ?_⟩
  refine ⟨_, rfl, _, rfl, _, _, rfl, rfl, .ref l1, v0, told, p1, p2[0]'hp0, c3 + 2, rfl, hto.same ga, hA.same ga, ⟨ga.dn a2, b2 _ (List.getElem_mem hp0)⟩, fun Hb eb => ⟨_, rfl, iteF ?_⟩⟩
  have gb := ga.trans eb
  have hAb := hA.same gb
  have hTb := gb _ _ hT6
  clear hto hbo hA hB hsp hT6 hl26 d26 e5 e6 e56 e7 e8 e9 ea eb g8 g9 ga gb a2
  -- four spots
  refine j8 _ _ _ (hold fun J9 j9 => ?_)
  refine ⟨(by show 2 ≤ sizeLine; decide), fun q1 k1 => ?_⟩
  have f1 := same_new k1 (HO.tup [V.int 0, V.int 0])
  have s1 : upd Hb q1 (HO.tup [V.int 0, V.int 0]) q1 = some (.tup [V.int 0, V.int 0]) := upd_same
  generalize upd Hb q1 (HO.tup [V.int 0, V.int 0]) = I1 at *
  refine ⟨(by show 2 ≤ sizeLine; decide), fun q2 k2 => ?_⟩
  have f2 := same_new k2 (HO.tup [V.int 2, V.int 0])
  have s2 : upd I1 q2 (HO.tup [V.int 2, V.int 0]) q2 = some (.tup [V.int 2, V.int 0]) := upd_same
  generalize upd I1 q2 (HO.tup [V.int 2, V.int 0]) = I2 at *
  refine ⟨(by show 2 ≤ sizeLine; decide), fun q3 k3 => ?_⟩
  have f3 := same_new k3 (HO.tup [V.int 0, V.int 2])
  have s3 : upd I2 q3 (HO.tup [V.int 0, V.int 2]) q3 = some (.tup [V.int 0, V.int 2]) := upd_same
  generalize upd I2 q3 (HO.tup [V.int 0, V.int 2]) = I3 at *
  refine ⟨(by show 2 ≤ sizeLine; decide), fun q4 k4 => ?_⟩
  have f4 := same_new k4 (HO.tup [V.int 2, V.int 2])
  have s4 : upd I3 q4 (HO.tup [V.int 2, V.int 2]) q4 = some (.tup [V.int 2, V.int 2]) := upd_same
  generalize upd I3 q4 (HO.tup [V.int 2, V.int 2]) = I4 at *
  refine ⟨(by show 4 ≤ sizeLine; decide), fun lf klf => ?_⟩
  have f5 := same_new klf (HO.lst [V.ref q1, V.ref q2, V.ref q3, V.ref q4])
  have s5 : upd I4 lf (HO.lst [V.ref q1, V.ref q2, V.ref q3, V.ref q4]) lf = some (.lst [V.ref q1, V.ref q2, V.ref q3, V.ref q4]) := upd_same
  generalize upd I4 lf (HO.lst [V.ref q1, V.ref q2, V.ref q3, V.ref q4]) = I5 at *
  have t4 := f4.trans f5
  have t3 := f3.trans t4
  have t2 := f2.trans t3
  have t1 := f1.trans t2
  have h4 : Hd K I5 (.ref lf) four := ⟨lf, _, rfl, SqL.of s5, dns_cons (dn_spot (p := (0, 0)) (SqT.of (t2 _ _ s1))) (dns_cons (dn_spot (p := (2, 0)) (SqT.of (t3 _ _ s2))) (dns_cons (dn_spot (p := (0, 2)) (SqT.of (t4 _ _ s3))) (dns_cons (dn_spot (p := (2, 2)) (SqT.of (f5 _ _ s4))) dns_nil))), (by unfold four; intro p hp; simp only [List.mem_cons, List.not_mem_nil, or_false] at hp; rcases hp with rfl | rfl | rfl | rfl <;> exact ⟨⟨by decide, by decide⟩, by decide, by decide⟩), by decide, by decide⟩
  have hAf := hAb.same t1
  have hTf := t1 _ _ hTb
  refine j9 _ _ _ (hold fun Ja ja => ?_)
  -- even
  refine ⟨4, rfl, by decide, by decide, fun _ _ _ _ le hle => ?_⟩
  refine comp_by 4 (by show 4 ≤ sizeLine; decide) (fun i ys σ' Hc => Same I5 Hc ∧ Hc le = some (.lst ys) ∧ (∃ N : List G6.GP, Dns K Hc (N.map gD) ys ∧ N.length = i ∧ ∀ x ∈ N, x.2 = (1, 4)) ∧ ys.length = i ∧ ∃ c0, σ' = [c0]) ?_ (fun i ys σ' Hc ⟨_, e, _, y, _⟩ => ⟨e, by rw [y]; exact Nat.le_refl _⟩) ?_ ?_
  · exact ⟨same_new hle _, upd_same, ⟨[], dns_nil, rfl, fun _ h => absurd h (by simp)⟩, rfl, _, rfl⟩
  · rintro i ys σ' Hc hi ⟨e, el, ⟨N, dN, lN, hN⟩, ly, c0, rfl⟩
    refine ⟨by show i < 4; omega, fun x H' y Kt Kf k1 _ => ?_⟩
    obtain ⟨rfl, rfl⟩ := y
    simp only [gName, tYes, ↓reduceIte]
    refine ⟨_, rfl, (by show 2 ≤ sizeLine; decide), fun w1 hw1 => ?_⟩
    have f1 := same_new hw1 (HO.tup [V.int 1, V.int 4])
    refine ⟨(by show 2 ≤ sizeLine; decide), fun w2 hw2 => ?_⟩
    have f2 := same_new hw2 (HO.tup [V.int (0 + i), V.ref w1])
    have f12 := f1.trans f2
    have el2 := f12 _ _ el
    have dnu : Dn K (upd (upd H' w1 (HO.tup [V.int 1, V.int 4])) w2 (HO.tup [V.int (0 + i), V.ref w1])) (gD (0 + (i : Int), (1, 4))) (.ref w2) := dn_gp (x := (0 + (i : Int), (1, 4))) (SqT.of upd_same) (f2.dn (dn_spot (p := (1, 4)) (SqT.of upd_same)))
    refine k1 _ _ _ el2 ⟨same_upd hle (e.trans f12), upd_same, ⟨N ++ [((0 + (i : Int), (1, 4)) : G6.GP)], ?_, by rw [List.length_append, lN]; rfl, fun x hx => ?_⟩, by rw [List.length_append, ly]; rfl, _, rfl⟩
    · rw [List.map_append]; exact (gps_upd el2 (f12.dns dN)).append (dns_cons (gp_upd el2 dnu) dns_nil)
    · rcases List.mem_append.mp hx with g | g
      · exact hN x g
      · rw [List.mem_singleton.mp g]
  rintro ys σ' I6 ⟨e6, el, ⟨N, dN, lN, hN⟩, ly, _⟩
  refine ⟨by show 4 ≤ 4; decide, ?_⟩
  have pgN : PG K I6 le N := ⟨⟨ys, el, dN⟩, fun x hx => by rw [hN x hx]; exact wok14, by omega⟩
  have h4 := h4.same e6
  have noN : ¬ G6.Okk four.length N := fun z => by have := z.1; omega
  have hAf := hAf.same e6
  have hTf := e6 _ _ hTf
  have g6 : Same I6 I6 := Same.refl _
  refine ja _ _ _ (hold fun Jb jb => ?_)
  refine ⟨_, rfl, fun m2 dx2 hm2 hdx2 hdm2 => ?_⟩
  refine ⟨m2, le, dx2, ys, rfl, upd_same, ins_sq hm2 hdx2 el, fun a3 I7 ha3 h7a h7m keep => ⟨rfl, ?_⟩⟩
  have sk := keep_same hm2 hdx2 keep
  refine ⟨m2, dx2, _, rfl, h7m, fld1_no a3 (by decide +kernel), _, rfl, (by show 2 ≤ sizeLine; decide), fun ts hts => ?_⟩
  have f7 := same_new hts (HO.tup [V.int 1, V.int 1])
  have sp11 : Sp K (upd I7 ts (HO.tup [V.int 1, V.int 1])) (.ref ts) (1, 1) := ⟨dn_spot (p := (1, 1)) (SqT.of upd_same), ⟨by decide, by decide⟩, by decide, by decide⟩
  generalize upd I7 ts (HO.tup [V.int 1, V.int 1]) = I8 at *
  have g8 := sk.trans f7
  have pg8 : PG K I8 a3 N := ⟨⟨ys, f7 _ _ h7a, g8.dns dN⟩, pgN.w, pgN.len⟩
  refine ⟨m2, dx2, a3, .ref lf, .ref ts, four, (1, 1), N, rfl, f7 _ _ h7m, pg8, h4.same g8, sp11, fun r I9 e9 i9 => ?_⟩
  obtain rfl : r = false := by
    cases r with
    | false => rfl
    | true => exact absurd (i9.mp rfl).1 noN
  refine ⟨_, _, rfl, rfl, _, rfl, iteF ?_⟩
  have g9 := g8.trans e9
  refine ⟨_, rfl, _, rfl, fun m4 dx4 hm4 hdx4 hdm4 => ?_⟩
  refine ⟨m4, le, le, dx4, ys, ys, rfl, upd_same, ins_sq hm4 hdx4 (g9 _ _ el), ins_sq hm4 hdx4 (g9 _ _ el), fun a5 b5 Ia ha5 hb5 nab h5a h5b h5m keep4 => ⟨rfl, ?_⟩⟩
  have sk4 := keep_same hm4 hdx4 keep4
  have ga := g9.trans sk4
  refine ⟨m4, dx4, _, rfl, h5m, mflds_no a5 b5 (by decide +kernel) (by decide +kernel), _, rfl, _, rfl, ?_⟩
  refine ⟨m4, dx4, a5, b5, .ref lf, .ref lf, four, four, N, N, rfl, h5m, ⟨⟨ys, h5a, ga.dns dN⟩, pgN.w, pgN.len⟩, ⟨⟨ys, h5b, ga.dns dN⟩, pgN.w, pgN.len⟩, h4.same ga, h4.same ga, fun r Ib eb ib => ?_⟩
  obtain rfl : r = false := by
    cases r with
    | false => rfl
    | true => exact absurd (ib.mp rfl).1.1 noN
  refine ⟨_, _, rfl, rfl, _, rfl, iteF ?_⟩
  have gb := ga.trans eb
  have h4 := h4.same gb
  have hAf := hAf.same gb
  have hTf := gb _ _ hTf
  have el := gb _ _ el
  have dN := gb.dns dN
  clear g8 g9 ga gb sk sk4 f7 e9 eb sp11 pg8 h7a h7m h5a h5b h5m keep keep4
  refine jb _ _ _ (hold fun Jc jc => ?_)
  -- half
  refine ⟨(by show 2 ≤ sizeLine; decide), fun u1 ku1 => ?_⟩
  have f1 := same_new ku1 (HO.tup [V.int 1, V.int 2])
  have s1 : upd Ib u1 (HO.tup [V.int 1, V.int 2]) u1 = some (.tup [V.int 1, V.int 2]) := upd_same
  generalize upd Ib u1 (HO.tup [V.int 1, V.int 2]) = K1 at *
  refine ⟨(by show 2 ≤ sizeLine; decide), fun u2 ku2 => ?_⟩
  have f2 := same_new ku2 (HO.tup [V.int 0, V.ref u1])
  have s2 : upd K1 u2 (HO.tup [V.int 0, V.ref u1]) u2 = some (.tup [V.int 0, V.ref u1]) := upd_same
  generalize upd K1 u2 (HO.tup [V.int 0, V.ref u1]) = K2 at *
  refine ⟨(by show 2 ≤ sizeLine; decide), fun u3 ku3 => ?_⟩
  have f3 := same_new ku3 (HO.tup [V.int 1, V.int 2])
  have s3 : upd K2 u3 (HO.tup [V.int 1, V.int 2]) u3 = some (.tup [V.int 1, V.int 2]) := upd_same
  generalize upd K2 u3 (HO.tup [V.int 1, V.int 2]) = K3 at *
  refine ⟨(by show 2 ≤ sizeLine; decide), fun u4 ku4 => ?_⟩
  have f4 := same_new ku4 (HO.tup [V.int 3, V.ref u3])
  have s4 : upd K3 u4 (HO.tup [V.int 3, V.ref u3]) u4 = some (.tup [V.int 3, V.ref u3]) := upd_same
  generalize upd K3 u4 (HO.tup [V.int 3, V.ref u3]) = K4 at *
  refine ⟨(by show 2 ≤ sizeLine; decide), fun lh klh => ?_⟩
  have f5 := same_new klh (HO.lst [V.ref u2, V.ref u4])
  have s5 : upd K4 lh (HO.lst [V.ref u2, V.ref u4]) lh = some (.lst [V.ref u2, V.ref u4]) := upd_same
  generalize upd K4 lh (HO.lst [V.ref u2, V.ref u4]) = K5 at *
  have t4 := f4.trans f5
  have t3 := f3.trans t4
  have t2 := f2.trans t3
  have t1 := f1.trans t2
  have dh : Dns K K5 (half.map gD) [V.ref u2, V.ref u4] := dns_cons (dn_gp (x := (0, (1, 2))) (SqT.of (t3 _ _ s2)) (dn_spot (p := (1, 2)) (SqT.of (t2 _ _ s1)))) (dns_cons (dn_gp (x := (3, (1, 2))) (SqT.of (f5 _ _ s4)) (dn_spot (p := (1, 2)) (SqT.of (t4 _ _ s3)))) dns_nil)
  have wh : ∀ x ∈ half, G6.WOk x.2 := by
    intro x hx
    simp only [half, List.mem_cons, List.not_mem_nil, or_false] at hx
    rcases hx with rfl | rfl <;> exact wok12
  have h4 := h4.same t1
  have hAf := hAf.same t1
  have hTf := t1 _ _ hTf
  have el := t1 _ _ el
  have dN := t1.dns dN
  refine jc _ _ _ (hold fun Jd jd => ?_)
  refine ⟨_, rfl, fun m2 dx2 hm2 hdx2 hdm2 => ?_⟩
  refine ⟨m2, lh, dx2, _, rfl, upd_same, ins_sq hm2 hdx2 s5, fun a3 K7 ha3 h7a h7m keep => ⟨rfl, ?_⟩⟩
  have sk := keep_same hm2 hdx2 keep
  refine ⟨m2, dx2, _, rfl, h7m, fld1_no a3 (by decide +kernel), _, rfl, (by show 2 ≤ sizeLine; decide), fun ts hts => ?_⟩
  have f7 := same_new hts (HO.tup [V.int 1, V.int 1])
  have sp11 : Sp K (upd K7 ts (HO.tup [V.int 1, V.int 1])) (.ref ts) (1, 1) := ⟨dn_spot (p := (1, 1)) (SqT.of upd_same), ⟨by decide, by decide⟩, by decide, by decide⟩
  generalize upd K7 ts (HO.tup [V.int 1, V.int 1]) = K8 at *
  have g8 := sk.trans f7
  refine ⟨m2, dx2, a3, .ref lf, .ref ts, four, (1, 1), half, rfl, f7 _ _ h7m, ⟨⟨_, f7 _ _ h7a, g8.dns dh⟩, wh, by decide⟩, h4.same g8, sp11, fun r K9 e9 i9 => ?_⟩
  obtain rfl : r = true := i9.mpr half_shows
  refine ⟨_, _, rfl, rfl, _, rfl, iteF ?_⟩
  have g9 := g8.trans e9
  refine ⟨_, rfl, _, rfl, fun m4 dx4 hm4 hdx4 hdm4 => ?_⟩
  refine ⟨m4, lh, le, dx4, _, ys, rfl, upd_same, ins_sq hm4 hdx4 (g9 _ _ s5), ins_sq hm4 hdx4 (g9 _ _ el), fun a5 b5 Ka ha5 hb5 nab h5a h5b h5m keep4 => ⟨rfl, ?_⟩⟩
  have sk4 := keep_same hm4 hdx4 keep4
  have ga := g9.trans sk4
  refine ⟨m4, dx4, _, rfl, h5m, mflds_no a5 b5 (by decide +kernel) (by decide +kernel), _, rfl, _, rfl, ?_⟩
  refine ⟨m4, dx4, a5, b5, .ref lf, .ref lf, four, four, half, N, rfl, h5m, ⟨⟨_, h5a, ga.dns dh⟩, wh, by decide⟩, ⟨⟨ys, h5b, ga.dns dN⟩, pgN.w, pgN.len⟩, h4.same ga, h4.same ga, fun r Kb eb ib => ?_⟩
  obtain rfl : r = false := by
    cases r with
    | false => rfl
    | true => exact absurd (ib.mp rfl).2.1.1 noN
  refine ⟨_, _, rfl, rfl, _, rfl, iteF ?_⟩
  have gb := ga.trans eb
  refine jd _ _ _ ?_
  refine ⟨_, rfl, _, rfl, _, rfl, _, rfl, .ref l1, .ref l1, p1, p1, rfl, hAf.same gb, hAf.same gb, gb _ _ hTf, fun both2 Kc ec hb2 => ?_⟩
  have gc := gb.trans ec
  refine ⟨_, rfl, _, _, rfl, rfl, .ref l1, .ref l1, both2, p1, p1, c3 + 3, rfl, hb2, hAf.same gc, hAf.same gc, fun Kd ed => q _⟩
end
end K6a
set_option Elab.async false
set_option linter.all false
set_option maxRecDepth 100000
set_option maxHeartbeats 4000000
namespace K6a
open PySem L2 Hull SortM SepM
seal L2.PE L2.PT L2.PW L2.PA L2.PS L2.PSs L2.PG L2.PGs L2.PF L2.PI L2.PO
theorem all_mk {l : PySem.W.OpenLaw} {w : World} {K : PySem.W.Frag} {h : Heap} {mg : Str → Option Value} {fa f1 f2 f3 f4 f5 f6 f7 f8 f9 f10 f11 f12 f13 f14 f15 f16 f17 f18 f19 f20 f21 f22 f23 f24 f25 f26 f27 f28 f29 f30 f31 f32 f33 f34 f35 f36 f37 f38 f39 f40 f41 f42 f43 f44 f45 f46 f47 f48 f49 f50 f51 f52 f53 f54 f55 f56 f57 f58 f59 f60 f61 f62 : Addr} (X : K.In h) (G : h.Ns mainGlobals mg) (hfa : mg "law" = some (.ref fa)) {cT tT : Addr} (T0 : TabAt "fence_between" mg h cT tT)
    {od1 an1 od2 an2 od3 an3 od4 an4 od5 an5 od6 an6 od7 an7 od8 an8 od9 an9 od10 an10 od11 an11 od12 an12 od13 an13 od14 an14 od15 an15 od16 an16 od17 an17 od18 an18 od19 an19 od20 an20 od21 an21 od22 an22 od23 an23 od24 an24 od25 an25 od26 an26 od27 an27 od28 an28 od29 an29 od30 an30 od31 an31 od32 an32 od33 an33 od34 an34 od35 an35 od36 an36 od37 an37 od38 an38 od39 an39 od40 an40 od41 an41 od42 an42 od43 an43 od44 an44 od45 an45 od46 an46 od47 an47 od48 an48 od49 an49 od50 an50 od51 an51 od52 an52 od53 an53 od54 an54 od55 an55 od56 an56 od57 an57 od58 an58 od59 an59 od60 an60 od61 an61 od62 an62 : Option Addr} {sl1 sl2 sl3 sl4 sl5 sl6 sl7 sl8 sl9 sl10 sl11 sl12 sl13 sl14 sl15 sl16 sl17 sl18 sl19 sl20 sl21 sl22 sl23 sl24 sl25 sl26 sl27 sl28 sl29 sl30 sl31 sl32 sl33 sl34 sl35 sl36 sl37 sl38 sl39 sl40 sl41 sl42 sl43 sl44 sl45 sl46 sl47 sl48 sl49 sl50 sl51 sl52 sl53 sl54 sl55 sl56 sl57 sl58 sl59 sl60 sl61 sl62 : Array (Option Value)} {oc1 kV1 dc1 pm1 cd1 ct1 oc2 kV2 dc2 pm2 cd2 ct2 oc3 kV3 dc3 pm3 cd3 ct3 oc4 kV4 dc4 pm4 cd4 ct4 oc5 kV5 dc5 pm5 cd5 ct5 oc6 kV6 dc6 pm6 cd6 ct6 oc7 kV7 dc7 pm7 cd7 ct7 oc8 kV8 dc8 pm8 cd8 ct8 oc9 kV9 dc9 pm9 cd9 ct9 oc10 kV10 dc10 pm10 cd10 ct10 oc11 kV11 dc11 pm11 cd11 ct11 oc12 kV12 dc12 pm12 cd12 ct12 oc13 kV13 dc13 pm13 cd13 ct13 oc14 kV14 dc14 pm14 cd14 ct14 oc15 kV15 dc15 pm15 cd15 ct15 oc16 kV16 dc16 pm16 cd16 ct16 oc17 kV17 dc17 pm17 cd17 ct17 oc18 kV18 dc18 pm18 cd18 ct18 oc19 kV19 dc19 pm19 cd19 ct19 oc20 kV20 dc20 pm20 cd20 ct20 oc21 kV21 dc21 pm21 cd21 ct21 oc22 kV22 dc22 pm22 cd22 ct22 oc23 kV23 dc23 pm23 cd23 ct23 oc24 kV24 dc24 pm24 cd24 ct24 oc25 kV25 dc25 pm25 cd25 ct25 oc26 kV26 dc26 pm26 cd26 ct26 oc27 kV27 dc27 pm27 cd27 ct27 oc28 kV28 dc28 pm28 cd28 ct28 oc29 kV29 dc29 pm29 cd29 ct29 oc30 kV30 dc30 pm30 cd30 ct30 oc31 kV31 dc31 pm31 cd31 ct31 oc32 kV32 dc32 pm32 cd32 ct32 oc33 kV33 dc33 pm33 cd33 ct33 oc34 kV34 dc34 pm34 cd34 ct34 oc35 kV35 dc35 pm35 cd35 ct35 oc36 kV36 dc36 pm36 cd36 ct36 oc37 kV37 dc37 pm37 cd37 ct37 oc38 kV38 dc38 pm38 cd38 ct38 oc39 kV39 dc39 pm39 cd39 ct39 oc40 kV40 dc40 pm40 cd40 ct40 oc41 kV41 dc41 pm41 cd41 ct41 oc42 kV42 dc42 pm42 cd42 ct42 oc43 kV43 dc43 pm43 cd43 ct43 oc44 kV44 dc44 pm44 cd44 ct44 oc45 kV45 dc45 pm45 cd45 ct45 oc46 kV46 dc46 pm46 cd46 ct46 oc47 kV47 dc47 pm47 cd47 ct47 oc48 kV48 dc48 pm48 cd48 ct48 oc49 kV49 dc49 pm49 cd49 ct49 oc50 kV50 dc50 pm50 cd50 ct50 oc51 kV51 dc51 pm51 cd51 ct51 oc52 kV52 dc52 pm52 cd52 ct52 oc53 kV53 dc53 pm53 cd53 ct53 oc54 kV54 dc54 pm54 cd54 ct54 oc55 kV55 dc55 pm55 cd55 ct55 oc56 kV56 dc56 pm56 cd56 ct56 oc57 kV57 dc57 pm57 cd57 ct57 oc58 kV58 dc58 pm58 cd58 ct58 oc59 kV59 dc59 pm59 cd59 ct59 oc60 kV60 dc60 pm60 cd60 ct60 oc61 kV61 dc61 pm61 cd61 ct61 oc62 kV62 dc62 pm62 cd62 ct62 : Value}
    {tk_BOUND : Tok} (y_BOUND : PySem.W.nsIn K mainGlobals "BOUND" = some (some (.int 1000 tk_BOUND)))
    {tk_MOST_SPOTS : Tok} (y_MOST_SPOTS : PySem.W.nsIn K mainGlobals "MOST_SPOTS" = some (some (.int 8 tk_MOST_SPOTS)))
    {tk_MOST_PARTS : Tok} (y_MOST_PARTS : PySem.W.nsIn K mainGlobals "MOST_PARTS" = some (some (.int 3 tk_MOST_PARTS)))
    {c_Mixed : Addr}
    (aC_Mixed : PySem.W.nsIn K mainGlobals "Mixed" = some (some (.ref c_Mixed)))
    (pg_Mixed : PySem.W.plainGet K c_Mixed Str.empty = true)
    (hd_Mixed : PySem.W.hasDictIn K c_Mixed = true)
    (po_Mixed : PySem.W.plainOver K c_Mixed = true)
    (sa_Mixed : PySem.W.findIn K (.ref c_Mixed) "__setattr__" = some (some (.builtin "object.__setattr__")))
    (mk_Mixed : PySem.W.makesIn K c_Mixed = true)
    (kc_Mixed : PySem.W.keepIn K (.ref c_Mixed) = true)
    (n_parts_Mixed : PySem.W.findIn K (.ref c_Mixed) "parts" = some none)
    (ha_Mixed : PySem.W.findIn K (.ref c_Mixed) "__class__" = some (some (.builtin "object.__class__")))
    (hn_Mixed : PySem.W.specialIn K (.builtin "object.__class__") "__get__" = some (some (.builtin "getset_descriptor.__get__")))
    (htk_Mixed : PySem.W.takesIn K (.builtin "object.__class__") = some true)
    (hm_Mixed : PySem.W.mroIn K c_Mixed (.type "object") = some true)
    {c_Apart : Addr}
    (aC_Apart : PySem.W.nsIn K mainGlobals "Apart" = some (some (.ref c_Apart)))
    (pg_Apart : PySem.W.plainGet K c_Apart Str.empty = true)
    (hd_Apart : PySem.W.hasDictIn K c_Apart = true)
    (po_Apart : PySem.W.plainOver K c_Apart = true)
    (sa_Apart : PySem.W.findIn K (.ref c_Apart) "__setattr__" = some (some (.builtin "object.__setattr__")))
    (mk_Apart : PySem.W.makesIn K c_Apart = true)
    (kc_Apart : PySem.W.keepIn K (.ref c_Apart) = true)
    (n_fence_Apart : PySem.W.findIn K (.ref c_Apart) "fence" = some none)
    (ha_Apart : PySem.W.findIn K (.ref c_Apart) "__class__" = some (some (.builtin "object.__class__")))
    (hn_Apart : PySem.W.specialIn K (.builtin "object.__class__") "__get__" = some (some (.builtin "getset_descriptor.__get__")))
    (htk_Apart : PySem.W.takesIn K (.builtin "object.__class__") = some true)
    (hm_Apart : PySem.W.mroIn K c_Apart (.type "object") = some true)
    {c_Parted : Addr}
    (aC_Parted : PySem.W.nsIn K mainGlobals "Parted" = some (some (.ref c_Parted)))
    (pg_Parted : PySem.W.plainGet K c_Parted Str.empty = true)
    (hd_Parted : PySem.W.hasDictIn K c_Parted = true)
    (po_Parted : PySem.W.plainOver K c_Parted = true)
    (sa_Parted : PySem.W.findIn K (.ref c_Parted) "__setattr__" = some (some (.builtin "object.__setattr__")))
    (mk_Parted : PySem.W.makesIn K c_Parted = true)
    (kc_Parted : PySem.W.keepIn K (.ref c_Parted) = true)
    (n_fence_Parted : PySem.W.findIn K (.ref c_Parted) "fence" = some none)
    (ha_Parted : PySem.W.findIn K (.ref c_Parted) "__class__" = some (some (.builtin "object.__class__")))
    (hn_Parted : PySem.W.specialIn K (.builtin "object.__class__") "__get__" = some (some (.builtin "getset_descriptor.__get__")))
    (htk_Parted : PySem.W.takesIn K (.builtin "object.__class__") = some true)
    (hm_Parted : PySem.W.mroIn K c_Parted (.type "object") = some true)
    {c_Meeting : Addr}
    (aC_Meeting : PySem.W.nsIn K mainGlobals "Meeting" = some (some (.ref c_Meeting)))
    (pg_Meeting : PySem.W.plainGet K c_Meeting Str.empty = true)
    (hd_Meeting : PySem.W.hasDictIn K c_Meeting = true)
    (po_Meeting : PySem.W.plainOver K c_Meeting = true)
    (sa_Meeting : PySem.W.findIn K (.ref c_Meeting) "__setattr__" = some (some (.builtin "object.__setattr__")))
    (mk_Meeting : PySem.W.makesIn K c_Meeting = true)
    (kc_Meeting : PySem.W.keepIn K (.ref c_Meeting) = true)
    (n_first_Meeting : PySem.W.findIn K (.ref c_Meeting) "first" = some none)
    (n_second_Meeting : PySem.W.findIn K (.ref c_Meeting) "second" = some none)
    (ha_Meeting : PySem.W.findIn K (.ref c_Meeting) "__class__" = some (some (.builtin "object.__class__")))
    (hn_Meeting : PySem.W.specialIn K (.builtin "object.__class__") "__get__" = some (some (.builtin "getset_descriptor.__get__")))
    (htk_Meeting : PySem.W.takesIn K (.builtin "object.__class__") = some true)
    (hm_Meeting : PySem.W.mroIn K c_Meeting (.type "object") = some true)
    (kAM : PySem.W.kitOne K (.ref c_Apart) (.ref c_Mixed) = some false)
    (kEP : PySem.W.kitOne K (.ref c_Meeting) (.ref c_Parted) = some false)
    (a1 : PySem.W.nsIn K mainGlobals "common_divisor" = some (some (.ref f1))) (l1 : K.lookup f1 = some ⟨oc1, od1, .func (PySem.W.fnOf "common_divisor" "common_divisor" (defArgs s_common_divisor) (defBody s_common_divisor) (defScope s_common_divisor) .none kV1 dc1 pm1 an1 cd1 ct1), sl1⟩) (c1 : PySem.W.codeIn K cd1 "common_divisor" = true) (k1 : PySem.W.keepIn K (.ref f1) = true)
    (a2 : PySem.W.nsIn K mainGlobals "made" = some (some (.ref f2))) (l2 : K.lookup f2 = some ⟨oc2, od2, .func (PySem.W.fnOf "made" "made" (defArgs s_made) (defBody s_made) (defScope s_made) .none kV2 dc2 pm2 an2 cd2 ct2), sl2⟩) (c2 : PySem.W.codeIn K cd2 "made" = true) (k2 : PySem.W.keepIn K (.ref f2) = true)
    (a3 : PySem.W.nsIn K mainGlobals "plus" = some (some (.ref f3))) (l3 : K.lookup f3 = some ⟨oc3, od3, .func (PySem.W.fnOf "plus" "plus" (defArgs s_plus) (defBody s_plus) (defScope s_plus) .none kV3 dc3 pm3 an3 cd3 ct3), sl3⟩) (c3 : PySem.W.codeIn K cd3 "plus" = true) (k3 : PySem.W.keepIn K (.ref f3) = true)
    (a4 : PySem.W.nsIn K mainGlobals "times" = some (some (.ref f4))) (l4 : K.lookup f4 = some ⟨oc4, od4, .func (PySem.W.fnOf "times" "times" (defArgs s_times) (defBody s_times) (defScope s_times) .none kV4 dc4 pm4 an4 cd4 ct4), sl4⟩) (c4 : PySem.W.codeIn K cd4 "times" = true) (k4 : PySem.W.keepIn K (.ref f4) = true)
    (a5 : PySem.W.nsIn K mainGlobals "is_number" = some (some (.ref f5))) (l5 : K.lookup f5 = some ⟨oc5, od5, .func (PySem.W.fnOf "is_number" "is_number" (defArgs s_is_number) (defBody s_is_number) (defScope s_is_number) .none kV5 dc5 pm5 an5 cd5 ct5), sl5⟩) (c5 : PySem.W.codeIn K cd5 "is_number" = true) (k5 : PySem.W.keepIn K (.ref f5) = true)
    (a6 : PySem.W.nsIn K mainGlobals "is_pair" = some (some (.ref f6))) (l6 : K.lookup f6 = some ⟨oc6, od6, .func (PySem.W.fnOf "is_pair" "is_pair" (defArgs s_is_pair) (defBody s_is_pair) (defScope s_is_pair) .none kV6 dc6 pm6 an6 cd6 ct6), sl6⟩) (c6 : PySem.W.codeIn K cd6 "is_pair" = true) (k6 : PySem.W.keepIn K (.ref f6) = true)
    (a7 : PySem.W.nsIn K mainGlobals "is_herd" = some (some (.ref f7))) (l7 : K.lookup f7 = some ⟨oc7, od7, .func (PySem.W.fnOf "is_herd" "is_herd" (defArgs s_is_herd) (defBody s_is_herd) (defScope s_is_herd) .none kV7 dc7 pm7 an7 cd7 ct7), sl7⟩) (c7 : PySem.W.codeIn K cd7 "is_herd" = true) (k7 : PySem.W.keepIn K (.ref f7) = true)
    (a8 : PySem.W.nsIn K mainGlobals "is_fraction" = some (some (.ref f8))) (l8 : K.lookup f8 = some ⟨oc8, od8, .func (PySem.W.fnOf "is_fraction" "is_fraction" (defArgs s_is_fraction) (defBody s_is_fraction) (defScope s_is_fraction) .none kV8 dc8 pm8 an8 cd8 ct8), sl8⟩) (c8 : PySem.W.codeIn K cd8 "is_fraction" = true) (k8 : PySem.W.keepIn K (.ref f8) = true)
    (a9 : PySem.W.nsIn K mainGlobals "check_herd" = some (some (.ref f9))) (l9 : K.lookup f9 = some ⟨oc9, od9, .func (PySem.W.fnOf "check_herd" "check_herd" (defArgs s_check_herd) (defBody s_check_herd) (defScope s_check_herd) .none kV9 dc9 pm9 an9 cd9 ct9), sl9⟩) (c9 : PySem.W.codeIn K cd9 "check_herd" = true) (k9 : PySem.W.keepIn K (.ref f9) = true)
    (a10 : PySem.W.nsIn K mainGlobals "check_spot" = some (some (.ref f10))) (l10 : K.lookup f10 = some ⟨oc10, od10, .func (PySem.W.fnOf "check_spot" "check_spot" (defArgs s_check_spot) (defBody s_check_spot) (defScope s_check_spot) .none kV10 dc10 pm10 an10 cd10 ct10), sl10⟩) (c10 : PySem.W.codeIn K cd10 "check_spot" = true) (k10 : PySem.W.keepIn K (.ref f10) = true)
    (a11 : PySem.W.nsIn K mainGlobals "leftness" = some (some (.ref f11))) (l11 : K.lookup f11 = some ⟨oc11, od11, .func (PySem.W.fnOf "leftness" "leftness" (defArgs s_leftness) (defBody s_leftness) (defScope s_leftness) .none kV11 dc11 pm11 an11 cd11 ct11), sl11⟩) (c11 : PySem.W.codeIn K cd11 "leftness" = true) (k11 : PySem.W.keepIn K (.ref f11) = true)
    (a12 : PySem.W.nsIn K mainGlobals "reach" = some (some (.ref f12))) (l12 : K.lookup f12 = some ⟨oc12, od12, .func (PySem.W.fnOf "reach" "reach" (defArgs s_reach) (defBody s_reach) (defScope s_reach) .none kV12 dc12 pm12 an12 cd12 ct12), sl12⟩) (c12 : PySem.W.codeIn K cd12 "reach" = true) (k12 : PySem.W.keepIn K (.ref f12) = true)
    (a13 : PySem.W.nsIn K mainGlobals "is_part" = some (some (.ref f13))) (l13 : K.lookup f13 = some ⟨oc13, od13, .func (PySem.W.fnOf "is_part" "is_part" (defArgs s_is_part) (defBody s_is_part) (defScope s_is_part) .none kV13 dc13 pm13 an13 cd13 ct13), sl13⟩) (c13 : PySem.W.codeIn K cd13 "is_part" = true) (k13 : PySem.W.keepIn K (.ref f13) = true)
    (a14 : PySem.W.nsIn K mainGlobals "is_rising" = some (some (.ref f14))) (l14 : K.lookup f14 = some ⟨oc14, od14, .func (PySem.W.fnOf "is_rising" "is_rising" (defArgs s_is_rising) (defBody s_is_rising) (defScope s_is_rising) .none kV14 dc14 pm14 an14 cd14 ct14), sl14⟩) (c14 : PySem.W.codeIn K cd14 "is_rising" = true) (k14 : PySem.W.keepIn K (.ref f14) = true)
    (a15 : PySem.W.nsIn K mainGlobals "total" = some (some (.ref f15))) (l15 : K.lookup f15 = some ⟨oc15, od15, .func (PySem.W.fnOf "total" "total" (defArgs s_total) (defBody s_total) (defScope s_total) .none kV15 dc15 pm15 an15 cd15 ct15), sl15⟩) (c15 : PySem.W.codeIn K cd15 "total" = true) (k15 : PySem.W.keepIn K (.ref f15) = true)
    (a16 : PySem.W.nsIn K mainGlobals "is_mixture" = some (some (.ref f16))) (l16 : K.lookup f16 = some ⟨oc16, od16, .func (PySem.W.fnOf "is_mixture" "is_mixture" (defArgs s_is_mixture) (defBody s_is_mixture) (defScope s_is_mixture) .none kV16 dc16 pm16 an16 cd16 ct16), sl16⟩) (c16 : PySem.W.codeIn K cd16 "is_mixture" = true) (k16 : PySem.W.keepIn K (.ref f16) = true)
    (a17 : PySem.W.nsIn K mainGlobals "point" = some (some (.ref f17))) (l17 : K.lookup f17 = some ⟨oc17, od17, .func (PySem.W.fnOf "point" "point" (defArgs s_point) (defBody s_point) (defScope s_point) .none kV17 dc17 pm17 an17 cd17 ct17), sl17⟩) (c17 : PySem.W.codeIn K cd17 "point" = true) (k17 : PySem.W.keepIn K (.ref f17) = true)
    (a18 : PySem.W.nsIn K mainGlobals "is_fence" = some (some (.ref f18))) (l18 : K.lookup f18 = some ⟨oc18, od18, .func (PySem.W.fnOf "is_fence" "is_fence" (defArgs s_is_fence) (defBody s_is_fence) (defScope s_is_fence) .none kV18 dc18 pm18 an18 cd18 ct18), sl18⟩) (c18 : PySem.W.codeIn K cd18 "is_fence" = true) (k18 : PySem.W.keepIn K (.ref f18) = true)
    (a19 : PySem.W.nsIn K mainGlobals "is_beyond" = some (some (.ref f19))) (l19 : K.lookup f19 = some ⟨oc19, od19, .func (PySem.W.fnOf "is_beyond" "is_beyond" (defArgs s_is_beyond) (defBody s_is_beyond) (defScope s_is_beyond) .none kV19 dc19 pm19 an19 cd19 ct19), sl19⟩) (c19 : PySem.W.codeIn K cd19 "is_beyond" = true) (k19 : PySem.W.keepIn K (.ref f19) = true)
    (a20 : PySem.W.nsIn K mainGlobals "is_beneath" = some (some (.ref f20))) (l20 : K.lookup f20 = some ⟨oc20, od20, .func (PySem.W.fnOf "is_beneath" "is_beneath" (defArgs s_is_beneath) (defBody s_is_beneath) (defScope s_is_beneath) .none kV20 dc20 pm20 an20 cd20 ct20), sl20⟩) (c20 : PySem.W.codeIn K cd20 "is_beneath" = true) (k20 : PySem.W.keepIn K (.ref f20) = true)
    (a21 : PySem.W.findIn K (.ref c_Mixed) "__init__" = some (some (.ref f21))) (i21 : PySem.W.isFn K (.ref f21) = true) (l21 : K.lookup f21 = some ⟨oc21, od21, .func (PySem.W.fnOf "__init__" "Mixed.__init__" (defArgs s_Mixed___init__) (defBody s_Mixed___init__) (defScope s_Mixed___init__) .none kV21 dc21 pm21 an21 cd21 ct21), sl21⟩) (c21 : PySem.W.codeIn K cd21 "Mixed.__init__" = true) (k21 : PySem.W.keepIn K (.ref f21) = true)
    (a22 : PySem.W.findIn K (.ref c_Mixed) "shows" = some (some (.ref f22))) (i22 : PySem.W.isFn K (.ref f22) = true) (l22 : K.lookup f22 = some ⟨oc22, od22, .func (PySem.W.fnOf "shows" "Mixed.shows" (defArgs s_Mixed_shows) (defBody s_Mixed_shows) (defScope s_Mixed_shows) .none kV22 dc22 pm22 an22 cd22 ct22), sl22⟩) (c22 : PySem.W.codeIn K cd22 "Mixed.shows" = true) (k22 : PySem.W.keepIn K (.ref f22) = true)
    (a23 : PySem.W.findIn K (.ref c_Apart) "__init__" = some (some (.ref f23))) (i23 : PySem.W.isFn K (.ref f23) = true) (l23 : K.lookup f23 = some ⟨oc23, od23, .func (PySem.W.fnOf "__init__" "Apart.__init__" (defArgs s_Apart___init__) (defBody s_Apart___init__) (defScope s_Apart___init__) .none kV23 dc23 pm23 an23 cd23 ct23), sl23⟩) (c23 : PySem.W.codeIn K cd23 "Apart.__init__" = true) (k23 : PySem.W.keepIn K (.ref f23) = true)
    (a24 : PySem.W.findIn K (.ref c_Apart) "shows" = some (some (.ref f24))) (i24 : PySem.W.isFn K (.ref f24) = true) (l24 : K.lookup f24 = some ⟨oc24, od24, .func (PySem.W.fnOf "shows" "Apart.shows" (defArgs s_Apart_shows) (defBody s_Apart_shows) (defScope s_Apart_shows) .none kV24 dc24 pm24 an24 cd24 ct24), sl24⟩) (c24 : PySem.W.codeIn K cd24 "Apart.shows" = true) (k24 : PySem.W.keepIn K (.ref f24) = true)
    (a25 : PySem.W.findIn K (.ref c_Parted) "__init__" = some (some (.ref f25))) (i25 : PySem.W.isFn K (.ref f25) = true) (l25 : K.lookup f25 = some ⟨oc25, od25, .func (PySem.W.fnOf "__init__" "Parted.__init__" (defArgs s_Parted___init__) (defBody s_Parted___init__) (defScope s_Parted___init__) .none kV25 dc25 pm25 an25 cd25 ct25), sl25⟩) (c25 : PySem.W.codeIn K cd25 "Parted.__init__" = true) (k25 : PySem.W.keepIn K (.ref f25) = true)
    (a26 : PySem.W.findIn K (.ref c_Parted) "shows" = some (some (.ref f26))) (i26 : PySem.W.isFn K (.ref f26) = true) (l26 : K.lookup f26 = some ⟨oc26, od26, .func (PySem.W.fnOf "shows" "Parted.shows" (defArgs s_Parted_shows) (defBody s_Parted_shows) (defScope s_Parted_shows) .none kV26 dc26 pm26 an26 cd26 ct26), sl26⟩) (c26 : PySem.W.codeIn K cd26 "Parted.shows" = true) (k26 : PySem.W.keepIn K (.ref f26) = true)
    (a27 : PySem.W.findIn K (.ref c_Meeting) "__init__" = some (some (.ref f27))) (i27 : PySem.W.isFn K (.ref f27) = true) (l27 : K.lookup f27 = some ⟨oc27, od27, .func (PySem.W.fnOf "__init__" "Meeting.__init__" (defArgs s_Meeting___init__) (defBody s_Meeting___init__) (defScope s_Meeting___init__) .none kV27 dc27 pm27 an27 cd27 ct27), sl27⟩) (c27 : PySem.W.codeIn K cd27 "Meeting.__init__" = true) (k27 : PySem.W.keepIn K (.ref f27) = true)
    (a28 : PySem.W.findIn K (.ref c_Meeting) "shows" = some (some (.ref f28))) (i28 : PySem.W.isFn K (.ref f28) = true) (l28 : K.lookup f28 = some ⟨oc28, od28, .func (PySem.W.fnOf "shows" "Meeting.shows" (defArgs s_Meeting_shows) (defBody s_Meeting_shows) (defScope s_Meeting_shows) .none kV28 dc28 pm28 an28 cd28 ct28), sl28⟩) (c28 : PySem.W.codeIn K cd28 "Meeting.shows" = true) (k28 : PySem.W.keepIn K (.ref f28) = true)
    (a29 : PySem.W.nsIn K mainGlobals "ones" = some (some (.ref f29))) (l29 : K.lookup f29 = some ⟨oc29, od29, .func (PySem.W.fnOf "ones" "ones" (defArgs s_ones) (defBody s_ones) (defScope s_ones) .none kV29 dc29 pm29 an29 cd29 ct29), sl29⟩) (c29 : PySem.W.codeIn K cd29 "ones" = true) (k29 : PySem.W.keepIn K (.ref f29) = true)
    (a30 : PySem.W.nsIn K mainGlobals "grown" = some (some (.ref f30))) (l30 : K.lookup f30 = some ⟨oc30, od30, .func (PySem.W.fnOf "grown" "grown" (defArgs s_grown) (defBody s_grown) (defScope s_grown) .none kV30 dc30 pm30 an30 cd30 ct30), sl30⟩) (c30 : PySem.W.codeIn K cd30 "grown" = true) (k30 : PySem.W.keepIn K (.ref f30) = true)
    (a31 : PySem.W.nsIn K mainGlobals "twos" = some (some (.ref f31))) (l31 : K.lookup f31 = some ⟨oc31, od31, .func (PySem.W.fnOf "twos" "twos" (defArgs s_twos) (defBody s_twos) (defScope s_twos) .none kV31 dc31 pm31 an31 cd31 ct31), sl31⟩) (c31 : PySem.W.codeIn K cd31 "twos" = true) (k31 : PySem.W.keepIn K (.ref f31) = true)
    (a32 : PySem.W.nsIn K mainGlobals "threes" = some (some (.ref f32))) (l32 : K.lookup f32 = some ⟨oc32, od32, .func (PySem.W.fnOf "threes" "threes" (defArgs s_threes) (defBody s_threes) (defScope s_threes) .none kV32 dc32 pm32 an32 cd32 ct32), sl32⟩) (c32 : PySem.W.codeIn K cd32 "threes" = true) (k32 : PySem.W.keepIn K (.ref f32) = true)
    (a33 : PySem.W.nsIn K mainGlobals "step" = some (some (.ref f33))) (l33 : K.lookup f33 = some ⟨oc33, od33, .func (PySem.W.fnOf "step" "step" (defArgs s_step) (defBody s_step) (defScope s_step) .none kV33 dc33 pm33 an33 cd33 ct33), sl33⟩) (c33 : PySem.W.codeIn K cd33 "step" = true) (k33 : PySem.W.keepIn K (.ref f33) = true)
    (a34 : PySem.W.nsIn K mainGlobals "weighed" = some (some (.ref f34))) (l34 : K.lookup f34 = some ⟨oc34, od34, .func (PySem.W.fnOf "weighed" "weighed" (defArgs s_weighed) (defBody s_weighed) (defScope s_weighed) .none kV34 dc34 pm34 an34 cd34 ct34), sl34⟩) (c34 : PySem.W.codeIn K cd34 "weighed" = true) (k34 : PySem.W.keepIn K (.ref f34) = true)
    (a35 : PySem.W.nsIn K mainGlobals "line_amounts" = some (some (.ref f35))) (l35 : K.lookup f35 = some ⟨oc35, od35, .func (PySem.W.fnOf "line_amounts" "line_amounts" (defArgs s_line_amounts) (defBody s_line_amounts) (defScope s_line_amounts) .none kV35 dc35 pm35 an35 cd35 ct35), sl35⟩) (c35 : PySem.W.codeIn K cd35 "line_amounts" = true) (k35 : PySem.W.keepIn K (.ref f35) = true)
    (a36 : PySem.W.nsIn K mainGlobals "amounts_at" = some (some (.ref f36))) (l36 : K.lookup f36 = some ⟨oc36, od36, .func (PySem.W.fnOf "amounts_at" "amounts_at" (defArgs s_amounts_at) (defBody s_amounts_at) (defScope s_amounts_at) .none kV36 dc36 pm36 an36 cd36 ct36), sl36⟩) (c36 : PySem.W.codeIn K cd36 "amounts_at" = true) (k36 : PySem.W.keepIn K (.ref f36) = true)
    (a37 : PySem.W.nsIn K mainGlobals "mixture_at" = some (some (.ref f37))) (l37 : K.lookup f37 = some ⟨oc37, od37, .func (PySem.W.fnOf "mixture_at" "mixture_at" (defArgs s_mixture_at) (defBody s_mixture_at) (defScope s_mixture_at) .none kV37 dc37 pm37 an37 cd37 ct37), sl37⟩) (c37 : PySem.W.codeIn K cd37 "mixture_at" = true) (k37 : PySem.W.keepIn K (.ref f37) = true)
    (a38 : PySem.W.nsIn K mainGlobals "ways_over" = some (some (.ref f38))) (l38 : K.lookup f38 = some ⟨oc38, od38, .func (PySem.W.fnOf "ways_over" "ways_over" (defArgs s_ways_over) (defBody s_ways_over) (defScope s_ways_over) .none kV38 dc38 pm38 an38 cd38 ct38), sl38⟩) (c38 : PySem.W.codeIn K cd38 "ways_over" = true) (k38 : PySem.W.keepIn K (.ref f38) = true)
    (a39 : PySem.W.nsIn K mainGlobals "far_end" = some (some (.ref f39))) (l39 : K.lookup f39 = some ⟨oc39, od39, .func (PySem.W.fnOf "far_end" "far_end" (defArgs s_far_end) (defBody s_far_end) (defScope s_far_end) .none kV39 dc39 pm39 an39 cd39 ct39), sl39⟩) (c39 : PySem.W.codeIn K cd39 "far_end" = true) (k39 : PySem.W.keepIn K (.ref f39) = true)
    (a40 : PySem.W.nsIn K mainGlobals "near_end" = some (some (.ref f40))) (l40 : K.lookup f40 = some ⟨oc40, od40, .func (PySem.W.fnOf "near_end" "near_end" (defArgs s_near_end) (defBody s_near_end) (defScope s_near_end) .none kV40 dc40 pm40 an40 cd40 ct40), sl40⟩) (c40 : PySem.W.codeIn K cd40 "near_end" = true) (k40 : PySem.W.keepIn K (.ref f40) = true)
    (a41 : PySem.W.nsIn K mainGlobals "fence_between" = some (some (.ref f41))) (l41 : K.lookup f41 = some ⟨oc41, od41, .func (PySem.W.fnOf "fence_between" "fence_between" (defArgs s_fence_between) (defBody s_fence_between) (defScope s_fence_between) .none kV41 dc41 pm41 an41 cd41 ct41), sl41⟩) (c41 : PySem.W.codeIn K cd41 "fence_between" = true) (k41 : PySem.W.keepIn K (.ref f41) = true)
    (a42 : PySem.W.nsIn K mainGlobals "held" = some (some (.ref f42))) (l42 : K.lookup f42 = some ⟨oc42, od42, .func (PySem.W.fnOf "held" "held" (defArgs s_held) (defBody s_held) (defScope s_held) .none kV42 dc42 pm42 an42 cd42 ct42), sl42⟩) (c42 : PySem.W.codeIn K cd42 "held" = true) (k42 : PySem.W.keepIn K (.ref f42) = true)
    (a43 : PySem.W.nsIn K mainGlobals "cross_amounts" = some (some (.ref f43))) (l43 : K.lookup f43 = some ⟨oc43, od43, .func (PySem.W.fnOf "cross_amounts" "cross_amounts" (defArgs s_cross_amounts) (defBody s_cross_amounts) (defScope s_cross_amounts) .none kV43 dc43 pm43 an43 cd43 ct43), sl43⟩) (c43 : PySem.W.codeIn K cd43 "cross_amounts" = true) (k43 : PySem.W.keepIn K (.ref f43) = true)
    (a44 : PySem.W.nsIn K mainGlobals "crossed" = some (some (.ref f44))) (l44 : K.lookup f44 = some ⟨oc44, od44, .func (PySem.W.fnOf "crossed" "crossed" (defArgs s_crossed) (defBody s_crossed) (defScope s_crossed) .none kV44 dc44 pm44 an44 cd44 ct44), sl44⟩) (c44 : PySem.W.codeIn K cd44 "crossed" = true) (k44 : PySem.W.keepIn K (.ref f44) = true)
    (a45 : PySem.W.nsIn K mainGlobals "shared" = some (some (.ref f45))) (l45 : K.lookup f45 = some ⟨oc45, od45, .func (PySem.W.fnOf "shared" "shared" (defArgs s_shared) (defBody s_shared) (defScope s_shared) .none kV45 dc45 pm45 an45 cd45 ct45), sl45⟩) (c45 : PySem.W.codeIn K cd45 "shared" = true) (k45 : PySem.W.keepIn K (.ref f45) = true)
    (a46 : PySem.W.nsIn K mainGlobals "within" = some (some (.ref f46))) (l46 : K.lookup f46 = some ⟨oc46, od46, .func (PySem.W.fnOf "within" "within" (defArgs s_within) (defBody s_within) (defScope s_within) .none kV46 dc46 pm46 an46 cd46 ct46), sl46⟩) (c46 : PySem.W.codeIn K cd46 "within" = true) (k46 : PySem.W.keepIn K (.ref f46) = true)
    (a47 : PySem.W.nsIn K mainGlobals "between" = some (some (.ref f47))) (l47 : K.lookup f47 = some ⟨oc47, od47, .func (PySem.W.fnOf "between" "between" (defArgs s_between) (defBody s_between) (defScope s_between) .none kV47 dc47 pm47 an47 cd47 ct47), sl47⟩) (c47 : PySem.W.codeIn K cd47 "between" = true) (k47 : PySem.W.keepIn K (.ref f47) = true)
    (a48 : PySem.W.nsIn K mainGlobals "_law_cell_at" = some (some (.ref f48))) (l48 : K.lookup f48 = some ⟨oc48, od48, .func (PySem.W.fnOf "_law_cell_at" "_law_cell_at" (defArgs s__law_cell_at) (defBody s__law_cell_at) (defScope s__law_cell_at) .none kV48 dc48 pm48 an48 cd48 ct48), sl48⟩) (c48 : PySem.W.codeIn K cd48 "_law_cell_at" = true) (k48 : PySem.W.keepIn K (.ref f48) = true)
    (a49 : PySem.W.nsIn K mainGlobals "_law_draw" = some (some (.ref f49))) (l49 : K.lookup f49 = some ⟨oc49, od49, .func (PySem.W.fnOf "_law_draw" "_law_draw" (defArgs s__law_draw) (defBody s__law_draw) (defScope s__law_draw) .none kV49 dc49 pm49 an49 cd49 ct49), sl49⟩) (c49 : PySem.W.codeIn K cd49 "_law_draw" = true) (k49 : PySem.W.keepIn K (.ref f49) = true)
    (a50 : PySem.W.nsIn K mainGlobals "_law_spot" = some (some (.ref f50))) (l50 : K.lookup f50 = some ⟨oc50, od50, .func (PySem.W.fnOf "_law_spot" "_law_spot" (defArgs s__law_spot) (defBody s__law_spot) (defScope s__law_spot) .none kV50 dc50 pm50 an50 cd50 ct50), sl50⟩) (c50 : PySem.W.codeIn K cd50 "_law_spot" = true) (k50 : PySem.W.keepIn K (.ref f50) = true)
    (a51 : PySem.W.nsIn K mainGlobals "_law_herd" = some (some (.ref f51))) (l51 : K.lookup f51 = some ⟨oc51, od51, .func (PySem.W.fnOf "_law_herd" "_law_herd" (defArgs s__law_herd) (defBody s__law_herd) (defScope s__law_herd) .none kV51 dc51 pm51 an51 cd51 ct51), sl51⟩) (c51 : PySem.W.codeIn K cd51 "_law_herd" = true) (k51 : PySem.W.keepIn K (.ref f51) = true)
    (a52 : PySem.W.nsIn K mainGlobals "_law_point" = some (some (.ref f52))) (l52 : K.lookup f52 = some ⟨oc52, od52, .func (PySem.W.fnOf "_law_point" "_law_point" (defArgs s__law_point) (defBody s__law_point) (defScope s__law_point) .none kV52 dc52 pm52 an52 cd52 ct52), sl52⟩) (c52 : PySem.W.codeIn K cd52 "_law_point" = true) (k52 : PySem.W.keepIn K (.ref f52) = true)
    (a53 : PySem.W.nsIn K mainGlobals "_law_alike" = some (some (.ref f53))) (l53 : K.lookup f53 = some ⟨oc53, od53, .func (PySem.W.fnOf "_law_alike" "_law_alike" (defArgs s__law_alike) (defBody s__law_alike) (defScope s__law_alike) .none kV53 dc53 pm53 an53 cd53 ct53), sl53⟩) (c53 : PySem.W.codeIn K cd53 "_law_alike" = true) (k53 : PySem.W.keepIn K (.ref f53) = true)
    (a54 : PySem.W.nsIn K mainGlobals "_law_over" = some (some (.ref f54))) (l54 : K.lookup f54 = some ⟨oc54, od54, .func (PySem.W.fnOf "_law_over" "_law_over" (defArgs s__law_over) (defBody s__law_over) (defScope s__law_over) .none kV54 dc54 pm54 an54 cd54 ct54), sl54⟩) (c54 : PySem.W.codeIn K cd54 "_law_over" = true) (k54 : PySem.W.keepIn K (.ref f54) = true)
    (a55 : PySem.W.nsIn K mainGlobals "_law_bent" = some (some (.ref f55))) (l55 : K.lookup f55 = some ⟨oc55, od55, .func (PySem.W.fnOf "_law_bent" "_law_bent" (defArgs s__law_bent) (defBody s__law_bent) (defScope s__law_bent) .none kV55 dc55 pm55 an55 cd55 ct55), sl55⟩) (c55 : PySem.W.codeIn K cd55 "_law_bent" = true) (k55 : PySem.W.keepIn K (.ref f55) = true)
    (a56 : PySem.W.nsIn K mainGlobals "_law_crooked" = some (some (.ref f56))) (l56 : K.lookup f56 = some ⟨oc56, od56, .func (PySem.W.fnOf "_law_crooked" "_law_crooked" (defArgs s__law_crooked) (defBody s__law_crooked) (defScope s__law_crooked) .none kV56 dc56 pm56 an56 cd56 ct56), sl56⟩) (c56 : PySem.W.codeIn K cd56 "_law_crooked" = true) (k56 : PySem.W.keepIn K (.ref f56) = true)
    (a57 : PySem.W.nsIn K mainGlobals "_law_apart" = some (some (.ref f57))) (l57 : K.lookup f57 = some ⟨oc57, od57, .func (PySem.W.fnOf "_law_apart" "_law_apart" (defArgs s__law_apart) (defBody s__law_apart) (defScope s__law_apart) .none kV57 dc57 pm57 an57 cd57 ct57), sl57⟩) (c57 : PySem.W.codeIn K cd57 "_law_apart" = true) (k57 : PySem.W.keepIn K (.ref f57) = true)
    (a58 : PySem.W.nsIn K mainGlobals "_law_parted" = some (some (.ref f58))) (l58 : K.lookup f58 = some ⟨oc58, od58, .func (PySem.W.fnOf "_law_parted" "_law_parted" (defArgs s__law_parted) (defBody s__law_parted) (defScope s__law_parted) .none kV58 dc58 pm58 an58 cd58 ct58), sl58⟩) (c58 : PySem.W.codeIn K cd58 "_law_parted" = true) (k58 : PySem.W.keepIn K (.ref f58) = true)
    (a59 : PySem.W.nsIn K mainGlobals "_law_says" = some (some (.ref f59))) (l59 : K.lookup f59 = some ⟨oc59, od59, .func (PySem.W.fnOf "_law_says" "_law_says" (defArgs s__law_says) (defBody s__law_says) (defScope s__law_says) .none kV59 dc59 pm59 an59 cd59 ct59), sl59⟩) (c59 : PySem.W.codeIn K cd59 "_law_says" = true) (k59 : PySem.W.keepIn K (.ref f59) = true)
    (a60 : PySem.W.nsIn K mainGlobals "_law_one" = some (some (.ref f60))) (l60 : K.lookup f60 = some ⟨oc60, od60, .func (PySem.W.fnOf "_law_one" "_law_one" (defArgs s__law_one) (defBody s__law_one) (defScope s__law_one) .none kV60 dc60 pm60 an60 cd60 ct60), sl60⟩) (c60 : PySem.W.codeIn K cd60 "_law_one" = true) (k60 : PySem.W.keepIn K (.ref f60) = true)
    (a61 : PySem.W.nsIn K mainGlobals "_law_two" = some (some (.ref f61))) (l61 : K.lookup f61 = some ⟨oc61, od61, .func (PySem.W.fnOf "_law_two" "_law_two" (defArgs s__law_two) (defBody s__law_two) (defScope s__law_two) .none kV61 dc61 pm61 an61 cd61 ct61), sl61⟩) (c61 : PySem.W.codeIn K cd61 "_law_two" = true) (k61 : PySem.W.keepIn K (.ref f61) = true)
    (a62 : PySem.W.nsIn K mainGlobals "law" = some (some (.ref f62))) (l62 : K.lookup f62 = some ⟨oc62, od62, .func (PySem.W.fnOf "law" "law" (defArgs s_law) (defBody s_law) (defScope s_law) .none kV62 dc62 pm62 an62 cd62 ct62), sl62⟩) (c62 : PySem.W.codeIn K cd62 "law" = true) (k62 : PySem.W.keepIn K (.ref f62) = true)
    (z_len : PySem.W.nsIn K mainGlobals "len" = some none) (z_all : PySem.W.nsIn K mainGlobals "all" = some none) (z_any : PySem.W.nsIn K mainGlobals "any" = some none) (z_abs : PySem.W.nsIn K mainGlobals "abs" = some none) (z_sum : PySem.W.nsIn K mainGlobals "sum" = some none) (z_isinstance : PySem.W.nsIn K mainGlobals "isinstance" = some none) (z_tuple : PySem.W.nsIn K mainGlobals "tuple" = some none) (z_list : PySem.W.nsIn K mainGlobals "list" = some none) (z_bool : PySem.W.nsIn K mainGlobals "bool" = some none) (z_int : PySem.W.nsIn K mainGlobals "int" = some none) (z_range : PySem.W.nsIn K mainGlobals "range" = some none) (z_reversed : PySem.W.nsIn K mainGlobals "reversed" = some none) (z_min : PySem.W.nsIn K mainGlobals "min" = some none) (z_max : PySem.W.nsIn K mainGlobals "max" = some none) (z_zip : PySem.W.nsIn K mainGlobals "zip" = some none) (z_enumerate : PySem.W.nsIn K mainGlobals "enumerate" = some none) :
    ∃ fd : FuncData, (∀ (s : Shared) (v : Value), BindsTo s fd ⟨[v], []⟩ [("_law_script", v)]) ∧ ∀ base : Heap, K.In base → base.Ns mainGlobals mg → PySem.W.CodeHd base cT tT → Bmain mg base → FnOk l.prog w K mg base CX0 8 fa fd ["_law_script"] (sp_law K tT) := by
  have e := hfa.symm.trans (PySem.W.mg_of X G a62)
  cases e
  have F1 := fun_mk (st := s_common_divisor) l1 c1 k1
  have b1 := F1.binds2 (ps := ["a", "b"]) rfl fun _ _ _ _ _ _ _ _ => rfl
  have F2 := fun_mk (st := s_made) l2 c2 k2
  have b2 := F2.binds2 (ps := ["a", "b"]) rfl fun _ _ _ _ _ _ _ _ => rfl
  have F3 := fun_mk (st := s_plus) l3 c3 k3
  have b3 := F3.binds2 (ps := ["one", "other"]) rfl fun _ _ _ _ _ _ _ _ => rfl
  have F4 := fun_mk (st := s_times) l4 c4 k4
  have b4 := F4.binds2 (ps := ["one", "other"]) rfl fun _ _ _ _ _ _ _ _ => rfl
  have F5 := fun_mk (st := s_is_number) l5 c5 k5
  have b5 := F5.binds1 (ps := ["value"]) rfl fun _ _ _ _ _ _ _ => rfl
  have F6 := fun_mk (st := s_is_pair) l6 c6 k6
  have b6 := F6.binds1 (ps := ["value"]) rfl fun _ _ _ _ _ _ _ => rfl
  have F7 := fun_mk (st := s_is_herd) l7 c7 k7
  have b7 := F7.binds1 (ps := ["value"]) rfl fun _ _ _ _ _ _ _ => rfl
  have F8 := fun_mk (st := s_is_fraction) l8 c8 k8
  have b8 := F8.binds1 (ps := ["value"]) rfl fun _ _ _ _ _ _ _ => rfl
  have F9 := fun_mk (st := s_check_herd) l9 c9 k9
  have b9 := F9.binds1 (ps := ["herd"]) rfl fun _ _ _ _ _ _ _ => rfl
  have F10 := fun_mk (st := s_check_spot) l10 c10 k10
  have b10 := F10.binds1 (ps := ["spot"]) rfl fun _ _ _ _ _ _ _ => rfl
  have F11 := fun_mk (st := s_leftness) l11 c11 k11
  have b11 := F11.binds3 (ps := ["start", "end", "spot"]) rfl fun _ _ _ _ _ _ _ _ _ => rfl
  have F12 := fun_mk (st := s_reach) l12 c12 k12
  have b12 := F12.binds2 (ps := ["way", "spot"]) rfl fun _ _ _ _ _ _ _ _ => rfl
  have F13 := fun_mk (st := s_is_part) l13 c13 k13
  have b13 := F13.binds2 (ps := ["part", "herd"]) rfl fun _ _ _ _ _ _ _ _ => rfl
  have F14 := fun_mk (st := s_is_rising) l14 c14 k14
  have b14 := F14.binds1 (ps := ["places"]) rfl fun _ _ _ _ _ _ _ => rfl
  have F15 := fun_mk (st := s_total) l15 c15 k15
  have b15 := F15.binds1 (ps := ["row"]) rfl fun _ _ _ _ _ _ _ => rfl
  have F16 := fun_mk (st := s_is_mixture) l16 c16 k16
  have b16 := F16.binds2 (ps := ["parts", "herd"]) rfl fun _ _ _ _ _ _ _ _ => rfl
  have F17 := fun_mk (st := s_point) l17 c17 k17
  have b17 := F17.binds2 (ps := ["parts", "herd"]) rfl fun _ _ _ _ _ _ _ _ => rfl
  have F18 := fun_mk (st := s_is_fence) l18 c18 k18
  have b18 := F18.binds1 (ps := ["fence"]) rfl fun _ _ _ _ _ _ _ => rfl
  have F19 := fun_mk (st := s_is_beyond) l19 c19 k19
  have b19 := F19.binds2 (ps := ["fence", "spot"]) rfl fun _ _ _ _ _ _ _ _ => rfl
  have F20 := fun_mk (st := s_is_beneath) l20 c20 k20
  have b20 := F20.binds2 (ps := ["fence", "spot"]) rfl fun _ _ _ _ _ _ _ _ => rfl
  have F21 := fun_mk (st := s_Mixed___init__) l21 c21 k21
  have b21 := F21.binds2 (ps := ["self", "parts"]) rfl fun _ _ _ _ _ _ _ _ => rfl
  have F22 := fun_mk (st := s_Mixed_shows) l22 c22 k22
  have b22 := F22.binds3 (ps := ["self", "herd", "spot"]) rfl fun _ _ _ _ _ _ _ _ _ => rfl
  have F23 := fun_mk (st := s_Apart___init__) l23 c23 k23
  have b23 := F23.binds2 (ps := ["self", "fence"]) rfl fun _ _ _ _ _ _ _ _ => rfl
  have F24 := fun_mk (st := s_Apart_shows) l24 c24 k24
  have b24 := F24.binds3 (ps := ["self", "herd", "spot"]) rfl fun _ _ _ _ _ _ _ _ _ => rfl
  have F25 := fun_mk (st := s_Parted___init__) l25 c25 k25
  have b25 := F25.binds2 (ps := ["self", "fence"]) rfl fun _ _ _ _ _ _ _ _ => rfl
  have F26 := fun_mk (st := s_Parted_shows) l26 c26 k26
  have b26 := F26.binds3 (ps := ["self", "one", "other"]) rfl fun _ _ _ _ _ _ _ _ _ => rfl
  have F27 := fun_mk (st := s_Meeting___init__) l27 c27 k27
  have b27 := F27.binds3 (ps := ["self", "first", "second"]) rfl fun _ _ _ _ _ _ _ _ _ => rfl
  have F28 := fun_mk (st := s_Meeting_shows) l28 c28 k28
  have b28 := F28.binds3 (ps := ["self", "one", "other"]) rfl fun _ _ _ _ _ _ _ _ _ => rfl
  have F29 := fun_mk (st := s_ones) l29 c29 k29
  have b29 := F29.binds1 (ps := ["count"]) rfl fun _ _ _ _ _ _ _ => rfl
  have F30 := fun_mk (st := s_grown) l30 c30 k30
  have b30 := F30.binds2 (ps := ["groups", "count"]) rfl fun _ _ _ _ _ _ _ _ => rfl
  have F31 := fun_mk (st := s_twos) l31 c31 k31
  have b31 := F31.binds1 (ps := ["count"]) rfl fun _ _ _ _ _ _ _ => rfl
  have F32 := fun_mk (st := s_threes) l32 c32 k32
  have b32 := F32.binds1 (ps := ["count"]) rfl fun _ _ _ _ _ _ _ => rfl
  have F33 := fun_mk (st := s_step) l33 c33 k33
  have b33 := F33.binds2 (ps := ["start", "end"]) rfl fun _ _ _ _ _ _ _ _ => rfl
  have F34 := fun_mk (st := s_weighed) l34 c34 k34
  have b34 := F34.binds2 (ps := ["places", "amounts"]) rfl fun _ _ _ _ _ _ _ _ => rfl
  have F35 := fun_mk (st := s_line_amounts) l35 c35 k35
  have b35 := F35.binds3 (ps := ["start", "end", "spot"]) rfl fun _ _ _ _ _ _ _ _ _ => rfl
  have F36 := fun_mk (st := s_amounts_at) l36 c36 k36
  have b36 := F36.binds2 (ps := ["row", "spot"]) rfl fun _ _ _ _ _ _ _ _ => rfl
  have F37 := fun_mk (st := s_mixture_at) l37 c37 k37
  have b37 := F37.binds2 (ps := ["herd", "spot"]) rfl fun _ _ _ _ _ _ _ _ => rfl
  have F38 := fun_mk (st := s_ways_over) l38 c38 k38
  have b38 := F38.binds2 (ps := ["one", "other"]) rfl fun _ _ _ _ _ _ _ _ => rfl
  have F39 := fun_mk (st := s_far_end) l39 c39 k39
  have b39 := F39.binds2 (ps := ["way", "herd"]) rfl fun _ _ _ _ _ _ _ _ => rfl
  have F40 := fun_mk (st := s_near_end) l40 c40 k40
  have b40 := F40.binds2 (ps := ["way", "herd"]) rfl fun _ _ _ _ _ _ _ _ => rfl
  have F41 := fun_mk (st := s_fence_between) l41 c41 k41
  have b41 := F41.binds2 (ps := ["one", "other"]) rfl fun _ _ _ _ _ _ _ _ => rfl
  have F42 := fun_mk (st := s_held) l42 c42 k42
  have b42 := F42.binds2 (ps := ["one", "other"]) rfl fun _ _ _ _ _ _ _ _ => rfl
  have F43 := fun_mk (st := s_cross_amounts) l43 c43 k43
  have b43 := F43.binds2 (ps := ["row", "line"]) rfl fun _ _ _ _ _ _ _ _ => rfl
  have F44 := fun_mk (st := s_crossed) l44 c44 k44
  have b44 := F44.binds2 (ps := ["one", "other"]) rfl fun _ _ _ _ _ _ _ _ => rfl
  have F45 := fun_mk (st := s_shared) l45 c45 k45
  have b45 := F45.binds2 (ps := ["one", "other"]) rfl fun _ _ _ _ _ _ _ _ => rfl
  have F46 := fun_mk (st := s_within) l46 c46 k46
  have b46 := F46.binds2 (ps := ["herd", "spot"]) rfl fun _ _ _ _ _ _ _ _ => rfl
  have F47 := fun_mk (st := s_between) l47 c47 k47
  have b47 := F47.binds2 (ps := ["one", "other"]) rfl fun _ _ _ _ _ _ _ _ => rfl
  have F48 := fun_mk (st := s__law_cell_at) l48 c48 k48
  have b48 := F48.binds2 (ps := ["_law_script", "_law_k"]) rfl fun _ _ _ _ _ _ _ _ => rfl
  have F49 := fun_mk (st := s__law_draw) l49 c49 k49
  have b49 := F49.binds3 (ps := ["_law_cell", "_law_k", "_law_many"]) rfl fun _ _ _ _ _ _ _ _ _ => rfl
  have F50 := fun_mk (st := s__law_spot) l50 c50 k50
  have b50 := F50.binds3 (ps := ["_law_cell", "_law_most", "_law_line"]) rfl fun _ _ _ _ _ _ _ _ _ => rfl
  have F51 := fun_mk (st := s__law_herd) l51 c51 k51
  have b51 := F51.binds2 (ps := ["_law_cell", "_law_most_spots"]) rfl fun _ _ _ _ _ _ _ _ => rfl
  have F52 := fun_mk (st := s__law_point) l52 c52 k52
  have b52 := F52.binds2 (ps := ["_law_herd_here", "_law_parts"]) rfl fun _ _ _ _ _ _ _ _ => rfl
  have F53 := fun_mk (st := s__law_alike) l53 c53 k53
  have b53 := F53.binds2 (ps := ["_law_one_here", "_law_other"]) rfl fun _ _ _ _ _ _ _ _ => rfl
  have F54 := fun_mk (st := s__law_over) l54 c54 k54
  have b54 := F54.binds2 (ps := ["_law_fence_here", "_law_spot_here"]) rfl fun _ _ _ _ _ _ _ _ => rfl
  have F55 := fun_mk (st := s__law_bent) l55 c55 k55
  have b55 := F55.binds2 (ps := ["_law_parts", "_law_cell"]) rfl fun _ _ _ _ _ _ _ _ => rfl
  have F56 := fun_mk (st := s__law_crooked) l56 c56 k56
  have b56 := F56.binds2 (ps := ["_law_fence_here", "_law_cell"]) rfl fun _ _ _ _ _ _ _ _ => rfl
  have F57 := fun_mk (st := s__law_apart) l57 c57 k57
  have b57 := F57.binds3 (ps := ["_law_herd_here", "_law_spot_here", "_law_fence_here"]) rfl fun _ _ _ _ _ _ _ _ _ => rfl
  have F58 := fun_mk (st := s__law_parted) l58 c58 k58
  have b58 := F58.binds3 (ps := ["_law_one_here", "_law_other", "_law_fence_here"]) rfl fun _ _ _ _ _ _ _ _ _ => rfl
  have F59 := fun_mk (st := s__law_says) l59 c59 k59
  have b59 := F59.binds2 (ps := ["_law_told", "_law_due"]) rfl fun _ _ _ _ _ _ _ _ => rfl
  have F60 := fun_mk (st := s__law_one) l60 c60 k60
  have b60 := F60.binds4 (ps := ["_law_herd_here", "_law_spot_here", "_law_found", "_law_cell"]) rfl fun _ _ _ _ _ _ _ _ _ _ => rfl
  have F61 := fun_mk (st := s__law_two) l61 c61 k61
  have b61 := F61.binds4 (ps := ["_law_one_here", "_law_other", "_law_found", "_law_cell"]) rfl fun _ _ _ _ _ _ _ _ _ _ => rfl
  have F62 := fun_mk (st := s_law) l62 c62 k62
  have b62 := F62.binds1 (ps := ["_law_script"]) rfl fun _ _ _ _ _ _ _ => rfl
  have T_Mixed : Txt_Mixed K mg c_Mixed := ⟨⟨pg_Mixed, hd_Mixed, po_Mixed, sa_Mixed⟩, n_parts_Mixed, PySem.W.mg_of X G aC_Mixed, ha_Mixed, hn_Mixed, htk_Mixed, hm_Mixed, (by unfold PySem.W.kitOne; rw [if_pos (beq_self_eq_true _)])⟩
  have T_Apart : Txt_Apart K mg c_Apart := ⟨⟨pg_Apart, hd_Apart, po_Apart, sa_Apart⟩, n_fence_Apart, PySem.W.mg_of X G aC_Apart, ha_Apart, hn_Apart, htk_Apart, hm_Apart, (by unfold PySem.W.kitOne; rw [if_pos (beq_self_eq_true _)])⟩
  have T_Parted : Txt_Parted K mg c_Parted := ⟨⟨pg_Parted, hd_Parted, po_Parted, sa_Parted⟩, n_fence_Parted, PySem.W.mg_of X G aC_Parted, ha_Parted, hn_Parted, htk_Parted, hm_Parted, (by unfold PySem.W.kitOne; rw [if_pos (beq_self_eq_true _)])⟩
  have T_Meeting : Txt_Meeting K mg c_Meeting := ⟨⟨pg_Meeting, hd_Meeting, po_Meeting, sa_Meeting⟩, n_first_Meeting, n_second_Meeting, PySem.W.mg_of X G aC_Meeting, ha_Meeting, hn_Meeting, htk_Meeting, hm_Meeting, (by unfold PySem.W.kitOne; rw [if_pos (beq_self_eq_true _)])⟩
  have KT : Kits K c_Mixed c_Apart c_Parted c_Meeting := ⟨kAM, kEP⟩
  have HC := tab_code X G T0 a41 l41
  have B : Bl mg := ⟨PySem.W.mg_none_of X G z_len, PySem.W.mg_none_of X G z_all, PySem.W.mg_none_of X G z_any, PySem.W.mg_none_of X G z_abs, PySem.W.mg_none_of X G z_sum, PySem.W.mg_none_of X G z_isinstance, PySem.W.mg_none_of X G z_tuple, PySem.W.mg_none_of X G z_list, PySem.W.mg_none_of X G z_bool, PySem.W.mg_none_of X G z_int, PySem.W.mg_none_of X G z_range, PySem.W.mg_none_of X G z_reversed, PySem.W.mg_none_of X G z_min, PySem.W.mg_none_of X G z_max, PySem.W.mg_none_of X G z_zip, PySem.W.mg_none_of X G z_enumerate, ⟨_, PySem.W.mg_of X G y_BOUND⟩, ⟨_, PySem.W.mg_of X G y_MOST_SPOTS⟩, ⟨_, PySem.W.mg_of X G y_MOST_PARTS⟩⟩
  refine ⟨PySem.W.fnOf "law" "law" (defArgs s_law) (defBody s_law) (defScope s_law) .none kV62 dc62 pm62 an62 cd62 ct62, fun s v => .of_eq rfl, fun base _ _ HD BM => ?_⟩
  have C_common_divisor := cal_mk (ok_cd (P := l.prog) (w := w) (base := base) B F1) b1 k1 (PySem.W.mg_of X G a1)
  have C_made := cal_mk (ok_made (P := l.prog) (w := w) (base := base) C_common_divisor F2) b2 k2 (PySem.W.mg_of X G a2)
  have C_plus := cal_mk (ok_plus (P := l.prog) (w := w) (base := base) C_made F3) b3 k3 (PySem.W.mg_of X G a3)
  have C_times := cal_mk (ok_times (P := l.prog) (w := w) (base := base) C_made F4) b4 k4 (PySem.W.mg_of X G a4)
  have C_is_number := cal_mk (ok_num (P := l.prog) (w := w) (base := base) B F5) b5 k5 (PySem.W.mg_of X G a5)
  have C_is_pair := cal_mk (ok_pair (P := l.prog) (w := w) (base := base) B C_is_number F6) b6 k6 (PySem.W.mg_of X G a6)
  have C_is_herd := cal_mk (ok_isherd (P := l.prog) (w := w) (base := base) B C_is_pair F7) b7 k7 (PySem.W.mg_of X G a7)
  have C_is_fraction := cal_mk (ok_frac (P := l.prog) (w := w) (base := base) B C_is_number C_common_divisor F8) b8 k8 (PySem.W.mg_of X G a8)
  have C_check_herd := cal_mk (ok_check (P := l.prog) (w := w) (base := base) C_is_herd F9) b9 k9 (PySem.W.mg_of X G a9)
  have C_check_spot := cal_mk (ok_chkS (P := l.prog) (w := w) (base := base) C_is_pair F10) b10 k10 (PySem.W.mg_of X G a10)
  have C_leftness := cal_mk (ok_left (P := l.prog) (w := w) (base := base)  F11) b11 k11 (PySem.W.mg_of X G a11)
  have C_reach := cal_mk (ok_reachT (P := l.prog) (w := w) (base := base)  F12) b12 k12 (PySem.W.mg_of X G a12)
  have C_is_part := cal_mk (ok_partG (P := l.prog) (w := w) (base := base) B C_is_number C_is_fraction F13) b13 k13 (PySem.W.mg_of X G a13)
  have C_is_rising := cal_mk (ok_riseG (P := l.prog) (w := w) (base := base) B F14) b14 k14 (PySem.W.mg_of X G a14)
  have C_total := cal_mk (ok_totalG (P := l.prog) (w := w) (base := base) C_plus F15) b15 k15 (PySem.W.mg_of X G a15)
  have C_is_mixture := cal_mk (ok_ismixG (P := l.prog) (w := w) (base := base) B C_is_part C_is_rising C_total F16) b16 k16 (PySem.W.mg_of X G a16)
  have C_point := cal_mk (ok_pointG (P := l.prog) (w := w) (base := base) C_total C_times F17) b17 k17 (PySem.W.mg_of X G a17)
  have C_is_fence := cal_mk (ok_isfenceG (P := l.prog) (w := w) (base := base) B C_is_number F18) b18 k18 (PySem.W.mg_of X G a18)
  have C_is_beyond := cal_mk (ok_beyond (P := l.prog) (w := w) (base := base) C_reach F19) b19 k19 (PySem.W.mg_of X G a19)
  have C_is_beneath := cal_mk (ok_beneath (P := l.prog) (w := w) (base := base) C_reach F20) b20 k20 (PySem.W.mg_of X G a20)
  have C_Mixed := calK_mk (ok_initM (P := l.prog) (w := w) (base := base) B T_Mixed F21) b21 ⟨mk_Mixed, a21, i21, kc_Mixed⟩ T_Mixed.mg
  have C_Mixed_shows := calM_mk (m := "shows") (ok_showsMG (P := l.prog) (w := w) (base := base) T_Mixed C_is_mixture C_point F22) b22 T_Mixed.cl ⟨a22, i22, k22⟩
  have C_Apart := calK_mk (ok_initA (P := l.prog) (w := w) (base := base) T_Apart F23) b23 ⟨mk_Apart, a23, i23, kc_Apart⟩ T_Apart.mg
  have C_Apart_shows := calM_mk (m := "shows") (ok_showsAG (P := l.prog) (w := w) (base := base) B T_Apart C_is_fence C_is_beyond F24) b24 T_Apart.cl ⟨a24, i24, k24⟩
  have C_Parted := calK_mk (ok_initP (P := l.prog) (w := w) (base := base) T_Parted F25) b25 ⟨mk_Parted, a25, i25, kc_Parted⟩ T_Parted.mg
  have C_Parted_shows := calM_mk (m := "shows") (ok_showsPG (P := l.prog) (w := w) (base := base) B T_Parted C_is_fence C_is_beneath C_is_beyond F26) b26 T_Parted.cl ⟨a26, i26, k26⟩
  have C_Meeting := calK_mk (ok_init (P := l.prog) (w := w) (base := base) B T_Meeting F27) b27 ⟨mk_Meeting, a27, i27, kc_Meeting⟩ T_Meeting.mg
  have C_Meeting_shows := calM_mk (m := "shows") (ok_showsEG (P := l.prog) (w := w) (base := base) T_Meeting C_is_mixture C_point F28) b28 T_Meeting.cl ⟨a28, i28, k28⟩
  have C_ones := cal_mk (ok_ones (P := l.prog) (w := w) (base := base) B F29) b29 k29 (PySem.W.mg_of X G a29)
  have C_grown := cal_mk (ok_grown (P := l.prog) (w := w) (base := base) B F30) b30 k30 (PySem.W.mg_of X G a30)
  have C_twos := cal_mk (ok_twos (P := l.prog) (w := w) (base := base) C_grown C_ones F31) b31 k31 (PySem.W.mg_of X G a31)
  have C_threes := cal_mk (ok_threes (P := l.prog) (w := w) (base := base) C_grown C_twos F32) b32 k32 (PySem.W.mg_of X G a32)
  have C_step := cal_mk (ok_step (P := l.prog) (w := w) (base := base)  F33) b33 k33 (PySem.W.mg_of X G a33)
  have C_weighed := cal_mk (ok_weighed (P := l.prog) (w := w) (base := base) B C_made F34) b34 k34 (PySem.W.mg_of X G a34)
  have C_line_amounts := cal_mk (ok_line (P := l.prog) (w := w) (base := base) C_leftness C_step (reach_pair C_reach) F35) b35 k35 (PySem.W.mg_of X G a35)
  have C_amounts_at := cal_mk (ok_amounts (P := l.prog) (w := w) (base := base) B C_leftness C_line_amounts F36) b36 k36 (PySem.W.mg_of X G a36)
  have C_mixture_at := cal_mk (ok_mix (P := l.prog) (w := w) (base := base) B C_ones C_twos C_threes C_weighed C_amounts_at F37) b37 k37 (PySem.W.mg_of X G a37)
  have C_ways_over := cal_mk (ok_ways (P := l.prog) (w := w) (base := base) B C_step F38) b38 k38 (PySem.W.mg_of X G a38)
  have C_far_end := cal_mk (ok_far (P := l.prog) (w := w) (base := base) B C_reach F39) b39 k39 (PySem.W.mg_of X G a39)
  have C_near_end := cal_mk (ok_near (P := l.prog) (w := w) (base := base) B C_reach F40) b40 k40 (PySem.W.mg_of X G a40)
  have C_fence_between := cal_mk (ok_fence (P := l.prog) (w := w) (base := base) B HD BM C_ways_over C_far_end C_near_end HC F41) b41 k41 (PySem.W.mg_of X G a41)
  have C_held := cal_mk (ok_held (P := l.prog) (w := w) (base := base) B C_mixture_at C_weighed F42) b42 k42 (PySem.W.mg_of X G a42)
  have C_cross_amounts := cal_mk (ok_cross (P := l.prog) (w := w) (base := base) C_leftness F43) b43 k43 (PySem.W.mg_of X G a43)
  have C_crossed := cal_mk (ok_crossed (P := l.prog) (w := w) (base := base) B C_twos C_weighed C_cross_amounts F44) b44 k44 (PySem.W.mg_of X G a44)
  have C_shared := cal_mk (ok_shared (P := l.prog) (w := w) (base := base) B C_held C_crossed F45) b45 k45 (PySem.W.mg_of X G a45)
  have C_within := cal_mk (ok_within (P := l.prog) (w := w) (base := base) B C_check_herd C_check_spot C_mixture_at C_fence_between C_Mixed C_Apart F46) b46 k46 (PySem.W.mg_of X G a46)
  have C_between := cal_mk (ok_between (P := l.prog) (w := w) (base := base) B C_check_herd C_shared C_fence_between C_Parted C_Meeting F47) b47 k47 (PySem.W.mg_of X G a47)
  have C__law_cell_at := cal_mk (ok_cell (P := l.prog) (w := w) (base := base) B F48) b48 k48 (PySem.W.mg_of X G a48)
  have C__law_draw := cal_mk (ok_draw (P := l.prog) (w := w) (base := base)  F49) b49 k49 (PySem.W.mg_of X G a49)
  have C__law_spot := cal_mk (ok_spot (P := l.prog) (w := w) (base := base) C__law_draw F50) b50 k50 (PySem.W.mg_of X G a50)
  have C__law_herd := cal_mk (ok_herd (P := l.prog) (w := w) (base := base) B C__law_draw C__law_spot F51) b51 k51 (PySem.W.mg_of X G a51)
  have C__law_point := cal_mk (ok_lpointG (P := l.prog) (w := w) (base := base) B F52) b52 k52 (PySem.W.mg_of X G a52)
  have C__law_alike := cal_mk (ok_alikeG (P := l.prog) (w := w) (base := base)  F53) b53 k53 (PySem.W.mg_of X G a53)
  have C__law_over := cal_mk (ok_lover (P := l.prog) (w := w) (base := base)  F54) b54 k54 (PySem.W.mg_of X G a54)
  have C__law_bent := cal_mk (ok_bent (P := l.prog) (w := w) (base := base) B C__law_draw F55) b55 k55 (PySem.W.mg_of X G a55)
  have C__law_crooked := cal_mk (ok_crooked (P := l.prog) (w := w) (base := base) C__law_draw F56) b56 k56 (PySem.W.mg_of X G a56)
  have C__law_apart := cal_mk (ok_lapart (P := l.prog) (w := w) (base := base) B C__law_over F57) b57 k57 (PySem.W.mg_of X G a57)
  have C__law_parted := cal_mk (ok_lparted (P := l.prog) (w := w) (base := base) B C__law_over F58) b58 k58 (PySem.W.mg_of X G a58)
  have C__law_says := cal_mk (ok_says (P := l.prog) (w := w) (base := base) B F59) b59 k59 (PySem.W.mg_of X G a59)
  have C__law_one := cal_mk (ok_one (P := l.prog) (w := w) (base := base) B T_Mixed T_Apart KT C_Mixed C_Apart C_Mixed_shows C_Apart_shows C__law_point C__law_alike C__law_bent C__law_crooked C__law_apart C__law_says F60) b60 k60 (PySem.W.mg_of X G a60)
  have C__law_two := cal_mk (ok_two (P := l.prog) (w := w) (base := base) B T_Parted T_Meeting KT C_Parted C_Meeting C_Parted_shows C_Meeting_shows C__law_point C__law_alike C__law_bent C__law_crooked C__law_parted C__law_says F61) b61 k61 (PySem.W.mg_of X G a61)
  exact ok_law B C_Mixed C_Meeting C_Mixed_shows C_Meeting_shows (tell C_within) (tell2 C_between) C__law_cell_at C__law_draw C__law_spot C__law_herd C__law_one C__law_two F62
theorem walk {l : PySem.W.OpenLaw} {q : Program} {loose : List Str} {XP : (Str → Option Value) → Heap → Prop} {YP : World → Heap → Prop} {d : DefRec} {K : Params → PySem.W.Frag} (hn : l.most = some 63) (hdf : d.params.defaults = [])
    (hY : ∀ (w : World) (h : Heap), YP w h → (K w.params).In h) (hnt : ∀ w : World, PySem.W.noTabs (K w.params) = true) (hrec : ∃ d', (PyProof.Rows.recsOf q).find? (fun e => e.name == ("fence_between" : Str)) = some d')
    (F : ∀ (w : World) (mg : Str → Option Value) (fa : Addr) (h : Heap), (K w.params).In h → h.Ns mainGlobals mg → mg d.name = some (.ref fa) → ∀ c P, TabAt "fence_between" mg h c P →
      ∃ fd : FuncData, (∀ (s : Shared) (u : Value), BindsTo s fd ⟨[u], []⟩ [("_law_script", u)]) ∧ ∀ base : Heap, (K w.params).In base → base.Ns mainGlobals mg → PySem.W.CodeHd base c P → Bmain mg base → FnOk l.prog w (K w.params) mg base CX0 8 fa fd ["_law_script"] (sp_law (K w.params) P)) :
    PySem.W.WalkO q loose XP YP l.row.toRowW d [] (fun f vs => PySem.call f vs) :=
  L2.walk_ofT (n := 63) (k := 8) (x := "_law_script") (CX := fun _ => CX0) (sp := fun w => sp_law (K w.params)) (ln := 198) (col := 41) (qq := lamQ) hn (by decide) hdf ⟨rfl, by decide, by decide⟩ hY hnt hrec F (fun _ _ _ a ns hl hT hS => ⟨a, ns, rfl, hS, hl, hT, fun _ => rfl⟩) fun _ _ _ _ _ z => z
end K6a
open PySem PySem.W PyProof.Rows
def PySem.W.Fast.tw18250862917431466689 : Nat := 0
def PySem.W.Fast.tw16809196866937504807 : Nat := 0
def PySem.W.Fast.tw15261909065197283775 : Nat := 0
def PySem.W.Fast.tw11168460196851373102 : Nat := 0
def PySem.W.Fast.tw3980189282062644098 : Nat := 0
def PySem.W.Fast.tw11216402188236032591 : Nat := 0
def PySem.W.Fast.tw9915510038519443662 : Nat := 0
def PySem.W.Fast.tw18148525536266061815 : Nat := 0
def PySem.W.Fast.tw14980225495379189275 : Nat := 0
def PySem.W.Fast.tw11894561772720943301 : Nat := 0
def PySem.W.Fast.tw11807503677761398272 : Nat := 0
def PySem.W.Fast.tw12510313804401919564 : Nat := 0
def PySem.W.Fast.tw409611964124227225 : Nat := 0
set_option maxRecDepth 100000 in
set_option maxHeartbeats 0 in
theorem PySem.Challenge.cw_herdline_k06_answers_by_hand_holds : PySem.Challenge.rw_herdline_k06_answers_by_hand.Holds := by
  w_on; o_law; k_head; (case hw => w_witness2)
  k_fill
  refine K6a.walk (l := PySem.Challenge.rw_herdline_k06_answers_by_hand) rfl rfl (fun w h Y => PySem.W.km_in_of Y) (fun w => by kernel_rfl) ⟨_, rfl⟩ ?F
  case F =>
    intro w mg fa h KX G hmg cT tT T0
    refine' K6a.all_mk KX G hmg T0 ?y_BOUND ?y_MOST_SPOTS ?y_MOST_PARTS ?aC_Mixed ?pg_Mixed ?hd_Mixed ?po_Mixed ?sa_Mixed ?mk_Mixed ?kc_Mixed ?n_parts_Mixed ?ha_Mixed ?hn_Mixed ?htk_Mixed ?hm_Mixed ?aC_Apart ?pg_Apart ?hd_Apart ?po_Apart ?sa_Apart ?mk_Apart ?kc_Apart ?n_fence_Apart ?ha_Apart ?hn_Apart ?htk_Apart ?hm_Apart ?aC_Parted ?pg_Parted ?hd_Parted ?po_Parted ?sa_Parted ?mk_Parted ?kc_Parted ?n_fence_Parted ?ha_Parted ?hn_Parted ?htk_Parted ?hm_Parted ?aC_Meeting ?pg_Meeting ?hd_Meeting ?po_Meeting ?sa_Meeting ?mk_Meeting ?kc_Meeting ?n_first_Meeting ?n_second_Meeting ?ha_Meeting ?hn_Meeting ?htk_Meeting ?hm_Meeting ?kAM ?kEP ?a1 ?l1 ?c1 ?k1 ?a2 ?l2 ?c2 ?k2 ?a3 ?l3 ?c3 ?k3 ?a4 ?l4 ?c4 ?k4 ?a5 ?l5 ?c5 ?k5 ?a6 ?l6 ?c6 ?k6 ?a7 ?l7 ?c7 ?k7 ?a8 ?l8 ?c8 ?k8 ?a9 ?l9 ?c9 ?k9 ?a10 ?l10 ?c10 ?k10 ?a11 ?l11 ?c11 ?k11 ?a12 ?l12 ?c12 ?k12 ?a13 ?l13 ?c13 ?k13 ?a14 ?l14 ?c14 ?k14 ?a15 ?l15 ?c15 ?k15 ?a16 ?l16 ?c16 ?k16 ?a17 ?l17 ?c17 ?k17 ?a18 ?l18 ?c18 ?k18 ?a19 ?l19 ?c19 ?k19 ?a20 ?l20 ?c20 ?k20 ?a21 ?i21 ?l21 ?c21 ?k21 ?a22 ?i22 ?l22 ?c22 ?k22 ?a23 ?i23 ?l23 ?c23 ?k23 ?a24 ?i24 ?l24 ?c24 ?k24 ?a25 ?i25 ?l25 ?c25 ?k25 ?a26 ?i26 ?l26 ?c26 ?k26 ?a27 ?i27 ?l27 ?c27 ?k27 ?a28 ?i28 ?l28 ?c28 ?k28 ?a29 ?l29 ?c29 ?k29 ?a30 ?l30 ?c30 ?k30 ?a31 ?l31 ?c31 ?k31 ?a32 ?l32 ?c32 ?k32 ?a33 ?l33 ?c33 ?k33 ?a34 ?l34 ?c34 ?k34 ?a35 ?l35 ?c35 ?k35 ?a36 ?l36 ?c36 ?k36 ?a37 ?l37 ?c37 ?k37 ?a38 ?l38 ?c38 ?k38 ?a39 ?l39 ?c39 ?k39 ?a40 ?l40 ?c40 ?k40 ?a41 ?l41 ?c41 ?k41 ?a42 ?l42 ?c42 ?k42 ?a43 ?l43 ?c43 ?k43 ?a44 ?l44 ?c44 ?k44 ?a45 ?l45 ?c45 ?k45 ?a46 ?l46 ?c46 ?k46 ?a47 ?l47 ?c47 ?k47 ?a48 ?l48 ?c48 ?k48 ?a49 ?l49 ?c49 ?k49 ?a50 ?l50 ?c50 ?k50 ?a51 ?l51 ?c51 ?k51 ?a52 ?l52 ?c52 ?k52 ?a53 ?l53 ?c53 ?k53 ?a54 ?l54 ?c54 ?k54 ?a55 ?l55 ?c55 ?k55 ?a56 ?l56 ?c56 ?k56 ?a57 ?l57 ?c57 ?k57 ?a58 ?l58 ?c58 ?k58 ?a59 ?l59 ?c59 ?k59 ?a60 ?l60 ?c60 ?k60 ?a61 ?l61 ?c61 ?k61 ?a62 ?l62 ?c62 ?k62 ?z_len ?z_all ?z_any ?z_abs ?z_sum ?z_isinstance ?z_tuple ?z_list ?z_bool ?z_int ?z_range ?z_reversed ?z_min ?z_max ?z_zip ?z_enumerate
    (case y_BOUND => k_is)
    (case y_MOST_SPOTS => k_is)
    (case y_MOST_PARTS => k_is)
    (case aC_Mixed => k_is)
    (case pg_Mixed => k_is)
    (case hd_Mixed => k_is)
    (case po_Mixed => k_is)
    (case sa_Mixed => k_is)
    (case mk_Mixed => k_is)
    (case kc_Mixed => k_is)
    (case n_parts_Mixed => k_is)
    (case ha_Mixed => k_is)
    (case hn_Mixed => k_is)
    (case htk_Mixed => k_is)
    (case hm_Mixed => k_is)
    (case aC_Apart => k_is)
    (case pg_Apart => k_is)
    (case hd_Apart => k_is)
    (case po_Apart => k_is)
    (case sa_Apart => k_is)
    (case mk_Apart => k_is)
    (case kc_Apart => k_is)
    (case n_fence_Apart => k_is)
    (case ha_Apart => k_is)
    (case hn_Apart => k_is)
    (case htk_Apart => k_is)
    (case hm_Apart => k_is)
    (case aC_Parted => k_is)
    (case pg_Parted => k_is)
    (case hd_Parted => k_is)
    (case po_Parted => k_is)
    (case sa_Parted => k_is)
    (case mk_Parted => k_is)
    (case kc_Parted => k_is)
    (case n_fence_Parted => k_is)
    (case ha_Parted => k_is)
    (case hn_Parted => k_is)
    (case htk_Parted => k_is)
    (case hm_Parted => k_is)
    (case aC_Meeting => k_is)
    (case pg_Meeting => k_is)
    (case hd_Meeting => k_is)
    (case po_Meeting => k_is)
    (case sa_Meeting => k_is)
    (case mk_Meeting => k_is)
    (case kc_Meeting => k_is)
    (case n_first_Meeting => k_is)
    (case n_second_Meeting => k_is)
    (case ha_Meeting => k_is)
    (case hn_Meeting => k_is)
    (case htk_Meeting => k_is)
    (case hm_Meeting => k_is)
    (case kAM => kernel_rfl)
    (case kEP => kernel_rfl)
    (case a1 => k_is)
    (case l1 => k_is)
    (case c1 => k_is)
    (case k1 => k_is)
    (case a2 => k_is)
    (case l2 => k_is)
    (case c2 => k_is)
    (case k2 => k_is)
    (case a3 => k_is)
    (case l3 => k_is)
    (case c3 => k_is)
    (case k3 => k_is)
    (case a4 => k_is)
    (case l4 => k_is)
    (case c4 => k_is)
    (case k4 => k_is)
    (case a5 => k_is)
    (case l5 => k_is)
    (case c5 => k_is)
    (case k5 => k_is)
    (case a6 => k_is)
    (case l6 => k_is)
    (case c6 => k_is)
    (case k6 => k_is)
    (case a7 => k_is)
    (case l7 => k_is)
    (case c7 => k_is)
    (case k7 => k_is)
    (case a8 => k_is)
    (case l8 => k_is)
    (case c8 => k_is)
    (case k8 => k_is)
    (case a9 => k_is)
    (case l9 => k_is)
    (case c9 => k_is)
    (case k9 => k_is)
    (case a10 => k_is)
    (case l10 => k_is)
    (case c10 => k_is)
    (case k10 => k_is)
    (case a11 => k_is)
    (case l11 => k_is)
    (case c11 => k_is)
    (case k11 => k_is)
    (case a12 => k_is)
    (case l12 => k_is)
    (case c12 => k_is)
    (case k12 => k_is)
    (case a13 => k_is)
    (case l13 => k_is)
    (case c13 => k_is)
    (case k13 => k_is)
    (case a14 => k_is)
    (case l14 => k_is)
    (case c14 => k_is)
    (case k14 => k_is)
    (case a15 => k_is)
    (case l15 => k_is)
    (case c15 => k_is)
    (case k15 => k_is)
    (case a16 => k_is)
    (case l16 => k_is)
    (case c16 => k_is)
    (case k16 => k_is)
    (case a17 => k_is)
    (case l17 => k_is)
    (case c17 => k_is)
    (case k17 => k_is)
    (case a18 => k_is)
    (case l18 => k_is)
    (case c18 => k_is)
    (case k18 => k_is)
    (case a19 => k_is)
    (case l19 => k_is)
    (case c19 => k_is)
    (case k19 => k_is)
    (case a20 => k_is)
    (case l20 => k_is)
    (case c20 => k_is)
    (case k20 => k_is)
    (case a21 => k_is)
    (case i21 => k_is)
    (case l21 => k_is)
    (case c21 => k_is)
    (case k21 => k_is)
    (case a22 => k_is)
    (case i22 => k_is)
    (case l22 => k_is)
    (case c22 => k_is)
    (case k22 => k_is)
    (case a23 => k_is)
    (case i23 => k_is)
    (case l23 => k_is)
    (case c23 => k_is)
    (case k23 => k_is)
    (case a24 => k_is)
    (case i24 => k_is)
    (case l24 => k_is)
    (case c24 => k_is)
    (case k24 => k_is)
    (case a25 => k_is)
    (case i25 => k_is)
    (case l25 => k_is)
    (case c25 => k_is)
    (case k25 => k_is)
    (case a26 => k_is)
    (case i26 => k_is)
    (case l26 => k_is)
    (case c26 => k_is)
    (case k26 => k_is)
    (case a27 => k_is)
    (case i27 => k_is)
    (case l27 => k_is)
    (case c27 => k_is)
    (case k27 => k_is)
    (case a28 => k_is)
    (case i28 => k_is)
    (case l28 => k_is)
    (case c28 => k_is)
    (case k28 => k_is)
    (case a29 => k_is)
    (case l29 => k_is)
    (case c29 => k_is)
    (case k29 => k_is)
    (case a30 => k_is)
    (case l30 => k_is)
    (case c30 => k_is)
    (case k30 => k_is)
    (case a31 => k_is)
    (case l31 => k_is)
    (case c31 => k_is)
    (case k31 => k_is)
    (case a32 => k_is)
    (case l32 => k_is)
    (case c32 => k_is)
    (case k32 => k_is)
    (case a33 => k_is)
    (case l33 => k_is)
    (case c33 => k_is)
    (case k33 => k_is)
    (case a34 => k_is)
    (case l34 => k_is)
    (case c34 => k_is)
    (case k34 => k_is)
    (case a35 => k_is)
    (case l35 => k_is)
    (case c35 => k_is)
    (case k35 => k_is)
    (case a36 => k_is)
    (case l36 => k_is)
    (case c36 => k_is)
    (case k36 => k_is)
    (case a37 => k_is)
    (case l37 => k_is)
    (case c37 => k_is)
    (case k37 => k_is)
    (case a38 => k_is)
    (case l38 => k_is)
    (case c38 => k_is)
    (case k38 => k_is)
    (case a39 => k_is)
    (case l39 => k_is)
    (case c39 => k_is)
    (case k39 => k_is)
    (case a40 => k_is)
    (case l40 => k_is)
    (case c40 => k_is)
    (case k40 => k_is)
    (case a41 => k_is)
    (case l41 => k_is)
    (case c41 => k_is)
    (case k41 => k_is)
    (case a42 => k_is)
    (case l42 => k_is)
    (case c42 => k_is)
    (case k42 => k_is)
    (case a43 => k_is)
    (case l43 => k_is)
    (case c43 => k_is)
    (case k43 => k_is)
    (case a44 => k_is)
    (case l44 => k_is)
    (case c44 => k_is)
    (case k44 => k_is)
    (case a45 => k_is)
    (case l45 => k_is)
    (case c45 => k_is)
    (case k45 => k_is)
    (case a46 => k_is)
    (case l46 => k_is)
    (case c46 => k_is)
    (case k46 => k_is)
    (case a47 => k_is)
    (case l47 => k_is)
    (case c47 => k_is)
    (case k47 => k_is)
    (case a48 => k_is)
    (case l48 => k_is)
    (case c48 => k_is)
    (case k48 => k_is)
    (case a49 => k_is)
    (case l49 => k_is)
    (case c49 => k_is)
    (case k49 => k_is)
    (case a50 => k_is)
    (case l50 => k_is)
    (case c50 => k_is)
    (case k50 => k_is)
    (case a51 => k_is)
    (case l51 => k_is)
    (case c51 => k_is)
    (case k51 => k_is)
    (case a52 => k_is)
    (case l52 => k_is)
    (case c52 => k_is)
    (case k52 => k_is)
    (case a53 => k_is)
    (case l53 => k_is)
    (case c53 => k_is)
    (case k53 => k_is)
    (case a54 => k_is)
    (case l54 => k_is)
    (case c54 => k_is)
    (case k54 => k_is)
    (case a55 => k_is)
    (case l55 => k_is)
    (case c55 => k_is)
    (case k55 => k_is)
    (case a56 => k_is)
    (case l56 => k_is)
    (case c56 => k_is)
    (case k56 => k_is)
    (case a57 => k_is)
    (case l57 => k_is)
    (case c57 => k_is)
    (case k57 => k_is)
    (case a58 => k_is)
    (case l58 => k_is)
    (case c58 => k_is)
    (case k58 => k_is)
    (case a59 => k_is)
    (case l59 => k_is)
    (case c59 => k_is)
    (case k59 => k_is)
    (case a60 => k_is)
    (case l60 => k_is)
    (case c60 => k_is)
    (case k60 => k_is)
    (case a61 => k_is)
    (case l61 => k_is)
    (case c61 => k_is)
    (case k61 => k_is)
    (case a62 => k_is)
    (case l62 => k_is)
    (case c62 => k_is)
    (case k62 => k_is)
    (case z_len => k_is)
    (case z_all => k_is)
    (case z_any => k_is)
    (case z_abs => k_is)
    (case z_sum => k_is)
    (case z_isinstance => k_is)
    (case z_tuple => k_is)
    (case z_list => k_is)
    (case z_bool => k_is)
    (case z_int => k_is)
    (case z_range => k_is)
    (case z_reversed => k_is)
    (case z_min => k_is)
    (case z_max => k_is)
    (case z_zip => k_is)
    (case z_enumerate => k_is)
