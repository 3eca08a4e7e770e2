import PyProof.Rows.All
import Wide.All
import OpenK.AllK
import Wide.FinOn
import Lean
import PyProof.EqAt
import PyProof.EqKinds
import PyProof.TupleCall
import PySem.SetOps
import PySem.Challenge.RW_herdline_k01_corners
set_option Elab.async false
set_option linter.all false
set_option maxRecDepth 100000
/-! THE HAND LAYER, for ints, bools, texts, own classes, LISTS and tuples (index, slices, in, append, pop ..), calls, loops. Paste it whole ahead of your own text; what your proof does not reach may be deleted. -/
namespace L2
open PySem PySem.Spec PyProof.Rows

/-- a key: an int or a str -/
abbrev Key := Sum Int Str
def keyIs : Key → Value → Bool
  | .inl k, v => Value.isInt k v
  | .inr x, v => Value.isStrOf x v
def keyH (w : World) : Key → Int
  | .inl k => hashInt k
  | .inr x => hashStr w x
theorem keyIs_shape : ∀ {k : Key} {v : Value}, keyIs k v = true → (∃ i t, k = Sum.inl i ∧ v = Value.int i t) ∨ (∃ x t, k = Sum.inr x ∧ v = Value.str x t)
  | .inl i, v, h => by
    obtain ⟨t, e⟩ := Value.isInt_shape (k := i) (v := v) h
    exact .inl ⟨i, t, rfl, e⟩
  | .inr x, v, h => by
    obtain ⟨t, e⟩ := Value.isStrOf_shape (x := x) (v := v) h
    exact .inr ⟨x, t, rfl, e⟩
theorem keyIs_int (i : Int) (t : Tok) : keyIs (.inl i) (.int i t) = true := by simp [keyIs, Value.isInt]
theorem keyIs_str (x : Str) (t : Tok) : keyIs (.inr x) (.str x t) = true := by simp [keyIs, Value.isStrOf]
theorem key_ll (a b : Int) : decide ((Sum.inl a : Key) = Sum.inl b) = (a == b) := by
  by_cases e : a = b
  · subst e; simp
  · have h : ¬ (Sum.inl a : Key) = Sum.inl b := fun q => e (Sum.inl.inj q)
    rw [decide_eq_false h]
    exact (beq_eq_false_iff_ne.mpr e).symm
theorem key_rr (a b : Str) : decide ((Sum.inr a : Key) = Sum.inr b) = decide (a = b) := by
  by_cases e : a = b
  · subst e; simp
  · have h : ¬ (Sum.inr a : Key) = Sum.inr b := fun q => e (Sum.inr.inj q)
    rw [decide_eq_false h, decide_eq_false e]
theorem key_lr (a : Int) (b : Str) : decide ((Sum.inl a : Key) = Sum.inr b) = false := decide_eq_false (fun q => nomatch q)
theorem key_rl (a : Str) (b : Int) : decide ((Sum.inr a : Key) = Sum.inl b) = false := decide_eq_false (fun q => nomatch q)

def mixKind (prog : Program) (w : World) : PySem.KeyKind prog w Key where
  is := keyIs
  hash := keyH w
  inj := fun v a b ha hb => by
    rcases keyIs_shape ha with ⟨i, t, rfl, rfl⟩ | ⟨x, t, rfl, rfl⟩
    · rcases keyIs_shape hb with ⟨j, u, rfl, e⟩ | ⟨y, u, rfl, e⟩
      · injection e with e1 _; rw [e1]
      · exact nomatch e
    · rcases keyIs_shape hb with ⟨j, u, rfl, e⟩ | ⟨y, u, rfl, e⟩
      · exact nomatch e
      · injection e with e1 _; rw [e1]
  byValue := fun k v h => by
    rcases keyIs_shape h with ⟨i, t, rfl, rfl⟩ | ⟨x, t, rfl, rfl⟩ <;> rfl
  pyHash := fun hv h => by
    rcases keyIs_shape hv with ⟨i, t, rfl, rfl⟩ | ⟨x, t, rfl, rfl⟩
    · exact wpAny_pyHash_int h
    · exact wpAny_pyHash_str h
  eqBool := fun hu hv h => by
    rcases keyIs_shape hu with ⟨i, t, rfl, rfl⟩ | ⟨x, t, rfl, rfl⟩
    · rcases keyIs_shape hv with ⟨j, u, rfl, rfl⟩ | ⟨y, u, rfl, rfl⟩
      · rw [key_ll] at h; exact wpAny_eqBool_int h
      · rw [key_lr] at h; exact SeqAt.EqAt.int_str i t y u _ _ _ _ h
    · rcases keyIs_shape hv with ⟨j, u, rfl, rfl⟩ | ⟨y, u, rfl, rfl⟩
      · rw [key_rl] at h; exact SeqAt.EqAt.str_int x t j u _ _ _ _ h
      · rw [key_rr] at h; exact wpAny_eqBool_str h
  «strs» := fun k x t v h => by
    rcases keyIs_shape h with ⟨i, u, rfl, e⟩ | ⟨y, u, rfl, e⟩
    · exact nomatch e
    · injection e with e1 _
      subst e1
      cases v <;> rfl

theorem mixKind_is (prog : Program) (w : World) (k : Key) (v : Value) : (mixKind prog w).is k v = keyIs k v := rfl
theorem mixKind_int (prog : Program) (w : World) (i : Int) (t : Tok) : (mixKind prog w).is (.inl i) (.int i t) = true := keyIs_int i t
theorem mixKind_str (prog : Program) (w : World) (x : Str) (t : Tok) : (mixKind prog w).is (.inr x) (.str x t) = true := keyIs_str x t
end L2

namespace L2
open PySem PySem.Spec PyProof.Rows

/-- a value, without the heap -/
inductive V where
  | non | bl (b : Bool) | int (i : Int) | str (x : Str) | byt (b : Array UInt8) | flt (b : UInt64) | ref (a : Addr) | ty (n : String)
  deriving DecidableEq

def RelV : V → Value → Prop
  | .non, u => u = Value.none
  | .bl b, u => u = Value.bool b
  | .int i, u => ∃ t, u = Value.int i t
  | .str x, u => ∃ t, u = Value.str x t
  | .byt b, u => ∃ t, u = Value.bytes b t
  | .flt b, u => ∃ t, u = Value.float b t
  | .ref a, u => u = Value.ref a
  | .ty n, u => u = Value.type n

abbrev Vals : List V → List Value → Prop := Paired RelV
theorem Vals.length {xs : List V} {us : List Value} (r : Vals xs us) : xs.length = us.length := Paired.length r
theorem Vals.get : ∀ {xs : List V} {us : List Value} {i : Nat} {x : V}, Vals xs us → xs[i]? = some x → ∃ u, us[i]? = some u ∧ RelV x u
  | _, _, _, _, .nil, e => by simp at e
  | _, _, 0, _, .cons r _, e => by simp at e; subst e; exact ⟨_, rfl, r⟩
  | _, _, i + 1, x, .cons _ t, e => by
    obtain ⟨u, h1, h2⟩ := Vals.get (i := i) (x := x) t (by simpa using e)
    exact ⟨u, by simpa using h1, h2⟩
theorem Vals.set {x : V} {u : Value} (r : RelV x u) : ∀ {xs : List V} {us : List Value} (i : Nat), Vals xs us → Vals (xs.set i x) (us.set i u)
  | _, _, _, .nil => .nil
  | _, _, 0, .cons _ t => .cons r t
  | _, _, i + 1, .cons q t => .cons q (Vals.set r i t)
theorem Vals.append : ∀ {xs ys : List V} {us ws : List Value}, Vals xs us → Vals ys ws → Vals (xs ++ ys) (us ++ ws)
  | _, _, _, _, .nil, s => s
  | _, _, _, _, .cons r t, s => .cons r (Vals.append t s)
theorem Vals.take : ∀ {xs : List V} {us : List Value} (n : Nat), Vals xs us → Vals (xs.take n) (us.take n)
  | _, _, 0, _ => .nil
  | _, _, _ + 1, .nil => .nil
  | _, _, n + 1, .cons r t => .cons r (Vals.take n t)
theorem Vals.drop : ∀ {xs : List V} {us : List Value} (n : Nat), Vals xs us → Vals (xs.drop n) (us.drop n)
  | _, _, 0, r => r
  | _, _, _ + 1, .nil => .nil
  | _, _, n + 1, .cons _ t => Vals.drop n t
theorem Vals.none_of : ∀ {xs : List V} {us : List Value} {i : Nat}, Vals xs us → xs[i]? = none → us[i]? = none := fun {xs us i} r e => by
  have h1 := r.length
  have h2 : xs.length ≤ i := List.getElem?_eq_none_iff.mp e
  exact List.getElem?_eq_none_iff.mpr (by omega)

def RelO : Option V → Option Value → Prop
  | some v, some u => RelV v u
  | none, none => True
  | _, _ => False
def KV {κ : Type} : List (κ × V) → List (κ × Value) → Prop := Paired fun (p : κ × V) (q : κ × Value) => p.1 = q.1 ∧ RelV p.2 q.2

/-- a key of a dict (00_mix): an int or a text -/
def kV : Key → V
  | .inl i => .int i
  | .inr x => .str x

/-- what stands at a tracked address -/
inductive HO where
  /-- a list -/
  | lst (xs : List V)
  /-- a tuple (never changes) -/
  | tup (xs : List V)
  /-- a dict whose keys are ints and texts; one whose keys are tuples of ints and texts (the empty one is both) -/
  | dK (kvs : List (Key × V)) | dT (kvs : List (List Key × V))
  /-- a set of ints: its members, its size -/
  | set (S : Int → Bool) (n : Nat)
  /-- an instance of the class at C, its dict at dx, its attributes -/
  | ins (C dx : Addr) (fs : List (Str × V))
  /-- the dict of the instance at x -/
  | own (x : Addr)
  /-- the dict of an exception -/
  | xd (fs : List (Str × V))
  /-- a bound method, f of x -/
  | met (f x : Addr)
  /-- a range object lo, lo + 1, .. below hi -/
  | rng (lo hi : Int)
  /-- a thing that is known to the object (the script; a dict while a loop walks it): read, never written while it is so -/
  | frz (o : Obj) (u : HO)
  /-- a code object's table -/
  | tbl (ps : Array Value)
  /-- any other thing, by what is true of its one object (a def of one's own: SetO a S n := HO.ext fun h => ..) -/
  | ext (φ : Heap → Prop)

abbrev Hp := Addr → Option HO
def upd (H : Hp) (a : Addr) (o : HO) : Hp := fun b => if b = a then some o else H b
theorem upd_same {H : Hp} {a : Addr} {o : HO} : upd H a o a = some o := by unfold upd; rw [if_pos rfl]
theorem upd_ne {H : Hp} {a b : Addr} {o : HO} (h : b ≠ a) : upd H a o b = H b := by unfold upd; rw [if_neg h]
theorem upd_upd {H : Hp} {a : Addr} {o u : HO} : upd (upd H a o) a u = upd H a u := by
  funext b; unfold upd; split <;> rfl
/-- two objects of different content stand apart -/
theorem ne_of {H : Hp} {a b : Addr} {o u : HO} (h : H a = some o) (h' : H b = some u) (d : o ≠ u) : a ≠ b := by
  intro e; subst e; rw [h] at h'; exact d (Option.some.inj h')
theorem ne_of_none {H : Hp} {a b : Addr} {o : HO} (h : H a = some o) (h' : H b = none) : a ≠ b := by
  intro e; subst e; rw [h] at h'; cases h'

section
variable (P : Program) (w : World)
def ObjOk (H : Hp) (h : Heap) (a : Addr) : HO → Prop
  | .lst xs => xs.length ≤ sizeLine ∧ ∃ (its : List Value) (n : Nat), Vals xs its ∧ h.get? a = some { cls := .type "list", data := .seq its.toArray n }
  | .tup xs => xs.length ≤ sizeLine ∧ ∃ its : List Value, Vals xs its ∧ IsTup h a its.toArray
  | .dK kvs => kvs.length ≤ sizeLine ∧ (a == sysModules) = false ∧ ∃ vs, KV kvs vs ∧ h.DictOf (mixKind P w) a vs
  | .dT kvs => kvs.length ≤ sizeLine ∧ (a == sysModules) = false ∧ ∃ xs : List (List Key × Addr × Value),
      Paired (fun (p : List Key × V) (q : List Key × Addr × Value) => p.1 = q.1 ∧ H q.2.1 = some (.tup (p.1.map kV)) ∧ RelV p.2 q.2.2) kvs xs ∧
      ∃ o es ep, h.get? a = some o ∧ o.ExactDict ∧ o.data = .dict es ep ∧ es.toList = xs.map (entryOfKey (tupleKind (mixKind P w))) ∧ (xs.map (·.1)).Nodup
  | .set S n => h.SetOf (intKind P w) a S n
  | .ins C dx fs => H dx = some (.own a) ∧ fs.length ≤ 1000 ∧ dx ≠ a ∧ h.get? a = some (PySem.W.instObj C dx) ∧
      ∃ mA, h.Ns1 dx mA ∧ (∀ f, RelO (fs.lookup f) (mA f)) ∧ PySem.Within mA (fs.map (·.1))
  | .own _ => ∃ o, h.get? a = some o
  | .xd fs => ∃ mA, h.Ns1 a mA ∧ ∀ f, RelO (fs.lookup f) (mA f)
  | .rng lo hi => ∃ t u v, h.get? a = some { cls := .type "range", data := .fields #[.int lo t, .int hi u, .int 1 v] }
  | .frz o u => h.get? a = some o ∧ ObjOk H h a u
  | .tbl ps => h.get? a = some { cls := .none, data := .fields ps }
  | .met f x => h.get? a = some (PySem.W.methodObj (.ref f) (.ref x))
  | .ext φ => φ h ∧ (∃ o, h.get? a = some o) ∧ ∀ h1 h2 : Heap, φ h1 → (∀ o, h1.get? a = some o → h2.get? a = some o) → φ h2
/-- the abstract heap is held -/
def HOk (H : Hp) (h : Heap) : Prop := ∀ a o, H a = some o → ObjOk P w H h a o
end

section
variable {P : Program} {w : World} {H H' : Hp} {h h' : Heap} {a : Addr} {o : HO}
theorem ObjOk.lt (x : ObjOk P w H h a o) : a < h.objs.size := by
  cases o with
  | lst xs => obtain ⟨_, _, _, _, e⟩ := x; exact Heap.lt_size e
  | tup xs => obtain ⟨_, _, _, p⟩ := x; exact p.lt
  | dK kvs => obtain ⟨_, _, _, _, o, _, _, e, _⟩ := x; exact Heap.lt_size e
  | dT kvs => obtain ⟨_, _, _, _, o, _, _, e, _⟩ := x; exact Heap.lt_size e
  | set S n => obtain ⟨o, _, _, _, e, _⟩ := x; exact Heap.lt_size e
  | ins C dx fs => obtain ⟨_, _, _, e, _⟩ := x; exact Heap.lt_size e
  | own y => obtain ⟨_, e⟩ := x; exact Heap.lt_size e
  | xd fs => obtain ⟨_, ⟨_, _, _, e, _⟩, _⟩ := x; exact Heap.lt_size e
  | rng lo hi => obtain ⟨_, _, _, e⟩ := x; exact Heap.lt_size e
  | frz ob u => obtain ⟨e, _⟩ := x; exact Heap.lt_size e
  | tbl ps => exact Heap.lt_size (show h.get? a = some _ from x)
  | met f y => exact Heap.lt_size (show h.get? a = some _ from x)
  | ext φ => obtain ⟨_, ⟨_, e⟩, _⟩ := x; exact Heap.lt_size e
theorem Paired.mapP {α β : Type} {F G : α → β → Prop} : ∀ {l₁ : List α} {l₂ : List β}, Paired F l₁ l₂ → (∀ a b, F a b → G a b) → Paired G l₁ l₂
  | _, _, .nil, _ => .nil
  | _, _, .cons r t, f => .cons (f _ _ r) (Paired.mapP t f)
theorem Paired.imp' {α β : Type} {F G : α → β → Prop} (f : ∀ a b, F a b → G a b) {l₁ : List α} {l₂ : List β} (r : Paired F l₁ l₂) : Paired G l₁ l₂ := Paired.mapP r f
/-- what an object's description leans on: its own object, its own dict, the tuples -/
theorem ObjOk.stay (x : ObjOk P w H h a o) (k : ∀ b u, (b = a ∨ H b = some (.own a)) → h.get? b = some u → h'.get? b = some u)
    (ho : ∀ b, H b = some (.own a) → H' b = some (.own a)) (ht : ∀ b xs, H b = some (.tup xs) → H' b = some (.tup xs)) : ObjOk P w H' h' a o := by
  induction o with
  | lst xs => obtain ⟨z, its, n, r, e⟩ := x; exact ⟨z, its, n, r, k _ _ (.inl rfl) e⟩
  | tup xs => obtain ⟨z, its, r, ob, e, c⟩ := x; exact ⟨z, its, r, ob, k _ _ (.inl rfl) e, c⟩
  | dK kvs => obtain ⟨z, y, vs, r, ob, es, ep, e, c⟩ := x; exact ⟨z, y, vs, r, ob, es, ep, k _ _ (.inl rfl) e, c⟩
  | dT kvs =>
    obtain ⟨z, y, xs, r, ob, es, ep, e, c⟩ := x
    exact ⟨z, y, xs, Paired.mapP r fun p q z => ⟨z.1, ht _ _ z.2.1, z.2.2⟩, ob, es, ep, k _ _ (.inl rfl) e, c⟩
  | set S n => obtain ⟨ob, es, ep, t, e, c⟩ := x; exact ⟨ob, es, ep, t, k _ _ (.inl rfl) e, c⟩
  | ins C dx fs =>
    obtain ⟨d, z, ne, e, mA, ⟨od, es, ep, e2, c⟩, r⟩ := x
    exact ⟨ho _ d, z, ne, k _ _ (.inl rfl) e, mA, ⟨od, es, ep, k _ _ (.inr d) e2, c⟩, r⟩
  | own y => obtain ⟨ob, e⟩ := x; exact ⟨ob, k _ _ (.inl rfl) e⟩
  | xd fs => obtain ⟨mA, ⟨od, es, ep, e, c⟩, r⟩ := x; exact ⟨mA, ⟨od, es, ep, k _ _ (.inl rfl) e, c⟩, r⟩
  | rng lo hi => obtain ⟨t, u, v, e⟩ := x; exact ⟨t, u, v, k _ _ (.inl rfl) e⟩
  | frz ob u ih => obtain ⟨e, q⟩ := x; exact ⟨k _ _ (.inl rfl) e, ih q⟩
  | tbl ps =>
    have e : h.get? a = some { cls := .none, data := .fields ps } := x
    show h'.get? a = some { cls := .none, data := .fields ps }
    exact k a _ (.inl rfl) e
  | met f y =>
    have e : h.get? a = some (PySem.W.methodObj (.ref f) (.ref y)) := x
    show h'.get? a = some (PySem.W.methodObj (.ref f) (.ref y))
    exact k a _ (.inl rfl) e
  | ext φ => obtain ⟨p, ⟨o, e⟩, st⟩ := x; exact ⟨st _ _ p fun o q => k _ _ (.inl rfl) q, ⟨o, k _ _ (.inl rfl) e⟩, st⟩
theorem HOk.lt (x : HOk P w H h) (e : H a = some o) : a < h.objs.size := (x a o e).lt
theorem HOk.fresh (x : HOk P w H h) (e : h.objs.size ≤ a) : H a = none := by
  cases q : H a with
  | none => rfl
  | some u => exact absurd (Nat.lt_of_lt_of_le (x.lt q) e) (Nat.lt_irrefl _)
/-- every object of the heap is kept -/
theorem HOk.kept (x : HOk P w H h) (k : ∀ b u, h.get? b = some u → h'.get? b = some u) : HOk P w H h' := fun a o e =>
  (x a o e).stay (fun b u _ q => k b u q) (fun _ q => q) fun _ _ q => q
/-- a new object is laid and tracked -/
theorem HOk.laid (x : HOk P w H h) (k : ∀ b u, h.get? b = some u → h'.get? b = some u) (hp : h.objs.size ≤ a) (new : ObjOk P w (upd H a o) h' a o) : HOk P w (upd H a o) h' := fun b u e => by
  have hn := x.fresh hp
  by_cases hb : b = a
  · subst hb; rw [upd_same] at e; cases e; exact new
  · rw [upd_ne hb] at e
    exact (x b u e).stay (fun c v _ q => k c v q) (fun c q => by rw [upd_ne (ne_of_none q hn)]; exact q) fun c xs q => by rw [upd_ne (ne_of_none q hn)]; exact q
end

/-- what may be read as u: it is u, or a known u -/
def Rd (H : Hp) (a : Addr) (u : HO) : Prop := H a = some u ∨ ∃ o, H a = some (.frz o u)
theorem Rd.of {H : Hp} {a : Addr} {u : HO} (h : H a = some u) : Rd H a u := .inl h
theorem Rd.ok {P : Program} {w : World} {H : Hp} {h : Heap} {a : Addr} {u : HO} (r : Rd H a u) (x : HOk P w H h) : ObjOk P w H h a u := by
  rcases r with r | ⟨o, r⟩
  · exact x a u r
  · obtain ⟨_, q⟩ := x a _ r
    exact q
/-- what may be written -/
def Mut : Option HO → Prop
  | some (.lst _) => True
  | some (.dK _) => True
  | some (.dT _) => True
  | some (.set _ _) => True
  | some (.ins _ _ _) => True
  | some (.ext _) => True
  | _ => False
section
variable {P : Program} {w : World} {H : Hp} {h h' : Heap} {x e : Addr} {o' : HO}
/-- the object at e is changed: x itself, or the dict of the instance x -/
theorem HOk.write (ok : HOk P w H h) (mu : Mut (H x)) (he : e = x ∨ H e = some (.own x)) (k : ∀ b u, b ≠ e → h.get? b = some u → h'.get? b = some u) (heo : ∃ u, h'.get? e = some u)
    (new : ObjOk P w (upd H x o') h' x o') : HOk P w (upd H x o') h' := fun b u q => by
  have nown : ∀ c y, H c = some (.own y) → c ≠ x := fun c y r z => by subst z; rw [r] at mu; exact mu
  have ntup : ∀ c xs, H c = some (.tup xs) → c ≠ x := fun c xs r z => by subst z; rw [r] at mu; exact mu
  by_cases hb : b = x
  · subst hb; rw [upd_same] at q; cases q; exact new
  · rw [upd_ne hb] at q
    by_cases hbe : b = e
    · have q' : H b = some (.own x) := by
        rcases he with z | z
        · exact absurd (hbe.trans z) hb
        · rw [hbe]; exact z
      rw [q] at q'; cases q'
      obtain ⟨v, hv⟩ := heo
      exact ⟨v, by rw [hbe]; exact hv⟩
    · refine (ok b u q).stay (fun c v hc r => k c v ?_ r) (fun c r => by rw [upd_ne (nown c b r)]; exact r) fun c xs r => by rw [upd_ne (ntup c xs r)]; exact r
      rcases hc with rfl | hc
      · exact hbe
      · rintro rfl
        rcases he with z | z
        · exact nown c b hc z
        · rw [hc] at z; cases z; exact hb rfl
end

/-! ### kept unless tracked; of the frames at fs (the callers') the slots may change (an exception that passes writes there); of the records at ex (iterators) nothing is said -/
structure Un (fs ex : List Addr) (H H' : Hp) (h h' : Heap) : Prop where
  keep : ∀ b o, h.get? b = some o → H b = none → b ∉ fs → b ∉ ex → h'.get? b = some o
  slot : ∀ b o, h.get? b = some o → H b = none → b ∈ fs → b ∉ ex → ∃ sl, h'.get? b = some { o with slots := sl }
  free : ∀ b o, h.get? b = some o → H b = none → b ∉ ex → H' b = none
  there : ∀ b o, h.get? b = some o → b ∉ ex → ∃ o', h'.get? b = some o'
  tups : ∀ b xs, H b = some (.tup xs) → H' b = some (.tup xs)
  frzs : ∀ b o u, H b = some (.frz o u) → H' b = some (.frz o u)
  tbls : ∀ b ps, H b = some (.tbl ps) → ∃ more, H' b = some (.tbl (ps ++ more))
section
variable {fs fs' ex ex' : List Addr} {H H1 H2 : Hp} {h h1 h2 h' : Heap} {a x e : Addr} {o : HO}
theorem Un.any (u : Un fs ex H H1 h h1) {b : Addr} {ob : Obj} (q : h.get? b = some ob) (n : H b = none) (hx : b ∉ ex) : ∃ sl, h1.get? b = some { ob with slots := sl } := by
  by_cases hb : b ∈ fs
  · exact u.slot b ob q n hb hx
  · exact ⟨ob.slots, u.keep b ob q n hb hx⟩
theorem Un.trans (a : Un fs ex H H1 h h1) (b : Un fs ex H1 H2 h1 h2) : Un fs ex H H2 h h2 where
  keep := fun c ob q n hc hx => b.keep c ob (a.keep c ob q n hc hx) (a.free c ob q n hx) hc hx
  slot := fun c ob q n hc hx => by
    obtain ⟨sl, e1⟩ := a.slot c ob q n hc hx
    obtain ⟨sl', e2⟩ := b.slot c _ e1 (a.free c ob q n hx) hc hx
    exact ⟨sl', e2⟩
  free := fun c ob q n hx => by
    obtain ⟨o', e1⟩ := a.there c ob q hx
    exact b.free c o' e1 (a.free c ob q n hx) hx
  there := fun c ob q hx => by
    obtain ⟨o', e1⟩ := a.there c ob q hx
    exact b.there c o' e1 hx
  tups := fun c xs q => b.tups c xs (a.tups c xs q)
  frzs := fun c ob xs q => b.frzs c ob xs (a.frzs c ob xs q)
  tbls := fun c ps q => by
    obtain ⟨m1, e1⟩ := a.tbls c ps q
    obtain ⟨m2, e2⟩ := b.tbls c _ e1
    exact ⟨m1 ++ m2, by rw [e2, Array.append_assoc]⟩
theorem Un.kept (k : ∀ b u, h.get? b = some u → h'.get? b = some u) : Un fs ex H H h h' :=
  ⟨fun b ob q _ _ _ => k b ob q, fun b ob q _ _ _ => ⟨ob.slots, k b ob q⟩, fun _ _ _ n _ => n, fun b ob q _ => ⟨ob, k b ob q⟩, fun _ _ q => q, fun _ _ _ q => q, fun _ ps q => ⟨#[], by rw [q]; simp⟩⟩
theorem Un.refl : Un fs ex H H h h := Un.kept fun _ _ q => q
theorem Un.laid (k : ∀ b u, h.get? b = some u → h'.get? b = some u) (hp : h.objs.size ≤ a) (hn : H a = none) : Un fs ex H (upd H a o) h h' where
  keep := fun b u q _ _ _ => k b u q
  slot := fun b u q _ _ _ => ⟨u.slots, k b u q⟩
  free := fun b u q n _ => by rw [upd_ne (Nat.ne_of_lt (Nat.lt_of_lt_of_le (Heap.lt_size q) hp))]; exact n
  there := fun b u q _ => ⟨u, k b u q⟩
  tups := fun b xs q => by rw [upd_ne (ne_of_none q hn)]; exact q
  frzs := fun b u xs q => by rw [upd_ne (ne_of_none q hn)]; exact q
  tbls := fun b ps q => ⟨#[], by rw [upd_ne (ne_of_none q hn), q]; simp⟩
theorem Un.write (mu : Mut (H x)) (he : e = x ∨ H e = some (.own x)) (k : ∀ b u, b ≠ e → h.get? b = some u → h'.get? b = some u) (heo : ∃ u, h'.get? e = some u) : Un fs ex H (upd H x o) h h' := by
  have hx : ∀ b, H b = none → b ≠ x := fun b n z => by subst z; rw [n] at mu; exact mu
  have hb : ∀ b, H b = none → b ≠ e := fun b n z => by
    subst z
    rcases he with r | r
    · exact hx b n r
    · rw [n] at r; cases r
  have hm : ∀ b u, H b = some u → ¬ Mut (some u) → b ≠ x := fun b u q nm z => by subst z; rw [q] at mu; exact nm mu
  refine ⟨fun b u q n _ _ => k b u (hb b n) q, fun b u q n _ _ => ⟨u.slots, k b u (hb b n) q⟩, fun b u q n _ => by rw [upd_ne (hx b n)]; exact n, fun b u q _ => ?_,
    fun b xs q => by rw [upd_ne (hm b _ q fun z => z)]; exact q, fun b u xs q => by rw [upd_ne (hm b _ q fun z => z)]; exact q, fun b ps q => ⟨#[], by rw [upd_ne (hm b _ q fun z => z), q]; simp⟩⟩
  by_cases hbe : b = e
  · subst hbe; exact heo
  · exact ⟨u, k b u hbe q⟩
theorem Un.mono (u : Un fs ex H H1 h h1) (hs : ∀ b ∈ fs, b ∈ fs') (hx : ∀ b ∈ ex, b ∈ ex') : Un fs' ex' H H1 h h1 :=
  ⟨fun b ob q n hb he => u.keep b ob q n (fun z => hb (hs b z)) fun z => he (hx b z), fun _ _ q n _ he => u.any q n fun z => he (hx _ z), fun b ob q n he => u.free b ob q n fun z => he (hx b z), fun b ob q he => u.there b ob q fun z => he (hx b z), u.tups, u.frzs, u.tbls⟩
end

/-! ### the heap without what is tracked -/
def trk (h : Heap) (H : Hp) : List Addr := (List.range h.objs.size).filter fun a => (H a).isSome
def hidT (h : Heap) (H : Hp) : Heap := PySem.W.hideAll h (trk h H)
theorem hidT_size (h : Heap) (H : Hp) : (hidT h H).objs.size = h.objs.size := PySem.W.hideAll_size _ _
theorem hidT_get {h : Heap} {H : Hp} {b : Addr} {o : Obj} (e : h.get? b = some o) (n : H b = none) : (hidT h H).get? b = some o :=
  PySem.W.hideAll_get _ e fun hm => by
    have q : (H b).isSome = true := (List.mem_filter.mp hm).2
    rw [n] at q; simp at q
theorem of_hidT {h : Heap} {H : Hp} {b : Addr} {o : Obj} (e : (hidT h H).get? b = some o) : h.get? b = some o ∧ H b = none := by
  have e' : h.get? b = some o := PySem.W.of_hideAll (trk h H) e
  refine ⟨e', ?_⟩
  cases q : H b with
  | none => rfl
  | some x =>
    have hm : b ∈ trk h H := List.mem_filter.mpr ⟨List.mem_range.mpr (Heap.lt_size e'), by simp [q]⟩
    have z : (hidT h H).get? b = none := PySem.W.hideAll_none (trk h H) hm
    rw [z] at e; cases e

/-! ### OpenK's ledger, filled with every new object but one -/
def allNews (g h : Heap) (L : Addr) : List (Addr × Obj) := (List.range h.objs.size).filterMap fun a => if a = L ∨ (g.get? a).isSome = true then none else (h.get? a).map fun o => (a, o)
theorem mem_allNews {g h : Heap} {L a : Addr} {o : Obj} (h1 : a ≠ L) (h2 : g.get? a = none) (h3 : h.get? a = some o) : (a, o) ∈ allNews g h L :=
  List.mem_filterMap.mpr ⟨a, List.mem_range.mpr (Heap.lt_size h3), by simp [h1, h2, h3]⟩
theorem of_mem_allNews {g h : Heap} {L : Addr} {p : Addr × Obj} (hp : p ∈ allNews g h L) : p.1 ≠ L ∧ g.get? p.1 = none ∧ h.get? p.1 = some p.2 := by
  obtain ⟨b, _, e⟩ := List.mem_filterMap.mp hp
  split at e
  · cases e
  · rename_i hn
    cases q : h.get? b with
    | none => rw [q] at e; simp at e
    | some u =>
      rw [q] at e
      simp only [Option.map_some, Option.some.injEq] at e
      subst e
      refine ⟨fun z => hn (.inl z), ?_, q⟩
      show g.get? b = none
      cases r : g.get? b with
      | none => rfl
      | some v => exact (hn (.inr (by simp [r]))).elim
def rest (g h : Heap) (L d : Addr) : List (Addr × Obj) := (allNews g h L).filter fun p => decide (p.1 ≠ d)
theorem rest_ne {g h : Heap} {L d : Addr} : ∀ p ∈ rest g h L d, p.1 ≠ d := fun p hp => of_decide_eq_true (List.mem_filter.mp hp).2
theorem mem_rest {g h : Heap} {L d a : Addr} {o : Obj} (h1 : a ≠ L) (h2 : g.get? a = none) (h3 : h.get? a = some o) (h4 : a ≠ d) : (a, o) ∈ rest g h L d :=
  List.mem_filter.mpr ⟨mem_allNews h1 h2 h3, decide_eq_true h4⟩
theorem news_all {g h : Heap} {L : Addr} : News g L h (allNews g h L) := fun p hp => let ⟨a, b, c⟩ := of_mem_allNews hp; ⟨c, a, b⟩
theorem news_at {g h : Heap} {L d : Addr} {o : Obj} (h1 : d ≠ L) (h2 : g.get? d = none) (h3 : h.get? d = some o) : News g L h ((d, o) :: rest g h L d) := fun p hp => by
  rcases List.mem_cons.mp hp with rfl | hp
  · exact ⟨h3, h1, h2⟩
  · exact news_all p (List.mem_filter.mp hp).1
/-- behind a rule that changed d alone: all else but the frame is kept -/
theorem kept_of_news {g h h' : Heap} {L d : Addr} {m : Str → Option Value} (k : ∀ b o, g.get? b = some o → h.get? b = some o) (F : Fr g L h' m) (N : News g L h' (rest g h L d)) :
    ∀ b o, b ≠ L → b ≠ d → h.get? b = some o → h'.get? b = some o := fun b o h1 h2 e => by
  cases q : g.get? b with
  | some u =>
    have := k b u q
    rw [e] at this; cases this
    exact F.keep b _ q
  | none => exact (N (b, o) (mem_rest h1 q e h2)).1
end L2

namespace L2
open PySem PySem.Spec PyProof.Rows

/-- the module's facts, over the base: the heap at the law's entry without what is tracked there -/
structure Mod (K : PySem.W.Frag) (mg : Str → Option Value) (base : Heap) : Prop where
  kin : K.In base
  glob : base.Ns mainGlobals mg
  blt : ∃ mb, base.Ns builtinsNs mb ∧ ∀ x : Str, x ≠ "__name__" → mb x = bootBuiltins x
  nolimit : base.NoLimit

/-- the context: a def's body (or a comprehension's block) running. base: fixed through the whole law; s₀, H₀: the entry; outer: the frames whose slots others may change (a def's callers); stack: all frames that run;
   ex: iterators that were made ahead of the entry and are walked here (a comprehension's); fn: the names whose cells were made at the entry (a def: all; a comprehension's block: its own); calm: not within an except suite; pn: pins that every state bears; xe: what is wanted of an exception that leaves the code -/
structure Cx where
  prog : Program
  w : World
  K : PySem.W.Frag
  mg : Str → Option Value
  base : Heap
  A : Around
  N : List Str
  s₀ : Shared
  H₀ : Hp
  env : Env
  outer : List Env
  stack : List Env
  ex : List Addr
  fn : Str → Bool
  calm : Bool
  pn : List (Addr × Obj)
  xe : Value → Shared → Prop
/-- the callers' frames -/
def frs (l : List Env) : List Addr := l.filterMap (·.frame)
abbrev Cx.fs (X : Cx) : List Addr := frs X.outer

def Vis (sc : Scope) (x : Str) : Prop := sc.names.lookup x = some .local ∨ sc.names.lookup x = some .cell ∨ sc.names.lookup x = some .free
def Loc (sc : Scope) (x : Str) : Prop := sc.names.lookup x = some .local ∨ sc.names.lookup x = some .cell
def Look (env : Env) (h : Heap) (m : Str → Option Value) (x : Str) (u : Value) : Prop :=
  (env.kindOf x = some .local ∧ m x = some u) ∨ ((env.kindOf x = some .cell ∨ env.kindOf x = some .free) ∧ ∃ c, env.cells.lookup x = some c ∧ h.IsCell c (some u))

structure Cx.Ok (X : Cx) : Prop where
  mod : Mod X.K X.mg X.base
  kind : X.env.scope.kind = .function
  glob : X.env.globals = mainGlobals
  blt : X.env.builtins = builtinsNs
  above : X.s₀.heap.objs.size ≤ X.env.locals
  inj : ∀ x y c, X.env.cells.lookup x = some c → X.env.cells.lookup y = some c → x = y
  has : ∀ x, (X.env.kindOf x = some .cell ∨ X.env.kindOf x = some .free) → ∃ c, X.env.cells.lookup x = some c
  cab : ∀ x c, X.fn x = true → X.env.cells.lookup x = some c → X.s₀.heap.objs.size ≤ c
  hd : X.calm = true → X.A.handled = none
  frames : X.A.frames = some X.stack
  stk : X.stack = X.outer ∨ (X.stack = X.env :: X.outer ∧ X.env.frame = some X.env.locals)
  exf : ∀ b ∈ X.ex, b ≠ X.env.locals ∧ ∀ x c, X.env.cells.lookup x = some c → c ≠ b
  bs : ∀ b o, X.base.get? b = some o → X.s₀.heap.get? b = some o ∧ X.H₀ b = none
  bsz : X.base.objs.size ≤ X.s₀.heap.objs.size
  noex : ∀ b o, X.base.get? b = some o → b ∉ X.ex
  exfs : ∀ b ∈ X.ex, b ∉ X.fs
  funs : X.s₀.heap.FunFrames X.base X.outer
  frf : ∀ b ∈ X.fs, X.H₀ b = none

structure Inv (X : Cx) (pins : List (Addr × Obj)) (σ : List (Option V)) (H : Hp) (s : Shared) : Prop where
  ok : X.Ok
  os : s.os = X.s₀.os
  bare : AllBare s.gens
  base : Un X.fs X.ex X.H₀ H X.s₀.heap s.heap
  loc : ∃ m, s.heap.Ns X.env.locals m ∧ ∀ (i : Nat) (x : Str) (v : V), X.N[i]? = some x → σ[i]? = some (some v) → Vis X.env.scope x → ∃ u, RelV v u ∧ Look X.env s.heap m x u
  cell : ∀ x c, X.env.cells.lookup x = some c → ∃ v, s.heap.IsCell c v
  free : H X.env.locals = none
  freeC : ∀ x c, X.env.cells.lookup x = some c → H c = none
  pin : ∀ p ∈ X.pn ++ pins, s.heap.get? p.1 = some p.2 ∧ H p.1 = none ∧ p.1 ≠ X.env.locals ∧ p.1 ∉ X.fs ∧ ∀ v, p.2.data ≠ .cell v
  hok : HOk X.prog X.w H s.heap
  len : σ.length = X.N.length

section
variable {X : Cx} {pins : List (Addr × Obj)} {σ : List (Option V)} {H H' : Hp} {s : Shared} {h' : Heap}

theorem Cx.Ok.nofr (ok : X.Ok) {b : Addr} {o : Obj} (e : X.base.get? b = some o) : b ∉ X.fs := fun hb => by
  have := (ok.funs.mem hb).1
  rw [e] at this; cases this
theorem Inv.bs (I : Inv X pins σ H s) : ∀ b o, X.base.get? b = some o → s.heap.get? b = some o ∧ H b = none := fun b o e =>
  ⟨I.base.keep b o (I.ok.bs b o e).1 (I.ok.bs b o e).2 (I.ok.nofr e) (I.ok.noex b o e), I.base.free b o (I.ok.bs b o e).1 (I.ok.bs b o e).2 (I.ok.noex b o e)⟩
theorem Inv.bk (I : Inv X pins σ H s) : ∀ b o, X.base.get? b = some o → s.heap.get? b = some o := fun b o e => (I.bs b o e).1
theorem Inv.mod (I : Inv X pins σ H s) : Mod X.K X.mg X.base := I.ok.mod
theorem Inv.kIn (I : Inv X pins σ H s) : X.K.In s.heap := I.ok.mod.kin.keeps I.bk
theorem Inv.nolimit (I : Inv X pins σ H s) : s.heap.NoLimit := I.ok.mod.nolimit.keeps I.bk
/-- the frame over the base: for OpenK's rules (K.In X.base is I.mod.kin) -/
theorem Inv.fr (I : Inv X pins σ H s) : ∃ m, Fr X.base X.env.locals s.heap m :=
  let ⟨m, hn, _⟩ := I.loc
  ⟨m, hn, I.bk, Nat.le_trans I.ok.bsz I.ok.above⟩
theorem Inv.lt (I : Inv X pins σ H s) : X.env.locals < s.heap.objs.size := let ⟨_, hn, _⟩ := I.loc; hn.lt
theorem Inv.sz (I : Inv X pins σ H s) : X.s₀.heap.objs.size ≤ s.heap.objs.size := Nat.le_trans I.ok.above (Nat.le_of_lt I.lt)
theorem Inv.nofs (I : Inv X pins σ H s) {a : Addr} (h : s.heap.objs.size ≤ a) : a ∉ X.fs := fun hb => by
  obtain ⟨_, o, ho, _⟩ := I.ok.funs.mem hb
  exact absurd (Nat.lt_of_lt_of_le (Heap.lt_size ho) (Nat.le_trans I.sz h)) (Nat.lt_irrefl _)
theorem Inv.cne (I : Inv X pins σ H s) : ∀ x c, X.env.cells.lookup x = some c → c ≠ X.env.locals := fun x c e z => by
  obtain ⟨v, o, ho, hd⟩ := I.cell x c e
  obtain ⟨m, ⟨o', es, ep, ho', hd', _⟩, _⟩ := I.loc
  rw [z, ho'] at ho; cases ho; rw [hd'] at hd; cases hd
theorem Inv.funs (I : Inv X pins σ H s) : s.heap.FunFrames X.base X.outer := by
  have all : ∀ (l : List Env), (∀ b ∈ frs l, b ∈ X.fs) → X.s₀.heap.FunFrames X.base l → s.heap.FunFrames X.base l := by
    intro l
    induction l with
    | nil => intro _ _; trivial
    | cons env r ih =>
      intro hs hl
      obtain ⟨hk, ⟨L, o, hf, hn, ho, hd⟩, hr⟩ := hl
      have hL : L ∈ X.fs := hs L (by unfold frs; rw [List.filterMap_cons, hf]; exact List.mem_cons_self)
      obtain ⟨sl, e⟩ := I.base.slot L o ho (I.ok.frf L hL) hL fun z => I.ok.exfs L z hL
      exact ⟨hk, ⟨L, _, hf, hn, e, hd⟩, ih (fun b hb => hs b (by unfold frs; rw [List.filterMap_cons, hf]; exact List.mem_cons_of_mem _ hb)) hr⟩
  exact all X.outer (fun _ hb => hb) I.ok.funs

/-- the frames that run, for a call -/
theorem Inv.stack (I : Inv X pins σ H s) : s.heap.FunFrames X.base X.stack := by
  rcases I.ok.stk with e | ⟨e, hf⟩
  · rw [e]; exact I.funs
  · rw [e]
    obtain ⟨m, hn, _⟩ := I.loc
    refine .cons (by rw [I.ok.kind]; decide) hf hn ?_ I.funs
    exact Heap.get?_none_of_le (Nat.le_trans I.ok.bsz I.ok.above)
theorem Inv.stkSub (I : Inv X pins σ H s) : ∀ b ∈ frs X.stack, b ∈ X.env.locals :: X.fs := fun b hb => by
  rcases I.ok.stk with e | ⟨e, hf⟩
  · rw [e] at hb; exact List.mem_cons_of_mem _ hb
  · rw [e] at hb
    unfold frs at hb
    rw [List.filterMap_cons, hf] at hb
    exact hb
theorem Inv.stkFree (I : Inv X pins σ H s) : ∀ b ∈ frs X.stack, H b = none := fun b hb => by
  rcases List.mem_cons.mp (I.stkSub b hb) with e | hb
  · rw [e]; exact I.free
  · obtain ⟨_, o, ho, _⟩ := I.ok.funs.mem hb
    exact I.base.free b o ho (I.ok.frf b hb) fun z => I.ok.exfs b z hb

/-- THE STEP: the untracked objects but the frame and the records at ch are kept (the callers' frames up to slots), the frame's map is kept, the new abstract heap is held -/
theorem Inv.step {g' : Array GenState} {t' : Nat} {d' : Drawn} {ch : List Addr} (I : Inv X pins σ H s)
    (hch : ∀ b ∈ ch, (b ∈ X.ex ∨ X.s₀.heap.objs.size ≤ b) ∧ b ≠ X.env.locals ∧ (∀ x c, X.env.cells.lookup x = some c → c ≠ b) ∧ ∀ p ∈ X.pn ++ pins, p.1 ≠ b)
    (keep : ∀ b o, b ≠ X.env.locals → b ∉ X.fs → b ∉ ch → s.heap.get? b = some o → H b = none → h'.get? b = some o)
    (slot : ∀ b o, b ≠ X.env.locals → b ∈ X.fs → b ∉ ch → s.heap.get? b = some o → H b = none → ∃ sl, h'.get? b = some { o with slots := sl }) (free : ∀ b o, b ∉ ch → s.heap.get? b = some o → H b = none → H' b = none)
    (there : ∀ b o, b ∉ ch → s.heap.get? b = some o → ∃ o', h'.get? b = some o')
    (tups : ∀ b xs, H b = some (.tup xs) → H' b = some (.tup xs)) (frzs : ∀ b o u, H b = some (.frz o u) → H' b = some (.frz o u)) (tbls : ∀ b ps, H b = some (.tbl ps) → ∃ more, H' b = some (.tbl (ps ++ more)))
    (ns : ∀ m, s.heap.Ns X.env.locals m → h'.Ns X.env.locals m) (hok : HOk X.prog X.w H' h') (hg : AllBare g') :
    Inv X pins σ H' { s with heap := h', gens := g', drawn := d', toks := t' } := by
  have neL : ∀ b o, X.s₀.heap.get? b = some o → b ≠ X.env.locals := fun b o e => Nat.ne_of_lt (Nat.lt_of_lt_of_le (Heap.lt_size e) I.ok.above)
  have neC : ∀ b o, X.s₀.heap.get? b = some o → b ∉ X.ex → b ∉ ch := fun b o e hx hb => by
    rcases (hch b hb).1 with z | z
    · exact hx z
    · exact absurd (Nat.lt_of_lt_of_le (Heap.lt_size e) z) (Nat.lt_irrefl _)
  have cellK : ∀ x c, X.env.cells.lookup x = some c → ∀ v, s.heap.IsCell c v → h'.IsCell c v := fun x c e v ⟨o, ho, hd⟩ => by
    have nch : c ∉ ch := fun z => (hch c z).2.2.1 x c e rfl
    by_cases hc : c ∈ X.fs
    · obtain ⟨sl, q⟩ := slot c o (I.cne x c e) hc nch ho (I.freeC x c e)
      exact ⟨_, q, hd⟩
    · exact ⟨o, keep c o (I.cne x c e) hc nch ho (I.freeC x c e), hd⟩
  refine ⟨I.ok, I.os, hg, ⟨fun b o e n hb hx => ?_, fun b o e n hb hx => ?_, fun b o e n hx => ?_, fun b o e hx => ?_, fun b xs e => tups b xs (I.base.tups b xs e), fun b o xs e => frzs b o xs (I.base.frzs b o xs e), fun b ps e => ?_⟩, ?_, fun x c e => ?_, ?_, fun x c e => ?_, fun p hp => ?_, hok, I.len⟩
  · exact keep b o (neL b o e) hb (neC b o e hx) (I.base.keep b o e n hb hx) (I.base.free b o e n hx)
  · obtain ⟨sl, e1⟩ := I.base.slot b o e n hb hx
    obtain ⟨sl', e2⟩ := slot b _ (neL b o e) hb (neC b o e hx) e1 (I.base.free b o e n hx)
    exact ⟨sl', e2⟩
  · obtain ⟨o', e1⟩ := I.base.there b o e hx
    exact free b o' (neC b o e hx) e1 (I.base.free b o e n hx)
  · obtain ⟨o', e1⟩ := I.base.there b o e hx
    exact there b o' (neC b o e hx) e1
  · obtain ⟨m1, e1⟩ := I.base.tbls b ps e
    obtain ⟨m2, e2⟩ := tbls b _ e1
    exact ⟨m1 ++ m2, by rw [e2, Array.append_assoc]⟩
  · obtain ⟨m, hn, hl⟩ := I.loc
    refine ⟨m, ns m hn, fun i x v e1 e2 e3 => ?_⟩
    obtain ⟨u, r, l⟩ := hl i x v e1 e2 e3
    refine ⟨u, r, ?_⟩
    rcases l with l | ⟨k, c, e, z⟩
    · exact .inl l
    · exact .inr ⟨k, c, e, cellK x c e _ z⟩
  · obtain ⟨v, z⟩ := I.cell x c e
    exact ⟨v, cellK x c e v z⟩
  · obtain ⟨m, ⟨o, _, _, ho, _⟩, _⟩ := I.loc
    exact free _ o (fun z => (hch _ z).2.1 rfl) ho I.free
  · obtain ⟨v, o, ho, hd⟩ := I.cell x c e
    exact free c o (fun z => (hch c z).2.2.1 x c e rfl) ho (I.freeC x c e)
  · obtain ⟨e, n, ne, nf, d⟩ := I.pin p hp
    have nch : p.1 ∉ ch := fun z => (hch p.1 z).2.2.2 p hp rfl
    exact ⟨keep p.1 p.2 ne nf nch e n, free p.1 p.2 nch e n, ne, nf, d⟩
/-- .. where the frame's own object is kept too -/
theorem Inv.un {t' : Nat} (I : Inv X pins σ H s) (u : Un X.fs [] H H' s.heap h') (hok : HOk X.prog X.w H' h') : Inv X pins σ H' { s with heap := h', toks := t' } := by
  obtain ⟨m, ⟨o, es, ep, ho, r⟩, _⟩ := id I.loc
  obtain ⟨sl, hL⟩ := u.any ho I.free (by simp)
  exact I.step (g' := s.gens) (d' := s.drawn) (ch := []) (fun _ z => nomatch z) (fun b o _ hb _ e n => u.keep b o e n hb (by simp)) (fun b o _ hb _ e n => u.slot b o e n hb (by simp)) (fun b o _ e n => u.free b o e n (by simp)) (fun b o _ e => u.there b o e (by simp)) u.tups u.frzs u.tbls (fun m' hm => by
    obtain ⟨o', es', ep', ho', r'⟩ := hm
    rw [ho] at ho'; cases ho'
    exact ⟨_, es', ep', hL, r'⟩) hok I.bare
/-- behind a call (or a comprehension's block): the slots of this frame may have changed too, the records at ch may have turned -/
theorem Inv.call {g' : Array GenState} {t' : Nat} {d' : Drawn} {ch : List Addr} (I : Inv X pins σ H s) (u : Un (frs X.stack) ch H H' s.heap h') (hok : HOk X.prog X.w H' h') (hg : AllBare g')
    (hch : ∀ b ∈ ch, (b ∈ X.ex ∨ X.s₀.heap.objs.size ≤ b) ∧ b ≠ X.env.locals ∧ (∀ x c, X.env.cells.lookup x = some c → c ≠ b) ∧ ∀ p ∈ X.pn ++ pins, p.1 ≠ b) :
    Inv X pins σ H' { s with heap := h', gens := g', drawn := d', toks := t' } := by
  obtain ⟨m, ⟨o, es, ep, ho, r⟩, _⟩ := id I.loc
  obtain ⟨sl, hL⟩ := u.any ho I.free fun z => (hch _ z).2.1 rfl
  exact I.step (ch := ch) hch (fun b o hL hb hc e n => u.keep b o e n (fun z => (List.mem_cons.mp (I.stkSub b z)).elim hL hb) hc) (fun b o _ _ hc e n => u.any e n hc) (fun b o hc e n => u.free b o e n hc) (fun b o hc e => u.there b o e hc) u.tups u.frzs u.tbls (fun m' hm => by
    obtain ⟨o', es', ep', ho', r'⟩ := hm
    rw [ho] at ho'; cases ho'
    exact ⟨_, es', ep', hL, r'⟩) hok hg
/-- an untracked record of ours (an iterator) has turned -/
theorem Inv.turned {t' : Nat} {it : Addr} (I : Inv X pins σ H s) (k : ∀ b o, b ≠ it → s.heap.get? b = some o → h'.get? b = some o) (hn : H it = none) (hL : it ≠ X.env.locals)
    (h1 : it ∈ X.ex ∨ X.s₀.heap.objs.size ≤ it) (h2 : ∀ x c, X.env.cells.lookup x = some c → c ≠ it) (h3 : ∀ p ∈ X.pn ++ pins, p.1 ≠ it) : Inv X pins σ H { s with heap := h', toks := t' } := by
  have nit : ∀ b u, H b = some u → b ≠ it := fun b u e z => by rw [z, hn] at e; cases e
  refine I.step (g' := s.gens) (d' := s.drawn) (ch := [it]) (fun b hb => ?_) (fun b o _ _ hc e _ => k b o (fun z => hc (by simp [z])) e) (fun b o _ _ hc e _ => ⟨o.slots, k b o (fun z => hc (by simp [z])) e⟩) (fun _ _ _ _ n => n)
    (fun b o hc e => ⟨o, k b o (fun z => hc (by simp [z])) e⟩) (fun _ _ e => e) (fun _ _ _ e => e) (fun b ps e => ⟨#[], by rw [e]; simp⟩) (fun m hm => ?_) (fun b u e => ?_) I.bare
  · have e : b = it := by simpa using hb
    subst e
    exact ⟨h1, hL, h2, h3⟩
  · obtain ⟨o, es, ep, ho, r⟩ := hm
    exact ⟨o, es, ep, k _ o (Ne.symm hL) ho, r⟩
  · refine (I.hok b u e).stay (fun c v hc q => k c v ?_ q) (fun _ q => q) fun _ _ q => q
    rcases hc with z | z
    · rw [z]; exact nit b u e
    · exact nit c _ z
theorem Inv.tok (I : Inv X pins σ H s) (t : Nat) : Inv X pins σ H { s with toks := t } := I.un (h' := s.heap) (t' := t) Un.refl I.hok
/-- all objects kept -/
theorem Inv.kept {t' : Nat} (I : Inv X pins σ H s) (k : ∀ b u, s.heap.get? b = some u → h'.get? b = some u) : Inv X pins σ H { s with heap := h', toks := t' } := I.un (Un.kept k) (I.hok.kept k)
/-- a new object laid and tracked -/
theorem Inv.laid {a : Addr} {o : HO} {t' : Nat} (I : Inv X pins σ H s) (k : ∀ b u, s.heap.get? b = some u → h'.get? b = some u) (hp : s.heap.objs.size ≤ a) (new : ObjOk X.prog X.w (upd H a o) h' a o) :
    Inv X pins σ (upd H a o) { s with heap := h', toks := t' } := I.un (Un.laid k hp (I.hok.fresh hp)) (I.hok.laid k hp new)
/-- an object written -/
theorem Inv.write {x e : Addr} {o : HO} {t' : Nat} (I : Inv X pins σ H s) (mu : Mut (H x)) (he : e = x ∨ H e = some (.own x)) (k : ∀ b u, b ≠ e → s.heap.get? b = some u → h'.get? b = some u) (heo : ∃ u, h'.get? e = some u)
    (new : ObjOk X.prog X.w (upd H x o) h' x o) : Inv X pins σ (upd H x o) { s with heap := h', toks := t' } := I.un (Un.write mu he k heo) (I.hok.write mu he k heo new)
/-- forgetting slots, pins -/
theorem Inv.weak {σ' : List (Option V)} (I : Inv X pins σ H s) (hl : σ'.length = σ.length) (w : ∀ (i : Nat) v, σ'[i]? = some (some v) → σ[i]? = some (some v)) : Inv X pins σ' H s :=
  ⟨I.ok, I.os, I.bare, I.base, let ⟨m, hn, hl'⟩ := I.loc; ⟨m, hn, fun i x v e1 e2 e3 => hl' i x v e1 (w i v e2) e3⟩, I.cell, I.free, I.freeC, I.pin, I.hok, hl.trans I.len⟩
theorem Inv.pins_of {pins' : List (Addr × Obj)} (I : Inv X pins σ H s) (h : ∀ p ∈ pins', s.heap.get? p.1 = some p.2 ∧ H p.1 = none ∧ p.1 ≠ X.env.locals ∧ p.1 ∉ X.fs ∧ ∀ v, p.2.data ≠ .cell v) : Inv X pins' σ H s :=
  ⟨I.ok, I.os, I.bare, I.base, I.loc, I.cell, I.free, I.freeC, fun p hp => (List.mem_append.mp hp).elim (fun z => I.pin p (List.mem_append_left _ z)) (h p), I.hok, I.len⟩

theorem nodup_ix {N : List Str} (hN : N.Nodup) {i j : Nat} {x : Str} (a : N[i]? = some x) (b : N[j]? = some x) : i = j := by
  obtain ⟨h1, e1⟩ := List.getElem?_eq_some_iff.mp a
  obtain ⟨h2, e2⟩ := List.getElem?_eq_some_iff.mp b
  exact (List.getElem_inj hN).mp (e1.trans e2.symm)

/-- a name is stored; what changed -/
theorem store_ok2 {M : Model} {A : Around} {E : Value → Shared → Prop} {i : Nat} {x : Str} {v : V} {u : Value} {Q : Unit → Shared → Prop} (I : Inv X pins σ H s) (hN : X.N.Nodup) (hi : X.N[i]? = some x) (hx : Loc X.env.scope x) (r : RelV v u)
    (h : ∀ s', Inv X pins (σ.set i (some v)) H s' → (∃ a, Heap.SameBut a s.heap s'.heap ∧ (a = X.env.locals ∨ X.env.cells.lookup x = some a)) → Q () s') (hf : X.fn x = true ∨ X.env.scope.names.lookup x = some .local := by first | exact .inl rfl | exact .inr rfl | assumption) : wpAny M A (storeName X.env x u) Q E s := by
  obtain ⟨m, hn, hl⟩ := id I.loc
  have hcls : (X.env.scope.kind == .class || (X.env.scope.kind == .module && X.env.locals != X.env.globals)) = false := by rw [I.ok.kind]; rfl
  have hiσ : i < σ.length := by rw [I.len]; exact (List.getElem?_eq_some_iff.mp hi).1
  have cne := I.cne
  have tracked : ∀ {a : Addr} {h' : Heap}, (∃ o, s.heap.get? a = some o ∧ H a = none) → Heap.SameBut a s.heap h' → HOk X.prog X.w H h' := fun {a h'} ha hs b ob e => by
    obtain ⟨_, _, hfree⟩ := ha
    refine (I.hok b ob e).stay (fun c w' hc q => (hs.2 c ?_).trans q) (fun _ q => q) fun _ _ q => q
    rintro rfl
    rcases hc with rfl | hc
    · rw [hfree] at e; cases e
    · rw [hfree] at hc; cases hc
  rcases hx with hk | hk
  · refine wpAny_storeName_local hk hn (fun h' hn' hs => ?_) hcls
    obtain ⟨oL, _, _, hoL, _⟩ := id hn
    refine h _ ⟨I.ok, I.os, I.bare, ⟨fun b o e n hb hx => ?_, fun b o e n hb hx => ?_, I.base.free, fun b o e hx => ?_, I.base.tups, I.base.frzs, I.base.tbls⟩, ⟨_, hn', fun j y v' e1 e2 e3 => ?_⟩, fun y c e => ?_, I.free, I.freeC, fun p hp => ?_, tracked ⟨oL, hoL, I.free⟩ hs, by simpa using I.len⟩ ⟨_, hs, .inl rfl⟩
    · exact (hs.2 b (Nat.ne_of_lt (Nat.lt_of_lt_of_le (Heap.lt_size e) I.ok.above))).trans (I.base.keep b o e n hb hx)
    · obtain ⟨sl, e1⟩ := I.base.slot b o e n hb hx
      exact ⟨sl, (hs.2 b (Nat.ne_of_lt (Nat.lt_of_lt_of_le (Heap.lt_size e) I.ok.above))).trans e1⟩
    · obtain ⟨o', e1⟩ := I.base.there b o e hx
      exact ⟨o', (hs.2 b (Nat.ne_of_lt (Nat.lt_of_lt_of_le (Heap.lt_size e) I.ok.above))).trans e1⟩
    · by_cases hj : j = i
      · subst hj
        rw [hi] at e1; cases e1
        rw [List.getElem?_set_self hiσ] at e2
        cases e2
        exact ⟨u, r, .inl ⟨hk, by simp⟩⟩
      · rw [List.getElem?_set_ne (Ne.symm hj)] at e2
        obtain ⟨u', r', q⟩ := hl j y v' e1 e2 e3
        refine ⟨u', r', ?_⟩
        rcases q with ⟨k, e⟩ | ⟨k, c, e, z⟩
        · refine .inl ⟨k, ?_⟩
          have : y ≠ x := fun e => hj (nodup_ix hN e1 (e ▸ hi))
          simp [this, e]
        · exact .inr ⟨k, c, e, z.sameBut hs (cne y c e)⟩
    · obtain ⟨w', z⟩ := I.cell y c e
      exact ⟨w', z.sameBut hs (cne y c e)⟩
    · obtain ⟨e, n, ne, nf, d⟩ := I.pin p hp
      exact ⟨(hs.2 p.1 ne).trans e, n, ne, nf, d⟩
  · have hfn : X.fn x = true := by
      rcases hf with z | z
      · exact z
      · rw [z] at hk; cases hk
    obtain ⟨c, hc⟩ := I.ok.has x (.inl hk)
    obtain ⟨w', z⟩ := I.cell x c hc
    refine wpAny_storeName_cell I.ok.kind hk hc z (fun h' hc' hs => ?_)
    obtain ⟨oc, hoc, hocd⟩ := id z
    refine h { s with heap := h' } ⟨I.ok, I.os, I.bare, ⟨fun b o e n hb hx => ?_, fun b o e n hb hx => ?_, I.base.free, fun b o e hx => ?_, I.base.tups, I.base.frzs, I.base.tbls⟩, ⟨m, hn.sameBut hs (Ne.symm (cne x c hc)), fun j y v' e1 e2 e3 => ?_⟩, fun y c' e => ?_, I.free, I.freeC, fun p hp => ?_, tracked ⟨oc, hoc, I.freeC x c hc⟩ hs, by simpa using I.len⟩ ⟨c, hs, .inr hc⟩
    · exact (hs.2 b (Nat.ne_of_lt (Nat.lt_of_lt_of_le (Heap.lt_size e) (I.ok.cab x c hfn hc)))).trans (I.base.keep b o e n hb hx)
    · obtain ⟨sl, e1⟩ := I.base.slot b o e n hb hx
      exact ⟨sl, (hs.2 b (Nat.ne_of_lt (Nat.lt_of_lt_of_le (Heap.lt_size e) (I.ok.cab x c hfn hc)))).trans e1⟩
    · obtain ⟨o', e1⟩ := I.base.there b o e hx
      exact ⟨o', (hs.2 b (Nat.ne_of_lt (Nat.lt_of_lt_of_le (Heap.lt_size e) (I.ok.cab x c hfn hc)))).trans e1⟩
    · by_cases hj : j = i
      · subst hj
        rw [hi] at e1; cases e1
        rw [List.getElem?_set_self hiσ] at e2
        cases e2
        exact ⟨u, r, .inr ⟨.inl hk, c, hc, hc'⟩⟩
      · rw [List.getElem?_set_ne (Ne.symm hj)] at e2
        obtain ⟨u', r', q⟩ := hl j y v' e1 e2 e3
        refine ⟨u', r', ?_⟩
        rcases q with q | ⟨k, c', e, z'⟩
        · exact .inl q
        · refine .inr ⟨k, c', e, z'.sameBut hs ?_⟩
          rintro rfl
          exact hj (nodup_ix hN e1 (I.ok.inj _ _ _ e hc ▸ hi))
    · by_cases hcc : c' = c
      · subst hcc; exact ⟨_, hc'⟩
      · obtain ⟨w2, z2⟩ := I.cell y c' e
        exact ⟨w2, z2.sameBut hs hcc⟩
    · obtain ⟨e, n, ne, nf, d⟩ := I.pin p hp
      refine ⟨(hs.2 p.1 ?_).trans e, n, ne, nf, d⟩
      intro q
      rw [q, hoc] at e
      have q' : oc = p.2 := Option.some.inj e
      exact d w' (by rw [← q']; exact hocd)
theorem store_ok {M : Model} {A : Around} {E : Value → Shared → Prop} {i : Nat} {x : Str} {v : V} {u : Value} {Q : Unit → Shared → Prop} (I : Inv X pins σ H s) (hN : X.N.Nodup) (hi : X.N[i]? = some x) (hx : Loc X.env.scope x) (r : RelV v u)
    (h : ∀ s', Inv X pins (σ.set i (some v)) H s' → Q () s') (hf : X.fn x = true ∨ X.env.scope.names.lookup x = some .local := by first | exact .inl rfl | exact .inr rfl | assumption) : wpAny M A (storeName X.env x u) Q E s :=
  store_ok2 I hN hi hx r (fun s' I' _ => h s' I') hf
/-- behind a call or a block, the state as it is -/
theorem Inv.call' {s' : Shared} {ch : List Addr} (I : Inv X pins σ H s) (ho : s'.os = s.os) (u : Un (frs X.stack) ch H H' s.heap s'.heap) (hok : HOk X.prog X.w H' s'.heap) (hg : AllBare s'.gens)
    (hch : ∀ b ∈ ch, (b ∈ X.ex ∨ X.s₀.heap.objs.size ≤ b) ∧ b ≠ X.env.locals ∧ (∀ x c, X.env.cells.lookup x = some c → c ≠ b) ∧ ∀ p ∈ X.pn ++ pins, p.1 ≠ b) : Inv X pins σ H' s' := by
  obtain ⟨h', g', d', t', o'⟩ := s'
  have e : o' = s.os := ho
  subst e
  exact I.call (g' := g') (t' := t') (d' := d') u hok hg hch
end

/-! ### the judgements -/
/-- an exception: its class, its own dict's address (where it has one), the abstract heap behind it -/
abbrev XK := Value → Option Addr → Hp → Prop
abbrev St := List (Option V)
abbrev VK := V → Hp → Prop
/-- an expression's reading; a test's; an argument list's -/
abbrev TE := St → Hp → VK → Prop
abbrev TT := St → Hp → (Bool → Hp → Prop) → Prop
abbrev TA := St → Hp → (List V → Hp → Prop) → Prop
/-- what is wanted behind a statement -/
structure Ends where
  nx : St → Hp → Prop
  rt : VK
  bk : St → Hp → Prop := fun _ _ => False
  ct : St → Hp → Prop := fun _ _ => False
abbrev TS := Ends → St → Hp → Prop

def EP (X : Cx) (pins : List (Addr × Obj)) (σ : St) (Q : VK) (u : Value) (s' : Shared) : Prop := ∃ v H', Inv X pins σ H' s' ∧ RelV v u ∧ Q v H'
def TP (X : Cx) (pins : List (Addr × Obj)) (σ : St) (Q : Bool → Hp → Prop) (b : Bool) (s' : Shared) : Prop := ∃ H', Inv X pins σ H' s' ∧ Q b H'
def AP (X : Cx) (pins : List (Addr × Obj)) (σ : St) (Q : List V → Hp → Prop) (us : List Value) (s' : Shared) : Prop := ∃ vs H', Inv X pins σ H' s' ∧ Vals vs us ∧ Q vs H'
def SP (X : Cx) (pins : List (Addr × Obj)) (D : Ends) (f : Flow) (s' : Shared) : Prop :=
  match f with
  | .next => ∃ σ' H', Inv X pins σ' H' s' ∧ D.nx σ' H'
  | .brk => ∃ σ' H', Inv X pins σ' H' s' ∧ D.bk σ' H'
  | .cont => ∃ σ' H', Inv X pins σ' H' s' ∧ D.ct σ' H'
  | .ret u => ∃ v σ' H', Inv X pins σ' H' s' ∧ RelV v u ∧ D.rt v H'

def PE (X : Cx) (e : Expr) (t : TE) : Prop :=
  ∀ (pins : List (Addr × Obj)) (s : Shared) (σ : St) (H : Hp) (Q : VK), Inv X pins σ H s → t σ H Q → wpAny (model X.prog X.w) X.A (eval e X.env) (EP X pins σ Q) X.xe s
def PT (X : Cx) (e : Expr) (t : TT) : Prop :=
  ∀ (pins : List (Addr × Obj)) (s : Shared) (σ : St) (H : Hp) (Q : Bool → Hp → Prop), Inv X pins σ H s → t σ H Q → wpAny (model X.prog X.w) X.A (isTrue e X.env (eval e X.env)) (TP X pins σ Q) X.xe s
/-- a test whatever its 'whole' is (and, or) -/
def PW (X : Cx) (e : Expr) (t : TT) : Prop :=
  ∀ (whole : Sem Value) (pins : List (Addr × Obj)) (s : Shared) (σ : St) (H : Hp) (Q : Bool → Hp → Prop), Inv X pins σ H s → t σ H Q → wpAny (model X.prog X.w) X.A (isTrue e X.env whole) (TP X pins σ Q) X.xe s
theorem PW.pt {X : Cx} {e : Expr} {t : TT} (h : PW X e t) : PT X e t := h _
/-- an argument list (no star), from the left -/
def PA (X : Cx) (es : List Expr) (t : TA) : Prop :=
  ∀ (pos : Pos) (pins : List (Addr × Obj)) (s : Shared) (σ : St) (H : Hp) (Q : List V → Hp → Prop), Inv X pins σ H s → t σ H Q → wpAny (model X.prog X.w) X.A (spliced (backTo pos (starEach es X.env))) (AP X pins σ Q) X.xe s
def PS (X : Cx) (st : Stmt) (t : TS) : Prop :=
  ∀ (pins : List (Addr × Obj)) (s : Shared) (σ : St) (H : Hp) (D : Ends), Inv X pins σ H s → t D σ H → wpAny (model X.prog X.w) X.A (exec st X.env) (SP X pins D) X.xe s
def PSs (X : Cx) (st : List Stmt) (t : TS) : Prop :=
  ∀ (pins : List (Addr × Obj)) (s : Shared) (σ : St) (H : Hp) (D : Ends), Inv X pins σ H s → t D σ H → wpAny (model X.prog X.w) X.A (execs st X.env) (SP X pins D) X.xe s
/-- weaken the end -/
theorem thn {α : Type} {t : Sem α} {Q Q' : α → Shared → Prop} {M : Model} {A : Around} {E : Value → Shared → Prop} {s : Shared} (h : wpAny M A t Q E s) (hQ : ∀ a s, Q a s → Q' a s) : wpAny M A t Q' E s := wpAny_mono h hQ fun _ _ x => x
end L2

namespace L2
open PySem PySem.Spec PyProof.Rows
section
variable {X : Cx}

/-- two expressions in a row -/
theorem bin {a b : Expr} {ta tb : TE} (ha : PE X a ta) (hb : PE X b tb) {pins : List (Addr × Obj)} {s : Shared} {σ : St} {H : Hp} {R : V → V → Hp → Prop} (I : Inv X pins σ H s) (h : ta σ H fun x H1 => tb σ H1 fun y H2 => R x y H2)
    {α : Type} {Q : α → Shared → Prop} {f : Value → Value → Sem α}
    (hf : ∀ v u s2 x y H2, Inv X pins σ H2 s2 → RelV x v → RelV y u → R x y H2 → wpAny (model X.prog X.w) X.A (f v u) Q X.xe s2) :
    wpAny (model X.prog X.w) X.A (eval a X.env) (fun v s₁ => wpAny (model X.prog X.w) X.A (eval b X.env) (fun u s₂ => wpAny (model X.prog X.w) X.A (f v u) Q X.xe s₂) X.xe s₁) X.xe s := by
  refine thn (ha pins s σ H _ I h) fun v s1 ⟨x, H1, I1, r1, q1⟩ => ?_
  refine thn (hb pins s1 σ H1 _ I1 q1) fun u s2 ⟨y, H2, I2, r2, q2⟩ => ?_
  exact hf v u s2 x y H2 I2 r1 r2 q2

/-! ### names and constants -/
def tVar (i : Nat) : TE := fun σ H Q => ∃ v, σ[i]? = some (some v) ∧ Q v H
def tC (v : V) : TE := fun _ H Q => Q v H
theorem pe_var {i : Nat} {x : Str} {pos : Pos} (hN : X.N[i]? = some x) (hv : Vis X.env.scope x) (hd : (x == ("__debug__" : Str)) = false := by decide) (hcd : (x == ("__classdict__" : Str)) = false := by decide) : PE X (.Name x pos) (tVar i) := by
  intro pins s σ H Q I h
  obtain ⟨v, e, h⟩ := h
  obtain ⟨m, hn, hl⟩ := I.loc
  obtain ⟨u, r, l⟩ := hl i x v hN e hv
  have fin : EP X pins σ Q u s := ⟨v, H, I, r, h⟩
  rcases l with ⟨hk, hm⟩ | ⟨hk, c, hc, hcell⟩
  · exact wpAny_Name (wpAny_loadName_local I.ok.kind hk hn hm fin) hd
  · rcases hk with hk | hk
    · exact wpAny_Name (wpAny_loadName_cell I.ok.kind hk hc hcell fin) hd
    · exact wpAny_Name (wpAny_loadName_free I.ok.kind hk hc hcell fin hcd) hd
theorem pe_int {i j pos} : PE X (.Constant (.int i) j pos) (tC (.int i)) := fun _ _ _ H _ I h => wpAny_Constant_int ⟨.int i, H, I.tok _, ⟨_, rfl⟩, h⟩
theorem pe_bl {b j pos} : PE X (.Constant (.bool b) j pos) (tC (.bl b)) := fun _ _ _ H _ I h => Constant_bool ⟨.bl b, H, I, rfl, h⟩
theorem pe_non {j pos} : PE X (.Constant .none j pos) (tC .non) := fun _ _ _ H _ I h => Constant_none ⟨.non, H, I, rfl, h⟩
theorem pe_str {x j pos} : PE X (.Constant (.str x) j pos) (tC (.str x)) := fun _ _ _ H _ I h => Calls.Constant_str ⟨.str x, H, I.tok _, ⟨_, rfl⟩, h⟩

/-- a global name of the def -/
def Gl (X : Cx) (x : Str) : Prop := X.env.kindOf x = some .globalImplicit
theorem ld_glob {E : Value → Shared → Prop} {pins : List (Addr × Obj)} {s : Shared} {σ : St} {H : Hp} {x : Str} {u : Value} {pos : Pos} {Q : Value → Shared → Prop} (I : Inv X pins σ H s) (hg : Gl X x) (hm : X.mg x = some u) (h : Q u s)
    (hd : (x == ("__debug__" : Str)) = false := by decide) : wpAny (model X.prog X.w) X.A (eval (.Name x pos) X.env) Q E s :=
  Calls.Name_function_global I.ok.kind hg (Calls.loadGlobal_global (by rw [I.ok.glob]; exact I.mod.glob.keeps I.bk) hm h) hd
theorem ld_blt {E : Value → Shared → Prop} {pins : List (Addr × Obj)} {s : Shared} {σ : St} {H : Hp} {x : Str} {u : Value} {pos : Pos} {Q : Value → Shared → Prop} (I : Inv X pins σ H s) (hg : Gl X x) (hm : X.mg x = none) (hv : bootBuiltins x = some u) (h : Q u s)
    (hn : x ≠ "__name__" := by decide) (hd : (x == ("__debug__" : Str)) = false := by decide) : wpAny (model X.prog X.w) X.A (eval (.Name x pos) X.env) Q E s := by
  obtain ⟨mb, h1, h2⟩ := I.mod.blt
  exact Calls.Name_function_global I.ok.kind hg (Calls.loadGlobal_builtin (by rw [I.ok.glob]; exact I.mod.glob.keeps I.bk) hm (by rw [I.ok.blt]; exact h1.keeps I.bk) ((h2 x hn).trans hv) h) hd
/-- a module's constant, a class, a function, as a value -/
theorem pe_glob {x : Str} {v : V} {u : Value} {pos : Pos} (hg : Gl X x) (hm : X.mg x = some u) (r : RelV v u) (hd : (x == ("__debug__" : Str)) = false := by decide) : PE X (.Name x pos) (tC v) :=
  fun _ _ _ H _ I h => ld_glob I hg hm ⟨v, H, I, r, h⟩ hd
theorem pe_bltn {x : Str} {v : V} {u : Value} {pos : Pos} (hg : Gl X x) (hm : X.mg x = none) (hv : bootBuiltins x = some u) (r : RelV v u) (hn : x ≠ "__name__" := by decide) (hd : (x == ("__debug__" : Str)) = false := by decide) : PE X (.Name x pos) (tC v) :=
  fun _ _ _ H _ I h => ld_blt I hg hm hv ⟨v, H, I, r, h⟩ hn hd

/-! ### arithmetic -/
/-- two ints -/
def t2I (ta tb : TE) (k : Int → Int → Hp → Prop) : St → Hp → Prop := fun σ H => ta σ H fun x H1 => tb σ H1 fun y H2 => ∃ i j, x = .int i ∧ y = .int j ∧ k i j H2
def tAdd (ta tb : TE) : TE := fun σ H Q => t2I ta tb (fun i j H2 => Q (.int (i + j)) H2) σ H
def tSub (ta tb : TE) : TE := fun σ H Q => t2I ta tb (fun i j H2 => Q (.int (i - j)) H2) σ H
/-- the left factor below 2^64 -/
def tMul (ta tb : TE) : TE := fun σ H Q => t2I ta tb (fun i j H2 => (-(2 ^ 64) < i ∧ i < 2 ^ 64) ∧ Q (.int (i * j)) H2) σ H
variable {a b : Expr} {ta tb : TE} {pos : Pos}
theorem pe_add (ha : PE X a ta) (hb : PE X b tb) : PE X (.BinOp a .Add b pos) (tAdd ta tb) := by
  intro pins s σ H Q I h
  refine wpAny_BinOp (bin ha hb I h fun v u s2 x y H2 I2 rx ry q => ?_)
  obtain ⟨i, j, rfl, rfl, q⟩ := q
  obtain ⟨t, rfl⟩ := rx
  obtain ⟨t', rfl⟩ := ry
  exact add_int ⟨.int _, H2, I2.tok _, ⟨_, rfl⟩, q⟩
theorem pe_sub (ha : PE X a ta) (hb : PE X b tb) : PE X (.BinOp a .Sub b pos) (tSub ta tb) := by
  intro pins s σ H Q I h
  refine wpAny_BinOp (bin ha hb I h fun v u s2 x y H2 I2 rx ry q => ?_)
  obtain ⟨i, j, rfl, rfl, q⟩ := q
  obtain ⟨t, rfl⟩ := rx
  obtain ⟨t', rfl⟩ := ry
  exact sub_int ⟨.int _, H2, I2.tok _, ⟨_, rfl⟩, q⟩
theorem pe_mul (ha : PE X a ta) (hb : PE X b tb) : PE X (.BinOp a .Mult b pos) (tMul ta tb) := by
  intro pins s σ H Q I h
  refine wpAny_BinOp (bin ha hb I h fun v u s2 x y H2 I2 rx ry q => ?_)
  obtain ⟨i, j, rfl, rfl, ⟨q1, q2⟩, q⟩ := q
  obtain ⟨t, rfl⟩ := rx
  obtain ⟨t', rfl⟩ := ry
  exact mul_int ⟨.int _, H2, I2.tok _, ⟨_, rfl⟩, q⟩ (.of_left (intBits_le_64 q1 q2))

/-! ### comparisons -/
def PC (X : Cx) (op : CmpOp) (a b : Expr) (t : TE) : Prop :=
  ∀ (pins : List (Addr × Obj)) (s : Shared) (σ : St) (H : Hp) (Q : VK), Inv X pins σ H s → t σ H Q →
    wpAny (model X.prog X.w) X.A (eval a X.env) (fun v s₁ => wpAny (model X.prog X.w) X.A (eval b X.env) (fun u s₂ => wpAny (model X.prog X.w) X.A (compareOp op v u) (EP X pins σ Q) X.xe s₂) X.xe s₁) X.xe s
theorem nobehind (b : Expr) {op : CmpOp} (h : op ≠ .In) (h2 : op ≠ .NotIn) : behindInMarks op b = false := by
  have e1 : (op == CmpOp.In) = false := by cases op <;> first | rfl | exact absurd rfl h
  have e2 : (op == CmpOp.NotIn) = false := by cases op <;> first | rfl | exact absurd rfl h2
  cases b <;> simp [behindInMarks, e1, e2]
def tCmp (p : Int → Int → Bool) (ta tb : TE) : TE := fun σ H Q => t2I ta tb (fun i j H2 => Q (.bl (p i j)) H2) σ H
abbrev tLt : TE → TE → TE := tCmp fun i j => decide (i < j)
abbrev tLe : TE → TE → TE := tCmp fun i j => decide (i ≤ j)
abbrev tGt : TE → TE → TE := tCmp fun i j => decide (j < i)
abbrev tGe : TE → TE → TE := tCmp fun i j => decide (j ≤ i)
abbrev tEqI : TE → TE → TE := tCmp fun i j => decide (i = j)
abbrev tNeI : TE → TE → TE := tCmp fun i j => !decide (i = j)
/-- a comparison of two ints, by its rule -/
theorem pc_int {op : CmpOp} {p : Int → Int → Bool} (ha : PE X a ta) (hb : PE X b tb)
    (rule : ∀ (i j : Int) (t u : Tok) (Q : Value → Shared → Prop) (s : Shared), Q (.bool (p i j)) s → wpAny (model X.prog X.w) X.A (compareOp op (.int i t) (.int j u)) Q X.xe s) : PC X op a b (tCmp p ta tb) := by
  intro pins s σ H Q I h
  refine bin ha hb I h fun v u s2 x y H2 I2 rx ry q => ?_
  obtain ⟨i, j, rfl, rfl, q⟩ := q
  obtain ⟨t, rfl⟩ := rx
  obtain ⟨t', rfl⟩ := ry
  exact rule i j t t' _ s2 ⟨.bl _, H2, I2, rfl, q⟩
theorem pc_lt (ha : PE X a ta) (hb : PE X b tb) : PC X .Lt a b (tLt ta tb) := pc_int ha hb fun _ _ _ _ _ _ h => lt_int h
theorem pc_le (ha : PE X a ta) (hb : PE X b tb) : PC X .LtE a b (tLe ta tb) := pc_int ha hb fun _ _ _ _ _ _ h => le_int h
theorem pc_gt (ha : PE X a ta) (hb : PE X b tb) : PC X .Gt a b (tGt ta tb) := pc_int ha hb fun _ _ _ _ _ _ h => gt_int h
theorem pc_ge (ha : PE X a ta) (hb : PE X b tb) : PC X .GtE a b (tGe ta tb) := pc_int ha hb fun _ _ _ _ _ _ h => ge_int h
theorem pc_eqI (ha : PE X a ta) (hb : PE X b tb) : PC X .Eq a b (tEqI ta tb) := pc_int ha hb fun _ _ _ _ _ _ h => eq_int (by rw [Bool.beq_eq_decide_eq]; exact h)
theorem pc_neI (ha : PE X a ta) (hb : PE X b tb) : PC X .NotEq a b (tNeI ta tb) := pc_int ha hb fun _ _ _ _ _ _ h => ne_int (by rw [bne, Bool.beq_eq_decide_eq]; exact h)
/-- is None -/
def tIsN (ta : TE) : TE := fun σ H Q => ta σ H fun x H1 => Q (.bl (decide (x = .non))) H1
def tNotN (ta : TE) : TE := fun σ H Q => ta σ H fun x H1 => Q (.bl (!decide (x = .non))) H1
theorem RelV.none_iff {x : V} {v : Value} (r : RelV x v) : (v == Value.none) = decide (x = .non) := by
  cases x with
  | non => cases r; rfl
  | bl _ => cases r; rfl
  | int _ => obtain ⟨t, rfl⟩ := r; rfl
  | str _ => obtain ⟨t, rfl⟩ := r; rfl
  | byt _ => obtain ⟨t, rfl⟩ := r; rfl
  | flt _ => obtain ⟨t, rfl⟩ := r; rfl
  | ref _ => cases r; rfl
  | ty _ => cases r; rfl
theorem pc_isN {j pos'} (ha : PE X a ta) : PC X .Is a (.Constant .none j pos') (tIsN ta) := by
  intro pins s σ H Q I h
  refine thn (ha pins s σ H _ I h) fun v s1 ⟨x, H1, I1, r1, q1⟩ => ?_
  exact Constant_none (is_none_gen ⟨.bl _, H1, I1, by rw [r1.none_iff]; rfl, q1⟩)
theorem pc_notN {j pos'} (ha : PE X a ta) : PC X .IsNot a (.Constant .none j pos') (tNotN ta) := by
  intro pins s σ H Q I h
  refine thn (ha pins s σ H _ I h) fun v s1 ⟨x, H1, I1, r1, q1⟩ => ?_
  exact Constant_none (isnot_none_gen ⟨.bl _, H1, I1, by rw [r1.none_iff]; rfl, q1⟩)
/-- a comparison as a value, as a test -/
def tB (t : TE) : TT := fun σ H Q => t σ H fun x H1 => ∃ c, x = .bl c ∧ Q c H1
theorem pe_cmp {op : CmpOp} {t : TE} (h : PC X op a b t) (h1 : behindInMarks op b = false := by first | exact nobehind _ (by decide) (by decide) | rfl) : PE X (.Compare a [op] [b] pos) t := fun pins s σ H Q I hw => wpAny_Compare1 (h pins s σ H Q I hw) h1
theorem pt_cmp {op : CmpOp} {t : TE} (h : PC X op a b t) (h1 : behindInMarks op b = false := by first | exact nobehind _ (by decide) (by decide) | rfl) : PT X (.Compare a [op] [b] pos) (tB t) := by
  intro pins s σ H Q I hw
  refine wpAny_isTrue_Compare1 (thn (h pins s σ H _ I hw) fun v s1 h1 => thn h1 fun u s2 h2 => thn h2 fun c s3 ⟨x, H1, I1, r1, q1⟩ => ?_) h1
  obtain ⟨d, rfl, q⟩ := q1
  cases r1
  exact wpAny_truthy_bool ⟨H1, I1, q⟩
/-- an expression whose value is a bool, as a test -/
theorem pt_val {e : Expr} {t : TE} (h : PE X e t) (he : ∀ whole, isTrue e X.env whole = (do let v ← whole; standAt e.pos; holding [v] (truthy v)) := by intro _; rfl) : PT X e (tB t) := by
  intro pins s σ H Q I hw
  refine isTrue_plain (thn (h pins s σ H _ I hw) fun v s1 ⟨x, H1, I1, r1, q1⟩ => ?_) (he _)
  obtain ⟨d, rfl, q⟩ := q1
  cases r1
  exact wpAny_truthy_bool ⟨H1, I1, q⟩

/-! ### and, or, not -/
variable {tA tB' : TT} {rest : List Expr}
def tAnd (t u : TT) : TT := fun σ H Q => t σ H fun c H1 => if c = true then u σ H1 Q else Q false H1
def tOr (t u : TT) : TT := fun σ H Q => t σ H fun c H1 => if c = true then Q true H1 else u σ H1 Q
def tNot (t : TT) : TT := fun σ H Q => t σ H fun c H1 => Q (!c) H1
theorem pw_and1 (ha : PT X a tA) : PW X (.BoolOp .And [a] pos) tA := by
  intro wh pins s σ H Q I h
  refine isTrue_and (thn (ha pins s σ H Q I h) fun c s1 e => ?_)
  cases c with
  | true => exact isTrue_and_nil e
  | false => exact e
theorem pw_or1 (ha : PT X a tA) : PW X (.BoolOp .Or [a] pos) tA := by
  intro wh pins s σ H Q I h
  refine isTrue_or (thn (ha pins s σ H Q I h) fun c s1 e => ?_)
  cases c with
  | false => exact isTrue_or_nil e
  | true => exact e
theorem pw_and (ha : PT X a tA) (hb : PW X (.BoolOp .And (b :: rest) pos) tB') : PW X (.BoolOp .And (a :: b :: rest) pos) (tAnd tA tB') := by
  intro wh pins s σ H Q I h
  refine isTrue_and (thn (ha pins s σ H _ I h) fun c s1 ⟨H1, I1, q1⟩ => ?_)
  cases c with
  | true => exact hb wh pins s1 σ H1 Q I1 q1
  | false => exact ⟨H1, I1, q1⟩
theorem pw_or (ha : PT X a tA) (hb : PW X (.BoolOp .Or (b :: rest) pos) tB') : PW X (.BoolOp .Or (a :: b :: rest) pos) (tOr tA tB') := by
  intro wh pins s σ H Q I h
  refine isTrue_or (thn (ha pins s σ H _ I h) fun c s1 ⟨H1, I1, q1⟩ => ?_)
  cases c with
  | true => exact ⟨H1, I1, q1⟩
  | false => exact hb wh pins s1 σ H1 Q I1 q1
theorem pt_not (ha : PT X a tA) : PT X (.UnaryOp .Not a pos) (tNot tA) := by
  intro pins s σ H Q I h
  exact isTrue_not (ha pins s σ H (fun c H1 => Q (!c) H1) I h)
/-- .. as values (bools) -/
def tAndV (ta tb : TE) : TE := fun σ H Q => ta σ H fun x H1 => ∃ c, x = .bl c ∧ if c = true then tb σ H1 Q else Q (.bl false) H1
def tOrV (ta tb : TE) : TE := fun σ H Q => ta σ H fun x H1 => ∃ c, x = .bl c ∧ if c = true then Q (.bl true) H1 else tb σ H1 Q
def tNotV (ta : TE) : TE := fun σ H Q => ta σ H fun x H1 => ∃ c, x = .bl c ∧ Q (.bl (!c)) H1
theorem pe_one {op} {t : TE} (h : PE X a t) : PE X (.BoolOp op [a] pos) t := fun pins s σ H Q I hw => BoolOp_one (h pins s σ H Q I hw)
theorem pe_and (ha : PE X a ta) (hb : PE X (.BoolOp .And (b :: rest) pos) tb) : PE X (.BoolOp .And (a :: b :: rest) pos) (tAndV ta tb) := by
  intro pins s σ H Q I h
  refine BoolOp_and (thn (ha pins s σ H _ I h) fun v s1 ⟨x, H1, I1, r1, q1⟩ => ?_)
  obtain ⟨c, rfl, q1⟩ := q1
  cases r1
  refine wpAny_truthy_bool ?_
  cases c with
  | true => exact hb pins s1 σ H1 Q I1 q1
  | false => exact ⟨.bl false, H1, I1, rfl, q1⟩
theorem pe_or (ha : PE X a ta) (hb : PE X (.BoolOp .Or (b :: rest) pos) tb) : PE X (.BoolOp .Or (a :: b :: rest) pos) (tOrV ta tb) := by
  intro pins s σ H Q I h
  refine BoolOp_or (thn (ha pins s σ H _ I h) fun v s1 ⟨x, H1, I1, r1, q1⟩ => ?_)
  obtain ⟨c, rfl, q1⟩ := q1
  cases r1
  refine wpAny_truthy_bool ?_
  cases c with
  | false => exact hb pins s1 σ H1 Q I1 q1
  | true => exact ⟨.bl true, H1, I1, rfl, q1⟩
theorem pe_not (ha : PE X a ta) : PE X (.UnaryOp .Not a pos) (tNotV ta) := by
  intro pins s σ H Q I h
  refine UnaryOp_ (thn (ha pins s σ H _ I h) fun v s1 ⟨x, H1, I1, r1, q1⟩ => ?_)
  obtain ⟨c, rfl, q1⟩ := q1
  cases r1
  exact not_of (wpAny_truthy_bool ⟨.bl (!c), H1, I1, rfl, q1⟩)
/-- a if t else b -/
def tIf (t : TT) (ta tb : TE) : TE := fun σ H Q => t σ H fun c H1 => if c = true then ta σ H1 Q else tb σ H1 Q
theorem pe_ifExp {c : Expr} (hc : PT X c tA) (ha : PE X a ta) (hb : PE X b tb) : PE X (.IfExp c a b pos) (tIf tA ta tb) := by
  intro pins s σ H Q I h
  refine wpAny_IfExp (thn (hc pins s σ H _ I h) fun d s1 ⟨H1, I1, q1⟩ => ?_)
  cases d with
  | true => exact ha pins s1 σ H1 Q I1 q1
  | false => exact hb pins s1 σ H1 Q I1 q1
end
end L2

namespace L2
open PySem PySem.Spec PyProof.Rows

/-! ### a list, a tuple that is read: tracked, frozen, or an object of the module -/
def SqL (K : PySem.W.Frag) (H : Hp) (a : Addr) (xs : List V) : Prop :=
  Rd H a (.lst xs) ∨
    ∃ (o : Obj) (its : Array Value) (n : Nat), K.lookup a = some o ∧ o.cls = .type "list" ∧ o.dict = none ∧ o.data = .seq its n ∧ its.size ≤ sizeLine ∧ Vals xs its.toList
def SqT (K : PySem.W.Frag) (H : Hp) (a : Addr) (xs : List V) : Prop :=
  Rd H a (.tup xs) ∨
    ∃ (o : Obj) (its : Array Value) (n : Nat), K.lookup a = some o ∧ o.cls = .type "tuple" ∧ o.data = .seq its n ∧ its.size ≤ sizeLine ∧ Vals xs its.toList
def absV : Value → Option V
  | .none => some .non
  | .bool b => some (.bl b)
  | .int i _ => some (.int i)
  | .str x _ => some (.str x)
  | .bytes b _ => some (.byt b)
  | .float b _ => some (.flt b)
  | .ref a => some (.ref a)
  | .type n => some (.ty n)
  | _ => none
theorem RelV.abs {x : V} {u : Value} (r : RelV x u) : absV u = some x := by
  cases x with
  | non => cases r; rfl
  | bl _ => cases r; rfl
  | int _ => obtain ⟨t, rfl⟩ := r; rfl
  | str _ => obtain ⟨t, rfl⟩ := r; rfl
  | byt _ => obtain ⟨t, rfl⟩ := r; rfl
  | flt _ => obtain ⟨t, rfl⟩ := r; rfl
  | ref _ => cases r; rfl
  | ty _ => cases r; rfl
theorem RelV.inj {x y : V} {u : Value} (r : RelV x u) (q : RelV y u) : x = y := Option.some.inj (r.abs.symm.trans q.abs)
theorem Vals.inj : ∀ {xs ys : List V} {us : List Value}, Vals xs us → Vals ys us → xs = ys
  | _, _, _, .nil, .nil => rfl
  | _, _, _, .cons r t, .cons r' t' => by rw [r.inj r', Vals.inj t t']
section
variable {X : Cx} {pins : List (Addr × Obj)} {σ : St} {H : Hp} {s : Shared} {a : Addr} {xs ys : List V}
theorem SqL.of {K : PySem.W.Frag} (h : H a = some (.lst xs)) : SqL K H a xs := .inl (.inl h)
theorem SqT.of {K : PySem.W.Frag} (h : H a = some (.tup xs)) : SqT K H a xs := .inl (.inl h)
theorem Inv.list (I : Inv X pins σ H s) (h : SqL X.K H a xs) : ∃ its : List Value, Vals xs its ∧ PlainL s.heap a its.toArray ∧ xs.length ≤ sizeLine := by
  rcases h with h | ⟨o, its, n, hk, hc, hd, hs, hz, r⟩
  · obtain ⟨z, its, n, r, e⟩ := h.ok I.hok
    exact ⟨its, r, ⟨_, n, e, rfl, rfl, rfl⟩, z⟩
  · refine ⟨its.toList, r, ⟨o, n, I.kIn a o hk, hc, hd, by simpa using hs⟩, ?_⟩
    have e := r.length
    simp only [Array.length_toList] at e
    omega
theorem Inv.tuple (I : Inv X pins σ H s) (h : SqT X.K H a xs) : ∃ its : List Value, Vals xs its ∧ IsTup s.heap a its.toArray ∧ xs.length ≤ sizeLine := by
  rcases h with h | ⟨o, its, n, hk, hc, hs, hz, r⟩
  · obtain ⟨z, its, r, p⟩ := h.ok I.hok
    exact ⟨its, r, p, z⟩
  · refine ⟨its.toList, r, ⟨o, I.kIn a o hk, hc, n, by simpa using hs⟩, ?_⟩
    have e := r.length
    simp only [Array.length_toList] at e
    omega
theorem Inv.list_inj (I : Inv X pins σ H s) (h : SqL X.K H a xs) (h' : SqL X.K H a ys) : xs = ys := by
  obtain ⟨its, r, ⟨o, n, e, _, _, d⟩, _⟩ := I.list h
  obtain ⟨its', r', ⟨o', n', e', _, _, d'⟩, _⟩ := I.list h'
  rw [e] at e'; cases e'
  rw [d] at d'
  injection d' with d1 _
  have : its = its' := by simpa using congrArg Array.toList d1
  subst this
  exact r.inj r'
theorem Inv.tuple_inj (I : Inv X pins σ H s) (h : SqT X.K H a xs) (h' : SqT X.K H a ys) : xs = ys := by
  obtain ⟨its, r, ⟨o, e, _, n, d⟩, _⟩ := I.tuple h
  obtain ⟨its', r', ⟨o', e', _, n', d'⟩, _⟩ := I.tuple h'
  rw [e] at e'; cases e'
  rw [d] at d'
  injection d' with d1 _
  have : its = its' := by simpa using congrArg Array.toList d1
  subst this
  exact r.inj r'
end

/-! ### another wish about exceptions -/
abbrev Cx.wish (X : Cx) (E : Value → Shared → Prop) : Cx := { X with xe := E }
/-- no exception leaves -/
abbrev Cx.nox (X : Cx) : Cx := X.wish fun _ _ => False
theorem Cx.Ok.wish {X : Cx} (ok : X.Ok) (E : Value → Shared → Prop) : (X.wish E).Ok :=
  ⟨ok.mod, ok.kind, ok.glob, ok.blt, ok.above, ok.inj, ok.has, ok.cab, ok.hd, ok.frames, ok.stk, ok.exf, ok.bs, ok.bsz, ok.noex, ok.exfs, ok.funs, ok.frf⟩
theorem Cx.Ok.unwish {X : Cx} {E : Value → Shared → Prop} (ok : (X.wish E).Ok) : X.Ok :=
  ⟨ok.mod, ok.kind, ok.glob, ok.blt, ok.above, ok.inj, ok.has, ok.cab, ok.hd, ok.frames, ok.stk, ok.exf, ok.bs, ok.bsz, ok.noex, ok.exfs, ok.funs, ok.frf⟩
section
variable {X : Cx} {pins : List (Addr × Obj)} {σ : St} {H : Hp} {s : Shared} {E : Value → Shared → Prop}
theorem Inv.wish (I : Inv X pins σ H s) (E : Value → Shared → Prop) : Inv (X.wish E) pins σ H s := ⟨I.ok.wish E, I.os, I.bare, I.base, I.loc, I.cell, I.free, I.freeC, I.pin, I.hok, I.len⟩
theorem Inv.unwish (I : Inv (X.wish E) pins σ H s) : Inv X pins σ H s := ⟨I.ok.unwish, I.os, I.bare, I.base, I.loc, I.cell, I.free, I.freeC, I.pin, I.hok, I.len⟩
theorem SP.unwish {D : Ends} {f : Flow} {s' : Shared} (h : SP (X.wish E) pins D f s') : SP X pins D f s' := by
  cases f with
  | next => obtain ⟨σ', H', I, q⟩ := h; exact ⟨σ', H', I.unwish, q⟩
  | brk => obtain ⟨σ', H', I, q⟩ := h; exact ⟨σ', H', I.unwish, q⟩
  | cont => obtain ⟨σ', H', I, q⟩ := h; exact ⟨σ', H', I.unwish, q⟩
  | ret u => obtain ⟨v, σ', H', I, r, q⟩ := h; exact ⟨v, σ', H', I.unwish, r, q⟩
theorem PE.nox {e : Expr} {t : TE} (h : PE X.nox e t) : PE X e t := fun pins s σ H Q I hw =>
  wpAny_mono (h pins s σ H Q (I.wish _) hw) (fun _ _ ⟨v, H', I', r, q⟩ => ⟨v, H', I'.unwish, r, q⟩) fun _ _ z => False.elim z
theorem PT.nox {e : Expr} {t : TT} (h : PT X.nox e t) : PT X e t := fun pins s σ H Q I hw =>
  wpAny_mono (h pins s σ H Q (I.wish _) hw) (fun _ _ ⟨H', I', q⟩ => ⟨H', I'.unwish, q⟩) fun _ _ z => False.elim z
theorem PSs.nox {st : List Stmt} {t : TS} (h : PSs X.nox st t) : PSs X st t := fun pins s σ H D I hw =>
  wpAny_mono (h pins s σ H D (I.wish _) hw) (fun _ _ q => q.unwish) fun _ _ z => False.elim z
end

/-! ### blocks and small statements -/
section
variable {X : Cx} {st : Stmt} {rest : List Stmt} {t u : TS} {e : Expr} {te : TE} {pos : Pos}
def tNext : TS := fun D σ H => D.nx σ H
def tSeq (t u : TS) : TS := fun D σ H => t { D with nx := u D } σ H
theorem pss_nil : PSs X [] tNext := fun _ _ σ H _ I h => wpAny_execs_nil ⟨σ, H, I, h⟩
theorem pss_cons (h1 : PS X st t) (h2 : PSs X rest u) : PSs X (st :: rest) (tSeq t u) := by
  intro pins s σ H D I h
  refine wpAny_execs_cons (thn (h1 pins s σ H { D with nx := u D } I h) fun f s1 q => ?_)
  cases f with
  | next =>
    obtain ⟨σ', H', I', q⟩ := q
    exact h2 pins s1 σ' H' D I' q
  | ret v => exact q
  | brk => exact q
  | cont => exact q
theorem pss_one (h1 : PS X st t) : PSs X [st] t := by
  intro pins s σ H D I h
  refine wpAny_execs_cons (thn (h1 pins s σ H D I h) fun f s1 q => ?_)
  cases f with
  | next => exact wpAny_execs_nil q
  | ret v => exact q
  | brk => exact q
  | cont => exact q
def tBreak : TS := fun D σ H => D.bk σ H
def tCont : TS := fun D σ H => D.ct σ H
theorem ps_pass : PS X (.Pass pos) tNext := fun _ _ σ H _ I h => wpAny_Pass ⟨σ, H, I, h⟩
theorem ps_break : PS X (.Break pos) tBreak := fun _ _ σ H _ I h => wpAny_Break ⟨σ, H, I, h⟩
theorem ps_continue : PS X (.Continue pos) tCont := fun _ _ σ H _ I h => wpAny_Continue ⟨σ, H, I, h⟩
/-- in a def's body nothing is shown -/
theorem Inv.quiet {pins : List (Addr × Obj)} {σ : St} {H : Hp} {s : Shared} (I : Inv X pins σ H s) : interactive X.env = false := by simp [interactive, I.ok.kind]
/-- a docstring -/
theorem ps_doc {x j pos pos'} : PS X (.Expr (.Constant (.str x) j pos) pos') tNext := fun _ s σ H _ I h => wpAny_Expr (Calls.Constant_str (show SP X _ _ .next { s with toks := s.toks + 1 } from ⟨σ, H, I.tok _, h⟩)) I.quiet
/-- an expression whose value is dropped -/
def tDrop (te : TE) : TS := fun D σ H => te σ H fun _ H1 => D.nx σ H1
theorem ps_expr (he : PE X e te) (hs : swapsWith e none pos.line X.env = pure false := by rfl) : PS X (.Expr e pos) (tDrop te) := by
  intro pins s σ H D I h
  exact wpAny_Expr_any (thn (he pins s σ H _ I h) fun v s1 ⟨x, H1, I1, r1, q1⟩ => ⟨σ, H1, I1, q1⟩) I.quiet hs
def tRet (te : TE) : TS := fun D σ H => te σ H D.rt
theorem ps_ret (he : PE X e te) : PS X (.Return (some e) pos) (tRet te) := by
  intro pins s σ H D I h
  exact wpAny_Return_some (thn (he pins s σ H _ I h) fun v s1 ⟨x, H1, I1, r1, q1⟩ => ⟨x, σ, H1, I1, r1, q1⟩)
def tRetN : TS := fun D _ H => D.rt .non H
theorem ps_retN : PS X (.Return none pos) tRetN := fun _ _ σ H _ I h => wpAny_Return_none ⟨.non, σ, H, I, rfl, h⟩
def tIfS (c : TT) (t u : TS) : TS := fun D σ H => c σ H fun b H1 => if b = true then t D σ H1 else u D σ H1
theorem ps_if {c : Expr} {a b : List Stmt} {tc : TT} (hc : PT X c tc) (ha : PSs X a t) (hb : PSs X b u) : PS X (.If c a b pos) (tIfS tc t u) := by
  intro pins s σ H D I h
  refine wpAny_If (thn (hc pins s σ H _ I h) fun d s1 ⟨H1, I1, q1⟩ => ?_)
  cases d with
  | true => exact ha pins s1 σ H1 D I1 q1
  | false => exact hb pins s1 σ H1 D I1 q1
/-- code that the proof never comes to -/
def tNever : TS := fun _ _ _ => False
theorem ps_never : PS X st tNever := fun _ _ _ _ _ _ h => h.elim
theorem pss_never {sts : List Stmt} : PSs X sts tNever := fun _ _ _ _ _ _ h => h.elim
end

/-! ### targets -/
abbrev TG := V → St → Hp → (St → Hp → Prop) → Prop
abbrev TGs := List V → St → Hp → (St → Hp → Prop) → Prop
def PG (X : Cx) (target : Expr) (t : TG) : Prop :=
  ∀ (pins : List (Addr × Obj)) (s : Shared) (σ : St) (H : Hp) (v : V) (u : Value) (Q : St → Hp → Prop), Inv X pins σ H s → RelV v u → t v σ H Q →
    wpAny (model X.prog X.w) X.A (assign target X.env u) (fun _ s' => ∃ σ' H', Inv X pins σ' H' s' ∧ Q σ' H') X.xe s
/-- several targets, one after another -/
def PGs (X : Cx) (ts : List Expr) (t : TGs) : Prop :=
  ∀ (pins : List (Addr × Obj)) (s : Shared) (σ : St) (H : Hp) (vs : List V) (us : List Value) (Q : St → Hp → Prop), Inv X pins σ H s → Vals vs us → t vs σ H Q →
    wpAny (model X.prog X.w) X.A (assignInOrder ((assignEach ts X.env).map (·.2)) us) (fun _ s' => ∃ σ' H', Inv X pins σ' H' s' ∧ Q σ' H') X.xe s
/-- o[i] = v, by values -/
abbrev TSet := V → V → V → Hp → (Hp → Prop) → Prop
def PSet (X : Cx) (t : TSet) : Prop :=
  ∀ (pins : List (Addr × Obj)) (s : Shared) (σ : St) (H : Hp) (o i v : V) (ov iv u : Value) (Q : Hp → Prop), Inv X pins σ H s → RelV o ov → RelV i iv → RelV v u → t o i v H Q →
    wpAny (model X.prog X.w) X.A (setItem ov iv u) (fun _ s' => ∃ H', Inv X pins σ H' s' ∧ Q H') X.xe s
/-- a op= b, by values -/
abbrev TIp := V → V → Hp → VK → Prop
def PIp (X : Cx) (op : Operator) (t : TIp) : Prop :=
  ∀ (pins : List (Addr × Obj)) (s : Shared) (σ : St) (H : Hp) (x y : V) (v u : Value) (Q : VK), Inv X pins σ H s → RelV x v → RelV y u → t x y H Q →
    wpAny (model X.prog X.w) X.A (inplaceOp op v u) (EP X pins σ Q) X.xe s
section
variable {X : Cx} {pos : Pos}
def gName (i : Nat) : TG := fun v σ H Q => Q (σ.set i (some v)) H
theorem pg_name {i : Nat} {x : Str} (hN : X.N.Nodup) (hi : X.N[i]? = some x) (hx : Loc X.env.scope x) (hf : X.fn x = true ∨ X.env.scope.names.lookup x = some .local := by first | exact .inl rfl | exact .inr rfl | assumption) : PG X (.Name x pos) (gName i) := by
  intro pins s σ H v u Q I r h
  exact wpAny_assign_Name (store_ok I hN hi hx r (fun s' I' => ⟨_, H, I', h⟩) hf)
def gNil : TGs := fun vs σ H Q => vs = [] ∧ Q σ H
def gCons (t : TG) (u : TGs) : TGs := fun vs σ H Q => ∃ v r, vs = v :: r ∧ t v σ H fun σ' H' => u r σ' H' Q
theorem pgs_nil : PGs X [] gNil := by
  intro pins s σ H vs us Q I r h
  obtain ⟨e, h⟩ := h
  subst e
  cases r
  exact assignInOrder_nil ⟨σ, H, I, h⟩
theorem pgs_cons {e : Expr} {es : List Expr} {t : TG} {u : TGs} (h1 : PG X e t) (h2 : PGs X es u)
    (hs : (assignEach (e :: es) X.env).map (·.2) = assign e X.env :: (assignEach es X.env).map (·.2) := by rfl) : PGs X (e :: es) (gCons t u) := by
  intro pins s σ H vs us Q I r h
  obtain ⟨v, vr, e1, h⟩ := h
  subst e1
  cases r with
  | cons r rr =>
    rw [hs]
    refine assignInOrder_cons (thn (h1 pins s σ H _ _ _ I r h) fun _ s1 ⟨σ1, H1, I1, q1⟩ => ?_)
    exact h2 pins s1 σ1 H1 _ _ Q I1 rr q1
/-- (a, b, ..) = a tuple of that length -/
def gTup (K : PySem.W.Frag) (n : Nat) (t : TGs) : TG := fun v σ H Q => ∃ a xs, v = .ref a ∧ SqT K H a xs ∧ xs.length = n ∧ t xs σ H Q
theorem pg_tup {es : List Expr} {k : Nat} {t : TGs} {n : Nat} (hc : X.calm = true) (h : PGs X es t)
    (hn : (assignEach es X.env).length = n := by rfl) (hst : (assignEach es X.env).findIdx? (·.1) = none := by rfl) : PG X (.Tuple es k pos) (gTup X.K n t) := by
  intro pins s σ H v u Q I r hw
  obtain ⟨a, xs, e1, hq, hl, hw⟩ := hw
  subst e1
  cases r
  obtain ⟨its, rv, ht, hz⟩ := I.tuple hq
  refine assign_Tuple_tuple (I.ok.hd hc) ht (by simp [hn, ← hl, rv.length]) hst fun h' hx => ?_
  have I1 : Inv X pins σ H { s with heap := h' } := I.kept (t' := s.toks) fun b o e => hx b o (Nat.ne_of_lt (Heap.lt_size e)) e
  exact h pins _ σ H xs _ Q I1 (by simpa using rv) hw
/-- o[i] = .. -/
def gSub (to ti : TE) (t : TSet) : TG := fun v σ H Q => to σ H fun o H1 => ti σ H1 fun i H2 => t o i v H2 fun H3 => Q σ H3
theorem pg_sub {o i : Expr} {to ti : TE} {t : TSet} (ho : PE X o to) (hi : PE X i ti) (hs : PSet X t)
    (ha : ∀ v, assign (.Subscript o i pos) X.env v = (do
      let ov ← holding [v] (eval o X.env)
      let iv ← holding [v, ov] (eval i X.env)
      standAt pos
      holding [v, ov, iv] (setItem ov iv v)
      release [v, ov, iv] []) := by intro _; rfl) : PG X (.Subscript o i pos) (gSub to ti t) := by
  intro pins s σ H v u Q I r h
  rw [ha]
  refine wpAny_bind (wpAny_holding (thn (ho pins s σ H _ I h) fun ov s1 ⟨x, H1, I1, r1, q1⟩ => ?_))
  refine wpAny_bind (wpAny_holding (thn (hi pins s1 σ H1 _ I1 q1) fun iv s2 ⟨y, H2, I2, r2, q2⟩ => ?_))
  refine wpAny_bind (wpAny_standAt (wpAny_bind (wpAny_holding (thn (hs pins s2 σ H2 x y v ov iv u _ I2 r1 r2 r q2) fun _ s3 ⟨H3, I3, q3⟩ => ?_))))
  exact wpAny_release ⟨σ, H3, I3, q3⟩
/-- target = value -/
def tAsg (te : TE) (g : TG) : TS := fun D σ H => te σ H fun x H1 => g x σ H1 D.nx
theorem ps_asg {tg e : Expr} {te : TE} {g : TG} (he : PE X e te) (hg : PG X tg g) (hs : swapsWithSole [tg] e pos.line X.env = pure false := by rfl) (hw : swappedStores [tg] e X.env = pure none := by rfl)
    (h1 : (assignEach [tg] X.env).map (·.2) = [assign tg X.env] := by rfl) : PS X (.Assign [tg] e pos) (tAsg te g) := by
  intro pins s σ H D I h
  refine wpAny_Assign_stores (thn (he pins s σ H _ I h) fun v s1 ⟨x, H1, I1, r1, q1⟩ => ?_) hs hw
  rw [h1]
  exact thn (hg pins s1 σ H1 x v _ I1 r1 q1) fun _ s2 q => q
/-- name = value -/
theorem ps_set {i : Nat} {x : Str} {e : Expr} {te : TE} {pos' : Pos} (hN : X.N.Nodup) (hi : X.N[i]? = some x) (hx : Loc X.env.scope x) (he : PE X e te) (hs : swapsWith e (some (.Name x pos')) pos.line X.env = pure false := by rfl) (hf : X.fn x = true ∨ X.env.scope.names.lookup x = some .local := by first | exact .inl rfl | exact .inr rfl | assumption) :
    PS X (.Assign [.Name x pos'] e pos) (tAsg te (gName i)) := by
  intro pins s σ H D I h
  refine wpAny_Assign_Name (thn (he pins s σ H _ I h) fun v s1 ⟨y, H1, I1, r1, q1⟩ => ?_) hs
  exact store_ok I1 hN hi hx r1 (fun s2 I2 => ⟨_, H1, I2, q1⟩) hf
/-- a, b = x, y with plain local names: stored from the right; the pair itself is not tracked (the opening rows as in PyProof/Rows/TupAssign.lean:23) -/
def tPar (i j : Nat) (ta : TA) : TS := fun D σ H => ta σ H fun vs H1 => ∃ v w, vs = [v, w] ∧ D.nx ((σ.set i (some v)).set j (some w)) H1
theorem ps_par {i j : Nat} {x y : Str} {a b : Expr} {ta : TA} {px py pt : Pos} {kt k2 pt2} (hc : X.calm = true) (hN : X.N.Nodup) (hi : X.N[i]? = some x) (hj : X.N[j]? = some y) (hij : i ≠ j)
    (hx : X.env.scope.names.lookup x = some .local) (hy : X.env.scope.names.lookup y = some .local) (ha : PA X [a, b] ta)
    (hw : swappedStores [.Tuple [.Name x px, .Name y py] kt pt] (.Tuple [a, b] k2 pt2) X.env = pure (some [x, y]))
    (hs : swapsWithSole [.Tuple [.Name x px, .Name y py] kt pt] (.Tuple [a, b] k2 pt2) pos.line X.env = pure false := by rfl) :
    PS X (.Assign [.Tuple [.Name x px, .Name y py] kt pt] (.Tuple [a, b] k2 pt2) pos) (tPar i j ta) := by
  intro pins s σ H D I h
  rw [exec_Assign_arm]
  refine wpAny_bind (wpAny_standAt ?_)
  rw [hs]
  refine wpAny_bind (wpAny_pure ?_)
  rw [if_neg (by decide)]
  refine wpAny_bind (Tuple_ (thn (ha _ pins s σ H _ I h) fun us s1 ⟨vs, H1, I1, r1, q1⟩ => ?_))
  obtain ⟨v, w, e1, q1⟩ := q1
  subst e1
  obtain ⟨u1, u2, rfl, rv, rw'⟩ : ∃ u1 u2, us = [u1, u2] ∧ RelV v u1 ∧ RelV w u2 := by
    cases r1 with
    | cons p q =>
      cases q with
      | cons p' q' =>
        cases q'
        exact ⟨_, _, rfl, p, p'⟩
  refine wpAny_newObj_type ?_ (by show 2 ≤ sizeLine; decide)
  have I2 : Inv X pins σ H1 { s1 with heap := s1.heap.push { cls := .type "tuple", data := .seq [u1, u2].toArray } } := I1.kept (t' := s1.toks) fun b o e => Heap.get?_push_of_some _ e
  rw [hw]
  refine wpAny_bind (wpAny_pure ?_)
  show wpAny (model X.prog X.w) X.A (do rule "assign.swapped-stores"; let items ← unpackItems (.ref s1.heap.objs.size) 2 none; assignInOrder [fun v => bindName X.env y v, fun v => bindName X.env x v] items.reverse; pure Flow.next) _ _ _
  refine wpAny_bind (wpAny_rule (wpAny_bind (unpackItems_tuple (items := #[u1, u2]) (I.ok.hd hc) (IsTup.new s1.heap _) fun h' hx' => ?_)))
  have I3 := I2.kept (h' := h') (t' := s1.toks) fun b o e => hx' b o (Nat.ne_of_lt (Heap.lt_size e)) e
  show wpAny _ _ (assignInOrder [fun v => bindName X.env y v, fun v => bindName X.env x v] [u2, u1] >>= fun _ => pure Flow.next) _ _ _
  refine wpAny_bind (assignInOrder_cons (wpAny_bindName (store_ok I3 hN hj (.inl hy) rw' (fun s2 I4 => ?_) (.inr hy))))
  refine assignInOrder_cons (wpAny_bindName (store_ok I4 hN hi (.inl hx) rv (fun s3 I5 => assignInOrder_nil (wpAny_pure ?_)) (.inr hx)))
  rw [List.set_comm _ _ (Ne.symm hij)] at I5
  exact ⟨_, H1, I5, q1⟩
/-- name op= e -/
def tAug (i : Nat) (te : TE) (ti : TIp) : TS := fun D σ H => ∃ x, σ[i]? = some (some x) ∧ te σ H fun y H1 => ti x y H1 fun z H2 => D.nx (σ.set i (some z)) H2
theorem ps_aug {i : Nat} {x : Str} {e : Expr} {te : TE} {op : Operator} {ti : TIp} {pos' : Pos} (hN : X.N.Nodup) (hi : X.N[i]? = some x) (hx : Loc X.env.scope x) (he : PE X e te) (ho : PIp X op ti) (hf : X.fn x = true ∨ X.env.scope.names.lookup x = some .local := by first | exact .inl rfl | exact .inr rfl | assumption) :
    PS X (.AugAssign (.Name x pos') op e pos) (tAug i te ti) := by
  intro pins s σ H D I h
  obtain ⟨v, e1, h⟩ := h
  obtain ⟨m, hn, hl⟩ := I.loc
  have vis : Vis X.env.scope x := by rcases hx with k | k; exact .inl k; exact .inr (.inl k)
  obtain ⟨u, r, l⟩ := hl i x v hi e1 vis
  refine wpAny_AugAssign_Name ?_
  have go : wpAny (model X.prog X.w) X.A (eval e X.env) (fun w s₂ => wpAny (model X.prog X.w) X.A (inplaceOp op u w) (fun r s₃ => wpAny (model X.prog X.w) X.A (storeName X.env x r) (fun _ => SP X pins D .next) X.xe s₃) X.xe s₂) X.xe s := by
    refine thn (he pins s σ H _ I h) fun w s1 ⟨y, H1, I1, r1, q1⟩ => ?_
    refine thn (ho pins s1 σ H1 v y u w _ I1 r r1 q1) fun z s2 ⟨zv, H2, I2, r2, q2⟩ => ?_
    exact store_ok I2 hN hi hx r2 (fun s3 I3 => ⟨_, H2, I3, q2⟩) hf
  rcases l with ⟨hk, hm⟩ | ⟨hk, c, hc, hcell⟩
  · exact wpAny_loadName_local I.ok.kind hk hn hm go
  · rcases hk with hk | hk
    · exact wpAny_loadName_cell I.ok.kind hk hc hcell go
    · rcases hx with k | k
      · have : X.env.scope.names.lookup x = some .free := hk
        rw [k] at this; cases this
      · have : X.env.scope.names.lookup x = some .free := hk
        rw [k] at this; cases this
/-- o[i] op= e -/
def tAugS (to ti te : TE) (tget : V → V → Hp → VK → Prop) (tip : TIp) (tset : TSet) : TS := fun D σ H => to σ H fun o H1 => ti σ H1 fun i H2 => tget o i H2 fun x H3 => te σ H3 fun y H4 => tip x y H4 fun z H5 => tset o i z H5 fun H6 => D.nx σ H6
/-- o[i], by values -/
def PGet (X : Cx) (t : V → V → Hp → VK → Prop) : Prop :=
  ∀ (pins : List (Addr × Obj)) (s : Shared) (σ : St) (H : Hp) (o i : V) (ov iv : Value) (Q : VK), Inv X pins σ H s → RelV o ov → RelV i iv → t o i H Q →
    wpAny (model X.prog X.w) X.A (getItem ov iv) (EP X pins σ Q) X.xe s
theorem ps_augS {o i e : Expr} {to ti te : TE} {tget : V → V → Hp → VK → Prop} {tip : TIp} {tset : TSet} {op : Operator} {tpos : Pos} (ho : PE X o to) (hi : PE X i ti) (hg : PGet X tget) (he : PE X e te) (hp : PIp X op tip) (hs : PSet X tset)
    (ha : ∀ ov iv new, augStore i ov iv new = (do holding [new, ov, iv] (setItem ov iv new); release [new, ov, iv] []; pure .next) := by intros; rfl) : PS X (.AugAssign (.Subscript o i tpos) op e pos) (tAugS to ti te tget tip tset) := by
  intro pins s σ H D I h
  refine wpAny_AugAssign_SubscriptAny (thn (ho pins s σ H _ I h) fun ov s1 ⟨x1, H1, I1, r1, q1⟩ => ?_) ha
  refine thn (hi pins s1 σ H1 _ I1 q1) fun iv s2 ⟨x2, H2, I2, r2, q2⟩ => ?_
  refine thn (hg pins s2 σ H2 x1 x2 ov iv _ I2 r1 r2 q2) fun old s3 ⟨x3, H3, I3, r3, q3⟩ => ?_
  refine thn (he pins s3 σ H3 _ I3 q3) fun v s4 ⟨x4, H4, I4, r4, q4⟩ => ?_
  refine thn (hp pins s4 σ H4 x3 x4 old v _ I4 r3 r4 q4) fun new s5 ⟨x5, H5, I5, r5, q5⟩ => ?_
  exact thn (hs pins s5 σ H5 x1 x2 x5 ov iv new _ I5 r1 r2 r5 q5) fun _ s6 ⟨H6, I6, q6⟩ => ⟨σ, H6, I6, q6⟩
/-- ints -/
def ipI (f : Int → Int → Int) : TIp := fun x y H Q => ∃ i j, x = .int i ∧ y = .int j ∧ Q (.int (f i j)) H
theorem ip_add : PIp X .Add (ipI fun i j => i + j) := by
  intro pins s σ H x y v u Q I r1 r2 h
  obtain ⟨i, j, e1, e2, q⟩ := h
  subst e1; subst e2
  obtain ⟨t, rfl⟩ := r1
  obtain ⟨t', rfl⟩ := r2
  exact iadd_int ⟨.int _, H, I.tok _, ⟨_, rfl⟩, q⟩
theorem ip_sub : PIp X .Sub (ipI fun i j => i - j) := by
  intro pins s σ H x y v u Q I r1 r2 h
  obtain ⟨i, j, e1, e2, q⟩ := h
  subst e1; subst e2
  obtain ⟨t, rfl⟩ := r1
  obtain ⟨t', rfl⟩ := r2
  exact isub_int ⟨.int _, H, I.tok _, ⟨_, rfl⟩, q⟩
end

/-! ### while -/
section
variable {X : Cx} {pos : Pos}
/-- the invariant W with its measure -/
def tWhile (c : TT) (tb : TS) : TS := fun D σ H => ∃ W : Nat → St → Hp → Prop, (∃ m, W m σ H) ∧ ∀ m σ H, W m σ H →
  c σ H fun b H1 => if b = true then ∃ N : St → Hp → Prop, (∀ σ' H', N σ' H' → ∃ m', m' < m ∧ W m' σ' H') ∧ tb { D with nx := N, ct := N, bk := D.nx } σ H1 else D.nx σ H1
theorem ps_while {c : Expr} {body : List Stmt} {tc : TT} {tb : TS} (hp : PassesOwn (model X.prog X.w) X.A X.env X.xe) (hc : PT X c tc) (hb : PSs X body tb) : PS X (.While c body [] pos) (tWhile tc tb) := by
  intro pins s σ H D I h
  obtain ⟨W, ⟨m0, w0⟩, turn⟩ := h
  refine wpAny_While (codeAny_whileLoop (fun n s' => ∃ σ' H', Inv X pins σ' H' s' ∧ W n σ' H') ?_ m0 ⟨σ, H, I, w0⟩)
  rintro n s1 ⟨σ1, H1, I1, w1⟩
  refine wpAny_passesOwn hp (thn (hc pins s1 σ1 H1 _ I1 (turn n σ1 H1 w1)) fun b s2 ⟨H2, I2, q2⟩ => ?_)
  cases b with
  | true =>
    obtain ⟨N, hN, q2⟩ := q2
    rw [if_pos rfl]
    refine wpAny_passesOwn hp (thn (hb pins s2 σ1 H2 _ I2 q2) fun f s3 q3 => ?_)
    cases f with
    | next =>
      obtain ⟨σ3, H3, I3, n3⟩ := q3
      obtain ⟨m', hm, w3⟩ := hN σ3 H3 n3
      exact ⟨m', hm, σ3, H3, I3, w3⟩
    | cont =>
      obtain ⟨σ3, H3, I3, n3⟩ := q3
      obtain ⟨m', hm, w3⟩ := hN σ3 H3 n3
      exact ⟨m', hm, σ3, H3, I3, w3⟩
    | brk => exact q3
    | ret v => exact q3
  | false =>
    rw [if_neg Bool.false_ne_true]
    exact wpAny_execs_nil ⟨σ1, H2, I2, q2⟩
end

/-! ### what a loop or a comprehension walks -/
/-- at turn i: it yields x (the heap may grow), or it stops -/
structure It where
  go : Nat → Hp → Prop
  yld : Nat → Hp → V → Hp → Prop
  stop : Nat → Hp → Prop
/-- the iterator's own objects may turn: they are not the frame's, not pinned, younger than the entry (or a comprehension's own) -/
def FpOk (X : Cx) (pins : List (Addr × Obj)) (H : Hp) (b : Addr) : Prop :=
  H b = none ∧ b ≠ X.env.locals ∧ b ∉ X.fs ∧ (b ∈ X.ex ∨ X.s₀.heap.objs.size ≤ b) ∧ (∀ x c, X.env.cells.lookup x = some c → c ≠ b) ∧ ∀ p ∈ X.pn ++ pins, p.1 ≠ b
theorem Inv.fpOk {X : Cx} {pins : List (Addr × Obj)} {σ : St} {H H' : Hp} {s : Shared} {b : Addr} (I : Inv X pins σ H s) (hb : s.heap.objs.size ≤ b) (hn : H' b = none) : FpOk X pins H' b := by
  refine ⟨hn, Nat.ne_of_gt (Nat.lt_of_lt_of_le I.lt hb), I.nofs hb, .inr (Nat.le_trans I.sz hb), fun x c e z => ?_, fun p hp z => ?_⟩
  · obtain ⟨v, q⟩ := I.cell x c e
    exact absurd (Nat.lt_of_lt_of_le q.lt (by rw [z]; exact hb)) (Nat.lt_irrefl _)
  · exact absurd (Nat.lt_of_lt_of_le (Heap.lt_size (I.pin p hp).1) (by rw [z]; exact hb)) (Nat.lt_irrefl _)
structure Turn (P : Program) (w : World) (K : PySem.W.Frag) (tg : Expr) (J : It) (fp : List Addr) (it : Addr) (tn : Nat → Heap → Prop) : Prop where
  mem : it ∈ fp
  obj : ∀ i h, tn i h → ∀ b ∈ fp, ∃ o, h.get? b = some o ∧ ∀ v, o.data ≠ .cell v
  keep : ∀ i h h', tn i h → (∀ b ∈ fp, ∀ o, h.get? b = some o → h'.get? b = some o) → tn i h'
  item : ∀ (X : Cx), X.prog = P → X.w = w → X.K = K → X.calm = true → ∀ (i : Nat) (pins : List (Addr × Obj)) (s : Shared) (σ : St) (H : Hp) (E : Value → Shared → Prop), Inv X pins σ H s → (∀ b ∈ fp, FpOk X pins H b) → tn i s.heap → J.go i H →
    wpAny (model P w) X.A (pyNext (.ref it)) (fun r s1 => ∃ u, r = some u ∧
      wpAny (model P w) X.A (letOwnedTupleGo tg (.ref it) u) (fun _ s2 => ∃ x H', Inv X pins σ H' s2 ∧ RelV x u ∧ J.yld i H x H' ∧ tn (i + 1) s2.heap ∧ ∀ b ∈ fp, H' b = none) E s1) E s
  done : ∀ (X : Cx), X.prog = P → X.w = w → X.K = K → X.calm = true → ∀ (i : Nat) (pins : List (Addr × Obj)) (s : Shared) (σ : St) (H : Hp) (E : Value → Shared → Prop), Inv X pins σ H s → (∀ b ∈ fp, FpOk X pins H b) → tn i s.heap → J.stop i H →
    wpAny (model P w) X.A (pyNext (.ref it)) (fun r s1 => r = none ∧ Inv X pins σ H s1) E s
  self : ∀ (A : Around) (i : Nat) (s : Shared) (Q : Value → Shared → Prop) (E : Value → Shared → Prop), tn i s.heap → Q (.ref it) s → wpAny (model P w) A (pyIter (.ref it)) Q E s
abbrev TI := St → Hp → (It → Hp → Prop) → Prop
/-- an iterator has come -/
def PIE (X : Cx) (pins : List (Addr × Obj)) (σ : St) (tg : Expr) (R : It → Hp → Prop) (itv : Value) (s2 : Shared) : Prop :=
  ∃ (it : Addr) (fp : List Addr) (tn : Nat → Heap → Prop) (J : It) (H' : Hp), itv = .ref it ∧ Inv X pins σ H' s2 ∧ Turn X.prog X.w X.K tg J fp it tn ∧ tn 0 s2.heap ∧ (∀ b ∈ fp, FpOk X pins H' b) ∧ R J H'
def PI (X : Cx) (tg iter : Expr) (wi : TI) : Prop :=
  ∀ (pins : List (Addr × Obj)) (s : Shared) (σ : St) (H : Hp) (R : It → Hp → Prop), Inv X pins σ H s → wi σ H R →
    wpAny (model X.prog X.w) X.A (eval iter X.env) (fun v s1 => wpAny (model X.prog X.w) X.A (pyIter v) (PIE X pins σ tg R) X.xe s1) X.xe s

/-- the step ahead of the store is nothing for an iterator that keeps no tuple -/
theorem go_of {M : Model} {A : Around} {E : Value → Shared → Prop} {s : Shared} {tg : Expr} {it : Addr} {u : Value} {o : Obj} {n : String} {vs : Array Value} {Q : Unit → Shared → Prop} (ho : s.heap.get? it = some o) (hc : o.cls = .type n) (hd : o.data = .fields vs)
    (hn : ["enumerate", "zip", "dict_itemiterator", "dict_reverseitemiterator", "odict_iterator", "itertools.zip_longest", "itertools.pairwise"].contains n = false) (hQ : Q () s) : wpAny M A (letOwnedTupleGo tg (.ref it) u) Q E s := by
  unfold letOwnedTupleGo
  cases tg <;> first
    | exact wpAny_pure hQ
    | (cases u <;> first
        | exact wpAny_pure hQ
        | (refine wpAny_bind (wpAny_load ho ?_)
           rw [hc, hd]
           show wpAny M A (if (["enumerate", "zip", "dict_itemiterator", "dict_reverseitemiterator", "odict_iterator", "itertools.zip_longest", "itertools.pairwise"].contains n && vs[0]? == some (rawInt _)) = true then _ else _) Q E s
           rw [if_neg (by intro h; rw [hn, Bool.false_and] at h; cases h)]
           exact wpAny_pure hQ))

/-- the list at a, as it stands at each turn (a loop may append to it) -/
def Itl (K : PySem.W.Frag) (a : Addr) : It :=
  ⟨fun i H => ∃ xs x, SqL K H a xs ∧ xs[i]? = some x, fun i H x H' => H' = H ∧ ∀ xs, SqL K H a xs → xs[i]? = some x, fun i H => ∃ xs, SqL K H a xs ∧ xs.length ≤ i⟩
def Itt (K : PySem.W.Frag) (a : Addr) : It :=
  ⟨fun i H => ∃ xs x, SqT K H a xs ∧ xs[i]? = some x, fun i H x H' => H' = H ∧ ∀ xs, SqT K H a xs → xs[i]? = some x, fun i H => ∃ xs, SqT K H a xs ∧ xs.length ≤ i⟩
/-- lo, lo + 1, .. (n of them) -/
def Itr (lo : Int) (n : Nat) : It := ⟨fun i _ => i < n, fun i H x H' => H' = H ∧ x = .int (lo + i), fun i _ => n ≤ i⟩
theorem turn_list {P : Program} {w : World} {K : PySem.W.Frag} {tg : Expr} (a it : Addr) : Turn P w K tg (Itl K a) [it] it (fun i h => h.IsListIter it a i) where
  mem := by simp
  obj := fun i h st b hb => by
    have e : b = it := by simpa using hb
    subst e
    obtain ⟨o, e, c, d⟩ := st
    exact ⟨o, e, fun v z => by rw [d] at z; cases z⟩
  keep := fun i h h' st k => st.at fun o e => k it (by simp) o e
  item := by
    intro X hP hw hK hc i pins s σ H E I hf st hg
    subst hP hw hK
    obtain ⟨xs, x, hq, hx⟩ := hg
    obtain ⟨its, rv, p, hz⟩ := I.list hq
    obtain ⟨u, hu, ru⟩ := rv.get hx
    obtain ⟨f0, f1, f2, f3, f4, f5⟩ := hf it (by simp)
    refine wpAny_pyNext_list_item st p.isList (x := u) (by simpa using hu) fun h' st' sb => ?_
    have I1 : Inv X pins σ H { s with heap := h' } := I.turned (t' := s.toks) (fun b o hb e => (sb.2 b hb).trans e) f0 f1 f3 f4 f5
    obtain ⟨o, e, c, d⟩ := id st'
    exact ⟨u, rfl, go_of (s := { s with heap := h' }) e c d (by decide) ⟨x, H, I1, ru, ⟨rfl, fun ys hy => by rw [I.list_inj hy hq]; exact hx⟩, st', fun b hb => (hf b hb).1⟩⟩
  done := by
    intro X hP hw hK hc i pins s σ H E I hf st hg
    subst hP hw hK
    obtain ⟨xs, hq, hx⟩ := hg
    obtain ⟨its, rv, p, hz⟩ := I.list hq
    obtain ⟨f0, f1, f2, f3, f4, f5⟩ := hf it (by simp)
    have hl := rv.length
    exact wpAny_pyNext_list_end (I.ok.hd hc) st p.isList (by simp; omega) fun h' eb => ⟨rfl, I.turned (t' := s.toks) (fun b o hb e => eb b o hb e) f0 f1 f3 f4 f5⟩
  self := fun _ _ _ _ _ st h => wpAny_pyIter_listiter st h
theorem turn_tuple {P : Program} {w : World} {K : PySem.W.Frag} {tg : Expr} (a it : Addr) : Turn P w K tg (Itt K a) [it] it (fun i h => h.IsTupleIter it a i) where
  mem := by simp
  obj := fun i h st b hb => by
    have e : b = it := by simpa using hb
    subst e
    obtain ⟨o, e, c, d⟩ := st
    exact ⟨o, e, fun v z => by rw [d] at z; cases z⟩
  keep := fun i h h' st k => st.at fun o e => k it (by simp) o e
  item := by
    intro X hP hw hK hc i pins s σ H E I hf st hg
    subst hP hw hK
    obtain ⟨xs, x, hq, hx⟩ := hg
    obtain ⟨its, rv, p, hz⟩ := I.tuple hq
    obtain ⟨u, hu, ru⟩ := rv.get hx
    obtain ⟨f0, f1, f2, f3, f4, f5⟩ := hf it (by simp)
    refine wpAny_pyNext_tuple_item st (show s.heap.IsTuple a its.toArray from p) (x := u) (by simpa using hu) fun h' st' sb => ?_
    have I1 : Inv X pins σ H { s with heap := h' } := I.turned (t' := s.toks) (fun b o hb e => (sb.2 b hb).trans e) f0 f1 f3 f4 f5
    obtain ⟨o, e, c, d⟩ := id st'
    exact ⟨u, rfl, go_of (s := { s with heap := h' }) e c d (by decide) ⟨x, H, I1, ru, ⟨rfl, fun ys hy => by rw [I.tuple_inj hy hq]; exact hx⟩, st', fun b hb => (hf b hb).1⟩⟩
  done := by
    intro X hP hw hK hc i pins s σ H E I hf st hg
    subst hP hw hK
    obtain ⟨xs, hq, hx⟩ := hg
    obtain ⟨its, rv, p, hz⟩ := I.tuple hq
    obtain ⟨f0, f1, f2, f3, f4, f5⟩ := hf it (by simp)
    have hl := rv.length
    exact wpAny_pyNext_tuple_end (I.ok.hd hc) st (show s.heap.IsTuple a its.toArray from p) (by simp; omega) fun h' eb => ⟨rfl, I.turned (t' := s.toks) (fun b o hb e => eb b o hb e) f0 f1 f3 f4 f5⟩
  self := fun _ _ _ _ _ st h => wpAny_pyIter_tupleiter st h
theorem turn_range {P : Program} {w : World} {K : PySem.W.Frag} {tg : Expr} (it : Addr) (lo : Int) (n : Nat) : Turn P w K tg (Itr lo n) [it] it (fun i h => IsRangeIter h it (lo + (i : Nat) * 1) ((n : Int) - (i : Nat)) 1) where
  mem := by simp
  obj := fun i h st b hb => by
    have e : b = it := by simpa using hb
    subst e
    exact ⟨_, st, fun v z => by
      have z' : Data.fields _ = Data.cell v := z
      cases z'⟩
  keep := fun i h h' st k => k it (by simp) _ st
  item := by
    intro X hP hw hK hc i pins s σ H E I hf st hg
    subst hP hw hK
    obtain ⟨f0, f1, f2, f3, f4, f5⟩ := hf it (by simp)
    have W := Walks.range (prog := X.prog) (w := X.w) (I.ok.hd hc) it lo 1 n
    refine W.item i s _ _ hg st fun v h' tk hv st' kk => ?_
    obtain ⟨t, rfl⟩ := hv
    have I1 : Inv X pins σ H { s with heap := h', toks := tk } := I.turned (fun b o hb e => kk b o (by simpa using hb) e) f0 f1 f3 f4 f5
    refine ⟨_, rfl, go_of (s := { s with heap := h', toks := tk }) (n := "range_iterator") st' rfl rfl (by decide) ⟨.int (lo + i), H, I1, ⟨t, ?_⟩, ⟨rfl, rfl⟩, st', fun b hb => (hf b hb).1⟩⟩
    rw [Int.mul_one]
  done := by
    intro X hP hw hK hc i pins s σ H E I hf st hg
    subst hP hw hK
    obtain ⟨f0, f1, f2, f3, f4, f5⟩ := hf it (by simp)
    exact wpAny_pyNext_range_end (I.ok.hd hc) st (by have : n ≤ i := hg; omega) fun h' eb => ⟨rfl, I.turned (t' := s.toks) (fun b o hb e => eb b o hb e) f0 f1 f3 f4 f5⟩
  self := fun _ _ _ _ _ st h => wpAny_pyIter_rangeiter st h
end L2

namespace L2
open PySem PySem.Spec PyProof.Rows
section
variable {X : Cx} {tg : Expr}
def iList (K : PySem.W.Frag) (tl : TE) : TI := fun σ H R => tl σ H fun x H1 => ∃ a, x = .ref a ∧ (∃ xs, SqL K H1 a xs) ∧ R (Itl K a) H1
def iTup (K : PySem.W.Frag) (tl : TE) : TI := fun σ H R => tl σ H fun x H1 => ∃ a, x = .ref a ∧ (∃ xs, SqT K H1 a xs) ∧ R (Itt K a) H1
theorem pi_list {l : Expr} {tl : TE} (hl : PE X l tl) : PI X tg l (iList X.K tl) := by
  intro pins s σ H R I h
  refine thn (hl pins s σ H _ I h) fun v s1 ⟨x, H1, I1, r1, q1⟩ => ?_
  obtain ⟨a, e, ⟨xs, hq⟩, q⟩ := q1
  subst e
  cases r1
  obtain ⟨its, rv, p, hz⟩ := I1.list hq
  refine wpAny_pyIter_list p.isList ?_
  refine ⟨s1.heap.objs.size, [s1.heap.objs.size], _, _, H1, rfl, I1.kept (t' := s1.toks) fun b o e => Heap.get?_push_of_some _ e, turn_list a _, ⟨_, Heap.get?_push_size _ rfl, rfl, rfl⟩, fun b hb => ?_, q⟩
  have e : b = s1.heap.objs.size := by simpa using hb
  subst e
  exact I1.fpOk (Nat.le_refl _) (I1.hok.fresh (Nat.le_refl _))
theorem pi_tup {l : Expr} {tl : TE} (hl : PE X l tl) : PI X tg l (iTup X.K tl) := by
  intro pins s σ H R I h
  refine thn (hl pins s σ H _ I h) fun v s1 ⟨x, H1, I1, r1, q1⟩ => ?_
  obtain ⟨a, e, ⟨xs, hq⟩, q⟩ := q1
  subst e
  cases r1
  obtain ⟨its, rv, p, hz⟩ := I1.tuple hq
  refine wpAny_pyIter_tuple (show s1.heap.IsTuple a its.toArray from p) ?_
  refine ⟨s1.heap.objs.size, [s1.heap.objs.size], _, _, H1, rfl, I1.kept (t' := s1.toks) fun b o e => Heap.get?_push_of_some _ e, turn_tuple a _, ⟨_, Heap.get?_push_size _ rfl, rfl, rfl⟩, fun b hb => ?_, q⟩
  have e : b = s1.heap.objs.size := by simpa using hb
  subst e
  exact I1.fpOk (Nat.le_refl _) (I1.hok.fresh (Nat.le_refl _))
/-- a range object just made, walked -/
theorem range_it {pins : List (Addr × Obj)} {σ : St} {H : Hp} {s : Shared} {R : It → Hp → Prop} {E : Value → Shared → Prop} {lo hi : Int} {t u v : Tok} {tk : Nat} (I : Inv X pins σ H s) (h1 : -(2 ^ 62) ≤ lo) (h2 : lo < 2 ^ 62) (h3 : -(2 ^ 62) ≤ hi) (h4 : hi < 2 ^ 62)
    (q : R (Itr lo (hi - lo).toNat) H) : wpAny (model X.prog X.w) X.A (pyIter (.ref s.heap.objs.size)) (PIE X pins σ tg R) E { s with heap := s.heap.push { cls := .type "range", data := .fields #[.int lo t, .int hi u, .int 1 v] }, toks := tk } := by
  refine wpAny_pyIter_range (IsRange.new ..) (small_one h1 h2 h3 h4) ?_
  have I1 : Inv X pins σ H { s with heap := s.heap.push { cls := .type "range", data := .fields #[.int lo t, .int hi u, .int 1 v] }, toks := tk } := I.kept fun b o e => Heap.get?_push_of_some _ e
  refine ⟨(s.heap.push { cls := .type "range", data := .fields #[.int lo t, .int hi u, .int 1 v] }).objs.size, [(s.heap.push { cls := .type "range", data := .fields #[.int lo t, .int hi u, .int 1 v] }).objs.size], _, _, H, rfl,
    I1.kept (t' := tk) fun b o e => Heap.get?_push_of_some _ e, turn_range _ lo (hi - lo).toNat, ?_, fun b hb => ?_, q⟩
  · have e1 : lo + ((0 : Nat) : Int) * 1 = lo := by simp
    have e2 : (((hi - lo).toNat : Nat) : Int) - ((0 : Nat) : Int) = Builtin.Range.rangeSize lo hi 1 := by rw [rangeSize_one]; split <;> omega
    show IsRangeIter _ _ (lo + ((0 : Nat) : Int) * 1) ((((hi - lo).toNat : Nat) : Int) - ((0 : Nat) : Int)) 1
    rw [e1, e2]
    exact Heap.get?_push_size _ rfl
  · have e : b = (s.heap.push { cls := .type "range", data := .fields #[.int lo t, .int hi u, .int 1 v] }).objs.size := by simpa using hb
    subst e
    exact I1.fpOk (Nat.le_refl _) (I1.hok.fresh (Nat.le_refl _))
def iRng1 (ta : TA) : TI := fun σ H R => ta σ H fun vs H1 => ∃ j : Int, vs = [.int j] ∧ -(2 ^ 62) ≤ j ∧ j < 2 ^ 62 ∧ R (Itr 0 j.toNat) H1
def iRng2 (ta : TA) : TI := fun σ H R => ta σ H fun vs H1 => ∃ i j : Int, vs = [.int i, .int j] ∧ (-(2 ^ 62) ≤ i ∧ i < 2 ^ 62 ∧ -(2 ^ 62) ≤ j ∧ j < 2 ^ 62) ∧ R (Itr i (j - i).toNat) H1
theorem pi_range1 {a : Expr} {ta : TA} {p pos : Pos} (hg : Gl X "range") (hm : X.mg "range" = none) (ha : PA X [a] ta) (hs : starEach [a] X.env = [(false, eval a X.env)] := by rfl) : PI X tg (.Call (.Name "range" p) [a] [] pos) (iRng1 ta) := by
  intro pins s σ H R I h
  refine Call_ (ld_blt I hg hm boot_range (PyProof.Rows.callWith_type1 (thn (ha pos pins s σ H _ I h) fun us s1 ⟨vs, H1, I1, r1, q1⟩ => ?_) hs rfl))
  obtain ⟨j, e, q1, q2, q⟩ := q1
  subst e
  cases r1 with
  | cons r rr =>
    cases rr
    obtain ⟨t, rfl⟩ := r
    exact call_range_1 (range_it I1 (by omega) (by omega) q1 q2 (by simpa using q))
theorem pi_range2 {a b : Expr} {ta : TA} {p pos : Pos} (hg : Gl X "range") (hm : X.mg "range" = none) (ha : PA X [a, b] ta) (hs : starEach [a, b] X.env = [(false, eval a X.env), (false, eval b X.env)] := by rfl) (hs2 : starEach [b] X.env = [(false, eval b X.env)] := by rfl) :
    PI X tg (.Call (.Name "range" p) [a, b] [] pos) (iRng2 ta) := by
  intro pins s σ H R I h
  refine Call_ (ld_blt I hg hm boot_range (PyProof.Rows.callWith_type1 (thn (ha pos pins s σ H _ I h) fun us s1 ⟨vs, H1, I1, r1, q1⟩ => ?_) (by rw [hs, hs2]) (by rw [hs2]; rfl)))
  obtain ⟨i, j, e, ⟨q1, q2, q3, q4⟩, q⟩ := q1
  subst e
  cases r1 with
  | cons r rr =>
    cases rr with
    | cons r' rr =>
      cases rr
      obtain ⟨t, rfl⟩ := r
      obtain ⟨t', rfl⟩ := r'
      exact call_range_2 (range_it I1 q1 q2 q3 q4 q)

/-! ### for -/
/-- W: the invariant by the turn and a measure; N: what the body is to reach -/
def tFor (wi : TI) (g : TG) (tb : TS) : TS := fun D σ H => wi σ H fun J H1 => ∃ W : Nat → Nat → St → Hp → Prop, (∃ m, W 0 m σ H1) ∧ ∀ i m σ H, W i m σ H →
  (J.stop i H ∧ D.nx σ H) ∨ (J.go i H ∧ ∃ N : St → Hp → Prop, (∀ σ' H', N σ' H' → ∃ m', m' < m ∧ W (i + 1) m' σ' H') ∧ ∀ x H', J.yld i H x H' → g x σ H' fun σ2 H2 => tb { D with nx := N, ct := N, bk := D.nx } σ2 H2)
/-- the records at fp as they stand -/
def pinsAt (fp : List Addr) (h : Heap) : List (Addr × Obj) := fp.filterMap fun b => (h.get? b).map fun o => (b, o)
theorem mem_pinsAt {fp : List Addr} {h : Heap} {b : Addr} {o : Obj} (hb : b ∈ fp) (e : h.get? b = some o) : (b, o) ∈ pinsAt fp h := List.mem_filterMap.mpr ⟨b, hb, by rw [e]; rfl⟩
theorem of_pinsAt {fp : List Addr} {h : Heap} {p : Addr × Obj} (hp : p ∈ pinsAt fp h) : p.1 ∈ fp ∧ h.get? p.1 = some p.2 := by
  obtain ⟨b, hb, e⟩ := List.mem_filterMap.mp hp
  cases q : h.get? b with
  | none => rw [q] at e; cases e
  | some o =>
    rw [q] at e
    have e' : (b, o) = p := Option.some.inj e
    subst e'
    exact ⟨hb, q⟩
theorem Inv.pinned {pins : List (Addr × Obj)} {σ : St} {H : Hp} {s : Shared} {fp : List Addr} (I : Inv X pins σ H s) (hf : ∀ b ∈ fp, FpOk X pins H b) (ho : ∀ b ∈ fp, ∃ o, s.heap.get? b = some o ∧ ∀ v, o.data ≠ .cell v) : Inv X (pins ++ pinsAt fp s.heap) σ H s :=
  I.pins_of fun p hp => (List.mem_append.mp hp).elim (fun z => I.pin p (List.mem_append_right _ z)) fun z => by
    obtain ⟨hb, e⟩ := of_pinsAt z
    obtain ⟨f0, f1, f2, _⟩ := hf p.1 hb
    obtain ⟨o, e', d⟩ := ho p.1 hb
    rw [e] at e'; cases e'
    exact ⟨e, f0, f1, f2, d⟩
theorem Inv.unpinned {pins pl : List (Addr × Obj)} {σ : St} {H : Hp} {s : Shared} (I : Inv X (pins ++ pl) σ H s) : Inv X pins σ H s := I.pins_of fun p hp => I.pin p (List.mem_append_right _ (List.mem_append_left _ hp))
theorem ps_for {iter : Expr} {body : List Stmt} {wi : TI} {g : TG} {tb : TS} {pos : Pos} (hp : PassesOwn (model X.prog X.w) X.A X.env X.xe) (hc : X.calm = true) (hi : PI X tg iter wi) (hg : PG X tg g) (hb : PSs X body tb)
    (hs : ∀ x, foldedSetIterable iter X.env x = pure x := by intro _; rfl) : PS X (.For tg iter body [] pos) (tFor wi g tb) := by
  intro pins s σ H D I h
  refine wpAny_For (thn (hi pins s σ H _ I h) fun v s1 h1 => thn h1 fun itv s2 h2 => ?_) hs
  obtain ⟨it, fp, tn, J, H2, e, I2, T, st2, f2, W, ⟨m0, w0⟩, turn⟩ := h2
  subst e
  -- what stays true of the iterator's objects through the loop
  have stat : ∀ {H' : Hp}, (∀ b ∈ fp, H' b = none) → ∀ b ∈ fp, FpOk X pins H' b := fun hn b hb => ⟨hn b hb, (f2 b hb).2⟩
  refine codeAny_forLoop_any (fun n s' => ∃ i σ' H', Inv X pins σ' H' s' ∧ tn i s'.heap ∧ (∀ b ∈ fp, H' b = none) ∧ W i n σ' H') ?_ m0 ⟨0, σ, H2, I2, st2, fun b hb => (f2 b hb).1, w0⟩
  rintro n s3 ⟨i, σ3, H3, I3, st3, fr3, w3⟩
  rcases turn i n σ3 H3 w3 with ⟨stop, qn⟩ | ⟨go, N, hN, step⟩
  · refine wpAny_passesOwn hp (thn (T.done X rfl rfl rfl hc i pins s3 σ3 H3 X.xe I3 (stat fr3) st3 stop) fun r s4 ⟨hr, I4⟩ => ?_)
    subst hr
    exact wpAny_execs_nil ⟨σ3, H3, I4, qn⟩
  · refine wpAny_passesOwn hp (thn (T.item X rfl rfl rfl hc i pins s3 σ3 H3 X.xe I3 (stat fr3) st3 go) fun r s4 ⟨u, hr, h4⟩ => ?_)
    subst hr
    refine wpAny_passesOwn hp (thn h4 fun _ s5 ⟨x, H5, I5, r5, y5, st5, fr5⟩ => ?_)
    have I5' := I5.pinned (stat fr5) (T.obj _ _ st5)
    refine wpAny_passesOwn hp (thn (hg _ s5 σ3 H5 x u _ I5' r5 (step x H5 y5)) fun _ s6 ⟨σ6, H6, I6, q6⟩ => ?_)
    refine wpAny_passesOwn hp (thn (hb _ s6 σ6 H6 _ I6 q6) fun f s7 q7 => ?_)
    have again : ∀ {σ7 : St} {H7 : Hp}, Inv X (pins ++ pinsAt fp s5.heap) σ7 H7 s7 → N σ7 H7 → ∃ m, m < n ∧ ∃ i σ' H', Inv X pins σ' H' s7 ∧ tn i s7.heap ∧ (∀ b ∈ fp, H' b = none) ∧ W i m σ' H' := fun {σ7 H7} I7 n7 => by
      obtain ⟨m', hm, w7⟩ := hN σ7 H7 n7
      refine ⟨m', hm, i + 1, σ7, H7, I7.unpinned, T.keep _ _ _ st5 fun b hb o e => (I7.pin (b, o) (List.mem_append_right _ (List.mem_append_right _ (mem_pinsAt hb e)))).1, fun b hb => ?_, w7⟩
      obtain ⟨o, e, d⟩ := T.obj _ _ st5 b hb
      exact (I7.pin (b, o) (List.mem_append_right _ (List.mem_append_right _ (mem_pinsAt hb e)))).2.1
    cases f with
    | next => obtain ⟨σ7, H7, I7, n7⟩ := q7; exact again I7 n7
    | cont => obtain ⟨σ7, H7, I7, n7⟩ := q7; exact again I7 n7
    | brk => obtain ⟨σ7, H7, I7, q7⟩ := q7; exact ⟨σ7, H7, I7.unpinned, q7⟩
    | ret v => obtain ⟨x7, σ7, H7, I7, r7, q7⟩ := q7; exact ⟨x7, σ7, H7, I7.unpinned, r7, q7⟩
end

/-! ### the forms one uses -/
/-- over a list that the body leaves as it is -/
theorem for_list {K : PySem.W.Frag} {a : Addr} {xs : List V} {g : TG} {tb : TS} {D : Ends} {σ : St} {H : Hp} (Pv : Nat → St → Hp → Prop) (h0 : Pv 0 σ H) (hl : ∀ i σ H, i ≤ xs.length → Pv i σ H → SqL K H a xs)
    (hs : ∀ i x σ H, xs[i]? = some x → Pv i σ H → g x σ H fun σ2 H2 => tb { D with nx := Pv (i + 1), ct := Pv (i + 1), bk := D.nx } σ2 H2) (hd : ∀ σ H, Pv xs.length σ H → D.nx σ H) :
    ∃ W : Nat → Nat → St → Hp → Prop, (∃ m, W 0 m σ H) ∧ ∀ i m σ H, W i m σ H →
      ((Itl K a).stop i H ∧ D.nx σ H) ∨ ((Itl K a).go i H ∧ ∃ N : St → Hp → Prop, (∀ σ' H', N σ' H' → ∃ m', m' < m ∧ W (i + 1) m' σ' H') ∧ ∀ x H', (Itl K a).yld i H x H' → g x σ H' fun σ2 H2 => tb { D with nx := N, ct := N, bk := D.nx } σ2 H2) := by
  refine ⟨fun i m σ H => m = xs.length - i ∧ i ≤ xs.length ∧ Pv i σ H, ⟨xs.length, by simp, Nat.zero_le _, h0⟩, ?_⟩
  rintro i m σ H ⟨rfl, hi, p⟩
  have q := hl i σ H hi p
  by_cases hlt : i < xs.length
  · refine .inr ⟨⟨xs, xs[i], q, by simp [hlt]⟩, Pv (i + 1), fun σ' H' p' => ⟨xs.length - (i + 1), by omega, rfl, hlt, p'⟩, fun x H' y => ?_⟩
    obtain ⟨e, y⟩ := y
    subst e
    exact hs i x σ _ (y xs q) p
  · have e : i = xs.length := by omega
    subst e
    exact .inl ⟨⟨xs, q, Nat.le_refl _⟩, hd σ H p⟩
theorem for_tup {K : PySem.W.Frag} {a : Addr} {xs : List V} {g : TG} {tb : TS} {D : Ends} {σ : St} {H : Hp} (Pv : Nat → St → Hp → Prop) (h0 : Pv 0 σ H) (hl : ∀ i σ H, i ≤ xs.length → Pv i σ H → SqT K H a xs)
    (hs : ∀ i x σ H, xs[i]? = some x → Pv i σ H → g x σ H fun σ2 H2 => tb { D with nx := Pv (i + 1), ct := Pv (i + 1), bk := D.nx } σ2 H2) (hd : ∀ σ H, Pv xs.length σ H → D.nx σ H) :
    ∃ W : Nat → Nat → St → Hp → Prop, (∃ m, W 0 m σ H) ∧ ∀ i m σ H, W i m σ H →
      ((Itt K a).stop i H ∧ D.nx σ H) ∨ ((Itt K a).go i H ∧ ∃ N : St → Hp → Prop, (∀ σ' H', N σ' H' → ∃ m', m' < m ∧ W (i + 1) m' σ' H') ∧ ∀ x H', (Itt K a).yld i H x H' → g x σ H' fun σ2 H2 => tb { D with nx := N, ct := N, bk := D.nx } σ2 H2) := by
  refine ⟨fun i m σ H => m = xs.length - i ∧ i ≤ xs.length ∧ Pv i σ H, ⟨xs.length, by simp, Nat.zero_le _, h0⟩, ?_⟩
  rintro i m σ H ⟨rfl, hi, p⟩
  have q := hl i σ H hi p
  by_cases hlt : i < xs.length
  · refine .inr ⟨⟨xs, xs[i], q, by simp [hlt]⟩, Pv (i + 1), fun σ' H' p' => ⟨xs.length - (i + 1), by omega, rfl, hlt, p'⟩, fun x H' y => ?_⟩
    obtain ⟨e, y⟩ := y
    subst e
    exact hs i x σ _ (y xs q) p
  · have e : i = xs.length := by omega
    subst e
    exact .inl ⟨⟨xs, q, Nat.le_refl _⟩, hd σ H p⟩
theorem for_range {lo : Int} {n : Nat} {g : TG} {tb : TS} {D : Ends} {σ : St} {H : Hp} (Pv : Nat → St → Hp → Prop) (h0 : Pv 0 σ H)
    (hs : ∀ i σ H, i < n → Pv i σ H → g (.int (lo + i)) σ H fun σ2 H2 => tb { D with nx := Pv (i + 1), ct := Pv (i + 1), bk := D.nx } σ2 H2) (hd : ∀ σ H, Pv n σ H → D.nx σ H) :
    ∃ W : Nat → Nat → St → Hp → Prop, (∃ m, W 0 m σ H) ∧ ∀ i m σ H, W i m σ H →
      ((Itr lo n).stop i H ∧ D.nx σ H) ∨ ((Itr lo n).go i H ∧ ∃ N : St → Hp → Prop, (∀ σ' H', N σ' H' → ∃ m', m' < m ∧ W (i + 1) m' σ' H') ∧ ∀ x H', (Itr lo n).yld i H x H' → g x σ H' fun σ2 H2 => tb { D with nx := N, ct := N, bk := D.nx } σ2 H2) := by
  refine ⟨fun i m σ H => m = n - i ∧ i ≤ n ∧ Pv i σ H, ⟨n, by simp, Nat.zero_le _, h0⟩, ?_⟩
  rintro i m σ H ⟨rfl, hi, p⟩
  by_cases hlt : i < n
  · refine .inr ⟨hlt, Pv (i + 1), fun σ' H' p' => ⟨n - (i + 1), by omega, rfl, hlt, p'⟩, fun x H' y => ?_⟩
    obtain ⟨e, y⟩ := y
    subst e y
    exact hs i σ _ hlt p
  · have e : i = n := by omega
    subst e
    exact .inl ⟨Nat.le_refl _, hd σ H p⟩
/-- while, by a word and a measure of the state -/
theorem while_by {c : TT} {tb : TS} {D : Ends} {σ : St} {H : Hp} (Pv : St → Hp → Prop) (μ : St → Hp → Nat) (h0 : Pv σ H)
    (hs : ∀ σ H, Pv σ H → c σ H fun b H1 => if b = true then tb { D with nx := fun σ' H' => Pv σ' H' ∧ μ σ' H' < μ σ H, ct := fun σ' H' => Pv σ' H' ∧ μ σ' H' < μ σ H, bk := D.nx } σ H1 else D.nx σ H1)
    (mono : ∀ σ H Q Q', (∀ b H1, Q b H1 → Q' b H1) → c σ H Q → c σ H Q') : tWhile c tb D σ H := by
  refine ⟨fun m σ H => m = μ σ H ∧ Pv σ H, ⟨_, rfl, h0⟩, ?_⟩
  rintro m σ H ⟨rfl, p⟩
  refine mono σ H _ _ (fun b H1 q => ?_) (hs σ H p)
  cases b with
  | true => exact ⟨_, fun σ' H' ⟨p', l⟩ => ⟨_, l, rfl, p'⟩, q⟩
  | false => exact q
end L2

namespace L2
open PySem PySem.Spec PyProof.Rows

abbrev R2 := V → V → Hp → VK → Prop
/-- a two-place operation on values: f is binaryOp op, inplaceOp op or compareOp op -/
def OpR (X : Cx) (f : Value → Value → Sem Value) (r : R2) : Prop :=
  ∀ (pins : List (Addr × Obj)) (s : Shared) (σ : St) (H : Hp) (x y : V) (v u : Value) (Q : VK), Inv X pins σ H s → RelV x v → RelV y u → r x y H Q →
    wpAny (model X.prog X.w) X.A (f v u) (EP X pins σ Q) X.xe s
/-- a one-place operation -/
def UnR (X : Cx) (f : Value → Sem Value) (r : V → Hp → VK → Prop) : Prop :=
  ∀ (pins : List (Addr × Obj)) (s : Shared) (σ : St) (H : Hp) (x : V) (v : Value) (Q : VK), Inv X pins σ H s → RelV x v → r x H Q →
    wpAny (model X.prog X.w) X.A (f v) (EP X pins σ Q) X.xe s
/-- a call of a value that is known (a builtin, a type) with values -/
def CallR (X : Cx) (f : Value) (r : List V → Hp → VK → Prop) : Prop :=
  ∀ (pins : List (Addr × Obj)) (s : Shared) (σ : St) (H : Hp) (xs : List V) (us : List Value) (Q : VK), Inv X pins σ H s → Vals xs us → r xs H Q →
    wpAny (model X.prog X.w) X.A (call f us) (EP X pins σ Q) X.xe s
/-- a value's truth -/
def TruR (X : Cx) (r : V → Hp → (Bool → Hp → Prop) → Prop) : Prop :=
  ∀ (pins : List (Addr × Obj)) (s : Shared) (σ : St) (H : Hp) (x : V) (v : Value) (Q : Bool → Hp → Prop), Inv X pins σ H s → RelV x v → r x H Q →
    wpAny (model X.prog X.w) X.A (truthy v) (TP X pins σ Q) X.xe s

def tOp (r : R2) (ta tb : TE) : TE := fun σ H Q => ta σ H fun x H1 => tb σ H1 fun y H2 => r x y H2 Q
def tUn (r : V → Hp → VK → Prop) (ta : TE) : TE := fun σ H Q => ta σ H fun x H1 => r x H1 Q
/-- ints in, under C, and a value out -/
def rI (C : Int → Int → Prop) (g : Int → Int → V) : R2 := fun x y H Q => ∃ i j, x = .int i ∧ y = .int j ∧ C i j ∧ Q (g i j) H
def rI0 (g : Int → Int → V) : R2 := fun x y H Q => ∃ i j, x = .int i ∧ y = .int j ∧ Q (g i j) H
def rU (g : Int → V) : V → Hp → VK → Prop := fun x H Q => ∃ i, x = .int i ∧ Q (g i) H

section
variable {X : Cx} {a b c : Expr} {ta tb tc : TE} {pos : Pos}

theorem binT (ha : PE X a ta) (hb : PE X b tb) {pins : List (Addr × Obj)} {s : Shared} {σ : St} {H : Hp} {R : V → V → Hp → Prop} (I : Inv X pins σ H s)
    (h : ta σ H fun x H1 => tb σ H1 fun y H2 => R x y H2) {Q : Value → Shared → Prop} {f : Value → Value → Sem Value}
    (hf : ∀ v u s2 x y H2, Inv X pins σ H2 s2 → RelV x v → RelV y u → R x y H2 → wpAny (model X.prog X.w) X.A (f v u) Q X.xe s2) :
    wpAny (model X.prog X.w) X.A (eval a X.env) (fun v s₁ => wpAny (model X.prog X.w) X.A (eval b X.env) (fun u s₂ => wpAny (model X.prog X.w) X.A (f v u) Q X.xe s₂) X.xe s₁) X.xe s := by
  refine thn (ha pins s σ H _ I h) fun v s1 ⟨x, H1, I1, r1, q1⟩ => ?_
  refine thn (hb pins s1 σ H1 _ I1 q1) fun u s2 ⟨y, H2, I2, r2, q2⟩ => ?_
  exact hf v u s2 x y H2 I2 r1 r2 q2

theorem pe_op {op : Operator} {r : R2} (ho : OpR X (binaryOp op) r) (ha : PE X a ta) (hb : PE X b tb) : PE X (.BinOp a op b pos) (tOp r ta tb) := by
  intro pins s σ H Q I h
  exact wpAny_BinOp (binT ha hb I h fun v u s2 x y H2 I2 rx ry q => ho pins s2 σ H2 x y v u Q I2 rx ry q)
theorem pe_un {op : UnaryOp} {r : V → Hp → VK → Prop} (ho : UnR X (unaryOp op) r) (ha : PE X a ta) : PE X (.UnaryOp op a pos) (tUn r ta) := by
  intro pins s σ H Q I h
  exact UnaryOp_ (thn (ha pins s σ H _ I h) fun v s1 ⟨x, H1, I1, r1, q1⟩ => ho pins s1 σ H1 x v Q I1 r1 q1)
/-- a op= e at a name: the name's slot i -/
theorem augR {op : Operator} {r : R2} (ho : OpR X (inplaceOp op) r) {pins : List (Addr × Obj)} {s : Shared} {σ : St} {H : Hp} {x y : V} {v u : Value} {Q : VK} (I : Inv X pins σ H s)
    (rx : RelV x v) (ry : RelV y u) (q : r x y H Q) : wpAny (model X.prog X.w) X.A (inplaceOp op v u) (EP X pins σ Q) X.xe s := ho pins s σ H x y v u Q I rx ry q

/-! ### ints -/
theorem opI {f : Value → Value → Sem Value} {C : Int → Int → Prop} {g : Int → Int → Int}
    (rule : ∀ (i j : Int) (t u : Tok) (s : Shared) (Q : Value → Shared → Prop) (E : Value → Shared → Prop), C i j → Q (.int (g i j) s.toks) { s with toks := s.toks + 1 } → wpAny (model X.prog X.w) X.A (f (.int i t) (.int j u)) Q E s) :
    OpR X f (rI C fun i j => .int (g i j)) := by
  intro pins s σ H x y v u Q I rx ry h
  obtain ⟨i, j, rfl, rfl, hc, q⟩ := h
  obtain ⟨t, rfl⟩ := rx
  obtain ⟨t', rfl⟩ := ry
  exact rule i j t t' s _ _ hc ⟨.int (g i j), H, I.tok _, ⟨_, rfl⟩, q⟩
theorem opI0 {f : Value → Value → Sem Value} {g : Int → Int → Int}
    (rule : ∀ (i j : Int) (t u : Tok) (s : Shared) (Q : Value → Shared → Prop) (E : Value → Shared → Prop), Q (.int (g i j) s.toks) { s with toks := s.toks + 1 } → wpAny (model X.prog X.w) X.A (f (.int i t) (.int j u)) Q E s) :
    OpR X f (rI0 fun i j => .int (g i j)) := by
  intro pins s σ H x y v u Q I rx ry h
  obtain ⟨i, j, rfl, rfl, q⟩ := h
  obtain ⟨t, rfl⟩ := rx
  obtain ⟨t', rfl⟩ := ry
  exact rule i j t t' s _ _ ⟨.int (g i j), H, I.tok _, ⟨_, rfl⟩, q⟩
theorem opB0 {f : Value → Value → Sem Value} {g : Int → Int → Bool}
    (rule : ∀ (i j : Int) (t u : Tok) (s : Shared) (Q : Value → Shared → Prop) (E : Value → Shared → Prop), Q (.bool (g i j)) s → wpAny (model X.prog X.w) X.A (f (.int i t) (.int j u)) Q E s) :
    OpR X f (rI0 fun i j => .bl (g i j)) := by
  intro pins s σ H x y v u Q I rx ry h
  obtain ⟨i, j, rfl, rfl, q⟩ := h
  obtain ⟨t, rfl⟩ := rx
  obtain ⟨t', rfl⟩ := ry
  exact rule i j t t' s _ _ ⟨.bl (g i j), H, I, rfl, q⟩

def CDiv (i j : Int) : Prop := 0 < j ∧ j < 1073741824
def CDivN (i j : Int) : Prop := j ≠ 0 ∧ j.natAbs < 1073741824
def CPow (i j : Int) : Prop := 0 ≤ j ∧ j ≤ 1000000 ∧ i.natAbs < 2 ^ 64
def CMul (i j : Int) : Prop := (-(2 ^ 64) < i ∧ i < 2 ^ 64) ∨ (-(2 ^ 64) < j ∧ j < 2 ^ 64)
theorem CMul.ok {i j : Int} (h : CMul i j) : IntMulOk i j := by
  rcases h with ⟨h1, h2⟩ | ⟨h1, h2⟩
  · exact .of_left (intBits_le_64 h1 h2)
  · exact .of_right (intBits_le_64 h1 h2)
theorem two_pow_nn (k : Nat) : (0 : Int) ≤ 2 ^ k := by
  rw [two_pow_cast]
  exact Int.natCast_nonneg _

theorem op_add : OpR X (binaryOp .Add) (rI0 fun i j => .int (i + j)) := opI0 fun _ _ _ _ _ _ _ q => add_int q
theorem op_sub : OpR X (binaryOp .Sub) (rI0 fun i j => .int (i - j)) := opI0 fun _ _ _ _ _ _ _ q => sub_int q
theorem op_mul : OpR X (binaryOp .Mult) (rI CMul fun i j => .int (i * j)) := opI fun _ _ _ _ _ _ _ hc q => mul_int q hc.ok
/-- // by a positive divisor -/
theorem op_fdiv : OpR X (binaryOp .FloorDiv) (rI CDiv fun i j => .int (i / j)) := opI fun i j _ _ _ _ _ hc q => by
  have h1 : (0 : Int) < j := hc.1
  have h2 : j < 1073741824 := hc.2
  exact floordiv_int (by omega) (by rw [Int.fdiv_eq_ediv_of_nonneg i (by omega)]; exact q) (.inl (PyProof.noPylong_small (by omega)))
theorem op_fdivN : OpR X (binaryOp .FloorDiv) (rI CDivN fun i j => .int (i.fdiv j)) := opI fun _ _ _ _ _ _ _ hc q => floordiv_int hc.1 q (.inl (PyProof.noPylong_small hc.2))
/-- % by a positive divisor of any size -/
theorem op_mod : OpR X (binaryOp .Mod) (rI (fun _ j => 0 < j) fun i j => .int (i % j)) := opI fun i j _ _ _ _ _ hc q => by
  have h1 : (0 : Int) < j := hc
  exact mod_int' (by omega) (by rw [Int.fmod_eq_emod_of_nonneg i (by omega)]; exact q)
theorem op_modN : OpR X (binaryOp .Mod) (rI (fun _ j => j ≠ 0) fun i j => .int (i.fmod j)) := opI fun _ _ _ _ _ _ _ hc q => mod_int' hc q
theorem op_pow : OpR X (binaryOp .Pow) (rI CPow fun i j => .int (i ^ j.toNat)) := opI fun _ _ _ _ _ _ _ hc q => pow_int_small hc.1 hc.2.1 hc.2.2 q
theorem op_shl : OpR X (binaryOp .LShift) (rI CPow fun i j => .int (i * 2 ^ j.toNat)) := opI fun _ _ _ _ _ _ _ hc q => lshift_int_small hc.1 hc.2.1 hc.2.2 q
theorem op_shr : OpR X (binaryOp .RShift) (rI (fun _ j => 0 ≤ j) fun i j => .int (i / 2 ^ j.toNat)) := opI fun i j _ _ _ _ _ hc q =>
  rshift_int hc (by rw [Int.fdiv_eq_ediv_of_nonneg i (two_pow_nn _)]; exact q)
theorem op_and : OpR X (binaryOp .BitAnd) (rI0 fun i j => .int (Builtin.bitAnd i j)) := opI0 fun _ _ _ _ _ _ _ q => and_int q
theorem op_or : OpR X (binaryOp .BitOr) (rI0 fun i j => .int (Builtin.bitOr i j)) := opI0 fun _ _ _ _ _ _ _ q => or_int q
theorem op_xor : OpR X (binaryOp .BitXor) (rI0 fun i j => .int (Builtin.bitXor i j)) := opI0 fun _ _ _ _ _ _ _ q => xor_int q

theorem iop_add : OpR X (inplaceOp .Add) (rI0 fun i j => .int (i + j)) := opI0 fun _ _ _ _ _ _ _ q => iadd_int q
theorem iop_sub : OpR X (inplaceOp .Sub) (rI0 fun i j => .int (i - j)) := opI0 fun _ _ _ _ _ _ _ q => isub_int q
theorem iop_mul : OpR X (inplaceOp .Mult) (rI CMul fun i j => .int (i * j)) := opI fun _ _ _ _ _ _ _ hc q => imul_int q hc.ok
theorem iop_fdiv : OpR X (inplaceOp .FloorDiv) (rI CDiv fun i j => .int (i / j)) := opI fun i j _ _ _ _ _ hc q => by
  have h1 : (0 : Int) < j := hc.1
  have h2 : j < 1073741824 := hc.2
  exact ifloordiv_int (by omega) (by rw [Int.fdiv_eq_ediv_of_nonneg i (by omega)]; exact q) (.inl (PyProof.noPylong_small (by omega)))
theorem iop_mod : OpR X (inplaceOp .Mod) (rI (fun _ j => 0 < j) fun i j => .int (i % j)) := opI fun i j _ _ _ _ _ hc q => by
  have h1 : (0 : Int) < j := hc
  exact imod_int (by omega) (by rw [Int.fmod_eq_emod_of_nonneg i (by omega)]; exact q)
theorem iop_shl : OpR X (inplaceOp .LShift) (rI CPow fun i j => .int (i * 2 ^ j.toNat)) := opI fun _ _ _ _ _ _ _ hc q => ilshift_int_small hc.1 hc.2.1 hc.2.2 q
theorem iop_shr : OpR X (inplaceOp .RShift) (rI (fun _ j => 0 ≤ j) fun i j => .int (i / 2 ^ j.toNat)) := opI fun i j _ _ _ _ _ hc q =>
  irshift_int hc (by rw [Int.fdiv_eq_ediv_of_nonneg i (two_pow_nn _)]; exact q)
theorem iop_and : OpR X (inplaceOp .BitAnd) (rI0 fun i j => .int (Builtin.bitAnd i j)) := opI0 fun _ _ _ _ _ _ _ q => iand_int q
theorem iop_or : OpR X (inplaceOp .BitOr) (rI0 fun i j => .int (Builtin.bitOr i j)) := opI0 fun _ _ _ _ _ _ _ q => ior_int q
theorem iop_xor : OpR X (inplaceOp .BitXor) (rI0 fun i j => .int (Builtin.bitXor i j)) := opI0 fun _ _ _ _ _ _ _ q => ixor_int q

theorem unI {f : Value → Sem Value} {g : Int → Int}
    (rule : ∀ (i : Int) (t : Tok) (s : Shared) (Q : Value → Shared → Prop) (E : Value → Shared → Prop), Q (.int (g i) s.toks) { s with toks := s.toks + 1 } → wpAny (model X.prog X.w) X.A (f (.int i t)) Q E s) :
    UnR X f (rU fun i => .int (g i)) := by
  intro pins s σ H x v Q I rx h
  obtain ⟨i, rfl, q⟩ := h
  obtain ⟨t, rfl⟩ := rx
  exact rule i t s _ _ ⟨.int (g i), H, I.tok _, ⟨_, rfl⟩, q⟩
theorem un_neg : UnR X (unaryOp .USub) (rU fun i => .int (-i)) := unI fun _ _ _ _ _ q => neg_int q
theorem un_inv : UnR X (unaryOp .Invert) (rU fun i => .int (Builtin.bitNot i)) := unI fun _ _ _ _ _ q => invert_int q

/-! ### bools among ints: n += (a < b) -/
theorem op_add_ib : OpR X (binaryOp .Add) (fun x y H Q => ∃ i k, x = .int i ∧ y = .bl k ∧ Q (.int (i + b2i k)) H) := by
  intro pins s σ H x y v u Q I rx ry h
  obtain ⟨i, k, rfl, rfl, q⟩ := h
  obtain ⟨t, rfl⟩ := rx
  cases ry
  exact add_int_bool ⟨.int (i + b2i k), H, I.tok _, ⟨_, rfl⟩, q⟩
end

/-! ### comparisons -/
/-- the scalars that == tells apart as data does -/
def scal : V → V → Bool
  | .non, .non => true | .non, .int _ => true | .int _, .non => true | .non, .bl _ => true | .bl _, .non => true | .non, .str _ => true | .str _, .non => true
  | .int _, .int _ => true | .bl _, .bl _ => true | .str _, .str _ => true | .byt _, .byt _ => true
  | .int _, .str _ => true | .str _, .int _ => true | .bl _, .str _ => true | .str _, .bl _ => true
  | _, _ => false
def rEq : R2 := fun x y H Q => scal x y = true ∧ Q (.bl (decide (x = y))) H
def rNe : R2 := fun x y H Q => scal x y = true ∧ Q (.bl (!decide (x = y))) H

theorem dec_int {i j : Int} : decide (V.int i = V.int j) = (i == j) := by
  rw [Bool.eq_iff_iff]
  simp
theorem dec_bl {i j : Bool} : decide (V.bl i = V.bl j) = (i == j) := by
  rw [Bool.eq_iff_iff]
  simp
theorem dec_str {i j : Str} : decide (V.str i = V.str j) = (i == j) := by
  rw [Bool.eq_iff_iff]
  simp
theorem dec_byt {i j : Array UInt8} : decide (V.byt i = V.byt j) = (i.toList == j.toList) := by
  rw [Bool.eq_iff_iff]
  cases i
  cases j
  simp

section
variable {X : Cx} {a b c : Expr} {ta tb tc : TE} {pos : Pos}
theorem fin_bl {pins : List (Addr × Obj)} {σ : St} {H : Hp} {s : Shared} {Q : VK} {k k' : Bool} (I : Inv X pins σ H s) (q : Q (.bl k) H) (e : k = k') : EP X pins σ Q (.bool k') s := by
  subst e
  exact ⟨.bl k, H, I, rfl, q⟩
theorem op_eq : OpR X (compareOp .Eq) rEq := by
  intro pins s σ H x y v u Q I rx ry h
  obtain ⟨hs, q⟩ := h
  cases x with
  | non =>
    cases rx
    cases y with
    | non => cases ry; exact PySem.EqNone.eq_none_none (fin_bl I q (by simp))
    | bl j => cases ry; exact PySem.EqNone.eq_none_bool (fin_bl I q (by simp))
    | int j => obtain ⟨t', rfl⟩ := ry; exact PySem.EqNone.eq_none_int (fin_bl I q (by simp))
    | str j => obtain ⟨t', rfl⟩ := ry; exact PySem.EqNone.eq_none_str (fin_bl I q (by simp))
    | _ => exact absurd (show false = true from hs) Bool.false_ne_true
  | bl i =>
    cases rx
    cases y with
    | non => cases ry; exact PySem.EqNone.eq_bool_none (fin_bl I q (by simp))
    | bl j => cases ry; exact eq_bool (fin_bl I q dec_bl)
    | str j => obtain ⟨t', rfl⟩ := ry; exact PySem.EqMixed.eq_bool_str (fin_bl I q (by simp))
    | _ => exact absurd (show false = true from hs) Bool.false_ne_true
  | int i =>
    obtain ⟨t, rfl⟩ := rx
    cases y with
    | non => cases ry; exact PySem.EqNone.eq_int_none (fin_bl I q (by simp))
    | int j => obtain ⟨t', rfl⟩ := ry; exact eq_int (fin_bl I q dec_int)
    | str j => obtain ⟨t', rfl⟩ := ry; exact PySem.EqMixed.eq_int_str (fin_bl I q (by simp))
    | _ => exact absurd (show false = true from hs) Bool.false_ne_true
  | str i =>
    obtain ⟨t, rfl⟩ := rx
    cases y with
    | non => cases ry; exact PySem.EqNone.eq_str_none (fin_bl I q (by simp))
    | bl j => cases ry; exact PySem.EqMixed.eq_str_bool (fin_bl I q (by simp))
    | int j => obtain ⟨t', rfl⟩ := ry; exact PySem.EqMixed.eq_str_int (fin_bl I q (by simp))
    | str j => obtain ⟨t', rfl⟩ := ry; exact eq_str (fin_bl I q dec_str)
    | _ => exact absurd (show false = true from hs) Bool.false_ne_true
  | byt i =>
    obtain ⟨t, rfl⟩ := rx
    cases y with
    | byt j => obtain ⟨t', rfl⟩ := ry; exact PySem.W.eq_bytes (fin_bl I q dec_byt)
    | _ => exact absurd (show false = true from hs) Bool.false_ne_true
  | _ => cases y <;> exact absurd (show false = true from hs) Bool.false_ne_true
theorem op_ne : OpR X (compareOp .NotEq) rNe := by
  intro pins s σ H x y v u Q I rx ry h
  obtain ⟨hs, q⟩ := h
  cases x with
  | non =>
    cases rx
    cases y with
    | non => cases ry; exact PySem.EqNone.ne_none_none (fin_bl I q (by simp))
    | bl j => cases ry; exact PySem.EqNone.ne_none_bool (fin_bl I q (by simp))
    | int j => obtain ⟨t', rfl⟩ := ry; exact PySem.EqNone.ne_none_int (fin_bl I q (by simp))
    | str j => obtain ⟨t', rfl⟩ := ry; exact PySem.EqNone.ne_none_str (fin_bl I q (by simp))
    | _ => exact absurd (show false = true from hs) Bool.false_ne_true
  | bl i =>
    cases rx
    cases y with
    | non => cases ry; exact PySem.EqNone.ne_bool_none (fin_bl I q (by simp))
    | bl j => cases ry; exact ne_bool (fin_bl I q (congrArg not dec_bl))
    | str j => obtain ⟨t', rfl⟩ := ry; exact PySem.EqMixed.ne_bool_str (fin_bl I q (by simp))
    | _ => exact absurd (show false = true from hs) Bool.false_ne_true
  | int i =>
    obtain ⟨t, rfl⟩ := rx
    cases y with
    | non => cases ry; exact PySem.EqNone.ne_int_none (fin_bl I q (by simp))
    | int j => obtain ⟨t', rfl⟩ := ry; exact ne_int (fin_bl I q (congrArg not dec_int))
    | str j => obtain ⟨t', rfl⟩ := ry; exact PySem.EqMixed.ne_int_str (fin_bl I q (by simp))
    | _ => exact absurd (show false = true from hs) Bool.false_ne_true
  | str i =>
    obtain ⟨t, rfl⟩ := rx
    cases y with
    | non => cases ry; exact PySem.EqNone.ne_str_none (fin_bl I q (by simp))
    | bl j => cases ry; exact PySem.EqMixed.ne_str_bool (fin_bl I q (by simp))
    | int j => obtain ⟨t', rfl⟩ := ry; exact PySem.EqMixed.ne_str_int (fin_bl I q (by simp))
    | str j => obtain ⟨t', rfl⟩ := ry; exact ne_str (fin_bl I q (congrArg not dec_str))
    | _ => exact absurd (show false = true from hs) Bool.false_ne_true
  | byt i =>
    obtain ⟨t, rfl⟩ := rx
    cases y with
    | byt j => obtain ⟨t', rfl⟩ := ry; exact PySem.W.ne_bytes (fin_bl I q (congrArg not dec_byt))
    | _ => exact absurd (show false = true from hs) Bool.false_ne_true
  | _ => cases y <;> exact absurd (show false = true from hs) Bool.false_ne_true

theorem op_lt : OpR X (compareOp .Lt) (rI0 fun i j => .bl (decide (i < j))) := opB0 fun _ _ _ _ _ _ _ q => lt_int q
theorem op_le : OpR X (compareOp .LtE) (rI0 fun i j => .bl (decide (i ≤ j))) := opB0 fun _ _ _ _ _ _ _ q => le_int q
theorem op_gt : OpR X (compareOp .Gt) (rI0 fun i j => .bl (decide (j < i))) := opB0 fun _ _ _ _ _ _ _ q => gt_int q
theorem op_ge : OpR X (compareOp .GtE) (rI0 fun i j => .bl (decide (j ≤ i))) := opB0 fun _ _ _ _ _ _ _ q => ge_int q
theorem op_lt_str : OpR X (compareOp .Lt) (fun x y H Q => ∃ i j, x = .str i ∧ y = .str j ∧ Q (.bl (decide (i.cps.toList < j.cps.toList))) H) := by
  intro pins s σ H x y v u Q I rx ry h
  obtain ⟨i, j, rfl, rfl, q⟩ := h
  obtain ⟨t, rfl⟩ := rx
  obtain ⟨t', rfl⟩ := ry
  exact lt_str (fin_bl I q rfl)
/-- the one string within the other -/
theorem op_in_str : OpR X (compareOp .In) (fun x y H Q => ∃ i j, x = .str i ∧ y = .str j ∧ Q (.bl (!(Builtin.Str.occurrences j i 0 j.length 1).isEmpty)) H) := by
  intro pins s σ H x y v u Q I rx ry h
  obtain ⟨i, j, rfl, rfl, q⟩ := h
  obtain ⟨t, rfl⟩ := rx
  obtain ⟨t', rfl⟩ := ry
  exact in_str (fin_bl I q rfl)

/-- is None, is not None: the right side a value none -/
theorem op_isN : OpR X (compareOp .Is) (fun x y H Q => y = .non ∧ Q (.bl (decide (x = .non))) H) := by
  intro pins s σ H x y v u Q I rx ry h
  obtain ⟨rfl, q⟩ := h
  cases ry
  refine is_none_gen (fin_bl I q ?_)
  cases x <;> first
    | (cases rx; rfl)
    | (obtain ⟨t, rfl⟩ := rx; rfl)
theorem op_notN : OpR X (compareOp .IsNot) (fun x y H Q => y = .non ∧ Q (.bl (!decide (x = .non))) H) := by
  intro pins s σ H x y v u Q I rx ry h
  obtain ⟨rfl, q⟩ := h
  cases ry
  refine isnot_none_gen (fin_bl I q ?_)
  cases x <;> first
    | (cases rx; rfl)
    | (obtain ⟨t, rfl⟩ := rx; rfl)

theorem op_notin_str : OpR X (compareOp .NotIn) (fun x y H Q => ∃ i j, x = .str i ∧ y = .str j ∧ Q (.bl (!(!(Builtin.Str.occurrences j i 0 j.length 1).isEmpty))) H) := by
  intro pins s σ H x y v u Q I rx ry h
  obtain ⟨i, j, rfl, rfl, q⟩ := h
  obtain ⟨t, rfl⟩ := rx
  obtain ⟨t', rfl⟩ := ry
  exact notIn_str (fin_bl I q rfl)
/-- is, is not of two objects that are tracked lists or instances -/
def isObj : HO → Bool
  | .lst _ => true
  | .ins _ _ _ => true
  | _ => false
theorem obj_there {pins : List (Addr × Obj)} {s : Shared} {σ : St} {H : Hp} {a : Addr} {o : HO} (I : Inv X pins σ H s) (h : H a = some o) (p : isObj o = true) : ∃ ob, s.heap.get? a = some ob ∧ ob.cls ≠ .type "tuple" := by
  cases o with
  | lst xs =>
    obtain ⟨_, its, n, _, e⟩ : xs.length ≤ sizeLine ∧ ∃ (its : List Value) (n : Nat), Vals xs its ∧ s.heap.get? a = some { cls := .type "list", data := .seq its.toArray n } := I.hok a _ h
    exact ⟨_, e, (by show Value.type "list" ≠ .type "tuple"; decide +kernel)⟩
  | ins C dx fs =>
    have x := I.hok a _ h
    obtain ⟨_, _, _, e, _⟩ := x
    exact ⟨_, e, (by show Value.ref C ≠ .type "tuple"; exact fun z => by cases z)⟩
  | _ => exact absurd (show false = true from p) Bool.false_ne_true
theorem op_is_ref : OpR X (compareOp .Is) (fun x y H Q => ∃ a b oa ob, x = .ref a ∧ y = .ref b ∧ H a = some oa ∧ isObj oa = true ∧ H b = some ob ∧ isObj ob = true ∧ Q (.bl (decide (a = b))) H) := by
  intro pins s σ H x y v u Q I rx ry h
  obtain ⟨a, b, oa, ob, rfl, rfl, ha, pa, hb, pb, q⟩ := h
  cases rx
  cases ry
  obtain ⟨o1, e1, n1⟩ := obj_there I ha pa
  obtain ⟨o2, e2, _⟩ := obj_there I hb pb
  by_cases z : a = b
  · subst z
    exact wpAny_is_ref_self (fin_bl I q (by simp))
  · exact wpAny_is_ref_other z e1 e2 n1 (fin_bl I q (by simp [z]))
theorem op_isnot_ref : OpR X (compareOp .IsNot) (fun x y H Q => ∃ a b oa ob, x = .ref a ∧ y = .ref b ∧ H a = some oa ∧ isObj oa = true ∧ H b = some ob ∧ isObj ob = true ∧ Q (.bl (!decide (a = b))) H) := by
  intro pins s σ H x y v u Q I rx ry h
  obtain ⟨a, b, oa, ob, rfl, rfl, ha, pa, hb, pb, q⟩ := h
  cases rx
  cases ry
  obtain ⟨o1, e1, n1⟩ := obj_there I ha pa
  obtain ⟨o2, e2, _⟩ := obj_there I hb pb
  by_cases z : a = b
  · subst z
    exact wpAny_isNot_ref_self (fin_bl I q (by simp))
  · exact wpAny_isNot_ref_other z e1 e2 n1 (fin_bl I q (by simp [z]))

/-- two rules for one operation: by cases -/
theorem OpR.or {f : Value → Value → Sem Value} {r r' : R2} (h : OpR X f r) (h' : OpR X f r') : OpR X f (fun x y H Q => r x y H Q ∨ r' x y H Q) := by
  intro pins s σ H x y v u Q I rx ry q
  rcases q with q | q
  · exact h pins s σ H x y v u Q I rx ry q
  · exact h' pins s σ H x y v u Q I rx ry q

theorem nomark (b : Expr) {op : CmpOp} (h : op ≠ .In := by decide) (h2 : op ≠ .NotIn := by decide) : behindInMarks op b = false := by
  have e1 : (op == CmpOp.In) = false := by cases op <;> first | rfl | exact absurd rfl h
  have e2 : (op == CmpOp.NotIn) = false := by cases op <;> first | rfl | exact absurd rfl h2
  cases b <;> simp [behindInMarks, e1, e2]
/-- a comparison as a value; hm: nomark b, or (for in, not in) by with_unfolding_all rfl -/
theorem pe_cmpR {op : CmpOp} {r : R2} (ho : OpR X (compareOp op) r) (ha : PE X a ta) (hb : PE X b tb) (hm : behindInMarks op b = false) : PE X (.Compare a [op] [b] pos) (tOp r ta tb) := by
  intro pins s σ H Q I h
  exact wpAny_Compare1 (binT ha hb I h fun v u s2 x y H2 I2 rx ry q => ho pins s2 σ H2 x y v u Q I2 rx ry q) hm
/-- a reading of a value as a test -/
def tTest (t : TE) : TT := fun σ H Q => t σ H fun x H' => ∃ k, x = .bl k ∧ Q k H'
theorem pt_cmpR {op : CmpOp} {r : R2} (ho : OpR X (compareOp op) r) (ha : PE X a ta) (hb : PE X b tb) (hm : behindInMarks op b = false) : PT X (.Compare a [op] [b] pos) (tTest (tOp r ta tb)) := by
  intro pins s σ H Q I h
  refine wpAny_isTrue_Compare1 (thn (ha pins s σ H _ I h) fun v s1 ⟨x, H1, I1, r1, q1⟩ => thn (hb pins s1 σ H1 _ I1 q1) fun u s2 ⟨y, H2, I2, r2, q2⟩ =>
    thn (ho pins s2 σ H2 x y v u _ I2 r1 r2 q2) fun c s3 ⟨z, H3, I3, r3, k, e, q3⟩ => ?_) hm
  subst e
  cases r3
  exact wpAny_truthy_bool ⟨H3, I3, q3⟩
/-- a op1 b op2 c -/
def tChain (r r' : R2) (ta tb tc : TE) : TE := fun σ H Q => ta σ H fun x H1 => tb σ H1 fun y H2 => r x y H2 fun z H3 => ∃ k, z = .bl k ∧
  (if k = true then tc σ H3 fun w' H4 => r' y w' H4 Q else Q (.bl false) H3)
theorem pe_chain {op op' : CmpOp} {r r' : R2} (ho : OpR X (compareOp op) r) (ho' : OpR X (compareOp op') r') (ha : PE X a ta) (hb : PE X b tb) (hc : PE X c tc)
    (hm : lastMarks [op, op'] [b, c] = false := by with_unfolding_all rfl) : PE X (.Compare a [op, op'] [b, c] pos) (tChain r r' ta tb tc) := by
  intro pins s σ H Q I h
  refine Compare_chain (thn (ha pins s σ H _ I h) fun v s1 ⟨x, H1, I1, r1, q1⟩ => chain_link (thn (hb pins s1 σ H1 _ I1 q1) fun u s2 ⟨y, H2, I2, r2, q2⟩ =>
    thn (ho pins s2 σ H2 x y v u _ I2 r1 r2 q2) fun d s3 ⟨z, H3, I3, r3, k, e, q3⟩ => ?_)) hm
  subst e
  cases r3
  refine wpAny_truthy_bool ?_
  cases k with
  | false => exact ite_ff ⟨.bl false, H3, I3, rfl, q3⟩
  | true => exact ite_tt (chain_last (thn (hc pins s3 σ H3 _ I3 q3) fun w' s4 ⟨z', H4, I4, r4, q4⟩ => ho' pins s4 σ H4 y z' u w' Q I4 r2 r4 q4))
theorem pt_chain {op op' : CmpOp} {r r' : R2} (ho : OpR X (compareOp op) r) (ho' : OpR X (compareOp op') r') (ha : PE X a ta) (hb : PE X b tb) (hc : PE X c tc)
    (hm : lastMarks [op, op'] [b, c] = false := by with_unfolding_all rfl) : PT X (.Compare a [op, op'] [b, c] pos) (tTest (tChain r r' ta tb tc)) := by
  intro pins s σ H Q I h
  refine isTrue_chain (thn (ha pins s σ H _ I h) fun v s1 ⟨x, H1, I1, r1, q1⟩ => test_link (thn (hb pins s1 σ H1 _ I1 q1) fun u s2 ⟨y, H2, I2, r2, q2⟩ =>
    thn (ho pins s2 σ H2 x y v u _ I2 r1 r2 q2) fun d s3 ⟨z, H3, I3, r3, k, e, q3⟩ => ?_)) hm
  subst e
  cases r3
  refine wpAny_truthy_bool ?_
  cases k with
  | false =>
    obtain ⟨k', e', q'⟩ := q3
    cases e'
    exact ite_ff ⟨H3, I3, q'⟩
  | true =>
    refine ite_tt (test_last (thn (hc pins s3 σ H3 _ I3 q3) fun w' s4 ⟨z', H4, I4, r4, q4⟩ => thn (ho' pins s4 σ H4 y z' u w' _ I4 r2 r4 q4) fun d' s5 ⟨z2, H5, I5, r5, k2, e2, q5⟩ => ?_))
    subst e2
    cases r5
    exact wpAny_truthy_bool ⟨H5, I5, q5⟩

/-! ### truth -/
/-- a value's truth by the abstract heap -/
def TruV (K : PySem.W.Frag) (x : V) (H : Hp) (k : Bool) : Prop :=
  match x with
  | .non => k = false
  | .bl b => k = b
  | .int i => k = (i != 0)
  | .str y => y.length ≤ sizeLine ∧ k = ((y.length : Int) != 0)
  | .byt y => y.size ≤ sizeLine ∧ k = ((y.size : Int) != 0)
  | .ref p => (∃ xs, SqL K H p xs ∧ k = !xs.isEmpty) ∨ (∃ xs, SqT K H p xs ∧ k = !xs.isEmpty) ∨ ∃ kvs, H p = some (.dK kvs) ∧ k = !kvs.isEmpty
  | _ => False
theorem isEmpty_kv {κ : Type} {kvs : List (κ × V)} {vs : List (κ × Value)} (r : KV kvs vs) : (!vs.isEmpty) = !kvs.isEmpty := by
  cases r <;> rfl
theorem isEmpty_of {xs : List V} {its : List Value} (r : Vals xs its) : (!its.toArray.isEmpty) = !xs.isEmpty := by
  cases r <;> simp
theorem line63 : (sizeLine : Nat) < 2 ^ 63 := by rw [sizeLine_eq]; decide
theorem tru_ok : TruR X (fun x H Q => ∃ k, TruV X.K x H k ∧ Q k H) := by
  intro pins s σ H x v Q I rx h
  obtain ⟨k, e, q⟩ := h
  have hl := line63
  have hs : sizeLine = 16777216 := sizeLine_eq
  cases x with
  | non =>
    cases rx
    have e' : k = false := e
    subst e'
    exact truthy_none ⟨H, I, q⟩
  | bl b =>
    cases rx
    have e' : k = b := e
    subst e'
    exact wpAny_truthy_bool ⟨H, I, q⟩
  | int i =>
    obtain ⟨t, rfl⟩ := rx
    have e' : k = (i != 0) := e
    subst e'
    exact PySem.P.truthy_int ⟨H, I, q⟩
  | str y =>
    obtain ⟨t, rfl⟩ := rx
    obtain ⟨hy, e'⟩ : y.length ≤ sizeLine ∧ k = ((y.length : Int) != 0) := e
    subst e'
    exact PySem.P.truthy_str (by omega) ⟨H, I.tok _, q⟩
  | byt y =>
    obtain ⟨t, rfl⟩ := rx
    obtain ⟨hy, e'⟩ : y.size ≤ sizeLine ∧ k = ((y.size : Int) != 0) := e
    subst e'
    exact PySem.W.truthy_bytes (by omega) ⟨H, I.tok _, q⟩
  | ref p =>
    cases rx
    have e' : (∃ xs, SqL X.K H p xs ∧ k = !xs.isEmpty) ∨ (∃ xs, SqT X.K H p xs ∧ k = !xs.isEmpty) ∨ ∃ kvs, H p = some (.dK kvs) ∧ k = !kvs.isEmpty := e
    rcases e' with ⟨xs, hx, e'⟩ | ⟨xs, hx, e'⟩ | ⟨kvs, hx, e'⟩
    · subst e'
      obtain ⟨its, r, pl, hz⟩ := I.list hx
      have hlen := r.length
      exact wpAny_truthy_list pl.isList (by simp only [List.size_toArray]; omega) ⟨H, I.tok _, by rw [isEmpty_of r]; exact q⟩
    · subst e'
      obtain ⟨its, r, pl, hz⟩ := I.tuple hx
      have hlen := r.length
      exact truthy_tuple pl (by simp only [List.size_toArray]; omega) ⟨H, I.tok _, by rw [isEmpty_of r]; exact q⟩
    · subst e'
      obtain ⟨hz, hS, vs, r, m⟩ : kvs.length ≤ sizeLine ∧ (p == sysModules) = false ∧ ∃ vs, KV kvs vs ∧ s.heap.DictOf (mixKind X.prog X.w) p vs := I.hok p _ hx
      have hlen : kvs.length = vs.length := Paired.length r
      exact wpAny_truthy_dict hS m (by omega) ⟨H, I.tok _, by rw [isEmpty_kv r]; exact q⟩
  | _ => exact (show False from e).elim
/-- any expression whose test is its value's truth (a name, a call, a subscript, a field ..: he by fun _ => rfl) -/
theorem pt_truth (ha : PE X a ta) (he : ∀ whole, isTrue a X.env whole = (do let v ← whole; standAt a.pos; holding [v] (truthy v))) :
    PT X a (fun σ H Q => ta σ H fun x H' => ∃ k, TruV X.K x H' k ∧ Q k H') := by
  intro pins s σ H Q I h
  exact isTrue_plain (thn (ha pins s σ H _ I h) fun v s1 ⟨x, H1, I1, r1, q1⟩ => tru_ok pins s1 σ H1 x v Q I1 r1 q1) (he _)

/-! ### strs and bytes -/
theorem pe_byt {x : List UInt8} {k : Nat} : PE X (.Constant (.bytes x) k pos) (fun _ H Q => Q (.byt x.toArray) H) := fun _ _ _ H _ I h => PySem.W.Constant_bytes ⟨.byt x.toArray, H, I.tok _, ⟨_, rfl⟩, h⟩
theorem op_add_str : OpR X (binaryOp .Add) (fun x y H Q => ∃ i j, x = .str i ∧ y = .str j ∧ i.length + j.length ≤ sizeLine ∧ Q (.str (i ++ j)) H) := by
  intro pins s σ H x y v u Q I rx ry h
  obtain ⟨i, j, rfl, rfl, hz, q⟩ := h
  obtain ⟨t, rfl⟩ := rx
  obtain ⟨t', rfl⟩ := ry
  exact add_str (fun t' tk => ⟨.str (i ++ j), H, I.tok _, ⟨_, rfl⟩, q⟩) hz
theorem iop_add_str : OpR X (inplaceOp .Add) (fun x y H Q => ∃ i j, x = .str i ∧ y = .str j ∧ i.length + j.length ≤ sizeLine ∧ Q (.str (i ++ j)) H) := by
  intro pins s σ H x y v u Q I rx ry h
  obtain ⟨i, j, rfl, rfl, hz, q⟩ := h
  obtain ⟨t, rfl⟩ := rx
  obtain ⟨t', rfl⟩ := ry
  exact iadd_str (fun t' tk => ⟨.str (i ++ j), H, I.tok _, ⟨_, rfl⟩, q⟩) hz
theorem op_add_byt : OpR X (binaryOp .Add) (fun x y H Q => ∃ i j, x = .byt i ∧ y = .byt j ∧ i.size + j.size ≤ 16777216 ∧ Q (.byt (i ++ j)) H) := by
  intro pins s σ H x y v u Q I rx ry h
  obtain ⟨i, j, rfl, rfl, hz, q⟩ := h
  obtain ⟨t, rfl⟩ := rx
  obtain ⟨t', rfl⟩ := ry
  exact PySem.W.KBy.add_bytes hz (fun t' tk => ⟨.byt (i ++ j), H, I.tok _, ⟨_, rfl⟩, q⟩)

def PlainIxT (b : Expr) : Prop := ∀ o i, subscripted b false o i = operate [o, i] (getItem o i)
/-- s[i], 0 ≤ i < len -/
theorem pe_item_str (ha : PE X a ta) (hb : PE X b tb) (hs : PlainIxT b) :
    PE X (.Subscript a b pos) (tOp (fun x y H Q => ∃ z i c, x = .str z ∧ y = .int i ∧ 0 ≤ i ∧ i < 2 ^ 63 ∧ i < z.length ∧ z.cps[i.toNat]? = some c ∧ Q (.str ⟨#[c]⟩) H) ta tb) := by
  intro pins s σ H Q I h
  refine Subscript_ (binT ha hb I h fun v u s2 x y H2 I2 rx ry q => ?_)
  obtain ⟨z, i, c, rfl, rfl, h0, h63, h1, hc, q⟩ := q
  obtain ⟨t, rfl⟩ := rx
  obtain ⟨t', rfl⟩ := ry
  have e : seqIndex? i z.length = some i.toNat := PySem.StrLaws.seqIndex_nonneg h0 h1
  exact tail_any (typeIs_str s2 z t) slot_str_getitem.lookup (getItem_str (c := c) (by
    have e1 : decide (i < -(2 ^ 63 : Int)) = false := decide_eq_false (by omega)
    have e2 : decide (i ≥ 2 ^ 63) = false := decide_eq_false (by omega)
    rw [e1, e2] <;> rfl) (by rw [e]; exact hc) ⟨.str ⟨#[c]⟩, H2, I2.tok _, ⟨_, rfl⟩, q⟩) (hs _ _)
/-- b[i], 0 ≤ i < len -/
theorem pe_item_byt (ha : PE X a ta) (hb : PE X b tb) (hs : PlainIxT b) :
    PE X (.Subscript a b pos) (tOp (fun x y H Q => ∃ (z : List UInt8) (i : Int), x = .byt z.toArray ∧ y = .int i ∧ z.length ≤ sizeLine ∧ 0 ≤ i ∧ i < z.length ∧ Q (.int ((z.getD i.toNat 0).toNat : Nat)) H) ta tb) := by
  intro pins s σ H Q I h
  refine Subscript_ (binT ha hb I h fun v u s2 x y H2 I2 rx ry q => ?_)
  obtain ⟨z, i, rfl, rfl, hz, h0, h1, q⟩ := q
  obtain ⟨t, rfl⟩ := rx
  obtain ⟨t', rfl⟩ := ry
  have hl : sizeLine = 16777216 := sizeLine_eq
  exact tail_any (PySem.W.typeIs_bytes s2 z.toArray t) PySem.W.FB.slot_bytes_getitem.lookup (PySem.W.getItem_bytes (by omega) h0 h1 ⟨.int ((z.getD i.toNat 0).toNat : Nat), H2, I2.tok _, ⟨_, rfl⟩, q⟩) (hs _ _)

/-! ### scalar builtins, by CallR -/
theorem vals1 {x : V} {us : List Value} (r : Vals [x] us) : ∃ u, us = [u] ∧ RelV x u := by
  cases r with
  | cons r1 r2 => cases r2; exact ⟨_, rfl, r1⟩
theorem vals2 {x y : V} {us : List Value} (r : Vals [x, y] us) : ∃ u w', us = [u, w'] ∧ RelV x u ∧ RelV y w' := by
  cases r with
  | cons r1 r2 =>
    cases r2 with
    | cons r3 r4 => cases r4; exact ⟨_, _, rfl, r1, r3⟩
theorem call_abs : CallR X (.builtin "abs") (fun xs H Q => ∃ i, xs = [.int i] ∧ Q (.int (if i < 0 then -i else i)) H) := by
  intro pins s σ H xs us Q I r h
  obtain ⟨i, rfl, q⟩ := h
  obtain ⟨u, rfl, t, rfl⟩ := vals1 r
  exact call_abs_int fun u tk => ⟨.int (if i < 0 then -i else i), H, I.tok _, ⟨_, rfl⟩, q⟩
theorem call_max2 (hc : X.calm = true) : CallR X (.builtin "max") (fun xs H Q => ∃ i j, xs = [.int i, .int j] ∧ Q (.int (if j > i then j else i)) H) := by
  intro pins s σ H xs us Q I r h
  obtain ⟨i, j, rfl, q⟩ := h
  obtain ⟨u, w', rfl, ⟨t, rfl⟩, ⟨t', rfl⟩⟩ := vals2 r
  refine max_two_ints (I.ok.hd hc) fun h' tk k => ⟨_, H, I.kept k, ?_, q⟩
  by_cases hj : j > i
  · rw [if_pos hj, if_pos hj]; exact ⟨_, rfl⟩
  · rw [if_neg hj, if_neg hj]; exact ⟨_, rfl⟩
theorem call_min2 (hc : X.calm = true) : CallR X (.builtin "min") (fun xs H Q => ∃ i j, xs = [.int i, .int j] ∧ Q (.int (if j < i then j else i)) H) := by
  intro pins s σ H xs us Q I r h
  obtain ⟨i, j, rfl, q⟩ := h
  obtain ⟨u, w', rfl, ⟨t, rfl⟩, ⟨t', rfl⟩⟩ := vals2 r
  refine min_two_ints (I.ok.hd hc) fun h' tk k => ⟨_, H, I.kept k, ?_, q⟩
  by_cases hj : j < i
  · rw [if_pos hj, if_pos hj]; exact ⟨_, rfl⟩
  · rw [if_neg hj, if_neg hj]; exact ⟨_, rfl⟩
theorem call_int1 : CallR X (.type "int") (fun xs H Q => (∃ i, xs = [.int i] ∧ Q (.int i) H) ∨ ∃ k, xs = [.bl k] ∧ Q (.int (if k then 1 else 0)) H) := by
  intro pins s σ H xs us Q I r h
  rcases h with ⟨i, rfl, q⟩ | ⟨k, rfl, q⟩
  · obtain ⟨u, rfl, t, rfl⟩ := vals1 r
    exact call_int_int ⟨.int i, H, I, ⟨_, rfl⟩, q⟩
  · obtain ⟨u, rfl, r1⟩ := vals1 r
    cases r1
    exact call_int_bool ⟨.int (if k then 1 else 0), H, I.tok _, ⟨_, rfl⟩, q⟩
theorem call_bool1 : CallR X (.type "bool") (fun xs H Q => (∃ i, xs = [.int i] ∧ Q (.bl (i != 0)) H) ∨ ∃ k, xs = [.bl k] ∧ Q (.bl k) H) := by
  intro pins s σ H xs us Q I r h
  rcases h with ⟨i, rfl, q⟩ | ⟨k, rfl, q⟩
  · obtain ⟨u, rfl, t, rfl⟩ := vals1 r
    exact call_bool_int ⟨.bl (i != 0), H, I, rfl, q⟩
  · obtain ⟨u, rfl, r1⟩ := vals1 r
    cases r1
    exact call_bool_bool ⟨.bl k, H, I, rfl, q⟩
theorem call_str_int : CallR X (.type "str") (fun xs H Q => ∃ i, xs = [.int i] ∧ i.natAbs.log2 < 1920 ∧ Q (.str (toString i)) H) := by
  intro pins s σ H xs us Q I r h
  obtain ⟨i, rfl, hz, q⟩ := h
  obtain ⟨u, rfl, t, rfl⟩ := vals1 r
  exact PySem.P.str_of_int hz ⟨.str _, H, I.tok _, ⟨_, rfl⟩, q⟩
theorem call_ord : CallR X (.builtin "ord") (fun xs H Q => ∃ x, xs = [.str x] ∧ x.length = 1 ∧ Q (.int (x.cps.getD 0 0 : Nat)) H) := by
  intro pins s σ H xs us Q I r h
  obtain ⟨x, rfl, hz, q⟩ := h
  obtain ⟨u, rfl, t, rfl⟩ := vals1 r
  exact ord_of_one hz ⟨.int _, H, I.tok _, ⟨_, rfl⟩, q⟩
theorem call_chr : CallR X (.builtin "chr") (fun xs H Q => ∃ i, xs = [.int i] ∧ 0 ≤ i ∧ i ≤ 1114111 ∧ Q (.str ⟨#[i.toNat]⟩) H) := by
  intro pins s σ H xs us Q I r h
  obtain ⟨i, rfl, h0, h1, q⟩ := h
  obtain ⟨u, rfl, t, rfl⟩ := vals1 r
  exact chr_of_range h0 h1 ⟨.str _, H, I.tok _, ⟨_, rfl⟩, q⟩
/-- len of a str, a bytes, a list, a tuple -/
def LenV (K : PySem.W.Frag) (x : V) (H : Hp) (n : Nat) : Prop :=
  match x with
  | .str y => y.length ≤ sizeLine ∧ n = y.length
  | .byt y => y.size ≤ sizeLine ∧ n = y.size
  | .ref p => (∃ xs, SqL K H p xs ∧ n = xs.length) ∨ ∃ xs, SqT K H p xs ∧ n = xs.length
  | _ => False
theorem call_len : CallR X (.builtin "len") (fun xs H Q => ∃ x n, xs = [x] ∧ LenV X.K x H n ∧ Q (.int n) H) := by
  intro pins s σ H xs us Q I r h
  obtain ⟨x, n, rfl, e, q⟩ := h
  obtain ⟨u, rfl, rx⟩ := vals1 r
  have hl := line63
  have hs : sizeLine = 16777216 := sizeLine_eq
  cases x with
  | str y =>
    obtain ⟨t, rfl⟩ := rx
    obtain ⟨hy, e'⟩ : y.length ≤ sizeLine ∧ n = y.length := e
    subst e'
    exact len_str (by omega) ⟨.int _, H, I.tok _, ⟨_, rfl⟩, q⟩
  | byt y =>
    obtain ⟨t, rfl⟩ := rx
    obtain ⟨hy, e'⟩ : y.size ≤ sizeLine ∧ n = y.size := e
    subst e'
    exact PySem.W.len_bytes (by omega) ⟨.int _, H, I.tok _, ⟨_, rfl⟩, q⟩
  | ref p =>
    cases rx
    have e' : (∃ xs, SqL X.K H p xs ∧ n = xs.length) ∨ ∃ xs, SqT X.K H p xs ∧ n = xs.length := e
    rcases e' with ⟨xs, hx, e'⟩ | ⟨xs, hx, e'⟩
    · subst e'
      obtain ⟨its, r', pl, hz⟩ := I.list hx
      have hlen := r'.length
      exact Calls.call_len_list pl.isList (by simp only [List.size_toArray]; omega) ⟨.int xs.length, H, I.tok _, ⟨_, by simp only [List.size_toArray]; rw [hlen]⟩, q⟩
    · subst e'
      obtain ⟨its, r', pl, hz⟩ := I.tuple hx
      have hlen := r'.length
      exact len_tuple pl (by simp only [List.size_toArray]; omega) ⟨.int xs.length, H, I.tok _, ⟨_, by simp only [List.size_toArray]; rw [hlen]⟩, q⟩
  | _ => exact (show False from e).elim
/-- divmod: a new tuple -/
theorem call_divmod : CallR X (.builtin "divmod") (fun xs H Q => ∃ i j, xs = [.int i, .int j] ∧ CDiv i j ∧ ∀ p, H p = none → Q (.ref p) (upd H p (.tup [.int (i / j), .int (i % j)]))) := by
  intro pins s σ H xs us Q I r h
  obtain ⟨i, j, rfl, ⟨h1, h2⟩, q⟩ := h
  obtain ⟨u, w', rfl, ⟨t, rfl⟩, ⟨t', rfl⟩⟩ := vals2 r
  refine divmod_int (by omega) ?_ (.inl (PyProof.noPylong_small (by omega)))
  rw [Int.fdiv_eq_ediv_of_nonneg i (by omega), Int.fmod_eq_emod_of_nonneg i (by omega)]
  have hn : H s.heap.objs.size = none := I.hok.fresh (Nat.le_refl _)
  refine ⟨.ref s.heap.objs.size, _, ?_, rfl, q _ hn⟩
  refine I.laid (fun b o e => Heap.get?_push_of_some _ e) (Nat.le_refl _) ⟨by simp only [List.length_cons, List.length_nil]; rw [sizeLine_eq]; decide, [.int (i / j) s.toks, .int (i % j) (s.toks + 1)], .cons ⟨_, rfl⟩ (.cons ⟨_, rfl⟩ .nil), ?_⟩
  exact ⟨_, Heap.get?_push_size s.heap rfl, rfl, 0, rfl⟩
end
end L2

namespace L2
open PySem PySem.Spec PyProof.Rows

/-! ### an instance, its attributes a map -/
structure ObjM (h : Heap) (x dx C : Addr) (mA : Str → Option Value) : Prop where
  obj : h.get? x = some (PySem.W.instObj C dx)
  ns : h.Ns1 dx mA
  ne : dx ≠ x

theorem lookIn_ns {h : Heap} {dx : Addr} {mA : Str → Option Value} (n : h.Ns1 dx mA) : ∃ od, h.get? dx = some od ∧ ∀ name, PySem.W.lookIn name od = some (mA name) := by
  obtain ⟨o, es, ep, ho, hd, hk, _, hm⟩ := n
  refine ⟨o, ho, fun name => ?_⟩
  have e := hm name
  unfold nsFind findBy at e
  rw [← Array.find?_toList] at e
  unfold PySem.W.lookIn
  rw [hd]
  dsimp only
  split
  · rename_i y q
    rw [q] at e
    exact congrArg some e
  · rename_i q
    rw [q] at e
    have a : es.toList.any (·.refKey) = false := by
      rw [List.any_eq_false]
      intro y hy
      obtain ⟨z, t, hkey⟩ := hk y (Array.mem_toList_iff.mp hy)
      simp [DictEntry.refKey, hkey]
    have a' : ¬ es.toList.any (·.refKey) = true := by rw [a]; exact Bool.false_ne_true
    rw [if_neg a']
    exact congrArg some e

theorem ObjM.look {h : Heap} {x dx C : Addr} {mA : Str → Option Value} (I : ObjM h x dx C mA) : ∃ od, PySem.W.InstAt h x (PySem.W.instObj C dx) C (some od) ∧ ∀ name, PySem.W.lookIn name od = some (mA name) :=
  let ⟨od, ho, hl⟩ := lookIn_ns I.ns
  ⟨od, ⟨I.obj, rfl, rfl, ho⟩, hl⟩

section
variable {prog : Program} {w : World} {A : Around} {E : Value → Shared → Prop} {s : Shared} {K : PySem.W.Frag} {x dx C f : Addr} {mA : Str → Option Value} {name : Str} {v : Value}

theorem get_map {expr : Bool} {Q : Value → Shared → Prop} (X : K.In s.heap) (I : ObjM s.heap x dx C mA) (hg : PySem.W.plainGet K C name = true) (hh : PySem.W.hasDictIn K C = true)
    (ha : PySem.W.findIn K (.ref C) name = some none) (hv : mA name = some v) (hv' : PySem.W.handedIn v = true) (h : Q v { s with toks := s.toks + 1 }) :
    wpAny (model prog w) A (getAttr (.ref x) name expr) Q E s := by
  obtain ⟨od, J, hl⟩ := I.look
  exact PySem.W.get_value X J (PySem.W.plainGet_of hg).1 (PySem.W.findObj_own hh ha rfl (by rw [hl, hv])) hv' h

theorem get_const {expr : Bool} {a : Value} {Q : Value → Shared → Prop} (X : K.In s.heap) (I : ObjM s.heap x dx C mA) (hg : PySem.W.plainGet K C name = true) (hh : PySem.W.hasDictIn K C = true)
    (ha : PySem.W.findIn K (.ref C) name = some (some a)) (hn : PySem.W.specialIn K a "__get__" = some none) (hc : PySem.W.copiedNames.contains name = false) (hv : mA name = none) (hv' : PySem.W.handedIn a = true)
    (h : Q a { s with toks := s.toks + 1 }) : wpAny (model prog w) A (getAttr (.ref x) name expr) Q E s := by
  obtain ⟨od, J, hl⟩ := I.look
  exact PySem.W.get_value X J (PySem.W.plainGet_of hg).1 (PySem.W.findObj_cls hh ha hn hv' hc (by rw [hl, hv])) hv' h

theorem get_meth {pl : Sem Bool} {Q : Value × List Value → Shared → Prop} (X : K.In s.heap) (I : ObjM s.heap x dx C mA) (hg : PySem.W.plainGet K C name = true)
    (hf : PySem.W.findIn K (.ref C) name = some (some (.ref f))) (ht : PySem.W.isFn K (.ref f) = true) (hv : mA name = none) (h : Q (.ref f, [.ref x]) s) :
    wpAny (model prog w) A (getMethod (.ref x) name pl) Q E s := by
  obtain ⟨od, J, hl⟩ := I.look
  exact PySem.W.method_fn X J (PySem.W.plainGet_of hg).1 (PySem.W.plainGet_of hg).2 hf (beq_iff_eq.mp ht) (by show (PySem.W.lookIn name od).map (·.isSome) = some false; rw [hl, hv]; rfl) h

theorem set_map {ns : List Str} {Q : Unit → Shared → Prop} (X : K.In s.heap) (I : ObjM s.heap x dx C mA)
    (hs : PySem.W.findIn K (.ref C) "__setattr__" = some (some (.builtin "object.__setattr__"))) (hp : PySem.W.plainOver K C = true) (ht : PySem.W.takerIn K C name = some none) (hh : PySem.W.hasDictIn K C = true)
    (hw : PySem.Within mA ns) (hsz : ns.length ≤ sizeLine)
    (h : ∀ h', ObjM h' x dx C (fun y => if y = name then some v else mA y) → Heap.SameBut dx s.heap h' → Q () { s with heap := h', toks := s.toks + 2 }) :
    wpAny (model prog w) A (setAttr (.ref x) name v) Q E s := by
  obtain ⟨od, J, hl⟩ := I.look
  refine PySem.W.set_plain X J hs (PySem.W.osa_open (s := { s with toks := s.toks + 1 }) (r := none) X J hp ht fun b => ?_)
  obtain ⟨cd, hc, hd'⟩ := PySem.W.any_some hh
  have hx : s.heap.get? x = some ⟨.ref C, some dx, .plain, #[]⟩ := I.obj
  refine wpAny_bind (wpAny_pure (wpAny_bind (wpAny_bind (wpAny_loadPart hx (wpAny_bind (PySem.W.Looks.here (s := { s with toks := s.toks + 1 }) (PySem.W.looks_clsIn X hc) ?_))))))
  rw [hd']
  refine wpAny_pure (a := some dx) (wpAny_bind (wpAny_pure (wpAny_bind ?_)))
  refine wpAny_nsSet1 (s := { s with toks := s.toks + 1 }) I.ns fun h' hn2 hs2 => ?_
  obtain ⟨oD, esD, epD, hoD, hdD, hcD⟩ := hn2.count (PySem.Within.cons name v hw)
  refine wpAny_bind (wpAny_lookBehind hoD (by rw [hdD]; exact pastItsLine_dict (Nat.le_trans hcD (by rw [List.length_cons]; omega))) ?_)
  exact wpAny_pure (h _ ⟨(hs2.2 _ (Ne.symm I.ne)).trans I.obj, hn2, I.ne⟩ hs2)

/-- C(..): the dict at the heap's end, the instance behind it; then its __init__ -/
theorem make_map {R : Result → Shared → Prop} {vs : List Value} {kw : List (Str × Value)} (X : K.In s.heap) (hm : PySem.W.makesIn K C = true)
    (hi : PySem.W.findIn K (.ref C) "__init__" = some (some (.ref f))) (hf : PySem.W.typeIn K (.ref f) = some (.type "function"))
    (h : codeAny (model prog w) (A.under (.builtin "type.__call__" ⟨.ref C :: vs, kw⟩)) (.call (.ref f) ⟨.ref (s.heap.objs.size + 1) :: vs, kw⟩) (PySem.W.InitBack (s.heap.objs.size + 1) R)
      { s with heap := (s.heap.push PySem.W.emptyDict).push (PySem.W.instObj C s.heap.objs.size) }) :
    codeAny (model prog w) A (.call (.ref C) ⟨vs, kw⟩) R s := by
  obtain ⟨hh, g, d, t, os⟩ := s
  exact PySem.W.make_core (PySem.W.makes_of X hm) (PySem.W.looks_findIn X hi) (fun self => PySem.W.bind_fn X self hf) (.inl rfl) h
/-- C() where there is no __init__ but object's -/
theorem make_map0 {R : Result → Shared → Prop} (X : K.In s.heap) (hm : PySem.W.makesIn K C = true)
    (hi : PySem.W.findIn K (.ref C) "__init__" = some (some (.builtin "object.__init__")))
    (hb : ∀ self, PySem.W.Looks (model prog w) s.heap (bindSpecial (.builtin "object.__init__") self) (.builtin "object.__init__", [self]))
    (h : codeAny (model prog w) (A.under (.builtin "type.__call__" ⟨[.ref C], []⟩)) (.call (.builtin "object.__init__") ⟨[.ref (s.heap.objs.size + 1)], []⟩) (PySem.W.InitBack (s.heap.objs.size + 1) R)
      { s with heap := (s.heap.push PySem.W.emptyDict).push (PySem.W.instObj C s.heap.objs.size) }) :
    codeAny (model prog w) A (.call (.ref C) ⟨[], []⟩) R s := by
  obtain ⟨hh, g, d, t, os⟩ := s
  exact PySem.W.make_core (PySem.W.makes_of X hm) (PySem.W.looks_findIn X hi) hb (.inr ⟨rfl, rfl⟩) h
end

/-! ### the attributes as a list of pairs -/
def putF (f : Str) (v : V) : List (Str × V) → List (Str × V)
  | [] => [(f, v)]
  | (g, x) :: r => if g = f then (g, v) :: r else (g, x) :: putF f v r
theorem lookup_putF (f g : Str) (v : V) : ∀ fs : List (Str × V), (putF f v fs).lookup g = if g = f then some v else fs.lookup g
  | [] => by
    show List.lookup g [(f, v)] = _
    by_cases h : g = f
    · have hb : (g == f) = true := beq_iff_eq.mpr h
      simp only [List.lookup, hb, if_pos h]
    · have hb : (g == f) = false := beq_eq_false_iff_ne.mpr h
      simp only [List.lookup, hb, if_neg h]
  | (k, x) :: r => by
    have ih := lookup_putF f g v r
    rw [show putF f v ((k, x) :: r) = (if k = f then (k, v) :: r else (k, x) :: putF f v r) from rfl]
    by_cases hk : k = f
    · rw [if_pos hk]
      by_cases h : g = k
      · have hb : (g == k) = true := beq_iff_eq.mpr h
        simp only [List.lookup, hb, if_pos (h.trans hk)]
      · have hb : (g == k) = false := beq_eq_false_iff_ne.mpr h
        simp only [List.lookup, hb, if_neg (fun e : g = f => h (e.trans hk.symm))]
    · rw [if_neg hk]
      by_cases h : g = k
      · have hb : (g == k) = true := beq_iff_eq.mpr h
        simp only [List.lookup, hb, if_neg (fun e : g = f => hk (h.symm.trans e))]
      · have hb : (g == k) = false := beq_eq_false_iff_ne.mpr h
        simp only [List.lookup, hb]
        exact ih
theorem keys_putF (f : Str) (v : V) : ∀ fs : List (Str × V), f ∈ (putF f v fs).map (·.1) ∧ ∀ g, g ∈ fs.map (·.1) → g ∈ (putF f v fs).map (·.1)
  | [] => ⟨by simp [putF], fun g h => by simp at h⟩
  | (k, x) :: r => by
    obtain ⟨i1, i2⟩ := keys_putF f v r
    rw [show putF f v ((k, x) :: r) = (if k = f then (k, v) :: r else (k, x) :: putF f v r) from rfl]
    by_cases hk : k = f
    · rw [if_pos hk]
      subst hk
      exact ⟨by simp, fun g h => by simpa using h⟩
    · rw [if_neg hk]
      refine ⟨?_, fun g h => ?_⟩
      · rw [List.map_cons]
        exact List.mem_cons_of_mem _ i1
      · rw [List.map_cons] at h ⊢
        rcases List.mem_cons.mp h with e | e
        · exact List.mem_cons.mpr (.inl e)
        · exact List.mem_cons_of_mem _ (i2 g e)
theorem length_putF (f : Str) (v : V) : ∀ fs : List (Str × V), (putF f v fs).length ≤ fs.length + 1
  | [] => by simp [putF]
  | (k, x) :: r => by
    have ih := length_putF f v r
    rw [show putF f v ((k, x) :: r) = (if k = f then (k, v) :: r else (k, x) :: putF f v r) from rfl]
    by_cases hk : k = f
    · rw [if_pos hk, List.length_cons, List.length_cons]; omega
    · rw [if_neg hk, List.length_cons, List.length_cons]; omega

theorem RelO.some_of {v : V} {o : Option Value} (r : RelO (some v) o) : ∃ u, o = some u ∧ RelV v u := by
  cases o with
  | none => exact (show False from r).elim
  | some u => exact ⟨u, rfl, r⟩
theorem RelO.none_of {o : Option Value} (r : RelO none o) : o = none := by
  cases o with
  | none => rfl
  | some u => exact (show False from r).elim
theorem handed_of {v : V} {u : Value} (r : RelV v u) : PySem.W.handedIn u = true := by
  cases v with
  | non => cases (show u = Value.none from r); rfl
  | bl b => cases (show u = Value.bool b from r); rfl
  | int i => obtain ⟨t, e⟩ := (show ∃ t, u = Value.int i t from r); cases e; rfl
  | str x => obtain ⟨t, e⟩ := (show ∃ t, u = Value.str x t from r); cases e; rfl
  | byt b => obtain ⟨t, e⟩ := (show ∃ t, u = Value.bytes b t from r); cases e; rfl
  | flt b => obtain ⟨t, e⟩ := (show ∃ t, u = Value.float b t from r); cases e; rfl
  | ref a => cases (show u = Value.ref a from r); rfl
  | ty n => cases (show u = Value.type n from r); rfl

section
variable {P : Program} {w : World} {H H' : Hp} {h h' : Heap} {a C dx : Addr} {fs fs' : List (Str × V)}
theorem ins_get (hok : HOk P w H h) (e : H a = some (.ins C dx fs)) : ∃ mA, ObjM h a dx C mA ∧ (∀ f, RelO (fs.lookup f) (mA f)) ∧ PySem.Within mA (fs.map (·.1)) ∧ fs.length ≤ 1000 ∧ H dx = some (.own a) := by
  obtain ⟨d, z, ne, ob, mA, n, r, q⟩ := (show ObjOk P w H h a (.ins C dx fs) from hok a _ e)
  exact ⟨mA, ⟨ob, n, ne⟩, r, q, z, d⟩
end

/-! ### what of the text a class must have -/
structure Cls (K : PySem.W.Frag) (C : Addr) : Prop where
  pg : PySem.W.plainGet K C Str.empty = true
  hd : PySem.W.hasDictIn K C = true
  po : PySem.W.plainOver K C = true
  sa : PySem.W.findIn K (.ref C) "__setattr__" = some (some (.builtin "object.__setattr__"))
theorem Cls.get {K : PySem.W.Frag} {C : Addr} (c : Cls K C) (f : Str) : PySem.W.plainGet K C f = true := c.pg
/-- no class of it has the name -/
def NoAttr (K : PySem.W.Frag) (C : Addr) (f : Str) : Prop := PySem.W.findIn K (.ref C) f = some none
theorem NoAttr.taker {K : PySem.W.Frag} {C : Addr} {f : Str} (n : NoAttr K C f) : PySem.W.takerIn K C f = some none := by
  unfold PySem.W.takerIn
  rw [show PySem.W.findIn K (.ref C) f = some none from n]
  rfl
/-- a constant of the class -/
structure Con (K : PySem.W.Frag) (C : Addr) (f : Str) (v : V) (u : Value) : Prop where
  at_ : PySem.W.findIn K (.ref C) f = some (some u)
  rel : RelV v u
  get : PySem.W.specialIn K u "__get__" = some none
  cp : PySem.W.copiedNames.contains f = false
/-- a method: a plain def of the class or of one above it -/
structure Meth (K : PySem.W.Frag) (C : Addr) (m : Str) (f : Addr) : Prop where
  at_ : PySem.W.findIn K (.ref C) m = some (some (.ref f))
  fn : PySem.W.isFn K (.ref f) = true
  kp : PySem.W.keepIn K (.ref f) = true

section
variable {X : Cx} {pins : List (Addr × Obj)} {σ : St} {H : Hp} {s : Shared} {a C dx : Addr} {fs : List (Str × V)} {f : Str} {v : V} {A : Around} {E : Value → Shared → Prop}

theorem getattr_ok {b : Bool} {Q : Value → Shared → Prop} (I : Inv X pins σ H s) (e : H a = some (.ins C dx fs)) (c : Cls X.K C) (n : NoAttr X.K C f) (l : fs.lookup f = some v)
    (h : ∀ u s', Inv X pins σ H s' → RelV v u → Q u s') : wpAny (model X.prog X.w) A (getAttr (.ref a) f b) Q E s := by
  obtain ⟨mA, O, r, _, _, _⟩ := ins_get I.hok e
  obtain ⟨u, hu, ru⟩ := RelO.some_of (v := v) (o := mA f) (by rw [← l]; exact r f)
  exact get_map I.kIn O (c.get f) c.hd n hu (handed_of ru) (h u _ (I.tok _) ru)

theorem getcon_ok {b : Bool} {u : Value} {Q : Value → Shared → Prop} (I : Inv X pins σ H s) (e : H a = some (.ins C dx fs)) (c : Cls X.K C) (k : Con X.K C f v u) (l : fs.lookup f = none)
    (h : ∀ s', Inv X pins σ H s' → Q u s') : wpAny (model X.prog X.w) A (getAttr (.ref a) f b) Q E s := by
  obtain ⟨mA, O, r, _, _, _⟩ := ins_get I.hok e
  have hn : mA f = none := RelO.none_of (by rw [← l]; exact r f)
  exact get_const I.kIn O (c.get f) c.hd k.at_ k.get k.cp hn (handed_of k.rel) (h _ (I.tok _))

theorem getmeth_ok {m : Str} {g : Addr} {pl : Sem Bool} {Q : Value × List Value → Shared → Prop} (I : Inv X pins σ H s) (e : H a = some (.ins C dx fs)) (c : Cls X.K C) (k : Meth X.K C m g) (l : fs.lookup m = none)
    (h : Q (.ref g, [.ref a]) s) : wpAny (model X.prog X.w) A (getMethod (.ref a) m pl) Q E s := by
  obtain ⟨mA, O, r, _, _, _⟩ := ins_get I.hok e
  have hn : mA m = none := RelO.none_of (by rw [← l]; exact r m)
  exact get_meth I.kIn O (c.get m) k.at_ k.fn hn h

theorem setattr_ok {y : V} {u : Value} {Q : Unit → Shared → Prop} (I : Inv X pins σ H s) (e : H a = some (.ins C dx fs)) (c : Cls X.K C) (n : NoAttr X.K C f) (hl : fs.length < 1000) (ry : RelV y u)
    (h : ∀ s', Inv X pins σ (upd H a (.ins C dx (putF f y fs))) s' → Q () s') : wpAny (model X.prog X.w) A (setAttr (.ref a) f u) Q E s := by
  obtain ⟨mA, O, r, wi, _, ho⟩ := ins_get I.hok e
  have hz : (fs.map (·.1)).length ≤ sizeLine := by rw [List.length_map, sizeLine_eq]; omega
  refine set_map I.kIn O c.sa c.po n.taker c.hd wi hz fun h' O' sb => h _ ?_
  have hd : ∃ o, h'.get? dx = some o := let ⟨o, _, _, e', _⟩ := O'.ns; ⟨o, e'⟩
  refine I.write (x := a) (e := dx) (by rw [e]; exact True.intro) (.inr ho) (fun b q hb z => (sb.2 b hb).trans z) hd ?_
  refine ⟨by rw [upd_ne O.ne]; exact ho, ?_, O.ne, O'.obj, _, O'.ns, fun g => ?_, fun g hg => ?_⟩
  · have := length_putF f y fs; omega
  · show RelO ((putF f y fs).lookup g) (if g = f then some u else mA g)
    rw [lookup_putF]
    by_cases q : g = f
    · rw [if_pos q, if_pos q]; exact ry
    · rw [if_neg q, if_neg q]; exact r g
  · by_cases q : g = f
    · rw [q]; exact (keys_putF f y fs).1
    · refine (keys_putF f y fs).2 g (wi g fun z => hg ?_)
      show (if g = f then some u else mA g) = none
      rw [if_neg q]; exact z

/-- a new instance, tracked, without attributes -/
theorem Inv.made (I : Inv X pins σ H s) : Inv X pins σ (upd (upd H s.heap.objs.size (.own (s.heap.objs.size + 1))) (s.heap.objs.size + 1) (.ins C s.heap.objs.size []))
    { s with heap := (s.heap.push PySem.W.emptyDict).push (PySem.W.instObj C s.heap.objs.size) } := by
  have e1 : (s.heap.push PySem.W.emptyDict).get? s.heap.objs.size = some PySem.W.emptyDict := Heap.get?_push_size s.heap rfl
  have e2 : ((s.heap.push PySem.W.emptyDict).push (PySem.W.instObj C s.heap.objs.size)).get? (s.heap.objs.size + 1) = some (PySem.W.instObj C s.heap.objs.size) := by
    have := Heap.get?_push_size (s.heap.push PySem.W.emptyDict) (o := PySem.W.instObj C s.heap.objs.size) rfl
    rwa [Heap.size_push] at this
  have e3 : (s.heap.push PySem.W.emptyDict).Ns s.heap.objs.size (fun _ => none) := ⟨PySem.W.emptyDict, #[], _, e1, rfl, (fun e he => absurd he (by simp)), fun _ => rfl⟩
  have I1 := I.laid (a := s.heap.objs.size) (o := .own (s.heap.objs.size + 1)) (h' := s.heap.push PySem.W.emptyDict) (t' := s.toks) (fun b u q => Heap.get?_push_of_some _ q) (Nat.le_refl _) ⟨_, e1⟩
  refine I1.laid (a := s.heap.objs.size + 1) (o := .ins C s.heap.objs.size []) (t' := s.toks) (fun b u q => Heap.get?_push_of_some _ q) (Nat.le_of_eq (Heap.size_push _ _)) ?_
  have ne : s.heap.objs.size ≠ s.heap.objs.size + 1 := Nat.ne_of_lt (Nat.lt_succ_self _)
  refine ⟨by rw [upd_ne ne, upd_same], Nat.zero_le _, ne, e2, fun _ => none, (Heap.Ns1.of_empty e3).at fun o q => Heap.get?_push_of_some _ q, fun _ => True.intro, fun y hy => absurd rfl hy⟩

/-- e.f where nothing but the object is asked: through attributeBase (super) and the last hold -/
theorem attr_of {prog : Program} {w : World} {env : Env} {e : Expr} {f : Str} {pos : Pos} {s : Shared} {Q : Value → Shared → Prop} (hb : attributeBase e f env (eval e env) = eval e env)
    (h : wpAny (model prog w) A (eval e env) (fun o s₁ => wpAny (model prog w) A (getAttr o f true) Q E s₁) E s) : wpAny (model prog w) A (eval (.Attribute e f pos) env) Q E s :=
  Attribute_any_ h (by rw [arm_eval_Attribute, hb])
end

/-! ### readings and rules -/
/-- e.f, an attribute of the instance -/
def tFld (K : PySem.W.Frag) (ta : TE) (f : Str) : TE := fun σ H Q => ta σ H fun x H1 => ∃ a C dx fs v, x = .ref a ∧ H1 a = some (.ins C dx fs) ∧ Cls K C ∧ NoAttr K C f ∧ fs.lookup f = some v ∧ Q v H1
/-- e.f, a constant of the class -/
def tCon (K : PySem.W.Frag) (ta : TE) (f : Str) : TE := fun σ H Q => ta σ H fun x H1 => ∃ a C dx fs v u, x = .ref a ∧ H1 a = some (.ins C dx fs) ∧ Cls K C ∧ Con K C f v u ∧ fs.lookup f = none ∧ Q v H1
/-- e.f = value -/
def sFld (K : PySem.W.Frag) (ta tv : TE) (f : Str) : TS := fun D σ H => tv σ H fun y H1 => ta σ H1 fun x H2 => ∃ a C dx fs, x = .ref a ∧ H2 a = some (.ins C dx fs) ∧ Cls K C ∧ NoAttr K C f ∧ fs.length < 1000 ∧
  D.nx σ (upd H2 a (.ins C dx (putF f y fs)))
/-- an augmented operator on two values -/
def InOp (X : Cx) (op : Operator) (rd : V → V → Hp → VK → Prop) : Prop :=
  ∀ (pins : List (Addr × Obj)) (s : Shared) (σ : St) (H : Hp) (x y : V) (u v : Value) (Q : VK), Inv X pins σ H s → RelV x u → RelV y v → rd x y H Q → wpAny (model X.prog X.w) X.A (inplaceOp op u v) (EP X pins σ Q) X.xe s
/-- e.f op= value -/
def sFldAug (K : PySem.W.Frag) (ta tv : TE) (rd : V → V → Hp → VK → Prop) (f : Str) : TS := fun D σ H => ta σ H fun x H1 => ∃ a C dx fs v, x = .ref a ∧ H1 a = some (.ins C dx fs) ∧ Cls K C ∧ NoAttr K C f ∧ fs.lookup f = some v ∧
  tv σ H1 fun y H2 => rd v y H2 fun z H3 => ∃ dx' fs', H3 a = some (.ins C dx' fs') ∧ fs'.length < 1000 ∧ D.nx σ (upd H3 a (.ins C dx' (putF f z fs')))

section
variable {X : Cx} {o e value : Expr} {f : Str} {pos pos' tpos : Pos} {ta tv : TE}
theorem pe_fld (he : PE X e ta) (hb : attributeBase e f X.env (eval e X.env) = eval e X.env) : PE X (.Attribute e f pos) (tFld X.K ta f) := by
  intro pins s σ H Q I h
  refine attr_of hb (thn (he pins s σ H _ I h) fun u s1 ⟨x, H1, I1, rx, a, C, dx, fs, v, ex, ea, c, n, l, q⟩ => ?_)
  subst ex
  obtain rfl : u = Value.ref a := rx
  exact getattr_ok I1 ea c n l fun u' s2 I2 ru => ⟨v, H1, I2, ru, q⟩
theorem pe_con (he : PE X e ta) (hb : attributeBase e f X.env (eval e X.env) = eval e X.env) : PE X (.Attribute e f pos) (tCon X.K ta f) := by
  intro pins s σ H Q I h
  refine attr_of hb (thn (he pins s σ H _ I h) fun u s1 ⟨x, H1, I1, rx, a, C, dx, fs, v, u0, ex, ea, c, k, l, q⟩ => ?_)
  subst ex
  obtain rfl : u = Value.ref a := rx
  exact getcon_ok I1 ea c k l fun s2 I2 => ⟨v, H1, I2, k.rel, q⟩
theorem ps_fld (ha : PE X o ta) (hv : PE X value tv) (hs : swapsWith value (some (.Attribute o f pos')) pos.line X.env = pure false) : PS X (.Assign [.Attribute o f pos'] value pos) (sFld X.K ta tv f) := by
  intro pins s σ H D I h
  refine plainObj_wpAny_Assign_Attribute (thn (hv pins s σ H _ I h) fun u s1 ⟨y, H1, I1, ry, q⟩ => thn (ha pins s1 σ H1 _ I1 q) fun ov s2 ⟨x, H2, I2, rx, a, C, dx, fs, ex, ea, c, n, l, q2⟩ => ?_) hs
  subst ex
  obtain rfl : ov = Value.ref a := rx
  exact setattr_ok I2 ea c n l ry fun s3 I3 => ⟨σ, _, I3, q2⟩
theorem ps_fldaug {op : Operator} {rd : V → V → Hp → VK → Prop} (ha : PE X o ta) (hv : PE X value tv) (hop : InOp X op rd) : PS X (.AugAssign (.Attribute o f tpos) op value pos) (sFldAug X.K ta tv rd f) := by
  intro pins s σ H D I h
  refine wpAny_AugAssign_AttributeAny (thn (ha pins s σ H _ I h) fun ov s1 ⟨x, H1, I1, rx, a, C, dx, fs, v, ex, ea, c, n, l, q⟩ => ?_)
  subst ex
  obtain rfl : ov = Value.ref a := rx
  refine getattr_ok I1 ea c n l fun u s2 I2 ru => thn (hv pins s2 σ H1 _ I2 q) fun w3 s3 ⟨y, H2, I3, ry, q3⟩ => thn (hop pins s3 σ H2 v y u w3 _ I3 ru ry q3) fun w4 s4 ⟨z, H3, I4, rz, dx', fs', ea', l', q4⟩ => ?_
  exact setattr_ok I4 ea' c n l' rz fun s5 I5 => ⟨σ, _, I5, q4⟩
def rAdd : V → V → Hp → VK → Prop := fun x y H Q => ∃ i j, x = .int i ∧ y = .int j ∧ Q (.int (i + j)) H
def rSub : V → V → Hp → VK → Prop := fun x y H Q => ∃ i j, x = .int i ∧ y = .int j ∧ Q (.int (i - j)) H
theorem in_add : InOp X .Add rAdd := by
  rintro pins s σ H x y u v Q I rx ry ⟨i, j, rfl, rfl, q⟩
  obtain ⟨t, rfl⟩ := (show ∃ t, u = Value.int i t from rx)
  obtain ⟨t', rfl⟩ := (show ∃ t', v = Value.int j t' from ry)
  exact PyProof.Rows.iadd_int ⟨.int (i + j), H, I.tok _, ⟨_, rfl⟩, q⟩
theorem in_sub : InOp X .Sub rSub := by
  rintro pins s σ H x y u v Q I rx ry ⟨i, j, rfl, rfl, q⟩
  obtain ⟨t, rfl⟩ := (show ∃ t, u = Value.int i t from rx)
  obtain ⟨t', rfl⟩ := (show ∃ t', v = Value.int j t' from ry)
  exact PyProof.Rows.isub_int ⟨.int (i - j), H, I.tok _, ⟨_, rfl⟩, q⟩

/-- what is between an instance and its method: the tree of a method call -/
theorem methcall_of {pl : Sem Bool} {m : Str} {apos : Pos} {args : List Expr} {pins : List (Addr × Obj)} {s : Shared} {σ : St} {H : Hp} {Q : Value → Shared → Prop} {te : TE} (he : PE X e te) (I : Inv X pins σ H s)
    (h : te σ H fun x H1 => ∃ a C dx fs g, x = .ref a ∧ H1 a = some (.ins C dx fs) ∧ Cls X.K C ∧ Meth X.K C m g ∧ fs.lookup m = none ∧
      ∀ s1, Inv X pins σ H1 s1 → wpAny (model X.prog X.w) X.A (callWith pos (.ref g) [.ref a] (backTo pos (starEach args X.env)) (backToKw pos (keywordEach [] X.env))) Q X.xe s1)
    (ht : eval (.Call (.Attribute e m apos) args [] pos) X.env = (do
      let ov ← eval e X.env
      standAt apos.atName
      let (f, first) ← holding [ov] (getMethod ov m pl)
      callWith pos f first (backTo pos (starEach args X.env)) (backToKw pos (keywordEach [] X.env)))) :
    wpAny (model X.prog X.w) X.A (eval (.Call (.Attribute e m apos) args [] pos) X.env) Q X.xe s := by
  refine PySem.W.methodCall_KW (pl := pl) (thn (he pins s σ H _ I h) fun u s1 ⟨x, H1, I1, rx, a, C, dx, fs, g, ex, ea, c, k, l, q⟩ => ?_) ht
  subst ex
  obtain rfl : u = Value.ref a := rx
  exact getmeth_ok I1 ea c k l (q s1 I1)
end

/-! ### isinstance -/
section
variable {X : Cx} {pins : List (Addr × Obj)} {σ : St} {H : Hp} {s : Shared} {A : Around} {E : Value → Shared → Prop} {Q : Value → Shared → Prop} {c : Value} {b : Bool}
/-- the type of a value, as the fragment's deciders take it; for an instance its class -/
inductive TyOf (K : PySem.W.Frag) (H : Hp) : V → Value → Prop where
  | non : TyOf K H .non (.type "NoneType")
  | bl (x : Bool) : TyOf K H (.bl x) (.type "bool")
  | int (i : Int) : TyOf K H (.int i) (.type "int")
  | str (x : Str) : TyOf K H (.str x) (.type "str")
  | flt (x : UInt64) : TyOf K H (.flt x) (.type "float")
  | lst {a : Addr} {xs : List V} (e : H a = some (.lst xs)) : TyOf K H (.ref a) (.type "list")
  | frz {a : Addr} {o : Obj} {xs : List V} (e : H a = some (.frz o (.lst xs))) : TyOf K H (.ref a) (.type "list")
  | tup {a : Addr} {xs : List V} (e : H a = some (.tup xs)) : TyOf K H (.ref a) (.type "tuple")
  | dK {a : Addr} {kvs : List (Key × V)} (e : H a = some (.dK kvs)) : TyOf K H (.ref a) (.type "dict")
  | dT {a : Addr} {kvs : List (List Key × V)} (e : H a = some (.dT kvs)) : TyOf K H (.ref a) (.type "dict")
  | ins {a C dx : Addr} {fs : List (Str × V)} (e : H a = some (.ins C dx fs)) (cl : Cls K C) (ha : PySem.W.findIn K (.ref C) "__class__" = some (some (.builtin "object.__class__")))
      (hn : PySem.W.specialIn K (.builtin "object.__class__") "__get__" = some (some (.builtin "getset_descriptor.__get__"))) (htk : PySem.W.takesIn K (.builtin "object.__class__") = some true)
      (hm : PySem.W.mroIn K C (.type "object") = some true) : TyOf K H (.ref a) (.ref C)
/-- isinstance(x, c) for one class c, a built-in or an own one: kitOne's answer -/
theorem isinst_ok {x : V} {u t : Value} (I : Inv X pins σ H s) (rx : RelV x u) (ty : TyOf X.K H x t) (e : PySem.W.kitOne X.K t c = some b) (h : ∀ tk, Q (.bool b) { s with toks := tk }) :
    wpAny (model X.prog X.w) A (call (.builtin "isinstance") [u, c]) Q E s := by
  cases ty with
  | non => cases (show u = Value.none from rx); exact PySem.W.kia_one PySem.W.kitx_none I.kIn True.intro e (fun z => nomatch z) h
  | bl y => cases (show u = Value.bool y from rx); exact PySem.W.kia_one PySem.W.kitx_bool I.kIn True.intro e (fun z => nomatch z) h
  | int i => obtain ⟨t, q⟩ := (show ∃ t, u = Value.int i t from rx); cases q; exact PySem.W.kia_one PySem.W.kitx_int I.kIn True.intro e (fun z => nomatch z) h
  | str y => obtain ⟨t, q⟩ := (show ∃ t, u = Value.str y t from rx); cases q; exact PySem.W.kia_one PySem.W.kitx_str I.kIn True.intro e (fun z => nomatch z) h
  | flt y => obtain ⟨t, q⟩ := (show ∃ t, u = Value.float y t from rx); cases q; exact PySem.W.kia_one PySem.W.kitx_float I.kIn True.intro e (fun z => nomatch z) h
  | @lst a xs ea =>
    cases (show u = Value.ref a from rx)
    obtain ⟨_, _, n, _, h1⟩ := (show ObjOk X.prog X.w H s.heap a (.lst xs) from I.hok a _ ea)
    exact PySem.W.kia_one PySem.W.kitx_list I.kIn ⟨_, h1, rfl⟩ e (fun z => nomatch z) h
  | @frz a ob xs ea =>
    cases (show u = Value.ref a from rx)
    obtain ⟨_, _, _, n, _, h1⟩ := (show ObjOk X.prog X.w H s.heap a (.frz ob (.lst xs)) from I.hok a _ ea)
    exact PySem.W.kia_one PySem.W.kitx_list I.kIn ⟨_, h1, rfl⟩ e (fun z => nomatch z) h
  | @tup a xs ea =>
    cases (show u = Value.ref a from rx)
    obtain ⟨_, _, _, p⟩ := (show ObjOk X.prog X.w H s.heap a (.tup xs) from I.hok a _ ea)
    obtain ⟨o, h1, h2, _⟩ := p
    exact PySem.W.kia_one PySem.W.kitx_tuple I.kIn ⟨o, h1, h2⟩ e (fun z => nomatch z) h
  | @dK a kvs ea =>
    cases (show u = Value.ref a from rx)
    obtain ⟨_, _, vs, _, p⟩ := (show ObjOk X.prog X.w H s.heap a (.dK kvs) from I.hok a _ ea)
    obtain ⟨o, es, ep, h1, h2, _⟩ := p
    exact PySem.W.kia_one PySem.W.kitx_dict I.kIn ⟨o, h1, h2.1⟩ e (fun z => nomatch z) h
  | @dT a kvs ea =>
    cases (show u = Value.ref a from rx)
    obtain ⟨_, _, xs, _, o, es, ep, h1, h2, _⟩ := (show ObjOk X.prog X.w H s.heap a (.dT kvs) from I.hok a _ ea)
    exact PySem.W.kia_one PySem.W.kitx_dict I.kIn ⟨o, h1, h2.1⟩ e (fun z => nomatch z) h
  | @ins a C dx fs ea cl ha hn htk hm =>
    cases (show u = Value.ref a from rx)
    obtain ⟨mA, O, _⟩ := ins_get I.hok ea
    obtain ⟨od, J, _⟩ := O.look
    exact PySem.W.kia_one (PySem.W.kitx_own (cl.get _) cl.hd ha hn htk hm) I.kIn J e (fun z => nomatch z) h
end
end L2

namespace L2
open PySem PySem.Spec PyProof.Rows

/-! ### room -/
structure Room (k : Nat) (A : Around) : Prop where
  hd : A.handled = none
  dp : A.depth + 3 * k + 5 < recursionLimit
  un : A.units + 16 * k + 200 < cLine
theorem Room.mono {j k : Nat} {A : Around} (r : Room k A) (h : j ≤ k) : Room j A := ⟨r.hd, by have := r.dp; omega, by have := r.un; omega⟩
theorem Room.deeper {k : Nat} {A : Around} (r : Room (k + 1) A) (env : Env) : Room k (A.deeper env) :=
  ⟨r.hd, by have := r.dp; show A.depth + 1 + 3 * k + 5 < _; omega, by have := r.un; show A.units + 3 + 16 * k + 200 < _; omega⟩
theorem Room.in1 {k : Nat} {A : Around} (r : Room (k + 1) A) : Room k A.in1 :=
  ⟨r.hd, by have := r.dp; show A.depth + 3 * k + 5 < _; omega, by have := r.un; show A.units + 1 + 16 * k + 200 < _; omega⟩
theorem make_depth {A : Around} {C : Addr} {us : List Value} {kw : List (Str × Value)} : (A.under (.builtin "type.__call__" ⟨.ref C :: us, kw⟩)).depth = A.depth + 1 := by
  first | rfl | simp [Around.under, Code.weight, Code.isCreation, Code.isGuard, Code.isCaller, Code.frames, Code.isFrame, guardIds]
theorem make_units {A : Around} {C : Addr} {us : List Value} {kw : List (Str × Value)} : (A.under (.builtin "type.__call__" ⟨.ref C :: us, kw⟩)).units = A.units + 1 := by
  first | rfl | simp [Around.under, Code.cUnits, Code.frames, Code.isFrame]
theorem Room.make {k : Nat} {A : Around} (r : Room (k + 1) A) (C : Addr) (us : List Value) (kw : List (Str × Value)) : Room k (A.under (.builtin "type.__call__" ⟨.ref C :: us, kw⟩)) :=
  ⟨r.hd, by have := r.dp; rw [make_depth]; omega, by have := r.un; rw [make_units]; omega⟩
theorem Room.depth {k : Nat} {A : Around} (r : Room k A) : A.depth < recursionLimit := by have := r.dp; omega
theorem Room.units {k : Nat} {A : Around} (r : Room k A) : A.units + 64 < cLine := by have := r.un; omega
theorem Room.units0 {k : Nat} {A : Around} (r : Room k A) : A.units < cLine := by have := r.un; omega

/-! ### argument lists and displays -/
def tNil : TA := fun _ H Q => Q [] H
def tCons (ta : TE) (tr : TA) : TA := fun σ H Q => ta σ H fun x H1 => tr σ H1 fun xs H2 => Q (x :: xs) H2
section
variable {X : Cx} {e : Expr} {es : List Expr} {te : TE} {t : TA} {pos : Pos}
theorem pa_nil : PA X [] tNil := fun _ _ _ _ H Q I h => Calls.spliced_nil ⟨[], H, I, .nil, h⟩
theorem pa_cons (ha : PE X e te) (hr : PA X es t) (hs : starEach (e :: es) X.env = (false, eval e X.env) :: starEach es X.env := by rfl) : PA X (e :: es) (tCons te t) := by
  intro pos pins s σ H Q I h
  rw [hs]
  show wpAny _ _ (spliced ((false, eval e X.env) :: backTo pos (starEach es X.env))) _ _ s
  refine Calls.spliced_cons (thn (ha pins s σ H _ I h) fun u s1 ⟨x, H1, I1, r1, q1⟩ => ?_)
  exact thn (hr pos pins s1 σ H1 _ I1 q1) fun us s2 ⟨xs, H2, I2, r2, q2⟩ => ⟨x :: xs, H2, I2, .cons r1 r2, q2⟩

/-- a tuple, a list of written items -/
def tTup (t : TA) : TE := fun σ H Q => t σ H fun xs H1 => xs.length ≤ sizeLine ∧ ∀ p, H1 p = none → Q (.ref p) (upd H1 p (.tup xs))
def tLst (t : TA) : TE := fun σ H Q => t σ H fun xs H1 => xs.length ≤ sizeLine ∧ ∀ p, H1 p = none → Q (.ref p) (upd H1 p (.lst xs))
theorem pe_tup {x1} (h : PA X es t) : PE X (.Tuple es x1 pos) (tTup t) := by
  intro pins s σ H Q I hq
  refine wpAny_Tuple_spliced (thn (h pos pins s σ H _ I hq) fun us s1 ⟨xs, H1, I1, r, z, q⟩ => ⟨by rw [← r.length]; exact z, ?_⟩)
  have hf : H1 s1.heap.objs.size = none := I1.hok.fresh (Nat.le_refl _)
  refine ⟨.ref s1.heap.objs.size, upd H1 s1.heap.objs.size (.tup xs), I1.laid (t' := s1.toks) (fun b u e => Heap.get?_push_of_some _ e) (Nat.le_refl _) ?_, rfl, q _ hf⟩
  exact ⟨z, us, r, ⟨_, Heap.get?_push_size _ rfl, rfl, _, rfl⟩⟩
theorem pe_lst (h : PA X es t) : PE X (.List es pos) (tLst t) := by
  intro pins s σ H Q I hq
  refine wpAny_List_spliced (thn (h pos pins s σ H _ I hq) fun us s1 ⟨xs, H1, I1, r, z, q⟩ => ⟨by rw [← r.length]; exact z, ?_⟩)
  have hf : H1 s1.heap.objs.size = none := I1.hok.fresh (Nat.le_refl _)
  refine ⟨.ref s1.heap.objs.size, upd H1 s1.heap.objs.size (.lst xs), I1.laid (t' := s1.toks) (fun b u e => Heap.get?_push_of_some _ e) (Nat.le_refl _) ?_, rfl, q _ hf⟩
  exact ⟨z, us, 0, r, Heap.get?_push_size _ rfl⟩
end

/-! ### what a def promises -/
/-- a def's promise: the bound arguments in the parameters' order, the heap, the wanted end, the wanted exception -/
abbrev Sp := List V → Hp → VK → XK → Prop
/-- how an exception lies behind a call (file 08 gives it): the callers' frames, abstract heap and state ahead of the call, the wish, the exception, the state -/
abbrev CXT := List Env → Hp → Shared → XK → Value → Shared → Prop

/-- the state at a call -/
structure Env0 (P : Program) (w : World) (K : PySem.W.Frag) (mg : Str → Option Value) (base : Heap) (A : Around) (outer : List Env) (s : Shared) (H : Hp) : Prop where
  frames : A.frames = some outer
  mod : Mod K mg base
  bs : ∀ b o, base.get? b = some o → s.heap.get? b = some o ∧ H b = none
  bsz : base.objs.size ≤ s.heap.objs.size
  funs : s.heap.FunFrames base outer
  frf : ∀ b ∈ frs outer, H b = none
  hok : HOk P w H s.heap
  bare : AllBare s.gens
/-- a call's end -/
def CE (outer : List Env) (P : Program) (w : World) (H : Hp) (s : Shared) (Q : VK) (u : Value) (s' : Shared) : Prop :=
  ∃ v H', s'.os = s.os ∧ AllBare s'.gens ∧ Un (frs outer) [] H H' s.heap s'.heap ∧ HOk P w H' s'.heap ∧ RelV v u ∧ Q v H'
def CR (CX : CXT) (outer : List Env) (P : Program) (w : World) (H : Hp) (s : Shared) (Q : VK) (E : XK) (r : Result) (s' : Shared) : Prop :=
  match r with
  | .ok (.ret u) => CE outer P w H s Q u s'
  | .ok _ => False
  | .error e => CX outer H s E e s'
structure FnOk (P : Program) (w : World) (K : PySem.W.Frag) (mg : Str → Option Value) (base : Heap) (CX : CXT) (k : Nat) (f : Addr) (fd : FuncData) (ps : List Str) (sp : Sp) : Prop where
  len : ∀ vs H Q E, sp vs H Q E → vs.length = ps.length
  run : ∀ (A : Around) (outer : List Env) (s : Shared) (H : Hp) (args : Args) (us : List Value) (vs : List V) (Q : VK) (E : XK), Room k A → Env0 P w K mg base A outer s H → BindsTo s fd args (ps.zip us) → Vals vs us → sp vs H Q E →
    codeAny (model P w) A (.call (.ref f) args) (CR CX outer P w H s Q E) s
theorem FnOk.mono {P : Program} {w : World} {K : PySem.W.Frag} {mg : Str → Option Value} {base : Heap} {CX : CXT} {j k : Nat} {f : Addr} {fd : FuncData} {ps : List Str} {sp : Sp} (F : FnOk P w K mg base CX j f fd ps sp) (h : j ≤ k) :
    FnOk P w K mg base CX k f fd ps sp := ⟨F.len, fun A outer s H args us vs Q E hr => F.run A outer s H args us vs Q E (hr.mono h)⟩
/-- a weaker promise -/
theorem FnOk.imp {P : Program} {w : World} {K : PySem.W.Frag} {mg : Str → Option Value} {base : Heap} {CX : CXT} {k : Nat} {f : Addr} {fd : FuncData} {ps : List Str} {sp sp' : Sp} (F : FnOk P w K mg base CX k f fd ps sp)
    (h : ∀ vs H Q E, sp' vs H Q E → sp vs H Q E) : FnOk P w K mg base CX k f fd ps sp' :=
  ⟨fun vs H Q E q => F.len vs H Q E (h _ _ _ _ q), fun A outer s H args us vs Q E hr he hb hv hs => F.run A outer s H args us vs Q E hr he hb hv (h _ _ _ _ hs)⟩

theorem Env0.make {P : Program} {w : World} {K : PySem.W.Frag} {mg : Str → Option Value} {base : Heap} {A : Around} {outer : List Env} {s : Shared} {H : Hp} (e : Env0 P w K mg base A outer s H) (C : Addr) (us : List Value) (kw : List (Str × Value)) :
    Env0 P w K mg base (A.under (.builtin "type.__call__" ⟨.ref C :: us, kw⟩)) outer s H := ⟨by first | exact e.frames | (simpa [Around.under, Code.envs, Code.isFrame, pushEnvs] using e.frames), e.mod, e.bs, e.bsz, e.funs, e.frf, e.hok, e.bare⟩
theorem Env0.in1 {P : Program} {w : World} {K : PySem.W.Frag} {mg : Str → Option Value} {base : Heap} {A : Around} {outer : List Env} {s : Shared} {H : Hp} (e : Env0 P w K mg base A outer s H) :
    Env0 P w K mg base A.in1 outer s H := ⟨e.frames, e.mod, e.bs, e.bsz, e.funs, e.frf, e.hok, e.bare⟩

section
variable {X : Cx} {pins : List (Addr × Obj)} {σ : St} {H : Hp} {s s' : Shared}
/-- from a body: what a callee wants -/
theorem Inv.env0 (I : Inv X pins σ H s) : Env0 X.prog X.w X.K X.mg X.base X.A X.stack s H :=
  ⟨I.ok.frames, I.ok.mod, I.bs, Nat.le_trans I.ok.bsz I.sz, I.stack, I.stkFree, I.hok, I.bare⟩
/-- behind a call -/
theorem Inv.after {Q : VK} {u : Value} (I : Inv X pins σ H s) (h : CE X.stack X.prog X.w H s Q u s') : EP X pins σ Q u s' := by
  obtain ⟨v, H', os, bare, un, hok, r, q⟩ := h
  obtain ⟨hh, g, d, t, os'⟩ := s'
  obtain rfl : os' = s.os := os
  exact ⟨v, H', I.call (h' := hh) (g' := g) (d' := d) (t' := t) (ch := []) un hok bare (fun b z => absurd z (by simp)), r, q⟩
end

/-! ### calls -/
/-- f(..): the written arguments, then the defaults dvs; E: what is wanted of an exception -/
def tCall (sp : Sp) (dvs : List V) (E : XK) (t : TA) : TE := fun σ H Q => t σ H fun vs H1 => sp (vs ++ dvs) H1 Q E
/-- o.m(..) of an instance of the class at C -/
def tMeth (C : Addr) (m : Str) (sp : Sp) (dvs : List V) (E : XK) (ta : TE) (t : TA) : TE := fun σ H Q => ta σ H fun x H1 => ∃ a dx fs, x = .ref a ∧ H1 a = some (.ins C dx fs) ∧ fs.lookup m = none ∧
  t σ H1 fun vs H2 => sp (x :: (vs ++ dvs)) H2 Q E
/-- C(..): a new instance and its dict, then __init__ -/
def tMake (C : Addr) (sp : Sp) (dvs : List V) (E : XK) (t : TA) : TE := fun σ H Q => t σ H fun vs H1 => ∀ x dx, H1 x = none → H1 dx = none → dx ≠ x →
  sp (.ref x :: (vs ++ dvs)) (upd (upd H1 dx (.own x)) x (.ins C dx [])) (fun v H2 => v = .non ∧ Q (.ref x) H2) E

/-- how the parameters are bound: us the positional arguments, kw the keywords' values by name, ds the defaults that fill up -/
def Binds (K : PySem.W.Frag) (fd : FuncData) (ps : List Str) (ds : List Value) : Prop :=
  ∀ (s : Shared) (us : List Value), K.In s.heap → (us ++ ds).length = ps.length → BindsTo s fd ⟨us, []⟩ (ps.zip (us ++ ds))
/-- every parameter is given -/
theorem Binds.all {K : PySem.W.Frag} {fd : FuncData} {ps : List Str} (h : ∀ us : List Value, us.length = ps.length → bindArgs fd ⟨us, []⟩ = pure (ps.zip us)) : Binds K fd ps [] := fun s us _ hl => by
  rw [List.append_nil] at hl ⊢
  exact .of_eq (h us hl)

/-- an exception of a callee reaches what this body wants of exceptions -/
def Passes (CX : CXT) (X : Cx) (E : XK) : Prop := ∀ (pins : List (Addr × Obj)) (σ : St) (H : Hp) (s : Shared) (e : Value) (s' : Shared), Inv X pins σ H s → CX X.stack H s E e s' → X.xe e s'

section
variable {X : Cx} {CX : CXT} {k : Nat} {f C : Addr} {fd : FuncData} {ps : List Str} {sp : Sp} {dvs : List V} {ds : List Value} {E : XK} {x m : Str} {p pos apos : Pos} {e o : Expr} {es : List Expr} {ta : TE} {t : TA}

/-- the callee runs -/
theorem run_fn {pins : List (Addr × Obj)} {σ : St} {H : Hp} {s : Shared} {Q : VK} {us : List Value} {vs : List V} (F : FnOk X.prog X.w X.K X.mg X.base CX k f fd ps sp) (hr : Room k X.A) (hb : Binds X.K fd ps ds) (hd : Vals dvs ds) (hx : Passes CX X E)
    (I : Inv X pins σ H s) (r : Vals vs us) (h : sp (vs ++ dvs) H Q E) : wpAny (model X.prog X.w) X.A (call (.ref f) us) (EP X pins σ Q) X.xe s := by
  have r2 : Vals (vs ++ dvs) (us ++ ds) := r.append hd
  have hl : (us ++ ds).length = ps.length := by rw [← r2.length]; exact F.len _ _ _ _ h
  refine wpAny_call (codeAny_mono (F.run X.A X.stack s H ⟨us, []⟩ (us ++ ds) (vs ++ dvs) Q E hr I.env0 (hb s us I.kIn hl) r2 h) fun r s' hq => ?_)
  cases r with
  | error e => exact hx pins σ H s e s' I hq
  | ok fl =>
    cases fl with
    | ret u => exact I.after hq
    | next => exact False.elim hq
    | brk => exact False.elim hq
    | cont => exact False.elim hq

theorem pe_call (F : FnOk X.prog X.w X.K X.mg X.base CX k f fd ps sp) (hr : Room k X.A) (hg : Gl X x) (hm : X.mg x = some (.ref f)) (hk : PySem.W.keepIn X.K (.ref f) = true) (hb : Binds X.K fd ps ds) (hd : Vals dvs ds) (hx : Passes CX X E)
    (ha : PA X (e :: es) t) (hdb : (x == ("__debug__" : Str)) = false := by decide) (he : starEach (e :: es) X.env = (false, eval e X.env) :: starEach es X.env := by rfl) (hpl : (backTo pos (starEach es X.env)).any (·.1) = false := by rfl) :
    PE X (.Call (.Name x p) (e :: es) [] pos) (tCall sp dvs E t) := by
  intro pins s σ H Q I h
  refine wpAny_Call_Name_kw (ld_glob I hg hm ?_ hdb)
  refine PySem.W.callWith_K (h₀ := X.base) I.ok.mod.kin hk (thn (ha pos pins s σ H _ I h) fun us s1 ⟨vs, H1, I1, r, q⟩ => ⟨I1.kIn, ?_⟩) he hpl
  exact run_fn F hr hb hd hx I1 r q
theorem pe_call0 (F : FnOk X.prog X.w X.K X.mg X.base CX k f fd ps sp) (hr : Room k X.A) (hg : Gl X x) (hm : X.mg x = some (.ref f)) (hk : PySem.W.keepIn X.K (.ref f) = true) (hb : Binds X.K fd ps ds) (hd : Vals dvs ds) (hx : Passes CX X E)
    (hdb : (x == ("__debug__" : Str)) = false := by decide) : PE X (.Call (.Name x p) [] [] pos) (tCall sp dvs E tNil) := by
  intro pins s σ H Q I h
  refine wpAny_Call_Name_kw (ld_glob I hg hm ?_ hdb)
  exact PySem.W.callWith_K0 I.kIn hk (run_fn (us := []) F hr hb hd hx I .nil h)

/-- o.m(e, ..) -/
theorem pe_meth {pl : Sem Bool} (he : PE X o ta) (c : Cls X.K C) (hm : Meth X.K C m f) (F : FnOk X.prog X.w X.K X.mg X.base CX k f fd ps sp) (hr : Room k X.A) (hb : Binds X.K fd ps ds) (hd : Vals dvs ds) (hx : Passes CX X E) (ha : PA X (e :: es) t)
    (hst : starEach (e :: es) X.env = (false, eval e X.env) :: starEach es X.env := by rfl) (hpl : (backTo pos (starEach es X.env)).any (·.1) = false := by rfl)
    (ht : eval (.Call (.Attribute o m apos) (e :: es) [] pos) X.env = (do
      let ov ← eval o X.env
      standAt apos.atName
      let (f, first) ← holding [ov] (getMethod ov m pl)
      callWith pos f first (backTo pos (starEach (e :: es) X.env)) (backToKw pos (keywordEach [] X.env))) := by rfl) :
    PE X (.Call (.Attribute o m apos) (e :: es) [] pos) (tMeth C m sp dvs E ta t) := by
  intro pins s σ H Q I h
  refine PySem.W.methodCall_KW (pl := pl) (thn (he pins s σ H _ I h) fun u s1 ⟨x, H1, I1, rx, a, dx, fs, ex, ea, l, q⟩ => ?_) ht
  subst ex
  obtain rfl : u = Value.ref a := rx
  refine getmeth_ok I1 ea c hm l ?_
  refine PySem.W.callWith_K (first := [.ref a]) (h₀ := X.base) I.ok.mod.kin hm.kp (thn (ha pos pins s1 σ H1 _ I1 q) fun us s2 ⟨vs, H2, I2, r, q2⟩ => ⟨I2.kIn, ?_⟩) hst hpl
  exact run_fn (us := .ref a :: us) (vs := .ref a :: vs) F hr hb hd hx I2 (.cons rfl r) q2
/-- o.m() -/
theorem pe_meth0 {pl : Sem Bool} (he : PE X o ta) (c : Cls X.K C) (hm : Meth X.K C m f) (F : FnOk X.prog X.w X.K X.mg X.base CX k f fd ps sp) (hr : Room k X.A) (hb : Binds X.K fd ps ds) (hd : Vals dvs ds) (hx : Passes CX X E)
    (ht : eval (.Call (.Attribute o m apos) [] [] pos) X.env = (do
      let ov ← eval o X.env
      standAt apos.atName
      let (f, first) ← holding [ov] (getMethod ov m pl)
      callWith pos f first (backTo pos (starEach [] X.env)) (backToKw pos (keywordEach [] X.env))) := by rfl) :
    PE X (.Call (.Attribute o m apos) [] [] pos) (tMeth C m sp dvs E ta tNil) := by
  intro pins s σ H Q I h
  refine PySem.W.methodCall_KW (pl := pl) (thn (he pins s σ H _ I h) fun u s1 ⟨x, H1, I1, rx, a, dx, fs, ex, ea, l, q⟩ => ?_) ht
  subst ex
  obtain rfl : u = Value.ref a := rx
  refine getmeth_ok I1 ea c hm l ?_
  exact PySem.W.callWith_K0 (first := [.ref a]) I1.kIn hm.kp (run_fn (us := [.ref a]) (vs := [.ref a]) F hr hb hd hx I1 (.cons rfl .nil) q)

/-- what a class must have to be made -/
structure Mk (K : PySem.W.Frag) (C f : Addr) : Prop where
  makes : PySem.W.makesIn K C = true
  init : PySem.W.findIn K (.ref C) "__init__" = some (some (.ref f))
  fn : PySem.W.isFn K (.ref f) = true
  kp : PySem.W.keepIn K (.ref C) = true

theorem run_make {pins : List (Addr × Obj)} {σ : St} {H : Hp} {s : Shared} {Q : VK} {us : List Value} {vs : List V} (M : Mk X.K C f) (F : FnOk X.prog X.w X.K X.mg X.base CX k f fd ps sp) (hr : Room (k + 1) X.A) (hb : Binds X.K fd ps ds) (hd : Vals dvs ds)
    (hx : Passes CX X E) (I : Inv X pins σ H s) (r : Vals vs us)
    (h : ∀ x dx, H x = none → H dx = none → dx ≠ x → sp (.ref x :: (vs ++ dvs)) (upd (upd H dx (.own x)) x (.ins C dx [])) (fun v H2 => v = .non ∧ Q (.ref x) H2) E) :
    wpAny (model X.prog X.w) X.A (call (.ref C) us) (EP X pins σ Q) X.xe s := by
  have hq := h (s.heap.objs.size + 1) s.heap.objs.size (I.hok.fresh (Nat.le_succ _)) (I.hok.fresh (Nat.le_refl _)) (Nat.ne_of_lt (Nat.lt_succ_self _))
  have I2 := Inv.made (C := C) I
  have r2 : Vals (V.ref (s.heap.objs.size + 1) :: (vs ++ dvs)) (Value.ref (s.heap.objs.size + 1) :: (us ++ ds)) := .cons rfl (r.append hd)
  have hl : (Value.ref (s.heap.objs.size + 1) :: us ++ ds).length = ps.length := by
    have e := r2.length
    rw [F.len _ _ _ _ hq] at e
    exact e.symm
  refine wpAny_call (make_map (f := f) I.kIn M.makes M.init (beq_iff_eq.mp M.fn) (codeAny_mono (F.run _ X.stack _ _ ⟨Value.ref (s.heap.objs.size + 1) :: us, []⟩ (Value.ref (s.heap.objs.size + 1) :: (us ++ ds)) _ _ E (hr.make C us [])
    (I2.env0.make C us []) (hb _ (Value.ref (s.heap.objs.size + 1) :: us) I2.kIn hl) r2 hq) fun r s' hq' => ?_))
  cases r with
  | error e => exact hx pins σ _ _ e s' I2 hq'
  | ok fl =>
    cases fl with
    | ret u =>
      obtain ⟨v, H', I3, rv, ev, q3⟩ := I2.after hq'
      subst ev
      exact ⟨rv, ⟨V.ref (s.heap.objs.size + 1), H', I3, rfl, q3⟩⟩
    | next => exact False.elim hq'
    | brk => exact False.elim hq'
    | cont => exact False.elim hq'
theorem pe_make (M : Mk X.K C f) (F : FnOk X.prog X.w X.K X.mg X.base CX k f fd ps sp) (hr : Room (k + 1) X.A) (hg : Gl X x) (hm : X.mg x = some (.ref C)) (hb : Binds X.K fd ps ds) (hd : Vals dvs ds) (hx : Passes CX X E)
    (ha : PA X (e :: es) t) (hdb : (x == ("__debug__" : Str)) = false := by decide) (he : starEach (e :: es) X.env = (false, eval e X.env) :: starEach es X.env := by rfl) (hpl : (backTo pos (starEach es X.env)).any (·.1) = false := by rfl) :
    PE X (.Call (.Name x p) (e :: es) [] pos) (tMake C sp dvs E t) := by
  intro pins s σ H Q I h
  refine wpAny_Call_Name_kw (ld_glob I hg hm ?_ hdb)
  refine PySem.W.callWith_K (h₀ := X.base) I.ok.mod.kin M.kp (thn (ha pos pins s σ H _ I h) fun us s1 ⟨vs, H1, I1, r, q⟩ => ⟨I1.kIn, ?_⟩) he hpl
  exact run_make M F hr hb hd hx I1 r q
theorem pe_make0 (M : Mk X.K C f) (F : FnOk X.prog X.w X.K X.mg X.base CX k f fd ps sp) (hr : Room (k + 1) X.A) (hg : Gl X x) (hm : X.mg x = some (.ref C)) (hb : Binds X.K fd ps ds) (hd : Vals dvs ds) (hx : Passes CX X E)
    (hdb : (x == ("__debug__" : Str)) = false := by decide) : PE X (.Call (.Name x p) [] [] pos) (tMake C sp dvs E tNil) := by
  intro pins s σ H Q I h
  refine wpAny_Call_Name_kw (ld_glob I hg hm ?_ hdb)
  exact PySem.W.callWith_K0 I.kIn M.kp (run_make (us := []) M F hr hb hd hx I .nil h)
end

/-! ### keywords -/
/-- the values of the keywords, from the left -/
def PK (X : Cx) (kws : List Keyword) (t : TA) : Prop :=
  ∀ (pos : Pos) (pins : List (Addr × Obj)) (s : Shared) (σ : St) (H : Hp) (Q : List V → Hp → Prop), Inv X pins σ H s → t σ H Q → wpAny (model X.prog X.w) X.A (evalAll ((backToKw pos (keywordEach kws X.env)).map (·.2))) (AP X pins σ Q) X.xe s
section
variable {X : Cx} {CX : CXT} {k : Nat} {f C : Addr} {fd : FuncData} {ps ks : List Str} {sp : Sp} {E : XK} {x m : Str} {p pos apos kpos : Pos} {e o : Expr} {es : List Expr} {kws : List Keyword} {te ta : TE} {t tk : TA} {nm : Option Str}
theorem pk_nil : PK X [] tNil := fun _ _ _ _ H Q I h => wpAny_evalAll_nil ⟨[], H, I, .nil, h⟩
theorem pk_cons (ha : PE X e te) (hr : PK X kws t) : PK X (⟨nm, e, kpos⟩ :: kws) (tCons te t) := by
  intro pos pins s σ H Q I h
  show wpAny _ _ (evalAll ((do let v ← eval e X.env; standAt pos; pure v) :: (backToKw pos (keywordEach kws X.env)).map (·.2))) _ _ s
  refine wpAny_evalAll_cons (wpAny_bind (thn (ha pins s σ H _ I h) fun u s1 ⟨x, H1, I1, r1, q1⟩ => wpAny_bind (wpAny_standAt (wpAny_pure ?_))))
  exact thn (hr pos pins s1 σ H1 _ I1 q1) fun us s2 ⟨xs, H2, I2, r2, q2⟩ => ⟨x :: xs, H2, I2, .cons r1 r2, q2⟩

/-- how a call with keywords binds: g puts the positional values us and the keywords' values ws (names ks) in the parameters' order, defaults among them -/
structure KBinds (K : PySem.W.Frag) (fd : FuncData) (ps ks : List Str) (g : List Value → List Value → List Value) (gV : List V → List V → List V) : Prop where
  to : ∀ (s : Shared) (us ws : List Value), K.In s.heap → (g us ws).length = ps.length → BindsTo s fd ⟨us, ks.zip ws⟩ (ps.zip (g us ws))
  rel : ∀ {vs : List V} {us : List Value} {zs : List V} {ws : List Value}, Vals vs us → Vals zs ws → Vals (gV vs zs) (g us ws)
def tCallK (sp : Sp) (gV : List V → List V → List V) (E : XK) (t tk : TA) : TE := fun σ H Q => t σ H fun vs H1 => tk σ H1 fun zs H2 => sp (gV vs zs) H2 Q E
variable {g : List Value → List Value → List Value} {gV : List V → List V → List V}
theorem run_fnk {pins : List (Addr × Obj)} {σ : St} {H : Hp} {s : Shared} {Q : VK} {us ws : List Value} {vs zs : List V} (F : FnOk X.prog X.w X.K X.mg X.base CX k f fd ps sp) (hr : Room k X.A) (hb : KBinds X.K fd ps ks g gV) (hx : Passes CX X E)
    (I : Inv X pins σ H s) (r : Vals vs us) (rz : Vals zs ws) (h : sp (gV vs zs) H Q E) : wpAny (model X.prog X.w) X.A (call (.ref f) us (ks.zip ws)) (EP X pins σ Q) X.xe s := by
  have r2 := hb.rel r rz
  have hl : (g us ws).length = ps.length := by rw [← r2.length]; exact F.len _ _ _ _ h
  refine wpAny_call (codeAny_mono (F.run X.A X.stack s H ⟨us, ks.zip ws⟩ (g us ws) (gV vs zs) Q E hr I.env0 (hb.to s us ws I.kIn hl) r2 h) fun r s' hq => ?_)
  cases r with
  | error e => exact hx pins σ H s e s' I hq
  | ok fl =>
    cases fl with
    | ret u => exact I.after hq
    | next => exact False.elim hq
    | brk => exact False.elim hq
    | cont => exact False.elim hq
/-- f(e, .., k = v, ..) -/
theorem pe_callK (F : FnOk X.prog X.w X.K X.mg X.base CX k f fd ps sp) (hr : Room k X.A) (hg : Gl X x) (hm : X.mg x = some (.ref f)) (hk : PySem.W.keepIn X.K (.ref f) = true) (hb : KBinds X.K fd ps ks g gV) (hx : Passes CX X E)
    (ha : PA X (e :: es) t) (hkw : PK X kws tk) (hall : (backToKw pos (keywordEach kws X.env)).all (·.1.isSome) = true := by rfl) (hks : (backToKw pos (keywordEach kws X.env)).filterMap (·.1) = ks := by rfl)
    (hdb : (x == ("__debug__" : Str)) = false := by decide) (he : starEach (e :: es) X.env = (false, eval e X.env) :: starEach es X.env := by rfl)
    (hpl : ((backTo pos (starEach (e :: es) X.env)).any (·.1) || (backToKw pos (keywordEach kws X.env)).any (·.1.isNone)) = false := by rfl) :
    PE X (.Call (.Name x p) (e :: es) kws pos) (tCallK sp gV E t tk) := by
  intro pins s σ H Q I h
  refine wpAny_Call_Name_kw (ld_glob I hg hm ?_ hdb)
  refine PySem.W.callWith_KW (h₀ := X.base) I.ok.mod.kin hk hall (thn (ha pos pins s σ H _ I h) fun us s1 ⟨vs, H1, I1, r, q⟩ => ?_) hpl he
  refine thn (hkw pos pins s1 σ H1 _ I1 q) fun ws s2 ⟨zs, H2, I2, rz, q2⟩ => ⟨I2.kIn, ?_⟩
  rw [hks]
  exact run_fnk F hr hb hx I2 r rz q2
end

/-! ### a def's body keeps its promise -/
/-- names: the parameters first -/
structure FnScope (N P : List Str) (sc : Scope) : Prop where
  kind : sc.kind = .function
  co : sc.isCoroutine = false
  gen : sc.isGenerator = false
  nd : N.Nodup
  pre : N.take P.length = P
  par : ∀ x ∈ P, sc.names.lookup x = some .local ∨ sc.names.lookup x = some .cell
  nofree : ∀ y ∈ sc.names, y.2 ≠ .free

theorem bindL_out {kindOf : Str → Option NameKind} {x : Str} : ∀ {binds : List (Str × Value)} {m : Str → Option Value}, (∀ v, (x, v) ∉ binds) → bindL kindOf binds m x = m x
  | [], _, _ => rfl
  | (n, v) :: r, m, h => by
    unfold bindL
    rw [bindL_out fun w hw => h w (List.mem_cons_of_mem _ hw)]
    split
    · have : x ≠ n := by rintro rfl; exact h v List.mem_cons_self
      simp [this]
    · rfl
theorem bindC_out {kindOf : Str → Option NameKind} {x : Str} : ∀ {binds : List (Str × Value)} {m : Str → Option Value}, (∀ v, (x, v) ∉ binds) → bindC kindOf binds m x = m x
  | [], _, _ => rfl
  | (n, v) :: r, m, h => by
    unfold bindC
    rw [bindC_out fun w hw => h w (List.mem_cons_of_mem _ hw)]
    split
    · rfl
    · have : x ≠ n := by rintro rfl; exact h v List.mem_cons_self
      simp [this]
theorem bindL_get {kindOf : Str → Option NameKind} {x : Str} {v : Value} : ∀ {P : List Str} {vs : List Value} {i : Nat} {m : Str → Option Value}, P.Nodup → P[i]? = some x → vs[i]? = some v → kindOf x = some .local →
    bindL kindOf (P.zip vs) m x = some v
  | [], _, _, _, _, h, _, _ => by simp at h
  | _ :: _, [], _, _, _, _, h, _ => by simp at h
  | p :: P, w :: vs, 0, m, nd, h1, h2, hk => by
    simp at h1 h2; subst h1; subst h2
    show bindL kindOf ((p, w) :: P.zip vs) m p = _
    unfold bindL
    rw [bindL_out fun v hv => (List.nodup_cons.mp nd).1 (List.of_mem_zip hv).1, if_pos hk]
    simp
  | p :: P, w :: vs, i + 1, m, nd, h1, h2, hk => by
    show bindL kindOf ((p, w) :: P.zip vs) m x = _
    unfold bindL
    exact bindL_get (i := i) (List.nodup_cons.mp nd).2 (by simpa using h1) (by simpa using h2) hk
theorem bindC_get {kindOf : Str → Option NameKind} {x : Str} {v : Value} : ∀ {P : List Str} {vs : List Value} {i : Nat} {m : Str → Option Value}, P.Nodup → P[i]? = some x → vs[i]? = some v → kindOf x ≠ some .local →
    bindC kindOf (P.zip vs) m x = some v
  | [], _, _, _, _, h, _, _ => by simp at h
  | _ :: _, [], _, _, _, _, h, _ => by simp at h
  | p :: P, w :: vs, 0, m, nd, h1, h2, hk => by
    simp at h1 h2; subst h1; subst h2
    show bindC kindOf ((p, w) :: P.zip vs) m p = _
    unfold bindC
    rw [bindC_out fun v hv => (List.nodup_cons.mp nd).1 (List.of_mem_zip hv).1, if_neg hk]
    simp
  | p :: P, w :: vs, i + 1, m, nd, h1, h2, hk => by
    show bindC kindOf ((p, w) :: P.zip vs) m x = _
    unfold bindC
    exact bindC_get (i := i) (List.nodup_cons.mp nd).2 (by simpa using h1) (by simpa using h2) hk

/-- the names' values at the entry -/
def start (N : List Str) (vs : List V) : St := vs.map some ++ List.replicate (N.length - vs.length) none

/-- the context of a def's body, at its entry; an exception leaves the frame, then lies as CX says -/
def cxOf (CX : CXT) (P : Program) (w : World) (K : PySem.W.Frag) (mg : Str → Option Value) (base : Heap) (N : List Str) (qual : Str) (scope : Scope) (f : Addr) (cd : Value) (A : Around) (outer : List Env) (s : Shared) (H : Hp) (E : XK) : Cx where
  prog := P
  w := w
  K := K
  mg := mg
  base := base
  A := A.deeper (envOfC qual scope s.heap.objs.size f cd)
  N := N
  s₀ := s
  H₀ := H
  env := envOfC qual scope s.heap.objs.size f cd
  outer := outer
  stack := envOfC qual scope s.heap.objs.size f cd :: outer
  ex := []
  calm := true
  fn := fun _ => true
  pn := []
  xe := fun e s' => wpAny (model P w) (A.deeper (envOfC qual scope s.heap.objs.size f cd)) (leaving (envOfC qual scope s.heap.objs.size f cd) e) (fun _ s'' => CX outer H s E e s'') (fun e' s'' => CX outer H s E e' s'') s'

theorem cell_has {sc : Scope} {n : Nat} {x : Str} (h : sc.names.lookup x = some .cell) : ∃ c, (cellsFrom n sc.names []).lookup x = some c := by
  have q := PySem.W.cellsFrom_some sc.names n [] (.inl h)
  exact Option.isSome_iff_exists.mp q

theorem inv_start {CX : CXT} {P : Program} {w : World} {K : PySem.W.Frag} {mg : Str → Option Value} {base : Heap} {N ps : List Str} {qual : Str} {scope : Scope} {f : Addr} {cd : Value} {A : Around} {outer : List Env} {s s1 : Shared} {H : Hp} {E : XK} {us : List Value} {vs : List V}
    (S : FnScope N ps scope) (hd : A.handled = none) (e0 : Env0 P w K mg base A outer s H) (hl : vs.length = ps.length) (r : Vals vs us)
    (x : InCallC s s.heap.objs.size (bindL (envOfC qual scope s.heap.objs.size f cd).kindOf (ps.zip us) fun _ => none) (cellsFrom (s.heap.objs.size + 1) scope.names []) (bindC (envOfC qual scope s.heap.objs.size f cd).kindOf (ps.zip us) fun _ => none) s1) :
    Inv (cxOf CX P w K mg base N qual scope f cd A outer s H E) [] (start N vs) H s1 := by
  have hpl : ps.length ≤ N.length := by have := congrArg List.length S.pre; rw [List.length_take] at this; omega
  obtain ⟨h1, tk, rfl, hk⟩ := x.done
  have noA : ∀ b : Addr, b ∉ (cxOf CX P w K mg base N qual scope f cd A outer s H E).ex := fun b z => absurd (show b ∈ ([] : List Addr) from z) (by simp)
  refine ⟨⟨e0.mod, S.kind, rfl, rfl, Nat.le_refl _, fun y z c h1 h2 => ?_, fun y hy => ?_, fun y c _ h => ?_, fun _ => hd, Around.frames_deeper e0.frames, .inr ⟨rfl, rfl⟩, fun b z => absurd z (noA b), e0.bs, e0.bsz, fun b _ _ => noA b, fun b z => absurd z (noA b), e0.funs, e0.frf⟩,
    rfl, e0.bare, Un.kept hk, ⟨_, x.toInCall.ns, fun i y v h1 h2 h3 => ?_⟩, fun y c h => ⟨_, x.cell y c h⟩, e0.hok.fresh (Nat.le_refl _), fun y c h => ?_, fun p hp => absurd (show p ∈ ([] : List (Addr × Obj)) from hp) (by simp), e0.hok.kept hk, ?_⟩
  · exact name_of_addr x.apart (PySem.mem_of_lookup h1) (PySem.mem_of_lookup h2)
  · have hy : scope.names.lookup y = some .cell ∨ scope.names.lookup y = some .free := hy
    rcases hy with hy | hy
    · exact cell_has hy
    · exact absurd rfl (S.nofree _ (PySem.mem_of_lookup hy))
  · exact Nat.le_of_lt (x.above y c (PySem.mem_of_lookup h))
  · have hi : i < vs.length := by
      unfold start at h2
      by_cases hi : i < vs.length
      · exact hi
      · rw [List.getElem?_append_right (by simpa using hi)] at h2
        rw [List.getElem?_replicate] at h2
        split at h2 <;> cases h2
    have ha : vs[i]? = some v := by
      unfold start at h2
      rw [List.getElem?_append_left (by simpa using hi), List.getElem?_map] at h2
      cases e : vs[i]? with
      | none => rw [e] at h2; cases h2
      | some a => rw [e] at h2; cases h2; rfl
    obtain ⟨u, hu, rv⟩ := r.get ha
    have hp : ps[i]? = some y := by
      rw [← S.pre, List.getElem?_take_of_lt (by omega)]; exact h1
    have ndP : ps.Nodup := by rw [← S.pre]; exact S.nd.sublist (List.take_sublist _ _)
    refine ⟨u, rv, ?_⟩
    rcases S.par y (List.mem_of_getElem? hp) with k | k
    · exact .inl ⟨k, bindL_get ndP hp hu k⟩
    · obtain ⟨c, e⟩ := cell_has (n := s.heap.objs.size + 1) k
      refine .inr ⟨.inl k, c, e, ?_⟩
      have q := x.cell y c e
      rw [bindC_get ndP hp hu (by show scope.names.lookup y ≠ _; rw [k]; decide)] at q
      exact q
  · exact e0.hok.fresh (Nat.le_of_lt (x.above y c (PySem.mem_of_lookup h)))
  · unfold start
    show _ = N.length
    rw [List.length_append, List.length_map, List.length_replicate]
    omega

/-- THE RULE: a def (or a method) of the text, by its body. The body's reading t is chosen for each entry; it is run at the parameters' values -/
theorem fn_of {CX : CXT} {P : Program} {w : World} {K : PySem.W.Frag} {mg : Str → Option Value} {base : Heap} {k : Nat} {f : Addr} {name qual : Str} {params : Arguments} {body : List Stmt} {scope : Scope} {dV kV doc pm cdv ct oc : Value} {an od : Option Addr}
    {osl : Array (Option Value)} {N ps : List Str} {sp : Sp} (lk : K.lookup f = some ⟨oc, od, .func (PySem.W.fnOf name qual params body scope dV kV doc pm an cdv ct), osl⟩) (hcd : PySem.W.codeIn K cdv qual = true) (S : FnScope N ps scope)
    (len : ∀ vs H Q E, sp vs H Q E → vs.length = ps.length)
    (hbody : ∀ (A : Around) (outer : List Env) (s : Shared) (H : Hp) (vs : List V) (Q : VK) (E : XK), Room k (A.deeper (envOfC qual scope s.heap.objs.size f cdv)) → sp vs H Q E →
      ∃ t, PSs (cxOf CX P w K mg base N qual scope f cdv A outer s H E) body t ∧ t { nx := fun _ H' => Q .non H', rt := Q } (start N vs) H) :
    FnOk P w K mg base CX (k + 1) f (PySem.W.fnOf name qual params body scope dV kV doc pm an cdv ct) ps sp := by
  refine ⟨len, fun A outer s H args us vs Q E hr e0 hb r hsp => ?_⟩
  have hl := len _ _ _ _ hsp
  have KX : K.In s.heap := e0.mod.kin.keeps fun b o e => (e0.bs b o e).1
  have lim : s.heap.NoLimit := e0.mod.nolimit.keeps fun b o e => (e0.bs b o e).1
  have hkind : ∀ y ∈ ps.zip us, scope.names.lookup y.1 = some .local ∨ (scope.names.lookup y.1 = some .cell ∧ ((cellsFrom (s.heap.objs.size + 1) scope.names []).lookup y.1).isSome = true) := fun ⟨n, v⟩ hy => by
    rcases S.par n (List.of_mem_zip hy).1 with q | q
    · exact .inl q
    · exact .inr ⟨q, PySem.W.cellsFrom_some _ _ _ (.inl q)⟩
  refine codeAny_call_function hr.depth (KX _ _ lk) rfl S.co S.gen rfl (PySem.W.codeRec_of KX hcd) (hb _ _ _ _ ?_)
  refine wpAny_newFunctionEnv_cells S.kind hkind fun env he s1 x => ?_
  subst he
  refine ⟨lim.keeps x.toInCall.keep, codeAny_func ?_⟩
  obtain ⟨t, ht, hq⟩ := hbody A outer s H vs Q E (hr.deeper _) hsp
  have I : Inv (cxOf CX P w K mg base N qual scope f cdv A outer s H E) [] (start N vs) H s1 := inv_start S hr.hd e0 hl r x
  refine wpAny_mono (ht [] s1 (start N vs) H _ I hq) (fun fl s' hs => ?_) fun e s' hs => hs
  have fin : ∀ {σ' : St} {H' : Hp} {v : V} {u : Value}, Inv (cxOf CX P w K mg base N qual scope f cdv A outer s H E) [] σ' H' s' → RelV v u → Q v H' → CE outer P w H s Q u s' :=
    fun {σ' H' v u} J rv q => ⟨v, H', J.os, J.bare, J.base, J.hok, rv, q⟩
  cases fl with
  | ret u =>
    obtain ⟨v, σ', H', J, rv, q⟩ := hs
    exact fin J rv q
  | next =>
    obtain ⟨σ', H', J, q⟩ := hs
    exact fin (v := V.non) (u := Value.none) J rfl q
  | brk =>
    obtain ⟨_, _, _, q⟩ := hs
    exact False.elim q
  | cont =>
    obtain ⟨_, _, _, q⟩ := hs
    exact False.elim q
end L2

namespace L2
open PySem PySem.Spec PyProof.Rows
section
variable {X : Cx} {x : Str} {p pos : Pos} {e : Expr} {es : List Expr} {t : TA} {id T : String} {r : List V → Hp → VK → Prop}

def tCB (r : List V → Hp → VK → Prop) (t : TA) : TE := fun σ H Q => t σ H fun vs H1 => r vs H1 Q
/-- f(e, ..), f a built-in function -/
theorem pe_callB (hc : CallR X (.builtin id) r) (hg : Gl X x) (hm : X.mg x = none) (hv : bootBuiltins x = some (.builtin id)) (ha : PA X (e :: es) t) (hn : x ≠ "__name__" := by decide) (hdb : (x == ("__debug__" : Str)) = false := by decide)
    (he : starEach (e :: es) X.env = (false, eval e X.env) :: starEach es X.env := by rfl) (hpl : (backTo pos (starEach es X.env)).any (·.1) = false := by rfl) : PE X (.Call (.Name x p) (e :: es) [] pos) (tCB r t) := by
  intro pins s σ H Q I h
  refine wpAny_Call_Name_kw (ld_blt I hg hm hv ?_ hn hdb)
  exact PyProof.Rows.callWith_builtin1 (thn (ha pos pins s σ H _ I h) fun us s1 ⟨vs, H1, I1, r1, q1⟩ => hc pins s1 σ H1 vs us Q I1 r1 q1) he hpl
/-- T(e, ..), T a built-in type -/
theorem pe_callTy (hc : CallR X (.type T) r) (hg : Gl X x) (hm : X.mg x = none) (hv : bootBuiltins x = some (.type T)) (ha : PA X (e :: es) t) (hn : x ≠ "__name__" := by decide) (hdb : (x == ("__debug__" : Str)) = false := by decide)
    (he : starEach (e :: es) X.env = (false, eval e X.env) :: starEach es X.env := by rfl) (hpl : (backTo pos (starEach es X.env)).any (·.1) = false := by rfl) : PE X (.Call (.Name x p) (e :: es) [] pos) (tCB r t) := by
  intro pins s σ H Q I h
  refine wpAny_Call_Name_kw (ld_blt I hg hm hv ?_ hn hdb)
  exact PyProof.Rows.callWith_type1 (thn (ha pos pins s σ H _ I h) fun us s1 ⟨vs, H1, I1, r1, q1⟩ => hc pins s1 σ H1 vs us Q I1 r1 q1) he hpl
/-- T() -/
theorem pe_callTy0 (hc : CallR X (.type T) r) (hg : Gl X x) (hm : X.mg x = none) (hv : bootBuiltins x = some (.type T)) (hn : x ≠ "__name__" := by decide) (hdb : (x == ("__debug__" : Str)) = false := by decide) :
    PE X (.Call (.Name x p) [] [] pos) (tCB r tNil) := by
  intro pins s σ H Q I h
  refine wpAny_Call_Name_kw (ld_blt I hg hm hv ?_ hn hdb)
  exact PyProof.Rows.callWith_type0 (hc pins s σ H [] [] Q I .nil h)
end
end L2

namespace HT
open PySem PyProof.Rows

/-- t < u of tuples of ints -/
def lexLt : List Int → List Int → Bool
  | [], [] => false
  | [], _ :: _ => true
  | _ :: _, [] => false
  | x :: xs, y :: ys => if x = y then lexLt xs ys else decide (x < y)
theorem lexLt_cons (x y : Int) (xs ys : List Int) : lexLt (x :: xs) (y :: ys) = if x = y then lexLt xs ys else decide (x < y) := rfl
theorem lexLt_nil_nil : lexLt [] [] = false := rfl
theorem lexLt_nil_cons (y : Int) (ys : List Int) : lexLt [] (y :: ys) = true := rfl
theorem lexLt_cons_nil (x : Int) (xs : List Int) : lexLt (x :: xs) [] = false := rfl

theorem eqAt_int (A : Around) (s : Shared) (a : Int) (t : Tok) (c : Int) (u : Tok) : ∃ e, SeqAt.EqAt A s (.int a t) (.int c u) e ∧ (e = true ↔ a = c) :=
  ⟨(a == c), SeqAt.EqAt.int_int a t c u, by simp⟩
theorem rcLt_int (A : Around) (s : Shared) (a : Int) (t : Tok) (c : Int) (u : Tok) (prog : Program) (w : World) (E : Value → Shared → Prop) (Q : Value → Shared → Prop) (h : Q (.bool (decide (a < c))) s) :
    wpAny (model prog w) A (richCompare .Lt (.int a t) (.int c u)) Q E s :=
  (PyProof.Rows.lt_int h : wpAny (model prog w) A (compareOp .Lt (.int a t) (.int c u)) Q E s)

section
open PySem.SeqAt
open PySem.AutoSeq1 (wpAny_loadPart')
open PySem.MeetsSeq PySem.MeetsSeq2 PySem.MeetsSeq3

theorem tuple_lt_ints (l b : Addr) (items items2 : Array Value) (n n2 : Nat) (dd dd2 : Option Addr) (sl sl2 : Array (Option Value)) (ns ms : List Int) (hi : IntsAre items.toList ns) (hj : IntsAre items2.toList ms) :
    Meets (Builtin.«tuple.__lt__» ⟨[.ref l, .ref b], []⟩)
      (fun _ R s => s.heap.get? l = some { cls := .type "tuple", dict := dd, data := .seq items n, slots := sl } ∧ s.heap.get? b = some { cls := .type "tuple", dict := dd2, data := .seq items2 n2, slots := sl2 } ∧
        R (.ok (.ret (.bool (lexLt ns ms)))) s) :=
  .of_wp fun prog w A R s h => by
    obtain ⟨hp, g, d, tk, os⟩ := s; obtain ⟨hl, hb, h⟩ := h
    have f2 := AutoSeq1.sub_tuple_tuple
    have z1 : items.size = ns.length := by rw [← hi.length]; simp
    have z2 : items2.size = ms.length := by rw [← hj.length]; simp
    wp_walk using wpAny_loadPart' hl, wpAny_loadPart' hb, wpAny_forIn_list _ (fun rest b s' => b.1 = none ∧ s' = ⟨hp, g, d, tk, os⟩ ∧ ∃ (vs ws : List Value) (ns' ms' : List Int), rest = vs.zip ws ∧
      IntsAre vs ns' ∧ IntsAre ws ms' ∧ ns'.length + items2.size = ms'.length + items.size ∧ R (.ok (.ret (.bool (lexLt ns' ms')))) ⟨hp, g, d, tk, os⟩) _
    case turn =>
      rintro ⟨y, x⟩ rest b s' ⟨hb', rfl, vs, ws, ns', ms', hz, hvi, hwi, hlen, hR⟩
      cases hvi with
      | nil => rw [List.zip_nil_left] at hz; cases hz
      | cons a t hvi' =>
        cases hwi with
        | nil => rw [List.zip_nil_right] at hz; cases hz
        | cons c u hwi' =>
          rw [List.zip_cons_cons] at hz
          injection hz with hyx hrest
          injection hyx with hy hx
          subst hy hx
          rw [lexLt_cons] at hR
          simp only [List.length_cons] at hlen
          obtain ⟨e, he, hiff⟩ := eqAt_int A.in1 ⟨hp, g, d, tk, os⟩ a t c u
          refine wpAny_bind (he prog w _ _ ?_)
          cases e with
          | true =>
            rw [if_pos (hiff.mp rfl)] at hR
            wp_walk
            exact ⟨rfl, rfl, _, _, _, _, hrest, hvi', hwi', by omega, hR⟩
          | false =>
            rw [if_neg (fun q => absurd (hiff.mpr q) Bool.false_ne_true)] at hR
            have hri := rcLt_int A.in1 ⟨hp, g, d, tk, os⟩ a t c u prog w
            wp_walk using hri
            exact ⟨_, rfl, by simpa using hR⟩
    case fin =>
      rintro ⟨b1, b2⟩ s' ⟨hb', rfl, vs, ws, ns', ms', hz, hvi, hwi, hlen, hR⟩
      simp only at hb'
      subst hb'
      have hv : lexLt ns' ms' = decide (items.size < items2.size) := by
        cases hvi with
        | nil =>
          cases hwi with
          | nil =>
            simp only [List.length_nil] at hlen
            rw [lexLt_nil_nil]
            exact (decide_eq_false (by omega)).symm
          | cons c u hw =>
            simp only [List.length_nil, List.length_cons] at hlen
            rw [lexLt_nil_cons]
            exact (decide_eq_true (by omega)).symm
        | cons a t hv =>
          cases hwi with
          | nil =>
            simp only [List.length_nil, List.length_cons] at hlen
            rw [lexLt_cons_nil]
            exact (decide_eq_false (by omega)).symm
          | cons c u hw =>
            rw [List.zip_cons_cons] at hz
            cases hz
      rw [hv] at hR
      wp_walk
      exact ⟨_, rfl, by simpa [Builtin.Tuple.tupleCompareSizes] using hR⟩
    case h =>
      exact ⟨rfl, rfl, items.toList, items2.toList, ns, ms, rfl, hi, hj, by omega, h⟩
end

section
variable {prog : Program} {w : World} {A : Around} {E : Value → Shared → Prop} {s : Shared}

theorem lt_tupInts {l b : Addr} {items items2 : Array Value} {ns ms : List Int} {Q : Value → Shared → Prop} (hl : IsTup s.heap l items) (hb : IsTup s.heap b items2) (hi : IntsAre items.toList ns) (hj : IntsAre items2.toList ms)
    (hu : A.units < cLine) (h : Q (.bool (lexLt ns ms)) s) : wpAny (model prog w) A (compareOp .Lt (.ref l) (.ref b)) Q E s := by
  obtain ⟨⟨cls, dd, data, sl⟩, ho, hc, n, hd⟩ := id hl
  obtain ⟨⟨cls2, dd2, data2, sl2⟩, ho2, hc2, n2, hd2⟩ := id hb
  simp only at hc hd hc2 hd2
  subst hc hd hc2 hd2
  exact richCompare_meets_room (op := .Lt) ⟨_, ho, rfl⟩ ⟨_, ho2, rfl⟩ PySem.F.slot_tuple_lt PySem.F.entry_tuple_lt (PySem.F.args_tuple_lt_2 _ _) (tuple_lt_ints l b items items2 n n2 dd dd2 sl sl2 ns ms hi hj)
    ⟨ho, ho2, show Value.bool (lexLt ns ms) ≠ Value.notImplemented ∧ Q (.bool (lexLt ns ms)) s from ⟨(fun x => nomatch x), h⟩⟩ hu

/-- t + u, t not empty -/
theorem cat_tup {t b : Addr} {vs ws : List Value} {Q : Value → Shared → Prop} (ht : IsTup s.heap t vs.toArray) (hb : IsTup s.heap b ws.toArray) (hv : vs ≠ [])
    (h1 : ws = [] → Q (.ref t) s) (h2 : ws ≠ [] → Q (.ref s.heap.objs.size) { s with heap := s.heap.push { cls := .type "tuple", data := .seq (vs ++ ws).toArray } })
    (hsz : vs.length + ws.length ≤ sizeLine) : wpAny (model prog w) A (binaryOp .Add (.ref t) (.ref b)) Q E s := by
  obtain ⟨⟨cls, dd, data, sl⟩, ho, hc, n, hd⟩ := id ht
  obtain ⟨⟨cls2, dd2, data2, sl2⟩, ho2, hc2, n2, hd2⟩ := id hb
  simp only at hc hd hc2 hd2
  subst hc hd hc2 hd2
  have e : vs.toArray ++ ws.toArray = (vs ++ ws).toArray := by simp
  by_cases hw : ws = []
  · exact concat_meets ⟨_, ho, rfl⟩ ⟨_, ho2, rfl⟩ noFill_tuple_add seq_tuple_add PySem.F.slot_tuple_add PySem.F.entry_tuple_add (PySem.F.args_tuple_add_2 _ _)
      (tuple_addW1 t b vs.toArray ws.toArray n n2 dd dd2 sl sl2 (by simpa using hv) (by simp [hw])) ⟨ho, ho2, h1 hw⟩
  · refine concat_meets ⟨_, ho, rfl⟩ ⟨_, ho2, rfl⟩ noFill_tuple_add seq_tuple_add PySem.F.slot_tuple_add PySem.F.entry_tuple_add (PySem.F.args_tuple_add_2 _ _)
      (tuple_addW2 t b vs.toArray ws.toArray n n2 dd dd2 sl sl2 (by simpa using hv) (by simpa using hw) (by rw [List.size_toArray, List.size_toArray]; exact hsz)) ⟨ho, ho2, ?_⟩
    rw [e]
    exact h2 hw

/-! ### t[a:b], not the whole -/
/-- a slice's bound as a place among n (d where it is left out) -/
def sIx (n d : Nat) : Option Int → Nat
  | none => d
  | some v => if v < 0 then (v + (n : Int)).toNat else min v.toNat n
theorem sIx_none (n d : Nat) : sIx n d none = d := rfl
theorem sIx_nat (n d k : Nat) : sIx n d (some (k : Int)) = min k n := by
  show (if (k : Int) < 0 then ((k : Int) + (n : Int)).toNat else min (k : Int).toNat n) = min k n
  rw [if_neg (by omega), Int.toNat_natCast]
theorem sIx_le (n d : Nat) (hd : d ≤ n) (o : Option Int) : sIx n d o ≤ n := by
  cases o with
  | none => exact hd
  | some v =>
    show (if v < 0 then (v + (n : Int)).toNat else min v.toNat n) ≤ n
    by_cases hv : v < 0
    · rw [if_pos hv]; omega
    · rw [if_neg hv]; exact Nat.min_le_right _ _
theorem clip_eq (v : Int) (n d : Nat) : (if v < 0 then max (v + (n : Int)) 0 else min v (n : Int)) = ((sIx n d (some v) : Nat) : Int) := by
  show (if v < 0 then max (v + (n : Int)) 0 else min v (n : Int)) = (((if v < 0 then (v + (n : Int)).toNat else min v.toNat n) : Nat) : Int)
  by_cases hv : v < 0
  · simp only [if_pos hv]; omega
  · simp only [if_neg hv]; omega
theorem adjust_gen (lo hi : Option Int) (n : Nat) : Builtin.Slice.sliceAdjust lo hi 1 (n : Int) = (((sIx n 0 lo : Nat) : Int), ((sIx n n hi : Nat) : Int)) := by
  have h1 : ¬ ((1 : Int) < 0) := by omega
  unfold Builtin.Slice.sliceAdjust
  simp only [h1, if_false]
  refine Prod.ext ?_ ?_
  · cases lo with
    | none => rfl
    | some v => exact clip_eq v n 0
  · cases hi with
    | none => rfl
    | some v => exact clip_eq v n n
theorem places_gen (i j : Nat) : Builtin.Slice.slicePlaces (i : Int) (j : Int) 1 = j - i := by
  unfold Builtin.Slice.slicePlaces
  have h1 : (1 : Int) > 0 := by omega
  simp only [h1, if_true, Int.ediv_one]
  split <;> omega
theorem slicePart_ {v : Value} {o : Option Int} {Q : Option Int → Shared → Prop} (p : IsPart v o) (h : Q o s) : wpAny (model prog w) A (Builtin.Slice.slicePartIndex v) Q E s := by
  cases p with
  | none => exact slicePart_none h
  | int i t => exact slicePart_int h
theorem sliceApplied_gen {sl : Addr} {vl vu : Value} {lo hi : Option Int} {n : Nat} {Q : Int × Int × Nat → Shared → Prop} (hs : s.heap.IsSliceOf sl vl vu .none) (pl : IsPart vl lo) (pu : IsPart vu hi)
    (h : Q (((sIx n 0 lo : Nat) : Int), 1, sIx n n hi - sIx n 0 lo) s) : wpAny (model prog w) A (Builtin.Slice.sliceApplied (.ref sl) (pure (n : Int))) Q E s := by
  obtain ⟨os, hos, hcs, hds⟩ := id hs
  unfold Builtin.Slice.sliceApplied Builtin.Slice.sliceFields
  refine wpAny_bind (wpAny_bind (wpAny_field hos hds (x := vl) rfl (wpAny_bind (wpAny_field hos hds (x := vu) rfl (wpAny_bind (wpAny_field hos hds (x := .none) rfl (wpAny_pure ?_)))))))
  refine wpAny_bind (slicePart_none ?_)
  show wpAny _ _ (if ((1 : Int) == 0) = true then _ else _) _ _ s
  rw [if_neg (by decide)]
  refine wpAny_bind (slicePart_ pl (wpAny_bind (slicePart_ pu (wpAny_bind (wpAny_pure ?_)))))
  show wpAny _ _ (match Builtin.Slice.sliceAdjust lo hi 1 (n : Int) with | (lo, hi) => pure (lo, (1 : Int), Builtin.Slice.slicePlaces lo hi 1)) _ _ s
  rw [adjust_gen lo hi n]
  show wpAny _ _ (pure (((sIx n 0 lo : Nat) : Int), (1 : Int), Builtin.Slice.slicePlaces ((sIx n 0 lo : Nat) : Int) ((sIx n n hi : Nat) : Int) 1)) _ _ s
  rw [places_gen]
  exact wpAny_pure h
theorem pick_gen (xs : Array Value) (i k : Nat) : ((List.range k).filterMap fun (m : Nat) => xs[((i : Int) + (m : Int) * 1).toNat]?).toArray = ((xs.toList.drop i).take k).toArray := by
  have e : (fun (m : Nat) => xs[((i : Int) + (m : Int) * 1).toNat]?) = fun m => xs[i + m]? := by
    funext m
    have : ((i : Int) + (m : Int) * 1).toNat = i + m := by omega
    rw [this]
  rw [e]
  have := pick_run xs i k
  rw [List.filterMap_map] at this
  have e2 : ((fun x => xs[x]?) ∘ fun x => i + x) = fun m => xs[i + m]? := rfl
  rw [e2] at this
  rw [this]

theorem getItem_tuple_cut {t sl : Addr} {items : Array Value} {vl vu : Value} {lo hi : Option Int} {Q : Value → Shared → Prop} (ht : IsTup s.heap t items) (hs : s.heap.IsSliceOf sl vl vu .none) (pl : IsPart vl lo) (pu : IsPart vu hi)
    (hw : ¬ (sIx items.size 0 lo = 0 ∧ sIx items.size items.size hi = items.size))
    (h : Q (.ref s.heap.objs.size) { s with heap := s.heap.push { cls := .type "tuple", data := .seq ((items.toList.drop (sIx items.size 0 lo)).take (sIx items.size items.size hi - sIx items.size 0 lo)).toArray } })
    (hsz : items.size ≤ sizeLine) : wpAny (model prog w) A (getItem (.ref t) (.ref sl)) Q E s := by
  have htake : sizeOk (.seq ((items.toList.drop (sIx items.size 0 lo)).take (sIx items.size items.size hi - sIx items.size 0 lo)).toArray) := by
    show ((items.toList.drop (sIx items.size 0 lo)).take (sIx items.size items.size hi - sIx items.size 0 lo)).toArray.size ≤ sizeLine
    rw [List.size_toArray, List.length_take, List.length_drop, Array.length_toList]
    omega
  have hj : sIx items.size items.size hi ≤ items.size := sIx_le _ _ (Nat.le_refl _) hi
  obtain ⟨os, hos, hcs, hds⟩ := id hs
  have hTs : s.TypeIs (.ref sl) "slice" := ⟨os, hos, hcs⟩
  unfold getItem
  try with_reducible refine wpAny_holding ?_
  first | refine wpAny_bind (wpAny_pure ?_) | skip
  refine wpAny_bind (wpAny_sequenceKey ht.typeIs (by decide) ?_)
  refine wpAny_bind (wpAny_callSpecial?_slot (name := Str.ofString "__getitem__") ht.typeIs PyProof.Rows.slot_tuple_getitem
    (wpAny_call_entry PyProof.Rows.slot_tuple_getitem ht.typeIs entry_tuple_getitem ?_ (args_tuple_getitem _ _)))
  show wpAny _ _ (Builtin.Tuple.tupleItemsOf (.ref t) >>= _) _ _ s
  refine wpAny_bind (tupleItemsOf_ ht ?_)
  refine wpAny_bind (wpAny_typeOf hTs ?_)
  rw [if_pos (by decide)]
  refine wpAny_bind (sliceApplied_gen hs pl pu ?_)
  have hno : ¬ ((((sIx items.size 0 lo : Nat) : Int) == 0 && (1 : Int) == 1 && (sIx items.size items.size hi - sIx items.size 0 lo) == items.size) = true) := by
    intro q
    rw [Bool.and_eq_true, Bool.and_eq_true] at q
    have q1 : ((sIx items.size 0 lo : Nat) : Int) = 0 := eq_of_beq q.1.1
    have q2 : sIx items.size items.size hi - sIx items.size 0 lo = items.size := eq_of_beq q.2
    exact hw ⟨by omega, by omega⟩
  show wpAny _ _ (if (((sIx items.size 0 lo : Nat) : Int) == 0 && (1 : Int) == 1 && (sIx items.size items.size hi - sIx items.size 0 lo) == items.size) = true then _ else _) _ _ s
  rw [if_neg hno, pick_gen]
  first
    | exact wpAny_bind (m := Builtin.Tuple.tupleExact _) (wpAny_newObj_type (wpAny_pure ⟨_, rfl, wpAny_pure h⟩) htake)
    | exact wpAny_bind (m := Builtin.Tuple.tupleExact _) (wpAny_newObj_type (wpAny_bind (wpAny_pure (wpAny_pure ⟨_, rfl, wpAny_pure h⟩))) htake)
    | exact wpAny_bind (wpAny_bind (m := Builtin.Tuple.tupleExact _) (wpAny_newObj_type (wpAny_pure (wpAny_pure ⟨_, rfl, wpAny_pure h⟩)) htake))
    | exact wpAny_bind (wpAny_bind (m := Builtin.Tuple.tupleExact _) (wpAny_newObj_type (wpAny_pure ⟨_, rfl, wpAny_pure h⟩) htake))
end
end HT

namespace L2
open PySem PySem.Spec PyProof.Rows

/-! ### the parts of a slice -/
abbrev TO := St → Hp → (Option Int → Hp → Prop) → Prop
/-- a slice's part (left out, or an int) -/
def PO (X : Cx) (e : Option Expr) (t : TO) : Prop :=
  ∀ (pins : List (Addr × Obj)) (s : Shared) (σ : St) (H : Hp) (Q : Option Int → Hp → Prop), Inv X pins σ H s → t σ H Q →
    wpAny (model X.prog X.w) X.A (evalPart e X.env) (fun u s' => ∃ o H', Inv X pins σ H' s' ∧ IsPart u o ∧ Q o H') X.xe s
def tNoPart : TO := fun _ H Q => Q none H
def tPart (t : TE) : TO := fun σ H Q => t σ H fun x H1 => ∃ i, x = .int i ∧ Q (some i) H1

theorem intsAre_of {ns : List Int} : ∀ {us : List Value}, Vals (ns.map V.int) us → IntsAre us ns := by
  induction ns with
  | nil => intro us r; rw [List.map_nil] at r; cases r; exact .nil
  | cons n ns ih =>
    intro us r
    rw [List.map_cons] at r
    cases r with
    | cons r1 r2 =>
      obtain ⟨t, e⟩ := r1
      subst e
      exact .cons n t (ih r2)

section
variable {X : Cx} {e : Expr} {te : TE} {lo hi : Option Expr} {tl th : TO} {pos p2 : Pos}

theorem po_none : PO X none tNoPart := by
  intro pins s σ H Q I h
  rw [evalPart_none]
  exact wpAny_pure ⟨none, H, I, .none, h⟩
theorem po_some (h : PE X e te) : PO X (some e) (tPart te) := by
  intro pins s σ H Q I hw
  rw [evalPart_some]
  refine thn (h pins s σ H _ I hw) fun u s1 ⟨x, H1, I1, r1, q1⟩ => ?_
  obtain ⟨i, rfl, q⟩ := q1
  obtain ⟨t, rfl⟩ := r1
  exact ⟨some i, H1, I1, .int i t, q⟩

/-- what a slice of a value is, by values: the slice object stands at sl -/
def SlR (X : Cx) (r : V → Option Int → Option Int → Hp → VK → Prop) : Prop :=
  ∀ (pins : List (Addr × Obj)) (s : Shared) (σ : St) (H : Hp) (x : V) (v vl vu : Value) (lo hi : Option Int) (sl : Addr) (Q : VK), Inv X pins σ H s → RelV x v → s.heap.IsSliceOf sl vl vu .none → IsPart vl lo → IsPart vu hi → r x lo hi H Q →
    ∃ T id, typeLookup (.type T) "__getitem__" = pure (some (.builtin id)) ∧ s.TypeIs v T ∧ wpAny (model X.prog X.w) X.A (getItem v (.ref sl)) (EP X pins σ Q) X.xe s
theorem SlR.or {r r' : V → Option Int → Option Int → Hp → VK → Prop} (h : SlR X r) (h' : SlR X r') : SlR X (fun x lo hi H Q => r x lo hi H Q ∨ r' x lo hi H Q) := by
  intro pins s σ H x v vl vu lo hi sl Q I rx hs pl pu q
  rcases q with q | q
  · exact h pins s σ H x v vl vu lo hi sl Q I rx hs pl pu q
  · exact h' pins s σ H x v vl vu lo hi sl Q I rx hs pl pu q
def tSl (r : V → Option Int → Option Int → Hp → VK → Prop) (te : TE) (tl th : TO) : TE := fun σ H Q => te σ H fun x H1 => tl σ H1 fun l H2 => th σ H2 fun u H3 => r x l u H3 Q
/-- a[lo:hi], any a -/
theorem pe_slice {r : V → Option Int → Option Int → Hp → VK → Prop} (hr : SlR X r) (he : PE X e te) (hl : PO X lo tl) (hu : PO X hi th) : PE X (.Subscript e (.Slice lo hi none p2) pos) (tSl r te tl th) := by
  intro pins s σ H Q I h
  refine Subscript_ (thn (he pins s σ H _ I h) fun v s1 ⟨x, H1, I1, r1, q1⟩ => ?_)
  refine wpAny_Slice (thn (hl pins s1 σ H1 _ I1 q1) fun vl s2 ⟨l, H2, I2, pl, q2⟩ => thn (hu pins s2 σ H2 _ I2 q2) fun vu s3 ⟨u, H3, I3, pu, q3⟩ => ?_)
  rw [evalPart_none]
  refine wpAny_pure ?_
  have I4 : Inv X pins σ H3 { s3 with heap := s3.heap.push { cls := .type "slice", data := .fields #[vl, vu, .none] } } := I3.kept (t' := s3.toks) fun b ob q => Heap.get?_push_of_some _ q
  obtain ⟨T, id, hT, ht, hg⟩ := hr pins { s3 with heap := s3.heap.push { cls := .type "slice", data := .fields #[vl, vu, .none] } } σ H3 x v vl vu l u s3.heap.objs.size Q I4 r1 (Heap.IsSliceOf.new ..) pl pu q3
  show wpAny (model X.prog X.w) X.A (subscriptTail e (.Slice lo hi none p2) v (.ref s3.heap.objs.size)) (EP X pins σ Q) X.xe { s3 with heap := s3.heap.push { cls := .type "slice", data := .fields #[vl, vu, .none] } }
  exact tail_any (ops := [.ref s3.heap.objs.size, v]) ht hT hg (by with_unfolding_all rfl)

/-- the items of xs[lo:hi] -/
def cutV (xs : List V) (lo hi : Option Int) : List V := (xs.drop (HT.sIx xs.length 0 lo)).take (HT.sIx xs.length xs.length hi - HT.sIx xs.length 0 lo)
theorem cutV_length (xs : List V) (lo hi : Option Int) : (cutV xs lo hi).length ≤ xs.length := by
  unfold cutV
  rw [List.length_take, List.length_drop]
  omega
/-- t[lo:hi], not the whole of it (the whole would be t itself) -/
def rSlT (K : PySem.W.Frag) : V → Option Int → Option Int → Hp → VK → Prop := fun x lo hi H Q => ∃ a xs, x = .ref a ∧ SqT K H a xs ∧
  ¬ (HT.sIx xs.length 0 lo = 0 ∧ HT.sIx xs.length xs.length hi = xs.length) ∧ ∀ p, H p = none → Q (.ref p) (upd H p (.tup (cutV xs lo hi)))
theorem sl_tup : SlR X (rSlT X.K) := by
  intro pins s σ H x v vl vu lo hi sl Q I rx hs pl pu h
  obtain ⟨a, xs, rfl, hx, hw, q⟩ := h
  cases rx
  obtain ⟨its, r, ht, hz⟩ := I.tuple hx
  have hlen : its.toArray.size = xs.length := by rw [List.size_toArray]; exact r.length.symm
  refine ⟨"tuple", _, PyProof.Rows.slot_tuple_getitem.lookup, ht.typeIs, ?_⟩
  refine HT.getItem_tuple_cut ht hs pl pu (by rw [hlen]; exact hw) ?_ (by rw [hlen]; exact hz)
  rw [hlen]
  refine ⟨.ref s.heap.objs.size, _, I.laid (t' := s.toks) (o := .tup (cutV xs lo hi)) (fun b ob q => Heap.get?_push_of_some _ q) (Nat.le_refl _) ?_, rfl, q _ (I.hok.fresh (Nat.le_refl _))⟩
  exact ⟨Nat.le_trans (cutV_length xs lo hi) hz, _, (r.drop (HT.sIx xs.length 0 lo)).take (HT.sIx xs.length xs.length hi - HT.sIx xs.length 0 lo), IsTup.new _ _⟩

/-! ### t < u, t + u -/
def rLtT (K : PySem.W.Frag) : R2 := fun x y H Q => ∃ a b ns ms, x = .ref a ∧ y = .ref b ∧ SqT K H a (ns.map V.int) ∧ SqT K H b (ms.map V.int) ∧ Q (.bl (HT.lexLt ns ms)) H
theorem op_ltT (hu : X.A.units < cLine) : OpR X (compareOp .Lt) (rLtT X.K) := by
  intro pins s σ H x y v u Q I rx ry h
  obtain ⟨a, b, ns, ms, rfl, rfl, ha, hb, q⟩ := h
  cases rx
  cases ry
  obtain ⟨its, r1, p1, _⟩ := I.tuple ha
  obtain ⟨its2, r2, p2, _⟩ := I.tuple hb
  have i1 : IntsAre its.toArray.toList ns := intsAre_of r1
  have i2 : IntsAre its2.toArray.toList ms := intsAre_of r2
  exact HT.lt_tupInts p1 p2 i1 i2 hu ⟨.bl (HT.lexLt ns ms), H, I, rfl, q⟩
/-- t + u, t not empty: u empty gives t itself -/
def rCatT (K : PySem.W.Frag) : R2 := fun x y H Q => ∃ a b xs ys, x = .ref a ∧ y = .ref b ∧ SqT K H a xs ∧ SqT K H b ys ∧ xs ≠ [] ∧ xs.length + ys.length ≤ sizeLine ∧
  (ys = [] → Q (.ref a) H) ∧ (ys ≠ [] → ∀ p, H p = none → Q (.ref p) (upd H p (.tup (xs ++ ys))))
theorem Vals.nil_iff {xs : List V} {us : List Value} (r : Vals xs us) : us = [] ↔ xs = [] := by
  cases r with
  | nil => simp
  | cons _ _ => simp
theorem op_catT : OpR X (binaryOp .Add) (rCatT X.K) := by
  intro pins s σ H x y v u Q I rx ry h
  obtain ⟨a, b, xs, ys, rfl, rfl, ha, hb, hx, hz, q1, q2⟩ := h
  cases rx
  cases ry
  obtain ⟨its, r1, p1, _⟩ := I.tuple ha
  obtain ⟨its2, r2, p2, _⟩ := I.tuple hb
  refine HT.cat_tup p1 p2 (fun z => hx (r1.nil_iff.mp z)) (fun z => ⟨.ref a, H, I, rfl, q1 (r2.nil_iff.mp z)⟩) (fun z => ?_) (by rw [← r1.length, ← r2.length]; exact hz)
  refine ⟨.ref s.heap.objs.size, _, I.laid (t' := s.toks) (o := .tup (xs ++ ys)) (fun b ob q => Heap.get?_push_of_some _ q) (Nat.le_refl _) ?_, rfl, q2 (fun w => z (r2.nil_iff.mpr w)) _ (I.hok.fresh (Nat.le_refl _))⟩
  exact ⟨by rw [List.length_append]; exact hz, _, r1.append r2, IsTup.new _ _⟩
/-- tuple(t) -/
theorem call_tupleT : CallR X (.type "tuple") (fun xs H Q => ∃ a ys, xs = [.ref a] ∧ SqT X.K H a ys ∧ Q (.ref a) H) := by
  intro pins s σ H xs us Q I r h
  obtain ⟨a, ys, rfl, ha, q⟩ := h
  obtain ⟨u, rfl, ru⟩ := vals1 r
  cases ru
  obtain ⟨its, _, p1, _⟩ := I.tuple ha
  exact call_tuple_same (items := its.toArray) p1 ⟨.ref a, H, I, rfl, q⟩
end
end L2

namespace L2
open PySem PySem.Spec PyProof.Rows

/-! ### places -/
/-- the place that an index of any sign means -/
def ixN (n : Nat) (i : Int) : Option Nat := if 0 ≤ i then (if i < n then some i.toNat else none) else if -(n : Int) ≤ i then some (i + n).toNat else none
def atI {α : Type} (xs : List α) (i : Int) : Option α := (ixN xs.length i).bind fun j => xs[j]?
theorem ixN_seq {n : Nat} {i : Int} {j : Nat} (h : ixN n i = some j) : seqIndex? i n = some j ∧ j < n ∧ -(n : Int) ≤ i ∧ i < n := by
  unfold ixN at h
  by_cases h0 : 0 ≤ i
  · rw [if_pos h0] at h
    by_cases h1 : i < n
    · rw [if_pos h1] at h
      have e : i.toNat = j := Option.some.inj h
      exact ⟨by rw [seqIndex_of h0 h1, e], by omega, by omega, h1⟩
    · rw [if_neg h1] at h; cases h
  · rw [if_neg h0] at h
    by_cases h1 : -(n : Int) ≤ i
    · rw [if_pos h1] at h
      have e : (i + n).toNat = j := Option.some.inj h
      exact ⟨by rw [seqIndex_neg (by omega) h1, e], by omega, h1, by omega⟩
    · rw [if_neg h1] at h; cases h
theorem atI_get {α : Type} {xs : List α} {i : Int} {v : α} (h : atI xs i = some v) : ∃ j, seqIndex? i xs.length = some j ∧ xs[j]? = some v ∧ j < xs.length ∧ -(xs.length : Int) ≤ i ∧ i < xs.length := by
  unfold atI at h
  cases e : ixN xs.length i with
  | none => rw [e] at h; cases h
  | some j =>
    rw [e] at h
    obtain ⟨h1, h2, h3, h4⟩ := ixN_seq e
    exact ⟨j, h1, h, h2, h3, h4⟩
theorem atI_nat {α : Type} {xs : List α} {j : Nat} {v : α} (h : xs[j]? = some v) : atI xs (j : Int) = some v := by
  have hj : j < xs.length := (List.getElem?_eq_some_iff.mp h).1
  have e : ixN xs.length (j : Int) = some j := by
    unfold ixN
    rw [if_pos (by omega), if_pos (by omega)]; simp
  unfold atI; rw [e]; exact h
theorem atI_last {α : Type} (xs : List α) (v : α) : atI (xs ++ [v]) (-1) = some v := by
  have hl : (xs ++ [v]).length = xs.length + 1 := by simp
  have e : ixN (xs ++ [v]).length (-1) = some xs.length := by
    unfold ixN
    rw [hl, if_neg (by decide), if_pos (by omega)]
    congr 1
    omega
  unfold atI
  rw [e]
  show (xs ++ [v])[xs.length]? = some v
  simp

/-! ### what may be subscripted -/
/-- what stands as an index of a plain subscript -/
def PlainIx (b : Expr) : Prop := ∀ o i, subscripted b false o i = operate [o, i] (getItem o i)
/-- a subscript by values -/
def IxR (X : Cx) (r : R2) : Prop :=
  ∀ (value slice : Expr) (pins : List (Addr × Obj)) (s : Shared) (σ : St) (H : Hp) (x y : V) (v u : Value) (Q : VK), Inv X pins σ H s → RelV x v → RelV y u → r x y H Q →
    subscripted slice false v u = operate [v, u] (getItem v u) → wpAny (model X.prog X.w) X.A (subscriptTail value slice v u) (EP X pins σ Q) X.xe s
/-- a call of a builtin's method by values: the receiver, the arguments -/
def MtR (X : Cx) (id : String) (r : V → List V → Hp → VK → Prop) : Prop :=
  ∀ (pins : List (Addr × Obj)) (s : Shared) (σ : St) (H : Hp) (x : V) (xs : List V) (v : Value) (us : List Value) (Q : VK), Inv X pins σ H s → RelV x v → Vals xs us → r x xs H Q →
    wpAny (model X.prog X.w) X.A (call (.builtin id) (v :: us)) (EP X pins σ Q) X.xe s
section
variable {X : Cx} {a b : Expr} {ta tb : TE} {pos : Pos}
theorem IxR.or {r r' : R2} (h : IxR X r) (h' : IxR X r') : IxR X (fun x y H Q => r x y H Q ∨ r' x y H Q) := by
  intro value slice pins s σ H x y v u Q I rx ry q hs
  rcases q with q | q
  · exact h value slice pins s σ H x y v u Q I rx ry q hs
  · exact h' value slice pins s σ H x y v u Q I rx ry q hs
theorem MtR.or {id : String} {r r' : V → List V → Hp → VK → Prop} (h : MtR X id r) (h' : MtR X id r') : MtR X id (fun x xs H Q => r x xs H Q ∨ r' x xs H Q) := by
  intro pins s σ H x xs v us Q I rx rs q
  rcases q with q | q
  · exact h pins s σ H x xs v us Q I rx rs q
  · exact h' pins s σ H x xs v us Q I rx rs q
/-- a[b] -/
theorem pe_ix {r : R2} (hr : IxR X r) (ha : PE X a ta) (hb : PE X b tb) (hs : PlainIx b) : PE X (.Subscript a b pos) (tOp r ta tb) := by
  intro pins s σ H Q I h
  exact Subscript_ (binT ha hb I h fun v u s2 x y H2 I2 rx ry q => hr a b pins s2 σ H2 x y v u Q I2 rx ry q (hs _ _))

def rIxL (K : PySem.W.Frag) : R2 := fun x y H Q => ∃ p xs i v, x = .ref p ∧ y = .int i ∧ SqL K H p xs ∧ atI xs i = some v ∧ Q v H
def rIxT (K : PySem.W.Frag) : R2 := fun x y H Q => ∃ p xs i v, x = .ref p ∧ y = .int i ∧ SqT K H p xs ∧ atI xs i = some v ∧ Q v H
def rIxS : R2 := fun x y H Q => ∃ z i c, x = .str z ∧ y = .int i ∧ z.length ≤ sizeLine ∧ atI z.cps.toList i = some c ∧ Q (.str ⟨#[c]⟩) H
theorem ix_list : IxR X (rIxL X.K) := by
  intro value slice pins s σ H x y v u Q I rx ry h hs
  obtain ⟨p, xs, i, z, rfl, rfl, hq, he, q⟩ := h
  cases rx
  obtain ⟨t, rfl⟩ := ry
  obtain ⟨its, r, pl, hz⟩ := I.list hq
  obtain ⟨j, h1, h2, h3, h4, h5⟩ := atI_get he
  obtain ⟨w, ew, rw'⟩ := r.get h2
  have hl := r.length
  have hn := line63
  have fin : EP X pins σ Q w s := ⟨z, H, I, rw', q⟩
  by_cases h0 : 0 ≤ i
  · have hj : i.toNat = j := by
      rw [seqIndex_of h0 h5] at h1
      exact Option.some.inj h1
    exact item_listR pl.isList h0 (by omega) (by rw [hj]; simpa using ew) fin hs
  · have hj : (i + (its.toArray.size : Int)).toNat = j := by
      rw [seqIndex_neg (by omega) h4] at h1
      rw [List.size_toArray, ← hl]
      exact Option.some.inj h1
    exact subscriptTail_builtinR (x := w) pl.isList.typeIs slot_list_getitem.lookup
      (wpAny_getItem_list_neg (Q := fun r s' => r = w ∧ EP X pins σ Q r s') pl.isList (by omega) (by rw [List.size_toArray] <;> omega) (by omega) (by rw [hj]; simpa using ew) ⟨rfl, fin⟩) hs
theorem ix_tup : IxR X (rIxT X.K) := by
  intro value slice pins s σ H x y v u Q I rx ry h hs
  obtain ⟨p, xs, i, z, rfl, rfl, hq, he, q⟩ := h
  cases rx
  obtain ⟨t, rfl⟩ := ry
  obtain ⟨its, r, pl, hz⟩ := I.tuple hq
  obtain ⟨j, h1, h2, h3, h4, h5⟩ := atI_get he
  obtain ⟨w, ew, rw'⟩ := r.get h2
  have hl := r.length
  have hn := line63
  have fin : EP X pins σ Q w s := ⟨z, H, I, rw', q⟩
  exact subscriptTail_builtinR (x := w) pl.typeIs slot_tuple_getitem.lookup
    (getItem_tuple (j := j) (Q := fun r s' => r = w ∧ EP X pins σ Q r s') pl (by omega) (by omega) (by rw [List.size_toArray, ← hl]; exact h1) (by simpa using ew) ⟨rfl, fin⟩) hs
theorem ix_str : IxR X rIxS := by
  intro value slice pins s σ H x y v u Q I rx ry h hs
  obtain ⟨z, i, c, rfl, rfl, hz, he, q⟩ := h
  obtain ⟨t, rfl⟩ := rx
  obtain ⟨t', rfl⟩ := ry
  obtain ⟨j, h1, h2, h3, h4, h5⟩ := atI_get he
  have hl : z.cps.toList.length = z.length := by simp [Str.length]
  rw [hl] at h1 h4 h5
  have hn := line63
  exact tail_any (typeIs_str s z t) slot_str_getitem.lookup (getItem_str (c := c) (by
    have e1 : decide (i < -(2 ^ 63 : Int)) = false := decide_eq_false (by omega)
    have e2 : decide (i ≥ 2 ^ 63) = false := decide_eq_false (by omega)
    rw [e1, e2, Bool.or_false]) (by rw [h1]; simpa using h2) ⟨.str ⟨#[c]⟩, H, I.tok _, ⟨_, rfl⟩, q⟩) hs
/-- list, tuple or str -/
def rIx (K : PySem.W.Frag) : R2 := fun x y H Q => rIxL K x y H Q ∨ rIxT K x y H Q ∨ rIxS x y H Q
theorem ix_seq : IxR X (rIx X.K) := ix_list.or (ix_tup.or ix_str)

/-! ### xs[i] = v, any sign -/
/-- the list's object behind a store -/
theorem mapSeq_set (its : List Value) (n j : Nat) (u : Value) : Obj.mapSeq (·.setIfInBounds j u) { cls := .type "list", data := .seq its.toArray n } = { cls := .type "list", data := .seq (its.set j u).toArray n } := by
  simp [Obj.mapSeq]
theorem Inv.lst {pins : List (Addr × Obj)} {σ : St} {H : Hp} {s : Shared} {p : Addr} {xs : List V} (I : Inv X pins σ H s) (h : H p = some (.lst xs)) :
    ∃ (its : List Value) (n : Nat), Vals xs its ∧ s.heap.get? p = some { cls := .type "list", data := .seq its.toArray n } ∧ xs.length ≤ sizeLine := by
  obtain ⟨z, its, n, r, e⟩ := I.hok p _ h
  exact ⟨its, n, r, e, z⟩
/-- the list at p is written by an update of its object -/
theorem Inv.lstUpd {pins : List (Addr × Obj)} {σ : St} {H : Hp} {s : Shared} {p : Addr} {xs ys : List V} {its its' : List Value} {n n' : Nat} {f : Obj → Obj} (I : Inv X pins σ H s) (h : H p = some (.lst xs))
    (ho : s.heap.get? p = some { cls := .type "list", data := .seq its.toArray n }) (hf : f { cls := .type "list", data := .seq its.toArray n } = { cls := .type "list", data := .seq its'.toArray n' }) (r : Vals ys its') (hz : ys.length ≤ sizeLine) (t : Nat) :
    Inv X pins σ (upd H p (.lst ys)) { s with heap := s.heap.update p f, toks := t } := by
  have e : (s.heap.update p f).get? p = some { cls := .type "list", data := .seq its'.toArray n' } := by
    rw [Heap.get?_update_self f ho (by rw [hf] <;> rfl), hf]
  refine I.write (x := p) (e := p) (by rw [h]; trivial) (.inl rfl) (fun b u hb q => (Heap.get?_update_other _ _ (Ne.symm hb)).trans q) ⟨_, e⟩ ?_
  exact ⟨hz, its', n', r, e⟩
def rSetL : V → V → V → Hp → (Hp → Prop) → Prop := fun o i v H Q => ∃ p xs k j, o = .ref p ∧ i = .int k ∧ H p = some (.lst xs) ∧ ixN xs.length k = some j ∧ Q (upd H p (.lst (xs.set j v)))
theorem set_list : PSet X rSetL := by
  intro pins s σ H o i v ov iv u Q I ro ri rv h
  obtain ⟨p, xs, k, j, rfl, rfl, hp, hj, q⟩ := h
  cases ro
  obtain ⟨t, rfl⟩ := ri
  obtain ⟨its, n, r, ho, hz⟩ := I.lst hp
  obtain ⟨h1, h2, h3, h4⟩ := ixN_seq hj
  have hl := r.length
  have hn := line63
  have I' : Inv X pins σ (upd H p (.lst (xs.set j v))) { s with heap := s.heap.update p (Obj.mapSeq (·.setIfInBounds j u)) } :=
    I.lstUpd hp ho (mapSeq_set its n j u) (r.set rv j) (by rw [List.length_set]; exact hz) s.toks
  by_cases h0 : 0 ≤ k
  · have hk : k.toNat = j := by
      rw [seqIndex_of h0 h4] at h1
      exact Option.some.inj h1
    exact PySem.W.ki_setAt ho h0 (by omega) (by rw [List.size_toArray, ← hl]; exact h4) (by rw [hk]; exact ⟨_, I', q⟩)
  · have hk : (k + (its.toArray.size : Int)).toNat = j := by
      rw [seqIndex_neg (by omega) h3] at h1
      rw [List.size_toArray, ← hl]
      exact Option.some.inj h1
    exact PySem.W.ki_setBack ho (by omega) (by rw [List.size_toArray, ← hl]; exact h3) (by omega) (by rw [hk]; exact ⟨_, I', q⟩)

/-! ### slices -/
theorem slice_bounds (lo hi : Option Int) (n : Nat) : (sliceBounds lo hi none n).1 = ((HT.sIx n 0 lo : Nat) : Int) ∧ (sliceBounds lo hi none n).2.1 = ((HT.sIx n n hi : Nat) : Int) ∧ (sliceBounds lo hi none n).2.2 = 1 := by
  refine ⟨?_, ?_, rfl⟩
  · cases lo with
    | none => simp [sliceBounds, HT.sIx]
    | some i =>
      simp only [sliceBounds, HT.sIx, Option.getD_none, show (1 : Int) > 0 by decide, if_true]
      by_cases h : i < 0
      · simp only [h, if_true] <;> omega
      · simp only [h, if_false] <;> omega
  · cases hi with
    | none => simp [sliceBounds, HT.sIx]
    | some i =>
      simp only [sliceBounds, HT.sIx, Option.getD_none, show (1 : Int) > 0 by decide, if_true]
      by_cases h : i < 0
      · simp only [h, if_true] <;> omega
      · simp only [h, if_false] <;> omega
theorem slicePick_cut (its : List Value) (lo hi : Option Int) : slicePick its.toArray lo hi none = ((its.drop (HT.sIx its.length 0 lo)).take (HT.sIx its.length its.length hi - HT.sIx its.length 0 lo)).toArray := by
  obtain ⟨h1, h2, h3⟩ := slice_bounds lo hi its.toArray.size
  unfold slicePick
  rw [h1, h2, h3]
  simp only [sliceRange_one, pick_run, List.size_toArray] <;> rfl
/-- xs[lo:hi] of a list: a new list -/
def rSlL (K : PySem.W.Frag) : V → Option Int → Option Int → Hp → VK → Prop := fun x lo hi H Q => ∃ a xs, x = .ref a ∧ SqL K H a xs ∧ ∀ p, H p = none → Q (.ref p) (upd H p (.lst (cutV xs lo hi)))
theorem sl_list : SlR X (rSlL X.K) := by
  intro pins s σ H x v vl vu lo hi sl Q I rx hs pl pu h
  obtain ⟨a, xs, rfl, hx, q⟩ := h
  cases rx
  obtain ⟨its, r, ht, hz⟩ := I.list hx
  have hlen := r.length
  refine ⟨"list", _, slot_list_getitem.lookup, ht.isList.typeIs, ?_⟩
  refine wpAny_getItem_list_slice ht.isList hs pl pu .none (by simp) ?_ (by rw [List.size_toArray] <;> omega)
  rw [slicePick_cut, ← hlen]
  refine ⟨.ref s.heap.objs.size, _, I.laid (t' := s.toks) (o := .lst (cutV xs lo hi)) (fun b ob q => Heap.get?_push_of_some _ q) (Nat.le_refl _) ?_, rfl, q _ (I.hok.fresh (Nat.le_refl _))⟩
  exact ⟨Nat.le_trans (cutV_length xs lo hi) hz, _, 0, (r.drop (HT.sIx xs.length 0 lo)).take (HT.sIx xs.length xs.length hi - HT.sIx xs.length 0 lo), Heap.get?_push_size _ rfl⟩

/-! ### in, not in: flat items -/
def flatV : V → Bool
  | .non => true
  | .bl _ => true
  | .int _ => true
  | .str _ => true
  | _ => false
/-- == of flat values -/
def eqV : V → V → Bool
  | .non, .non => true
  | .bl a, .bl b => a == b
  | .bl a, .int b => (if a then 1 else 0) == b
  | .int a, .bl b => a == (if b then 1 else 0)
  | .int a, .int b => a == b
  | .str a, .str b => a == b
  | _, _ => false
theorem eqAt_V {A : Around} {s : Shared} {y x : V} {u v : Value} (ry : RelV y u) (rx : RelV x v) (fy : flatV y = true) (fx : flatV x = true) : SeqAt.EqAt A s u v (eqV y x) := by
  cases y with
  | non =>
    cases ry
    cases x with
    | non => cases rx; exact SeqAt.EqAt.same _
    | bl b => cases rx; exact SeqAt.EqAt.none_bool b
    | int b => obtain ⟨t, rfl⟩ := rx; exact SeqAt.EqAt.none_int b t
    | str b => obtain ⟨t, rfl⟩ := rx; exact SeqAt.EqAt.none_str b t
    | _ => exact absurd (show false = true from fx) Bool.false_ne_true
  | bl a =>
    cases ry
    cases x with
    | non => cases rx; exact SeqAt.EqAt.bool_none a
    | bl b => cases rx; exact SeqAt.EqAt.bool_bool a b
    | int b => obtain ⟨t, rfl⟩ := rx; exact SeqAt.EqAt.bool_int a b t
    | str b => obtain ⟨t, rfl⟩ := rx; exact SeqAt.EqAt.bool_str a b t
    | _ => exact absurd (show false = true from fx) Bool.false_ne_true
  | int a =>
    obtain ⟨t', rfl⟩ := ry
    cases x with
    | non => cases rx; exact SeqAt.EqAt.int_none a t'
    | bl b => cases rx; exact SeqAt.EqAt.int_bool a t' b
    | int b => obtain ⟨t, rfl⟩ := rx; exact SeqAt.EqAt.int_int a t' b t
    | str b => obtain ⟨t, rfl⟩ := rx; exact SeqAt.EqAt.int_str a t' b t
    | _ => exact absurd (show false = true from fx) Bool.false_ne_true
  | str a =>
    obtain ⟨t', rfl⟩ := ry
    cases x with
    | non => cases rx; exact SeqAt.EqAt.str_none a t'
    | bl b => cases rx; exact SeqAt.EqAt.str_bool a t' b
    | int b => obtain ⟨t, rfl⟩ := rx; exact SeqAt.EqAt.str_int a t' b t
    | str b => obtain ⟨t, rfl⟩ := rx; exact SeqAt.EqAt.str_str a t' b t
    | _ => exact absurd (show false = true from fx) Bool.false_ne_true
  | _ => exact absurd (show false = true from fy) Bool.false_ne_true
/-- the items' answers, read off the values (a value's own answer does not lean on its token) -/
def eqU (x : V) (u : Value) : Bool := match u with
  | .none => eqV .non x
  | .bool b => eqV (.bl b) x
  | .int i _ => eqV (.int i) x
  | .str z _ => eqV (.str z) x
  | _ => false
theorem eqU_of {x y : V} {u : Value} (r : RelV y u) (f : flatV y = true) : eqU x u = eqV y x := by
  cases y with
  | non => cases r; rfl
  | bl b => cases r; rfl
  | int i => obtain ⟨t, rfl⟩ := r; rfl
  | str z => obtain ⟨t, rfl⟩ := r; rfl
  | _ => exact absurd (show false = true from f) Bool.false_ne_true
theorem any_eqU {x : V} : ∀ {xs : List V} {us : List Value}, Vals xs us → xs.all flatV = true → us.any (eqU x) = xs.any fun y => eqV y x
  | _, _, .nil, _ => rfl
  | y :: xs, u :: us, .cons r t, f => by
    rw [List.all_cons, Bool.and_eq_true] at f
    rw [List.any_cons, List.any_cons, eqU_of r f.1, any_eqU t f.2]
theorem mem_eqAt {A : Around} {s : Shared} {x : V} {v : Value} (rx : RelV x v) (fx : flatV x = true) : ∀ {xs : List V} {us : List Value}, Vals xs us → xs.all flatV = true → ∀ u ∈ us, SeqAt.EqAt A s u v (eqU x u)
  | _, _, .nil, _ => fun u hu => by cases hu
  | y :: xs, u :: us, .cons r t, f => fun u' hu => by
    rw [List.all_cons, Bool.and_eq_true] at f
    rcases List.mem_cons.mp hu with rfl | hu
    · rw [eqU_of r f.1]; exact eqAt_V r rx f.1 fx
    · exact mem_eqAt rx fx t f.2 u' hu
def inV (x : V) (xs : List V) : Bool := xs.any fun y => eqV y x
/-- x in a list or tuple of flat items -/
def rIn (K : PySem.W.Frag) (neg : Bool) : R2 := fun x y H Q => ∃ p xs, y = .ref p ∧ (SqL K H p xs ∨ SqT K H p xs) ∧ flatV x = true ∧ xs.all flatV = true ∧ Q (.bl (if neg then !inV x xs else inV x xs)) H
theorem op_in_seq : OpR X (compareOp .In) (rIn X.K false) := by
  intro pins s σ H x y v u Q I rx ry h
  obtain ⟨p, xs, rfl, hq, fx, fs, q⟩ := h
  cases ry
  rcases hq with hq | hq
  · obtain ⟨its, r, pl, hz⟩ := I.list hq
    refine SeqAt.in_listAt (eqU x) pl.isList (fun w hw => mem_eqAt rx fx r fs w (by simpa using hw)) ⟨.bl _, H, I, rfl, ?_⟩
    rw [show its.toArray.any (eqU x) = its.any (eqU x) by simp, any_eqU r fs]
    exact q
  · obtain ⟨its, r, pl, hz⟩ := I.tuple hq
    refine SeqAt.in_tupleAt (eqU x) pl (fun w hw => mem_eqAt rx fx r fs w (by simpa using hw)) ⟨.bl _, H, I, rfl, ?_⟩
    rw [show its.toArray.any (eqU x) = its.any (eqU x) by simp, any_eqU r fs]
    exact q
theorem op_notIn_seq : OpR X (compareOp .NotIn) (rIn X.K true) := by
  intro pins s σ H x y v u Q I rx ry h
  obtain ⟨p, xs, rfl, hq, fx, fs, q⟩ := h
  cases ry
  rcases hq with hq | hq
  · obtain ⟨its, r, pl, hz⟩ := I.list hq
    refine SeqAt.notIn_listAt (eqU x) pl.isList (fun w hw => mem_eqAt rx fx r fs w (by simpa using hw)) ⟨.bl _, H, I, rfl, ?_⟩
    rw [show its.toArray.any (eqU x) = its.any (eqU x) by simp, any_eqU r fs]
    exact q
  · obtain ⟨its, r, pl, hz⟩ := I.tuple hq
    refine SeqAt.notIn_tupleAt (eqU x) pl (fun w hw => mem_eqAt rx fx r fs w (by simpa using hw)) ⟨.bl _, H, I, rfl, ?_⟩
    rw [show its.toArray.any (eqU x) = its.any (eqU x) by simp, any_eqU r fs]
    exact q
theorem op_notIn_str : OpR X (compareOp .NotIn) (fun x y H Q => ∃ i j, x = .str i ∧ y = .str j ∧ Q (.bl (!(!(Builtin.Str.occurrences j i 0 j.length 1).isEmpty))) H) := by
  intro pins s σ H x y v u Q I rx ry h
  obtain ⟨i, j, rfl, rfl, q⟩ := h
  obtain ⟨t, rfl⟩ := rx
  obtain ⟨t', rfl⟩ := ry
  exact notIn_str ⟨.bl _, H, I, rfl, q⟩

/-! ### len, list(x), tuple(x) of any list or tuple that is read -/
theorem call_len_seq : CallR X (.builtin "len") (fun xs H Q => ∃ p ys, xs = [.ref p] ∧ (SqL X.K H p ys ∨ SqT X.K H p ys) ∧ Q (.int ys.length) H) := by
  intro pins s σ H xs us Q I r h
  obtain ⟨p, ys, rfl, hq, q⟩ := h
  obtain ⟨u, rfl, rx⟩ := vals1 r
  cases rx
  have hn := line63
  rcases hq with hq | hq
  · obtain ⟨its, r', pl, hz⟩ := I.list hq
    have hlen := r'.length
    exact Calls.call_len_list pl.isList (by simp only [List.size_toArray] <;> omega) ⟨.int ys.length, H, I.tok _, ⟨s.toks + 1, by rw [List.size_toArray, hlen]⟩, q⟩
  · obtain ⟨its, r', pl, hz⟩ := I.tuple hq
    have hlen := r'.length
    exact len_tuple pl (by simp only [List.size_toArray] <;> omega) ⟨.int ys.length, H, I.tok _, ⟨s.toks + 1, by rw [List.size_toArray, hlen]⟩, q⟩
theorem call_len_str : CallR X (.builtin "len") (fun xs H Q => ∃ z, xs = [.str z] ∧ z.length ≤ sizeLine ∧ Q (.int z.length) H) := by
  intro pins s σ H xs us Q I r h
  obtain ⟨z, rfl, hz, q⟩ := h
  obtain ⟨u, rfl, t, rfl⟩ := vals1 r
  have hn := line63
  exact len_str (by omega) ⟨.int z.length, H, I.tok _, ⟨_, rfl⟩, q⟩
theorem CallR.or {f : Value} {r r' : List V → Hp → VK → Prop} (h : CallR X f r) (h' : CallR X f r') : CallR X f (fun xs H Q => r xs H Q ∨ r' xs H Q) := by
  intro pins s σ H xs us Q I rs q
  rcases q with q | q
  · exact h pins s σ H xs us Q I rs q
  · exact h' pins s σ H xs us Q I rs q
theorem call_list_of : CallR X (.type "list") (fun xs H Q => ∃ p ys, xs = [.ref p] ∧ (SqL X.K H p ys ∨ SqT X.K H p ys) ∧ ∀ l, H l = none → Q (.ref l) (upd H l (.lst ys))) := by
  intro pins s σ H xs us Q I r h
  obtain ⟨p, ys, rfl, hq, q⟩ := h
  obtain ⟨u, rfl, rx⟩ := vals1 r
  cases rx
  have fin : ∀ (its : List Value), Vals ys its → ys.length ≤ sizeLine → ∀ (h' : Heap) (c' : Nat), (∀ b o', s.heap.get? b = some o' → h'.get? b = some o') →
      h'.get? s.heap.objs.size = some { cls := .type "list", dict := none, data := .seq its.toArray c', slots := #[] } → EP X pins σ Q (.ref s.heap.objs.size) { s with heap := h' } := fun its r' hz h' c' kp e =>
    ⟨.ref s.heap.objs.size, _, I.laid (t' := s.toks) kp (Nat.le_refl _) (show ObjOk X.prog X.w _ h' _ (.lst ys) from ⟨hz, its, c', r', e⟩), rfl, q _ (I.hok.fresh (Nat.le_refl _))⟩
  rcases hq with hq | hq
  · obtain ⟨its, r', pl, hz⟩ := I.list hq
    have hlen := r'.length
    obtain ⟨o, ho, hc, n, hd⟩ := pl.isList
    exact call_list_seq p (.inl rfl) ho hc hd (fun h' c' kp e => fin its r' hz h' c' kp e) (by simp only [List.size_toArray] <;> omega)
  · obtain ⟨its, r', pl, hz⟩ := I.tuple hq
    have hlen := r'.length
    obtain ⟨o, ho, hc, n, hd⟩ := pl
    exact call_list_seq p (.inr rfl) ho hc hd (fun h' c' kp e => fin its r' hz h' c' kp e) (by simp only [List.size_toArray] <;> omega)
theorem call_tuple_of : CallR X (.type "tuple") (fun xs H Q => ∃ p ys, xs = [.ref p] ∧ ((SqL X.K H p ys ∧ ∀ l, H l = none → Q (.ref l) (upd H l (.tup ys))) ∨ (SqT X.K H p ys ∧ Q (.ref p) H))) := by
  intro pins s σ H xs us Q I r h
  obtain ⟨p, ys, rfl, h⟩ := h
  obtain ⟨u, rfl, rx⟩ := vals1 r
  cases rx
  rcases h with ⟨hq, q⟩ | ⟨hq, q⟩
  · obtain ⟨its, r', pl, hz⟩ := I.list hq
    have hlen := r'.length
    refine call_tuple_list pl.isList (fun h' kp => ?_) (by simp only [List.size_toArray] <;> omega)
    have I1 : Inv X pins σ H { s with heap := h' } := I.kept (t' := s.toks) kp
    have I2 : Inv X pins σ (upd H h'.objs.size (.tup ys)) { s with heap := h'.push { cls := .type "tuple", data := .seq its.toArray } } :=
      I1.laid (t' := s.toks) (fun b o e => Heap.get?_push_of_some _ e) (Nat.le_refl _) (show ObjOk X.prog X.w _ _ _ (.tup ys) from ⟨hz, its, r', IsTup.new _ _⟩)
    exact ⟨.ref h'.objs.size, _, I2, rfl, q _ (I1.hok.fresh (Nat.le_refl _))⟩
  · obtain ⟨its, r', pl, hz⟩ := I.tuple hq
    exact call_tuple_same pl ⟨.ref p, H, I, rfl, q⟩

/-! ### the call of a builtin's method: o.m(..) -/
/-- the value is of that builtin type -/
def tyV (K : PySem.W.Frag) (T : String) (x : V) (H : Hp) : Prop := match x with
  | .str _ => T = "str"
  | .int _ => T = "int"
  | .ref p => (T = "list" ∧ ∃ xs, SqL K H p xs) ∨ (T = "tuple" ∧ ∃ o, K.lookup p = some o ∧ o.cls = .type "tuple" ∧ o.dict = none) ∨
      (T = "dict" ∧ ((∃ kvs, H p = some (.dK kvs)) ∨ ∃ kvs, H p = some (.dT kvs))) ∨ (T = "set" ∧ ∃ S n, H p = some (.set S n))
  | _ => False
theorem tyV_is {pins : List (Addr × Obj)} {σ : St} {H : Hp} {s : Shared} {T : String} {x : V} {v : Value} (I : Inv X pins σ H s) (r : RelV x v) (ty : tyV X.K T x H) :
    s.TypeIs v T ∧ ∀ a, v = .ref a → ∃ ob, s.heap.get? a = some ob ∧ ob.dict = none := by
  cases x with
  | str z =>
    obtain ⟨t, rfl⟩ := r
    cases (show T = "str" from ty)
    exact ⟨typeIs_str s z t, fun _ e => nomatch e⟩
  | int i =>
    obtain ⟨t, rfl⟩ := r
    cases (show T = "int" from ty)
    exact ⟨typeIs_int s i t, fun _ e => nomatch e⟩
  | ref p =>
    cases r
    rcases ty with ⟨rfl, xs, hq⟩ | ⟨rfl, o, hk, hc, hd⟩ | ⟨rfl, hk⟩ | ⟨rfl, S, n, hk⟩
    · obtain ⟨its, _, pl, _⟩ := I.list hq
      refine ⟨pl.isList.typeIs, fun a e => ?_⟩
      cases e
      obtain ⟨o, n, e, c, hd, _⟩ := pl
      exact ⟨o, e, hd⟩
    · refine ⟨⟨o, I.kIn p o hk, hc⟩, fun a e => ?_⟩
      cases e
      exact ⟨o, I.kIn _ o hk, hd⟩
    · have z : ∃ o, s.heap.get? p = some o ∧ o.ExactDict := by
        rcases hk with ⟨kvs, hk⟩ | ⟨kvs, hk⟩
        · obtain ⟨_, _, _, _, o, _, _, e, ex, _⟩ := I.hok p _ hk
          exact ⟨o, e, ex⟩
        · obtain ⟨_, _, _, _, o, _, _, e, ex, _⟩ := I.hok p _ hk
          exact ⟨o, e, ex⟩
      obtain ⟨o, e, ex⟩ := z
      refine ⟨⟨o, e, ex.1⟩, fun a e2 => ?_⟩
      cases e2
      exact ⟨o, e, ex.2.1⟩
    · obtain ⟨o, _, _, _, e, ex, _⟩ := I.hok p _ hk
      refine ⟨⟨o, e, ex.1⟩, fun a e2 => ?_⟩
      cases e2
      exact ⟨o, e, ex.2.1⟩
  | _ => exact False.elim ty
def tBM0 (K : PySem.W.Frag) (T : String) (r : V → List V → Hp → VK → Prop) (to : TE) : TE := fun σ H Q => to σ H fun x H1 => tyV K T x H1 ∧ r x [] H1 Q
def tBM (K : PySem.W.Frag) (T : String) (r : V → List V → Hp → VK → Prop) (to : TE) (t : TA) : TE := fun σ H Q => to σ H fun x H1 => tyV K T x H1 ∧ t σ H1 fun xs H2 => r x xs H2 Q
variable {o e : Expr} {es : List Expr} {to : TE} {t : TA} {name : Str} {apos cpos : Pos} {T id : String} {r : V → List V → Hp → VK → Prop}
theorem pe_bm0 (pa : PlainAttrs T) (slot : Slot T name id) (hty : typeOf (.builtin id) = pure (.type "method_descriptor")) (hm : MtR X id r) (ho : PE X o to)
    (hbase : attributeBase o name X.env (eval o X.env) = eval o X.env := by rfl) (hline : (apos.endLine == cpos.line) = true := by rfl) : PE X (.Call (.Attribute o name apos) [] [] cpos) (tBM0 X.K T r to) := by
  intro pins s σ H Q I h
  refine wpAny_Call_method0_late hbase hline (thn (ho pins s σ H _ I h) fun v s1 ⟨x, H1, I1, r1, ty, q1⟩ => ?_)
  obtain ⟨h1, h2⟩ := tyV_is I1 r1 ty
  exact ⟨T, id, pa, slot, hty, h1, h2, Calls.callWith_builtin rfl (PySem.evalArgs_none (hm pins s1 σ H1 x [] v [] Q I1 r1 .nil q1))⟩
theorem pe_bm (pa : PlainAttrs T) (slot : Slot T name id) (hty : typeOf (.builtin id) = pure (.type "method_descriptor")) (hm : MtR X id r) (ho : PE X o to) (ha : PA X (e :: es) t)
    (hbase : attributeBase o name X.env (eval o X.env) = eval o X.env := by rfl)
    (hfew : ((backTo cpos (starEach (e :: es) X.env)).all (fun x => !x.1) && (backToKw cpos (keywordEach [] X.env)).all (fun x => x.1.isSome)
      && decide ((e :: es).length + ([] : List Keyword).length + (if ([] : List Keyword).isEmpty then 0 else 1) < 30)) = true := by rfl)
    (hline : (apos.endLine == cpos.line) = true := by rfl) (hs : starEach (e :: es) X.env = (false, eval e X.env) :: starEach es X.env := by rfl) (hplain : (backTo cpos (starEach es X.env)).any (·.1) = false := by rfl) :
    PE X (.Call (.Attribute o name apos) (e :: es) [] cpos) (tBM X.K T r to t) := by
  intro pins s σ H Q I h
  refine wpAny_Call_method_late hbase hfew hline rfl (thn (ho pins s σ H _ I h) fun v s1 ⟨x, H1, I1, r1, ty, q1⟩ => ?_)
  obtain ⟨h1, h2⟩ := tyV_is I1 r1 ty
  refine ⟨T, id, pa, slot, hty, h1, h2, ?_⟩
  have hA := ha cpos pins s1 σ H1 _ I1 q1
  rw [hs] at hA ⊢
  refine Calls.callWith_builtin (by show (false || (backTo cpos (starEach es X.env)).any (·.1)) = false; rw [hplain] <;> rfl) (Calls.evalArgs_plain ?_)
  exact thn hA fun us s2 ⟨vs, H2, I2, r2, q2⟩ => hm pins s2 σ H2 x vs v us Q I2 r1 r2 q2
/- xs.append(e), list.index on a module's tuple .. are MtR facts of 06m -/
end
end L2

namespace L2
open PySem PySem.Spec PyProof.Rows

def MtM (X : Cx) (id : String) (r : V → List V → Hp → VK → Prop) : Prop :=
  ∀ (pins : List (Addr × Obj)) (s : Shared) (σ : St) (H : Hp) (x : V) (xs : List V) (v : Value) (us : List Value) (Q : VK), Inv X pins σ H s → RelV x v → Vals xs us → r x xs H Q →
    wpAny (model X.prog X.w) X.A (call (.builtin id) (v :: us)) (EP X pins σ Q) X.xe s

/-! ### lists of values -/
theorem Vals.one : ∀ {x : V} {us : List Value}, Vals [x] us → ∃ u, us = [u] ∧ RelV x u
  | _, _, .cons r .nil => ⟨_, rfl, r⟩
theorem Vals.two : ∀ {x y : V} {us : List Value}, Vals [x, y] us → ∃ u v, us = [u, v] ∧ RelV x u ∧ RelV y v
  | _, _, _, .cons r (.cons q .nil) => ⟨_, _, rfl, r, q⟩
theorem Vals.zero : ∀ {us : List Value}, Vals [] us → us = []
  | _, .nil => rfl
theorem Vals.dropLast {xs : List V} {us : List Value} (h : Vals xs us) : Vals xs.dropLast us.dropLast := by
  induction h with
  | nil => exact .nil
  | cons r t ih =>
    cases t with
    | nil => exact .nil
    | cons q t' => exact .cons r ih
theorem Vals.eraseIdx : ∀ {xs : List V} {us : List Value} (i : Nat), Vals xs us → Vals (xs.eraseIdx i) (us.eraseIdx i)
  | _, _, _, .nil => .nil
  | _, _, 0, .cons _ t => t
  | _, _, i + 1, .cons r t => .cons r (Vals.eraseIdx i t)
theorem Vals.reverse {xs : List V} {us : List Value} (h : Vals xs us) : Vals xs.reverse us.reverse := by
  induction h with
  | nil => exact .nil
  | cons r t ih => rw [List.reverse_cons, List.reverse_cons]; exact Vals.append ih (.cons r .nil)
theorem Vals.rep {xs : List V} {us : List Value} (h : Vals xs us) : ∀ k : Nat, Vals (List.replicate k xs).flatten (List.replicate k us).flatten
  | 0 => .nil
  | k + 1 => by
    rw [List.replicate_succ, List.replicate_succ, List.flatten_cons, List.flatten_cons]
    exact Vals.append h (Vals.rep h k)
theorem erase_last {α : Type} (l : List α) : l.eraseIdx (l.length - 1) = l.dropLast := by
  induction l with
  | nil => rfl
  | cons a r ih =>
    cases r with
    | nil => rfl
    | cons b r =>
      have e : (a :: b :: r).length - 1 = ((b :: r).length - 1) + 1 := by
        have h1 : (a :: b :: r).length = r.length + 2 := rfl
        have h2 : (b :: r).length = r.length + 1 := rfl
        omega
      rw [e, List.eraseIdx_cons_succ, ih]
      all_goals rfl
theorem len_erase {α : Type} : ∀ (l : List α) (i : Nat), (l.eraseIdx i).length ≤ l.length
  | [], _ => Nat.le_refl _
  | _ :: _, 0 => Nat.le_succ _
  | _ :: r, i + 1 => Nat.succ_le_succ (len_erase r i)
theorem foldl_rep (its : List Value) : ∀ (k : Nat) (acc : List Value),
    List.foldl (fun x1 x2 => x1 ++ x2) acc.toArray (List.replicate k its.toArray) = (acc ++ (List.replicate k its).flatten).toArray
  | 0, acc => by simp
  | k + 1, acc => by
    have e : acc.toArray ++ its.toArray = (acc ++ its).toArray := by simp
    have e2 : (acc ++ its) ++ (List.replicate k its).flatten = acc ++ (List.replicate (k + 1) its).flatten := by
      rw [List.replicate_succ, List.flatten_cons, List.append_assoc]
    rw [← e2, ← foldl_rep its k (acc ++ its), ← e, List.replicate_succ, List.foldl_cons]

section
variable {X : Cx} {pins : List (Addr × Obj)} {σ : St} {H : Hp} {s : Shared} {l b : Addr} {xs ys zs : List V}

/-! ### the two steps: a tracked list is rewritten, a new list is laid -/
theorem Inv.lset {its its' : List Value} {n : Nat} {f : Array Value → Array Value} {t' : Nat} (I : Inv X pins σ H s) (hH : H l = some (.lst xs))
    (e : s.heap.get? l = some { cls := .type "list", data := .seq its.toArray n }) (hf : f its.toArray = its'.toArray) (hv : Vals ys its') (hz : ys.length ≤ sizeLine) :
    Inv X pins σ (upd H l (.lst ys)) { s with heap := s.heap.update l (Obj.mapSeq f), toks := t' } := by
  have q := PySem.IsL.update e f
  rw [hf] at q
  refine I.write (x := l) (e := l) (by rw [hH]; exact trivial) (.inl rfl) (fun b' u hb hu => (Heap.get?_update_other s.heap (Obj.mapSeq f) (Ne.symm hb)).trans hu) ⟨_, q⟩ ?_
  exact ⟨hz, its', _, hv, q⟩
theorem Inv.lnew {its : List Value} {t' : Nat} (I : Inv X pins σ H s) (hv : Vals ys its) (hz : ys.length ≤ sizeLine) :
    Inv X pins σ (upd H s.heap.objs.size (.lst ys)) { s with heap := s.heap.push { cls := .type "list", data := .seq its.toArray }, toks := t' } :=
  I.laid (fun _ _ q => Heap.get?_push_of_some _ q) (Nat.le_refl _) ⟨hz, its, 0, hv, Heap.get?_push_size _ rfl⟩
theorem Inv.fresh (I : Inv X pins σ H s) : H s.heap.objs.size = none := I.hok.fresh (Nat.le_refl _)
theorem Inv.lstM (I : Inv X pins σ H s) (hH : H l = some (.lst xs)) : xs.length ≤ sizeLine ∧ ∃ (its : List Value) (n : Nat), Vals xs its ∧ xs.length = its.length ∧ s.heap.get? l = some { cls := .type "list", data := .seq its.toArray n } := by
  obtain ⟨z, its, n, r, e⟩ := I.hok l _ hH
  exact ⟨z, its, n, r, r.length, e⟩

theorem notLongL {n : Nat} (h : n ≤ sizeLine) : Builtin.List.listTooLong n = false := by
  unfold Builtin.List.listTooLong
  exact decide_eq_false (by omega)
end

section
variable {X : Cx}

/-! ### methods -/
def rAppend : V → List V → Hp → VK → Prop := fun x vs H Q => ∃ l xs y, x = .ref l ∧ vs = [y] ∧ H l = some (.lst xs) ∧ xs.length < sizeLine ∧ Q .non (upd H l (.lst (xs ++ [y])))
theorem mt_append : MtM X "list.append" rAppend := by
  intro pins s σ H x vs v us Q I rx rv h
  obtain ⟨l, xs, y, rfl, rfl, hH, hz, q⟩ := h
  cases rx
  obtain ⟨u, rfl, ru⟩ := rv.one
  obtain ⟨z, its, n, r, hl, e⟩ := I.lstM hH
  refine call_meets F.slot_list_append ⟨_, e, rfl⟩ F.entry_list_append (F.args_list_append_2 _ _) (PySem.list_append l its.toArray n u (by rw [List.size_toArray]; omega)) ⟨e, ?_⟩
  refine ⟨.non, _, I.lset (its' := its ++ [u]) hH e (by simp) (r.append (.cons ru .nil)) ?_, rfl, q⟩
  rw [List.length_append, List.length_singleton]
  omega

def rExtend : V → List V → Hp → VK → Prop := fun x vs H Q => ∃ l b xs zs, x = .ref l ∧ vs = [.ref b] ∧ H l = some (.lst xs) ∧ H b = some (.lst zs) ∧ xs.length + zs.length ≤ sizeLine ∧ Q .non (upd H l (.lst (xs ++ zs)))
theorem mt_extend : MtM X "list.extend" rExtend := by
  intro pins s σ H x vs v us Q I rx rv h
  obtain ⟨l, b, xs, zs, rfl, rfl, hH, hB, hz, q⟩ := h
  cases rx
  obtain ⟨u, rfl, ru⟩ := rv.one
  cases ru
  obtain ⟨z, its, n, r, hl, e⟩ := I.lstM hH
  obtain ⟨z2, its2, n2, r2, hl2, e2⟩ := I.lstM hB
  have hsz : its.toArray.size + its2.toArray.size ≤ sizeLine := by rw [List.size_toArray, List.size_toArray]; omega
  have hlong : ¬ (!its.toArray.isEmpty && Builtin.List.listTooLong (its.toArray.size + its2.toArray.size)) = true := by
    rw [notLongL hsz, Bool.and_false]
    exact Bool.false_ne_true
  refine call_meets F.slot_list_extend ⟨_, e, rfl⟩ F.entry_list_extend (F.args_list_extend_2 _ _)
    (AutoSeq1.list_extend_list_list_0 l its.toArray n b its2.toArray n2 hlong (by rw [List.size_toArray]; omega) (by omega)) ⟨e, e2, ?_⟩
  refine ⟨.non, _, I.lset (its' := its ++ its2) hH e (by simp) (r.append r2) ?_, rfl, q⟩
  rw [List.length_append]
  omega

def rPop : V → List V → Hp → VK → Prop := fun x vs H Q => ∃ l xs y, x = .ref l ∧ vs = [] ∧ H l = some (.lst xs) ∧ xs[xs.length - 1]? = some y ∧ Q y (upd H l (.lst xs.dropLast))
theorem mt_pop : MtM X "list.pop" rPop := by
  intro pins s σ H x vs v us Q I rx rv h
  obtain ⟨l, xs, y, rfl, rfl, hH, hy, q⟩ := h
  cases rx
  have hus := rv.zero
  subst hus
  obtain ⟨z, its, n, r, hl, e⟩ := I.lstM hH
  obtain ⟨u, hu, ru⟩ := r.get hy
  have hy' : its.toArray[its.toArray.size - 1]? = some u := by
    show its.toArray[its.length - 1]? = some u
    rw [← Array.getElem?_toList, ← hl]
    exact hu
  refine call_meets F.slot_list_pop ⟨_, e, rfl⟩ F.entry_list_pop (F.args_list_pop_1 _) (MeetsSeq.list_pop_last l its.toArray n u hy' (by rw [List.size_toArray]; omega)) ⟨e, ?_⟩
  refine ⟨y, _, I.lset (its' := its.dropLast) hH e ?_ r.dropLast ?_, ru, q⟩
  · show its.toArray.eraseIdxIfInBounds (its.toArray.size - 1) = its.dropLast.toArray
    rw [List.size_toArray, List.eraseIdxIfInBounds_toArray, erase_last]
  · rw [List.length_dropLast]
    omega

def rPopAt : V → List V → Hp → VK → Prop := fun x vs H Q => ∃ l xs i k y, x = .ref l ∧ vs = [.int i] ∧ H l = some (.lst xs) ∧ -(2 ^ 63) ≤ i ∧ i < 2 ^ 63 ∧ seqIndex? i xs.length = some k ∧ xs[k]? = some y ∧ Q y (upd H l (.lst (xs.eraseIdx k)))
theorem mt_popAt : MtM X "list.pop" rPopAt := by
  intro pins s σ H x vs v us Q I rx rv h
  obtain ⟨l, xs, i, k, y, rfl, rfl, hH, h1, h2, hk, hy, q⟩ := h
  cases rx
  obtain ⟨u, rfl, ru⟩ := rv.one
  obtain ⟨t, rfl⟩ := ru
  obtain ⟨z, its, n, r, hl, e⟩ := I.lstM hH
  obtain ⟨w, hw, rw'⟩ := r.get hy
  refine call_meets F.slot_list_pop ⟨_, e, rfl⟩ F.entry_list_pop (F.args_list_pop_2 _ _)
    (MeetsSeq.list_pop_at l its.toArray n i t k w (fitsIndex_both h1 h2) (by rw [List.size_toArray, ← hl]; exact hk) (by rw [← Array.getElem?_toList]; exact hw) (by rw [List.size_toArray]; omega)) ⟨e, ?_⟩
  refine ⟨y, _, I.lset (its' := its.eraseIdx k) hH e ?_ (r.eraseIdx k) ?_, rw', q⟩
  · show its.toArray.eraseIdxIfInBounds k = (its.eraseIdx k).toArray
    rw [List.eraseIdxIfInBounds_toArray]
  · have := len_erase xs k
    omega

def rReverse : V → List V → Hp → VK → Prop := fun x vs H Q => ∃ l xs, x = .ref l ∧ vs = [] ∧ H l = some (.lst xs) ∧ Q .non (upd H l (.lst xs.reverse))
theorem mt_reverse : MtM X "list.reverse" rReverse := by
  intro pins s σ H x vs v us Q I rx rv h
  obtain ⟨l, xs, rfl, rfl, hH, q⟩ := h
  cases rx
  have hus := rv.zero
  subst hus
  obtain ⟨z, its, n, r, hl, e⟩ := I.lstM hH
  refine call_meets F.slot_list_reverse ⟨_, e, rfl⟩ F.entry_list_reverse (F.args_list_reverse_1 _) (AutoSeq1.list_reverse_list_0 l its.toArray n (by rw [List.size_toArray]; omega)) ⟨e, ?_⟩
  refine ⟨.non, _, I.lset (its' := its.reverse) hH e (by simp) r.reverse ?_, rfl, q⟩
  rw [List.length_reverse]
  omega

def rClear : V → List V → Hp → VK → Prop := fun x vs H Q => ∃ l xs, x = .ref l ∧ vs = [] ∧ H l = some (.lst xs) ∧ Q .non (upd H l (.lst []))
theorem mt_clear : MtM X "list.clear" rClear := by
  intro pins s σ H x vs v us Q I rx rv h
  obtain ⟨l, xs, rfl, rfl, hH, q⟩ := h
  cases rx
  have hus := rv.zero
  subst hus
  obtain ⟨z, its, n, r, hl, e⟩ := I.lstM hH
  refine call_meets F.slot_list_clear ⟨_, e, rfl⟩ F.entry_list_clear (F.args_list_clear_1 _) (AutoSeq1.list_clear_list_0 l its.toArray n (by rw [List.size_toArray]; omega)) ⟨e, ?_⟩
  exact ⟨.non, _, I.lset (its' := []) (ys := []) hH e rfl .nil (Nat.zero_le _), rfl, q⟩

/-! ### list + list, list += list, list * int -/
def rCat : R2 := fun x y H Q => ∃ l b xs zs, x = .ref l ∧ y = .ref b ∧ H l = some (.lst xs) ∧ H b = some (.lst zs) ∧ xs.length + zs.length ≤ sizeLine ∧ ∀ p, H p = none → Q (.ref p) (upd H p (.lst (xs ++ zs)))
theorem op_cat : OpR X (binaryOp .Add) rCat := by
  intro pins s σ H x y v u Q I rx ry h
  obtain ⟨l, b, xs, zs, rfl, rfl, hH, hB, hz, q⟩ := h
  cases rx
  cases ry
  obtain ⟨z, its, n, r, hl, e⟩ := I.lstM hH
  obtain ⟨z2, its2, n2, r2, hl2, e2⟩ := I.lstM hB
  refine PySem.P.add_list e e2 ?_ (by rw [List.size_toArray, List.size_toArray]; omega)
  have ea : its.toArray ++ its2.toArray = (its ++ its2).toArray := by simp
  rw [ea]
  exact ⟨.ref _, _, I.lnew (t' := s.toks) (r.append r2) (by rw [List.length_append]; omega), rfl, q _ I.fresh⟩
/-- a list times an int (a negative one is nothing) -/
def rRep : R2 := fun x y H Q => ∃ l k xs, x = .ref l ∧ y = .int k ∧ H l = some (.lst xs) ∧ -(2 ^ 63) ≤ k ∧ k < 2 ^ 63 ∧ xs.length * k.toNat ≤ sizeLine ∧
  ∀ p, H p = none → Q (.ref p) (upd H p (.lst (List.replicate k.toNat xs).flatten))
theorem len_rep {α : Type} (xs : List α) (k : Nat) : (List.replicate k xs).flatten.length = k * xs.length := by
  induction k with
  | zero => simp
  | succ k ih => rw [List.replicate_succ, List.flatten_cons, List.length_append, ih, Nat.succ_mul, Nat.add_comm]
theorem op_rep : OpR X (binaryOp .Mult) rRep := by
  intro pins s σ H x y v u Q I rx ry h
  obtain ⟨l, k, xs, rfl, rfl, hH, h1, h2, hz, q⟩ := h
  cases rx
  obtain ⟨t, rfl⟩ := ry
  obtain ⟨z, its, n, r, hl, e⟩ := I.lstM hH
  have hlen : its.toArray.size * k.toNat ≤ sizeLine := by rw [List.size_toArray, ← hl]; exact hz
  have hcap : ¬ its.toArray.size * k.toNat > (2 ^ 63 - 1) / 8 := by
    have : (sizeLine : Nat) ≤ (2 ^ 63 - 1) / 8 := by decide
    omega
  have hfit : ¬ (!Builtin.List.listFitsIndex k) = true := by
    rw [fitsIndex_both h1 h2]
    exact Bool.false_ne_true
  have hlong : ¬ Builtin.List.listTooLong (its.toArray.size * k.toNat) = true := by
    rw [notLongL hlen]
    exact Bool.false_ne_true
  have hnew : List.foldl (fun x1 x2 => x1 ++ x2) #[] (List.replicate (if its.toArray.isEmpty = true then 0 else k.toNat) its.toArray) = (List.replicate k.toNat its).flatten.toArray := by
    have f0 : ∀ m : Nat, List.foldl (fun x1 x2 => x1 ++ x2) #[] (List.replicate m its.toArray) = (List.replicate m its).flatten.toArray := fun m => by
      have := foldl_rep its m []
      rw [List.nil_append] at this
      exact this
    rw [f0]
    cases its with
    | nil => simp
    | cons a r' => rw [if_neg (by simp)]
  refine wpAny_binaryOp_repeat_ref (T := "list") (U := "int") (by decide) ⟨_, e, rfl⟩ (fun s' => typeIs_int s' k t) noFill_list_mul F.fills_int_mul F.slot_int_rmul repeat_list F.slot_int_index.lookup
    (call_meets F.slot_int_rmul (typeIs_int s k t) F.entry_int_rmul (F.args_int_rmul_2 _ _) (int___rmul___int_list k t l its.toArray n)
      ⟨e, rfl, ⟨_, e, rfl⟩, call_meets F.slot_list_mul ⟨_, e, rfl⟩ F.entry_list_mul (F.args_list_mul_2 _ _) (AutoListH.list___mul___list_int_3 l its.toArray n k t hfit hcap hlong) ⟨e, ?_⟩⟩)
  rw [hnew]
  exact ⟨.ref _, _, I.lnew (t' := s.toks) (r.rep k.toNat) (by rw [len_rep, Nat.mul_comm]; exact hz), rfl, q _ I.fresh⟩

/-! ### del xs[i] -/
theorem del_list {pins : List (Addr × Obj)} {s : Shared} {σ : St} {H : Hp} {l : Addr} {xs : List V} {i : Int} {t : Tok} {k : Nat} {Q : Unit → Shared → Prop} (I : Inv X pins σ H s) (hH : H l = some (.lst xs))
    (h1 : -(2 ^ 63) ≤ i) (h2 : i < 2 ^ 63) (hk : seqIndex? i xs.length = some k) (h : ∀ s', Inv X pins σ (upd H l (.lst (xs.eraseIdx k))) s' → Q () s') :
    wpAny (model X.prog X.w) X.A (delItem (.ref l) (.int i t)) Q X.xe s := by
  obtain ⟨z, its, n, r, hl, e⟩ := I.lstM hH
  refine PySem.P.delItem_list (k := k) e (fitsIndex_both h1 h2) (by rw [List.size_toArray, ← hl]; exact hk) (h _ ?_) (by rw [List.size_toArray]; omega)
  refine I.lset (its' := its.eraseIdx k) (t' := s.toks) hH e ?_ (r.eraseIdx k) ?_
  · show its.toArray.eraseIdxIfInBounds k = (its.eraseIdx k).toArray
    rw [List.eraseIdxIfInBounds_toArray]
  · have := len_erase xs k
    omega
end

/-! ### xs[a:b] = ys -/
section
variable {prog : Program} {w : World} {A : Around} {E : Value → Shared → Prop} {s : Shared}
theorem splice_eq (its its2 : List Value) (a c : Nat) : its.toArray.extract 0 a ++ its2.toArray ++ its.toArray.extract c its.toArray.size = (its.take a ++ its2 ++ its.drop c).toArray := by
  apply Array.toList_inj.mp
  first
    | (simp
       exact List.take_of_length_le (by simp))
    | simp [List.take_of_length_le]
    | simp
theorem bounds_run {a c n : Nat} (hac : a ≤ c) (hc : c ≤ n) : sliceBounds (some (a : Int)) (some (c : Int)) none n = ((a : Int), (c : Int), 1) := by
  simp only [sliceBounds, Option.getD_none]
  have h1 : ¬ ((a : Int) < 0) := by omega
  have h2 : ¬ ((c : Int) < 0) := by omega
  simp only [h1, h2, if_false, show (1 : Int) > 0 by decide, if_true]
  congr 1
  · omega
  · congr 1; omega
set_option maxRecDepth 100000 in
/-- list.__setitem__ with a slice of step one and another list -/
theorem setItem_slice {l b sl : Addr} {items new : Array Value} {n n2 : Nat} {vl vu : Value} {a c : Nat} {Q : Unit → Shared → Prop}
    (e : s.heap.get? l = some { cls := .type "list", data := .seq items n }) (e2 : s.heap.get? b = some { cls := .type "list", data := .seq new n2 }) (hne : l ≠ b)
    (hs : s.heap.IsSliceOf sl vl vu .none) (pl : IsPart vl (some (a : Int))) (pu : IsPart vu (some (c : Int))) (hac : a ≤ c) (hc : c ≤ items.size)
    (hsz : items.size + new.size ≤ sizeLine) (h : Q () { s with heap := s.heap.update l (Obj.mapSeq fun xs => xs.extract 0 a ++ new ++ xs.extract c xs.size) }) :
    wpAny (model prog w) A (setItem (.ref l) (.ref sl) (.ref b)) Q E s := by
  have hl : s.heap.IsList l items := PySem.IsL.isList e
  have hb : s.heap.IsList b new := PySem.IsL.isList e2
  obtain ⟨os, hos, hcs, hds⟩ := id hs
  have hTs : s.TypeIs (.ref sl) "slice" := ⟨os, hos, hcs⟩
  have hstep : ¬ ((rawPart none == rawInt 0) = true) := Bool.false_ne_true
  have hsame : Builtin.List.listSameRef (.ref l) (.ref b) = false := by
    unfold Builtin.List.listSameRef
    exact beq_eq_false_iff_ne.mpr hne
  have hmax : (max (a : Int) (c : Int)).toNat = c := by omega
  have hz' : ((fun xs : Array Value => xs.extract 0 a ++ new ++ xs.extract c xs.size) items).size ≤ sizeLine + 1 := by
    simp only [Array.size_append, Array.size_extract]
    omega
  unfold setItem
  try with_reducible refine wpAny_holding ?_
  first | refine wpAny_bind (wpAny_pure ?_) | skip
  refine wpAny_bind (wpAny_sequenceKey hl.typeIs (by decide) ?_)
  refine wpAny_bind (wpAny_callSpecial?_slot (name := Str.ofString "__setitem__") hl.typeIs slot_list_setitem
    (wpAny_call_entry slot_list_setitem hl.typeIs entry_list_setitem ?_ (args_list_setitem _ _ _)))
  show wpAny _ _ (Builtin.List.listSubscript? (.ref sl) >>= _) _ _ s
  refine wpAny_bind ?_
  unfold Builtin.List.listSubscript?
  refine wpAny_bind (wpAny_specialOf hTs slice_no_index ?_)
  simp only [Option.isNone_none, if_true]
  refine wpAny_pure ?_
  show wpAny _ _ (typeOf (.ref sl) >>= _) _ _ s
  refine wpAny_bind (wpAny_typeOf hTs ?_)
  first
    | rw [if_neg (by decide)]
    | refine PySem.W.KFB.if_not (by decide) ?_
  rw [listSliceParts_eq]
  refine wpAny_bind (wpAny_bind (wpAny_field hos hds (x := .none) rfl (wpAny_bind (wpAny_listPart .none ?_))))
  rw [if_neg hstep]
  refine wpAny_bind (wpAny_field hos hds (x := vl) rfl (wpAny_bind (wpAny_listPart pl ?_)))
  refine wpAny_bind (wpAny_field hos hds (x := vu) rfl (wpAny_bind (wpAny_listPart pu (wpAny_pure ?_))))
  first
    | simp only [hsame, Bool.false_eq_true, if_false]
    | refine PySem.W.KFB.if_not hsame ?_
    | (dsimp only
       rw [if_neg (by rw [hsame]; exact Bool.false_ne_true)])
  refine wpAny_bind (m := Builtin.List.listAllItems (.ref b) "must assign iterable to extended slice") ?_
  unfold Builtin.List.listAllItems
  refine wpAny_bind (wpAny_typeOf hb.typeIs ?_)
  first
    | refine PySem.W.KFB.if_so (by decide) ?_
    | rw [if_pos (by decide)]
    | simp only [beq_self_eq_true, Bool.true_or, if_true]
  unfold Builtin.List.listItems
  refine wpAny_bind (wpAny_seqItems e2 rfl (wpAny_pure ?_))
  refine wpAny_bind (wpAny_bind (wpAny_seqItems e rfl (wpAny_pure ?_)))
  refine wpAny_bind (wpAny_of_eq ((sliceIndices_raw (some (a : Int)) (some (c : Int)) none items.size (by simp)).trans (congrArg (pure : Int × Int × Int → Sem (Int × Int × Int)) (bounds_run hac hc))) ?_)
  show wpAny _ _ (if ((1 : Int) == 1) = true then _ else _) _ _ s
  rw [if_pos (by decide)]
  refine wpAny_bind (wpAny_rule ?_)
  first
    | simp only [notLongL hsz, Bool.false_eq_true, if_false]
    | refine PySem.W.KFB.if_not (notLongL hsz) ?_
  first | refine wpAny_bind (wpAny_pure ?_) | skip
  show wpAny _ _ (updateSeq l (fun xs => xs.extract 0 ((a : Int)).toNat ++ new ++ xs.extract (max (a : Int) (c : Int)).toNat xs.size) >>= _) _ _ s
  rw [hmax, Int.toNat_natCast]
  refine wpAny_bind (wpAny_updateSeq (hz := Nat.le_trans (Nat.le_add_right _ _) hsz) (_hz' := hz') e rfl ?_)
  refine wpAny_bind (wpAny_letGo ?_)
  first
    | exact wpAny_bind (wpAny_pure (wpAny_pure ⟨.none, rfl, wpAny_pure h⟩))
    | exact wpAny_pure ⟨.none, rfl, wpAny_pure h⟩
end

section
variable {X : Cx}
/-- xs[a:c] = ys of another list, at the value level: sl is the slice object that was just made -/
theorem set_slice {pins : List (Addr × Obj)} {s : Shared} {σ : St} {H : Hp} {l b sl : Addr} {xs ys : List V} {a c : Int} {vl vu : Value} {Q : Unit → Shared → Prop} (I : Inv X pins σ H s)
    (hH : H l = some (.lst xs)) (hB : H b = some (.lst ys)) (hne : l ≠ b) (hs : s.heap.IsSliceOf sl vl vu .none) (ra : RelV (.int a) vl) (rc : RelV (.int c) vu) (h0 : 0 ≤ a) (hac : a ≤ c) (hc : c ≤ xs.length)
    (hz : xs.length + ys.length ≤ sizeLine) (h : ∀ s', Inv X pins σ (upd H l (.lst (xs.take a.toNat ++ ys ++ xs.drop c.toNat))) s' → Q () s') :
    wpAny (model X.prog X.w) X.A (setItem (.ref l) (.ref sl) (.ref b)) Q X.xe s := by
  obtain ⟨ta, rfl⟩ := ra
  obtain ⟨tc, rfl⟩ := rc
  obtain ⟨z, its, n, r, hl, e⟩ := I.lstM hH
  obtain ⟨z2, its2, n2, r2, hl2, e2⟩ := I.lstM hB
  obtain ⟨a', rfl⟩ := Int.eq_ofNat_of_zero_le h0
  obtain ⟨c', rfl⟩ := Int.eq_ofNat_of_zero_le (Int.le_trans h0 hac)
  simp only [Int.toNat_natCast] at h
  refine setItem_slice (a := a') (c := c') e e2 hne hs (.int _ _) (.int _ _) (by omega) (by rw [List.size_toArray]; omega) (by rw [List.size_toArray, List.size_toArray]; omega) (h _ ?_)
  refine I.lset (its' := its.take a' ++ its2 ++ its.drop c') (t' := s.toks) hH e ?_ (Vals.append (Vals.append (r.take _) r2) (r.drop _)) ?_
  · exact splice_eq its its2 a' c'
  · rw [List.length_append, List.length_append, List.length_take, List.length_drop]
    omega
end
end L2

namespace Att
open PySem PySem.W PySem.Calls PyProof.Rows

/-! ### the script -/
theorem ints_of_wellAll {P : Params} {h : Heap} : ∀ (ns : List Int) (vs : List Value), WellAll P h vs (ns.map WData.int) → IntsAre vs ns := by
  intro ns
  induction ns with
  | nil =>
    intro vs w
    rw [List.map_nil] at w
    cases w
    exact .nil
  | cons n ns ih =>
    intro vs w
    rw [List.map_cons] at w
    cases w with
    | cons a b =>
      cases a
      exact .cons _ _ (ih _ b)

theorem script_of {l : OpenLaw} {n : Nat} (hn : l.most = some n) {P : Params} {h : Heap} {args : List WData} {vals : List Value}
    (hpre : l.row.toRowW.claim.pre args = true) (hwl : WellAll P h vals args) :
    ∃ a vs ns, vals = [Value.ref a] ∧ args = [WData.list (ns.map WData.int)] ∧ h.get? a = some { cls := .type "list", data := .seq vs.toArray } ∧ IntsAre vs ns ∧ ns.length ≤ n := by
  have hsh : WShape.hasAll [] args [.list .int] = true := (pre_splitW hpre).1
  have hc : l.pre.holds [] { args := args } = true := (pre_splitW hpre).2
  obtain ⟨d, r, rfl, h1, h2⟩ := hasAllW_cons hsh
  obtain rfl := hasAllW_nil h2
  obtain ⟨xs, rfl, h3⟩ := hasW_list h1
  obtain ⟨ns, rfl⟩ := items_int h3
  have hlen : ns.length ≤ n := by
    unfold OpenLaw.pre at hc
    have h4 : (WTm.not (.lt (.lit (.int (n : Int))) (.len (.arg 0)))).holds [] { args := [.list (ns.map .int)] } = true := by
      have h4 := (holds_andW hc).1
      rw [hn] at h4
      exact h4
    have h5 := condW_of h4 (w_not (w_lt w_lit (w_len_list (w_arg rfl))))
    rw [List.length_map] at h5
    refine Nat.le_of_not_lt fun q => ?_
    have q' : (n : Int) < ((ns.length : Nat) : Int) := by omega
    first
      | (rw [decide_eq_true q'] at h5; exact absurd h5 (by decide))
      | (simp at h5; omega)
  cases hwl with
  | cons w1 w2 =>
    cases w2
    cases w1 with
    | list ho hall => exact ⟨_, _, ns, rfl, rfl, ho, ints_of_wellAll ns _ hall, hlen⟩

theorem post_true (l : OpenLaw) (args : List WData) : l.row.toRowW.claim.post args (.bool true) args = true :=
  postW_of (r := l.row.toRowW) (X := (true == true))
    (show WShape.has [] (.bool true) .bool = true by first | rfl | decide | simp [WShape.has, WShape.arms, WShape.armsAll])
    (show (WTm.eq .res (.lit (.bool true))).value [] { args := args, res := some (.bool true), after := args } = some (.bool (true == true)) from w_eq_bool (w_res rfl) w_lit) rfl

/-! ### the attachment: holds_open's last premise (the goal 'hc' behind k_head) from a wpAny of the law's body -/
theorem attach {l : OpenLaw} {n : Nat} {q : Program} {loose : List Str} {XP : (Str → Option Value) → Heap → Prop} {YP : World → Heap → Prop} {d : DefRec} {x : Str}
    (hn : l.most = some n) (hdf : d.params.defaults = [])
    (hbind : ∀ pm cd doc v : Value, bindArgs (docDef d.name d.params d.body d.scope pm cd doc) ⟨[v], []⟩ = pure [(x, v)])
    (hx : d.scope.names.lookup x = some .local ∨ d.scope.names.lookup x = some .cell)
    (hk : d.scope.kind = .function) (hco : d.scope.isCoroutine = false) (hgen : d.scope.isGenerator = false)
    (body : ∀ (w : World) (s₀ s₁ s : Shared) (mg mb : Str → Option Value) (fa : Addr) (o : Obj) (pm cd doc : Value) (a : Addr) (vs : List Value) (ns : List Int),
      Ground q loose [] XP w s₀ mg mb s₁.heap → YP w s₁.heap →
      s₁.heap.get? fa = some o → o.data = .func (docDef d.name d.params d.body d.scope pm cd doc) → s₁.heap.CodeRec cd d.name → mg d.name = some (.ref fa) →
      s₁.heap.get? a = some { cls := .type "list", data := .seq vs.toArray } → IntsAre vs ns → ns.length ≤ n →
      s.gens = #[] → s.os = s₁.os →
      Fr s₁.heap s₁.heap.objs.size s.heap (bindL (envOfC d.name d.scope s₁.heap.objs.size fa cd).kindOf [(x, .ref a)] fun _ => none) →
      Cl s₁.heap.objs.size (cellsFrom (s₁.heap.objs.size + 1) d.scope.names []) s.heap (bindC (envOfC d.name d.scope s₁.heap.objs.size fa cd).kindOf [(x, .ref a)] fun _ => none) →
      wpAny (model l.prog w) (callerA.deeper (envOfC d.name d.scope s₁.heap.objs.size fa cd)) (execs d.body (envOfC d.name d.scope s₁.heap.objs.size fa cd))
        (fun f s' => f = .ret (.bool true) ∧ OldK s₁.heap s'.heap ∧ s'.os = s₁.os ∧ AllBare s'.gens) (fun _ _ => False) s) :
    WalkO q loose XP YP l.row.toRowW d [] (fun f vs => PySem.call f vs) := by
  intro w s₀ s₁ mg mb G Y fa o pm cd doc dV kV ho hd hcd hD hmg hg args vals as hpre hlay hrd hwl hlo
  obtain rfl : dV = .none := Dflts.none hD hdf
  obtain rfl : kV = .none := Dflts.noKw hD
  obtain ⟨a, vs, ns, rfl, rfl, hobj, hints, hlen⟩ := script_of hn hpre hwl
  refine enter_call ?_
  refine call_cells_ret (o := o) (by rw [depth_caller]; decide) ho (fd_plain hd) G.T.nolimit hcd (hbind pm cd doc (.ref a)) (fun y hy => ?_) (fun h₁ tk F X => ?_) hco hgen hk
  · obtain rfl : y = (x, Value.ref a) := List.mem_singleton.mp hy
    rcases hx with e | e
    · exact .inl e
    · exact .inr ⟨e, cellsFrom_some _ _ _ (.inl e)⟩
  · refine wpAny_mono (body w s₀ s₁ { s₁ with heap := h₁, toks := tk } mg mb fa o pm cd doc a vs ns G Y ho (fd_plain hd) hcd hmg hobj hints hlen hg rfl F X) (fun f s' hq => ?_) (fun _ _ hq => hq)
    obtain ⟨rfl, h2, h3, h4⟩ := hq
    exact ⟨.inl ⟨.bool true, .bool true, [], rfl, fun _ => rfl, .bool true, post_true l _, fun _ => ⟨List.Pairwise.nil, fun _ hm => (nomatch hm)⟩⟩, h2, h3, h4⟩

/-- the same from a codeAny of the CALL (for a layer whose function contracts speak of calls) -/
theorem attach_call {l : OpenLaw} {n : Nat} {q : Program} {loose : List Str} {XP : (Str → Option Value) → Heap → Prop} {YP : World → Heap → Prop} {d : DefRec}
    (hn : l.most = some n) (hdf : d.params.defaults = [])
    (call : ∀ (w : World) (s₀ s₁ : Shared) (mg mb : Str → Option Value) (fa : Addr) (o : Obj) (pm cd doc : Value) (a : Addr) (vs : List Value) (ns : List Int),
      Ground q loose [] XP w s₀ mg mb s₁.heap → YP w s₁.heap →
      s₁.heap.get? fa = some o → o.data = .func (docDef d.name d.params d.body d.scope pm cd doc) → s₁.heap.CodeRec cd d.name → mg d.name = some (.ref fa) →
      s₁.heap.get? a = some { cls := .type "list", data := .seq vs.toArray } → IntsAre vs ns → ns.length ≤ n → s₁.gens = #[] →
      codeAny (model l.prog w) callerA (.call (.ref fa) ⟨[.ref a], []⟩) (fun r s' => r = .ok (.ret (.bool true)) ∧ OldK s₁.heap s'.heap ∧ s'.os = s₁.os ∧ AllBare s'.gens) s₁) :
    WalkO q loose XP YP l.row.toRowW d [] (fun f vs => PySem.call f vs) := by
  intro w s₀ s₁ mg mb G Y fa o pm cd doc dV kV ho hd hcd hD hmg hg args vals as hpre hlay hrd hwl hlo
  obtain rfl : dV = .none := Dflts.none hD hdf
  obtain rfl : kV = .none := Dflts.noKw hD
  obtain ⟨a, vs, ns, rfl, rfl, hobj, hints, hlen⟩ := script_of hn hpre hwl
  refine enter_call (codeAny_mono (call w s₀ s₁ mg mb fa o pm cd doc a vs ns G Y ho (fd_plain hd) hcd hmg hobj hints hlen hg) fun r s' hq => ?_)
  obtain ⟨rfl, h2, h3, h4⟩ := hq
  exact ⟨.inl ⟨.bool true, .bool true, [], rfl, fun _ => rfl, .bool true, post_true l _, fun _ => ⟨List.Pairwise.nil, fun _ hm => (nomatch hm)⟩⟩, h2, h3, h4⟩

/-- the same where the top left finished generators (o_head chose holds_openN): nothing may have changed at all and no generator may be left -/
theorem attachN {l : OpenLaw} {n : Nat} {q : Program} {loose : List Str} {XP : (Str → Option Value) → Heap → Prop} {YP : World → Heap → Prop} {d : DefRec} {x : Str}
    (hn : l.most = some n) (hdf : d.params.defaults = [])
    (hbind : ∀ pm cd doc v : Value, bindArgs (docDef d.name d.params d.body d.scope pm cd doc) ⟨[v], []⟩ = pure [(x, v)])
    (hx : d.scope.names.lookup x = some .local ∨ d.scope.names.lookup x = some .cell)
    (hk : d.scope.kind = .function) (hco : d.scope.isCoroutine = false) (hgen : d.scope.isGenerator = false)
    (body : ∀ (w : World) (s₀ s₁ s : Shared) (mg mb : Str → Option Value) (fa : Addr) (o : Obj) (pm cd doc : Value) (a : Addr) (vs : List Value) (ns : List Int),
      Ground q loose [] XP w s₀ mg mb s₁.heap → YP w s₁.heap →
      s₁.heap.get? fa = some o → o.data = .func (docDef d.name d.params d.body d.scope pm cd doc) → s₁.heap.CodeRec cd d.name → mg d.name = some (.ref fa) →
      s₁.heap.get? a = some { cls := .type "list", data := .seq vs.toArray } → IntsAre vs ns → ns.length ≤ n →
      s.gens = #[] → s.os = s₁.os →
      Fr s₁.heap s₁.heap.objs.size s.heap (bindL (envOfC d.name d.scope s₁.heap.objs.size fa cd).kindOf [(x, .ref a)] fun _ => none) →
      Cl s₁.heap.objs.size (cellsFrom (s₁.heap.objs.size + 1) d.scope.names []) s.heap (bindC (envOfC d.name d.scope s₁.heap.objs.size fa cd).kindOf [(x, .ref a)] fun _ => none) →
      wpAny (model l.prog w) (callerA.deeper (envOfC d.name d.scope s₁.heap.objs.size fa cd)) (execs d.body (envOfC d.name d.scope s₁.heap.objs.size fa cd))
        (fun f s' => f = .ret (.bool true) ∧ (∀ b o, s₁.heap.get? b = some o → s'.heap.get? b = some o) ∧ s'.os = s₁.os ∧ s'.gens = #[]) (fun _ _ => False) s) :
    WalkN q loose XP YP l.row.toRowW d [] (fun f vs => PySem.call f vs) := by
  intro w s₀ s₁ mg mb G Y fa o pm cd doc dV kV ho hd hcd hD hmg hg args vals as hpre hlay hrd hwl hlo
  obtain rfl : dV = .none := Dflts.none hD hdf
  obtain rfl : kV = .none := Dflts.noKw hD
  obtain ⟨a, vs, ns, rfl, rfl, hobj, hints, hlen⟩ := script_of hn hpre hwl
  refine enter_callW ?_
  refine call_cells_ret (o := o) (by rw [depth_caller]; decide) ho (fd_plain hd) G.T.nolimit hcd (hbind pm cd doc (.ref a)) (fun y hy => ?_) (fun h₁ tk F X => ?_) hco hgen hk
  · obtain rfl : y = (x, Value.ref a) := List.mem_singleton.mp hy
    rcases hx with e | e
    · exact .inl e
    · exact .inr ⟨e, cellsFrom_some _ _ _ (.inl e)⟩
  · refine wpAny_mono (body w s₀ s₁ { s₁ with heap := h₁, toks := tk } mg mb fa o pm cd doc a vs ns G Y ho (fd_plain hd) hcd hmg hobj hints hlen hg rfl F X) (fun f s' hq => ?_) (fun _ _ hq => hq)
    obtain ⟨rfl, h2, h3, h4⟩ := hq
    exact ⟨.inl ⟨.bool true, .bool true, [], rfl, fun _ => rfl, .bool true, post_true l _, fun _ => ⟨List.Pairwise.nil, fun _ hm => (nomatch hm)⟩⟩, h2, h3, h4⟩

/-! ### rules over ANY heap (no ledger) from facts about the written part K: the library's own take a ledger (News) for what they write -/
section
variable {prog : Program} {w : World} {A : Around} {E : Value → Shared → Prop} {s : Shared} {K : Frag}

/-- a def of the module, or a method (qual 'C.m'), entered: the frame is the next address; cells behind it -/
theorem call_fn {R : Result → Shared → Prop} {name qual : Str} {params : Arguments} {body : List Stmt} {scope : Scope} {dV kV doc pm cdv ct oc : Value} {an od : Option Addr} {osl : Array (Option Value)} {f : Addr} {args : Args} {binds : List (Str × Value)}
    (X : K.In s.heap) (hlim : s.heap.NoLimit) (ho : K.lookup f = some ⟨oc, od, .func (fnOf name qual params body scope dV kV doc pm an cdv ct), osl⟩) (hcd : codeIn K cdv qual = true) (hroom : A.depth < recursionLimit)
    (hbind : BindsTo s (fnOf name qual params body scope dV kV doc pm an cdv ct) args binds)
    (hkind : (binds.all fun y => scope.names.lookup y.1 == some .local || scope.names.lookup y.1 == some .cell) = true)
    (h : ∀ s₁, InCallC s s.heap.objs.size (bindL (envOfC qual scope s.heap.objs.size f cdv).kindOf binds fun _ => none) (cellsFrom (s.heap.objs.size + 1) scope.names [])
        (bindC (envOfC qual scope s.heap.objs.size f cdv).kindOf binds fun _ => none) s₁ →
      wpAny (model prog w) (A.deeper (envOfC qual scope s.heap.objs.size f cdv)) (execs body (envOfC qual scope s.heap.objs.size f cdv))
        (fun fl s' => R (.ok (.ret (match fl with | .ret v => v | _ => .none))) s')
        (fun e s' => wpAny (model prog w) (A.deeper (envOfC qual scope s.heap.objs.size f cdv)) (leaving (envOfC qual scope s.heap.objs.size f cdv) e) (fun _ s'' => R (.error e) s'') (fun e' s'' => R (.error e') s'') s') s₁)
    (hco : scope.isCoroutine = false) (hgen : scope.isGenerator = false) (hk : scope.kind = .function) : codeAny (model prog w) A (.call (.ref f) args) R s := by
  refine codeAny_call_function hroom (X _ _ ho) rfl hco hgen rfl (codeRec_of X hcd) (hbind _ _ _ _ ?_)
  refine wpAny_newFunctionEnv_cells hk (kindsX hkind _) fun env he s₁ x => ?_
  subst he
  exact ⟨hlim.keeps x.toInCall.keep, codeAny_func (h s₁ x)⟩

/-- C(..): dict at size, instance at size + 1, then __init__ -/
theorem make_obj {R : Result → Shared → Prop} {C fI : Addr} {rest : List Value} {kw : List (Str × Value)}
    (X : K.In s.heap) (hm : makesIn K C = true) (hi : findIn K (.ref C) "__init__" = some (some (.ref fI))) (hf : isFn K (.ref fI) = true)
    (h : codeAny (model prog w) (A.under (.builtin "type.__call__" ⟨.ref C :: rest, kw⟩)) (.call (.ref fI) ⟨.ref (s.heap.objs.size + 1) :: rest, kw⟩) (InitBack (s.heap.objs.size + 1) R)
      { s with heap := (s.heap.push emptyDict).push (instObj C s.heap.objs.size) }) : codeAny (model prog w) A (.call (.ref C) ⟨rest, kw⟩) R s := by
  obtain ⟨hh, g, d, t, os⟩ := s
  exact make_core (makes_of X hm) (looks_findIn X hi) (fun self => bind_fn X self (beq_iff_eq.mp hf)) (.inl rfl) h

/-- x.name where the instance's dict holds the name and the class does not -/
theorem get_field {x C : Addr} {ox : Obj} {es : List DictEntry} {n : Nat} {name : Str} {expr : Bool} {v : Value} {Q : Value → Shared → Prop}
    (X : K.In s.heap) (I : PySem.W.InstAt s.heap x ox C (some (dictOf es n))) (hg : plainGet K C name = true) (hh : hasDictIn K C = true) (ha : findIn K (.ref C) name = some none)
    (hl : getL name es = some (some v)) (hv : handedIn v = true) (h : Q v { s with toks := s.toks + 1 }) : wpAny (model prog w) A (getAttr (.ref x) name expr) Q E s :=
  get_value X I (plainGet_of hg).1 (findObj_own hh ha rfl hl) hv h

/-- x.m(..): the method found in the class -/
theorem get_method {x C f : Addr} {ox : Obj} {es : List DictEntry} {n : Nat} {name : Str} {pl : Sem Bool} {Q : Value × List Value → Shared → Prop}
    (X : K.In s.heap) (I : PySem.W.InstAt s.heap x ox C (some (dictOf es n))) (hg : plainGet K C name = true) (hf : findIn K (.ref C) name = some (some (.ref f))) (ht : isFn K (.ref f) = true)
    (hl : getL name es = some none) (h : Q (.ref f, [.ref x]) s) : wpAny (model prog w) A (getMethod (.ref x) name pl) Q E s :=
  method_fn X I (plainGet_of hg).1 (plainGet_of hg).2 hf (beq_iff_eq.mp ht) (by show (lookIn name (dictOf es n)).map _ = _; rw [lookIn_dict, hl]; rfl) h

/-! the whole heap as the ledger: makes every rule that writes through a ledger a rule over any heap -/
def noObjs (h : Heap) : Heap := { h with objs := #[] }
theorem noObjs_get (h : Heap) (b : Addr) : (noObjs h).get? b = none := by
  cases e : (noObjs h).get? b with
  | none => rfl
  | some o => exact absurd (Heap.lt_size e) (Nat.not_lt_zero _)
def ledger (h : Heap) (L d : Addr) : List (Addr × Obj) := (List.range h.objs.size).filterMap fun a => if a = L ∨ a = d then none else (h.get? a).map fun o => (a, o)
theorem mem_ledger {h : Heap} {L d a : Addr} {o : Obj} : (a, o) ∈ ledger h L d ↔ a ≠ L ∧ a ≠ d ∧ h.get? a = some o := by
  unfold ledger
  rw [List.mem_filterMap]
  constructor
  · rintro ⟨b, _, e⟩
    split at e
    · cases e
    · rename_i hb
      obtain ⟨o', ho, e'⟩ := Option.map_eq_some_iff.mp e
      cases e'
      exact ⟨fun q => hb (.inl q), fun q => hb (.inr q), ho⟩
  · rintro ⟨n1, n2, ho⟩
    refine ⟨a, List.mem_range.mpr (Heap.lt_size ho), ?_⟩
    rw [if_neg (show ¬ (a = L ∨ a = d) from fun q => q.elim n1 n2), ho] <;> rfl
theorem news_ledger {h : Heap} {L d : Addr} {od : Obj} (hne : d ≠ L) (ho : h.get? d = some od) : News (noObjs h) L h ([] ++ (d, od) :: ledger h L d) := by
  rintro ⟨a, o⟩ hp
  rcases List.mem_cons.mp hp with e | hp
  · cases e
    exact ⟨ho, hne, noObjs_get _ _⟩
  · obtain ⟨n1, n2, e⟩ := mem_ledger.mp hp
    exact ⟨e, n1, noObjs_get _ _⟩
theorem fr_all {h : Heap} {L : Addr} {m : Str → Option Value} (n : h.Ns L m) : Fr (noObjs h) L h m :=
  ⟨n, fun b o e => (by rw [noObjs_get] at e; cases e), Nat.zero_le _⟩
/-- Upd of the head entry (for append_K, setItem_K ..) -/
theorem upd_ledger {h : Heap} {L d : Addr} {o o' : Obj} : Upd d o o' ((d, o) :: ledger h L d) ((d, o') :: ledger h L d) :=
  .head fun ⟨_, _⟩ hp => (mem_ledger.mp hp).2.1

/-- x.name = v over any heap: L is any namespace of the heap (the frame's, say): its map stays, its object is not told; all else but the dict stays -/
theorem set_field {x C dx L : Addr} {ox : Obj} {m : Str → Option Value} {es es' : List DictEntry} {n n' : Nat} {name : Str} {v : Value} {Q : Unit → Shared → Prop}
    (X : K.In s.heap) (I : PySem.W.InstAt s.heap x ox C (some (dictOf es n))) (hd : ox.dict = some dx) (hL : s.heap.Ns L m) (hne : dx ≠ L)
    (hs : findIn K (.ref C) "__setattr__" = some (some (.builtin "object.__setattr__"))) (hp : plainOver K C = true) (ht : takerIn K C name = some none) (hh : hasDictIn K C = true) (hl : (getL name es).isSome = true)
    (e : (putL name (PyData.keyHash w.params name) (.str name (s.toks + 1)) v es, putN name es n) = (es', n')) (hz : es'.length ≤ 1000)
    (h : ∀ h' : Heap, h'.Ns L m → h'.get? dx = some (dictOf es' n') → (∀ b o, b ≠ dx → b ≠ L → s.heap.get? b = some o → h'.get? b = some o) → Q () { s with heap := h', toks := s.toks + 2 }) :
    wpAny (model prog w) A (setAttr (.ref x) name v) Q E s := by
  obtain ⟨e1, e2⟩ := Prod.mk.inj e
  have hdx : s.heap.get? dx = some (dictOf es n) := by
    have := I.dict
    rw [hd] at this
    exact this
  refine set_plain X I hs (osa_dict (s := { s with toks := s.toks + 1 }) (h₀ := noObjs s.heap) (L := L) (m := m) (od := dictOf es n) (od' := dictOf es' n') (es := es') (n := n') (pre := []) (post := ledger s.heap L dx)
    (fr_all hL) (news_ledger hne hdx) X I hd hp ht hh hl (fun _ q => nomatch q) (fun ⟨_, _⟩ q => (mem_ledger.mp q).2.1) (by rw [putName_dict, e1, e2]) rfl hz fun h' F' N' => ?_)
  exact h h' F'.ns (N'.get (List.Mem.head _)) fun b o n1 n2 ho => N'.get (List.Mem.tail _ (mem_ledger.mpr ⟨n2, n1, ho⟩))
end
end Att

namespace L2
open PySem PySem.Spec PyProof.Rows

theorem vals_ints : ∀ {vs : List Value} {ns : List Int}, IntsAre vs ns → Vals (ns.map V.int) vs
  | _, _, .nil => .nil
  | _, _, .cons n t h => .cons ⟨t, rfl⟩ (vals_ints h)

/-- nothing is tracked but the script, known to the object (or it is an object of the module) -/
def Only (H : Hp) : Prop := ∀ b, H b = none ∨ ∃ o xs, H b = some (.frz o (.lst xs))

/-- THE HEAD: the law's promise, at the heap behind the top. F, the promise of the law's def, may use that base is part of the heap (so K.In base, base.Ns mainGlobals mg stand in Mod) -/
theorem law_call {P : Program} {w : World} {K : PySem.W.Frag} {mg mb : Str → Option Value} {CX : CXT} {k : Nat} {fa a : Addr} {fd : FuncData} {x : Str} {sp : Sp} {s₁ : Shared} {vs : List Value} {ns : List Int}
    (KX : K.In s₁.heap) (hns : s₁.heap.Ns mainGlobals mg) (hb : s₁.heap.Ns builtinsNs mb) (hbb : ∀ x : Str, x ≠ "__name__" → mb x = bootBuiltins x) (hlim : s₁.heap.NoLimit) (hg : s₁.gens = #[])
    (ha : s₁.heap.get? a = some { cls := .type "list", data := .seq vs.toArray }) (hi : IntsAre vs ns) (hl : ns.length ≤ sizeLine) (hr : Room k callerA)
    (F : ∀ base : Heap, K.In base → base.Ns mainGlobals mg → FnOk P w K mg base CX k fa fd [x] sp) (hbind : ∀ (s : Shared) (u : Value), BindsTo s fd ⟨[u], []⟩ [(x, u)])
    (hsp : ∀ H : Hp, Only H → SqL K H a (ns.map V.int) → sp [.ref a] H (fun v _ => v = .bl true) fun _ _ _ => False)
    (hCX : ∀ H e s', CX [] H s₁ (fun _ _ _ => False) e s' → False) :
    codeAny (model P w) callerA (.call (.ref fa) ⟨[.ref a], []⟩) (fun r s' => r = .ok (.ret (.bool true)) ∧ OldK s₁.heap s'.heap ∧ s'.os = s₁.os ∧ AllBare s'.gens) s₁ := by
  have rv := vals_ints hi
  have lenV := hi.length
  -- from an abstract heap in which nothing but the script may be tracked
  have core : ∀ H : Hp, Only H → SqL K H a (ns.map V.int) → HOk P w H s₁.heap → (∀ b, H b ≠ none → b = a) → (H a ≠ none → K.lookup a = none) →
      codeAny (model P w) callerA (.call (.ref fa) ⟨[.ref a], []⟩) (fun r s' => r = .ok (.ret (.bool true)) ∧ OldK s₁.heap s'.heap ∧ s'.os = s₁.os ∧ AllBare s'.gens) s₁ := by
    intro H hO hS hok hA hK
    have base_of : ∀ {b : Addr} {o : Obj}, s₁.heap.get? b = some o → H b = none → (hidT s₁.heap H).get? b = some o := fun e n => hidT_get e n
    have noA : ∀ {b : Addr} {o : Obj} {es : Array DictEntry} {ep : Nat}, s₁.heap.get? b = some o → o.data = .dict es ep → H b = none := fun {b o es ep} e d => by
      cases q : H b with
      | none => rfl
      | some u =>
        have e' : b = a := hA b (by rw [q]; simp)
        subst e'
        rw [ha] at e; cases e
        have d' : Data.seq vs.toArray _ = Data.dict es ep := d
        cases d'
    have nsK : ∀ {b : Addr} {m : Str → Option Value}, s₁.heap.Ns b m → (hidT s₁.heap H).Ns b m := fun {b m} ⟨o, es, ep, e, d, r⟩ => ⟨o, es, ep, base_of e (noA e d), d, r⟩
    have hKb : K.In (hidT s₁.heap H) := fun b o e => base_of (KX b o e) (by
      cases q : H b with
      | none => rfl
      | some u =>
        have e' : b = a := hA b (by rw [q]; simp)
        subst e'
        rw [hK (by rw [q]; simp)] at e; cases e)
    have hM : Mod K mg (hidT s₁.heap H) := ⟨hKb, nsK hns, ⟨mb, nsK hb, hbb⟩, let ⟨mc, h1, h2⟩ := hlim; ⟨mc, nsK h1, h2⟩⟩
    have e0 : Env0 P w K mg (hidT s₁.heap H) callerA [] s₁ H := ⟨rfl, hM, fun b o e => of_hidT e, Nat.le_of_eq (hidT_size _ _), trivial, fun b hb => absurd (show b ∈ ([] : List Addr) from hb) (by simp), hok, .of_eq hg⟩
    refine codeAny_mono ((F _ hKb (nsK hns)).run callerA [] s₁ H ⟨[.ref a], []⟩ [.ref a] [.ref a] _ _ hr e0 (hbind s₁ (.ref a)) (.cons rfl .nil) (hsp H hO hS)) fun r s' h => ?_
    cases r with
    | error e => exact (hCX H e s' h).elim
    | ok fl =>
      cases fl with
      | next => exact False.elim h
      | brk => exact False.elim h
      | cont => exact False.elim h
      | ret u =>
        obtain ⟨v, H', os, bare, un, hok', r', q⟩ := h
        have q' : v = .bl true := q
        subst q'
        obtain rfl : u = Value.bool true := r'
        refine ⟨rfl, OldK.of_keep fun b o e => ?_, os, bare⟩
        cases q : H b with
        | none => exact un.keep b o e q (by intro z; exact absurd (show b ∈ ([] : List Addr) from z) (by simp)) (by simp)
        | some u =>
          rcases hO b with z | ⟨ob, xs, z⟩
          · rw [q] at z; cases z
          · have z2 := un.frzs b ob _ z
            obtain ⟨e1, _⟩ := hok b _ z
            obtain ⟨e2, _⟩ := hok' b _ z2
            rw [e] at e1; cases e1
            exact e2
  cases hk : K.lookup a with
  | some o =>
    -- the script is one of the module's own objects
    have e := KX a o hk
    rw [ha] at e
    cases e
    refine core (fun _ => none) (fun _ => .inl rfl) (.inr ⟨_, vs.toArray, _, hk, rfl, rfl, rfl, by rw [List.size_toArray, lenV]; exact hl, by simpa using rv⟩) (fun b u z => by have z' : (none : Option HO) = some u := z; cases z') (fun b z => absurd rfl z) fun z => absurd rfl z
  | none =>
    refine core (fun b => if b = a then some (.frz { cls := .type "list", data := .seq vs.toArray } (.lst (ns.map V.int))) else none) (fun b => ?_) (.inl (.inr ⟨{ cls := .type "list", data := .seq vs.toArray }, if_pos rfl⟩)) (fun b u z => ?_) (fun b z => ?_) fun _ => hk
    · by_cases hb : b = a
      · exact .inr ⟨_, _, if_pos hb⟩
      · exact .inl (if_neg hb)
    · by_cases hb : b = a
      · have z' := (if_pos hb).symm.trans z
        cases z'
        subst hb
        exact ⟨ha, by rw [List.length_map]; exact hl, vs, _, rv, ha⟩
      · have z' := (if_neg hb).symm.trans z
        cases z'
    · by_cases hb : b = a
      · exact hb
      · exact absurd (if_neg hb) z
end L2

namespace L2
open PySem PySem.Spec PyProof.Rows

abbrev KOf {K : PySem.W.Frag} {h : Heap} (_ : K.In h) : PySem.W.Frag := K

/-- the goal that k_head leaves (case hc), from the law's promise. F gives the function object fd (K's own) once, then the promise over every base -/
theorem walk_of {l : PySem.W.OpenLaw} {n k : Nat} {q : Program} {loose : List Str} {XP : (Str → Option Value) → Heap → Prop} {YP : World → Heap → Prop} {d : DefRec} {K : Params → PySem.W.Frag} {CX : World → CXT} {sp : World → Sp} {x : Str}
    (hn : l.most = some n) (hn2 : n ≤ sizeLine) (hdf : d.params.defaults = []) (hr : Room k callerA)
    (hY : ∀ (w : World) (h : Heap), YP w h → (K w.params).In h)
    (F : ∀ (w : World) (mg : Str → Option Value) (fa : Addr) (h : Heap), (K w.params).In h → h.Ns mainGlobals mg → mg d.name = some (.ref fa) →
      ∃ fd : FuncData, (∀ (s : Shared) (u : Value), BindsTo s fd ⟨[u], []⟩ [(x, u)]) ∧
        ∀ base : Heap, (K w.params).In base → base.Ns mainGlobals mg → FnOk l.prog w (K w.params) mg base (CX w) k fa fd [x] (sp w))
    (hsp : ∀ (w : World) (H : Hp) (a : Addr) (ns : List Int), ns.length ≤ n → Only H → SqL (K w.params) H a (ns.map V.int) → sp w [.ref a] H (fun v _ => v = .bl true) fun _ _ _ => False)
    (hCX : ∀ (w : World) (H : Hp) (s : Shared) (e : Value) (s' : Shared), CX w [] H s (fun _ _ _ => False) e s' → False) :
    PySem.W.WalkO q loose XP YP l.row.toRowW d [] (fun f vs => PySem.call f vs) := by
  refine Att.attach_call hn hdf fun w s₀ s₁ mg mb fa o pm cd doc a vs ns G Y ho hd hcd hmg hobj hints hlen hg => ?_
  have KX := hY w _ Y
  obtain ⟨fd, hb, hF⟩ := F w mg fa _ KX G.T.g hmg
  exact law_call KX G.T.g G.T.b G.T.builtins G.T.nolimit hg hobj hints (Nat.le_trans hlen hn2) hr hF hb (fun H hO hS => hsp w H a ns hlen hO hS) fun H e s' => hCX w H s₁ e s'
/-- the same where the promise hangs on the written part alone: (sp := My.sp_law), no hole under a binder -/
theorem walk_ofK {l : PySem.W.OpenLaw} {n k : Nat} {q : Program} {loose : List Str} {XP : (Str → Option Value) → Heap → Prop} {YP : World → Heap → Prop} {d : DefRec} {K : Params → PySem.W.Frag} {CX : CXT} {sp : PySem.W.Frag → Sp} {x : Str}
    (hn : l.most = some n) (hn2 : n ≤ sizeLine) (hdf : d.params.defaults = []) (hr : Room k callerA)
    (hY : ∀ (w : World) (h : Heap), YP w h → (K w.params).In h)
    (F : ∀ (w : World) (mg : Str → Option Value) (fa : Addr) (h : Heap), (K w.params).In h → h.Ns mainGlobals mg → mg d.name = some (.ref fa) →
      ∃ fd : FuncData, (∀ (s : Shared) (u : Value), BindsTo s fd ⟨[u], []⟩ [(x, u)]) ∧
        ∀ base : Heap, (K w.params).In base → base.Ns mainGlobals mg → FnOk l.prog w (K w.params) mg base CX k fa fd [x] (sp (K w.params)))
    (hsp : ∀ (K : PySem.W.Frag) (H : Hp) (a : Addr) (ns : List Int), ns.length ≤ n → Only H → SqL K H a (ns.map V.int) → sp K [.ref a] H (fun v _ => v = .bl true) fun _ _ _ => False)
    (hCX : ∀ (H : Hp) (s : Shared) (e : Value) (s' : Shared), CX [] H s (fun _ _ _ => False) e s' → False) :
    PySem.W.WalkO q loose XP YP l.row.toRowW d [] (fun f vs => PySem.call f vs) :=
  walk_of (K := K) (CX := fun _ => CX) (sp := fun w => sp (K w.params)) hn hn2 hdf hr hY F (fun w H a ns h1 h2 h3 => hsp (K w.params) H a ns h1 h2 h3) fun _ H s e s' => hCX H s e s'
end L2

/- THE LAST THEOREM (shape; LID, My.* are yours):
   My.Adr: a structure of the addresses that your layer names (classes, functions); My.Txt K t: a structure (Prop) of the equations over K;
   My.txt_mk : {K} {implicit addresses ..} (e1 : nsIn K mainGlobals "law" = some (some (.ref f))) (e2 : K.lookup f = some ⟨oc, od, .func (fnOf "law" "law" params body scope dV kV doc pm an cdv ct), sl⟩) (e3 : codeIn K cdv "law" = true) .. : ∃ t, My.Txt K t

set_option maxRecDepth 100000 in
set_option maxHeartbeats 0 in
theorem PySem.Challenge.cw_LID_holds : PySem.Challenge.rw_LID.Holds := by
  w_on; o_law; k_head; (case hw => w_witness2)
  k_fill
  refine L2.walk_of (l := PySem.Challenge.rw_LID) (n := 63) (k := 40) (x := "script") (CX := fun w => ..) (sp := fun _ => My.sp_law) rfl (by decide) rfl ⟨rfl, by decide, by decide⟩ (fun w h Y => PySem.W.kIn_of Y) ?F ?S ?C
  case F =>
    intro w mg fa h KX G hmg
    have T : ∃ t, My.Txt (L2.KOf KX) t := by
      dsimp only [L2.KOf]                          -- K must stand as «<heap const> w.params» for k_is
      refine' My.txt_mk ?e1 ?e2 ?e3 ..
      (case e1 => PySem.W.k_is)                    -- in the order: a name -> its address -> its object -> its parts
      (case e2 => PySem.W.k_is)
      ..
    obtain ⟨t, T⟩ := T
    have e0 := hmg.symm.trans (PySem.W.mg_of KX G T.law)
    cases e0                                       -- fa is the law's own address
    exact ⟨_, fun s u => .of_eq rfl, fun base kb nb => My.law_fn T kb nb⟩     -- if «.of_eq rfl» comes too early: refine' ⟨_, ?b, fun base kb nb => My.law_fn T kb nb⟩; exact fun s u => .of_eq rfl
  case S => exact fun w H a ns hl hO hS => ..
  case C => exact ..
(the tactic k_is has no namespace: write k_is) -/

/-! SHORT WORDS over the layer: a def of the text, its body, what a loop and a test want. -/
namespace L2
open PySem PySem.Spec PyProof.Rows

/-! ### the text by places -/
/-- the j-th statement of a class's body -/
def inClass (s : Stmt) (j : Nat) : Stmt := match s with
  | .ClassDef _ _ _ body _ _ _ _ _ _ _ => body.getD j (.Pass ⟨0, 0, 0, 0⟩)
  | _ => .Pass ⟨0, 0, 0, 0⟩
def defArgs (s : Stmt) : Arguments := match s with
  | .FunctionDef _ a _ _ _ _ _ _ _ _ => a
  | _ => { posonlyargs := [], args := [], vararg := none, kwonlyargs := [], kw_defaults := [], kwarg := none, defaults := [] }
def defBody (s : Stmt) : List Stmt := match s with
  | .FunctionDef _ _ b _ _ _ _ _ _ _ => b
  | _ => []
def defScope (s : Stmt) : Scope := match s with
  | .FunctionDef _ _ _ _ _ _ sc _ _ _ => sc
  | _ => { kind := .function, names := [], isGenerator := false, isCoroutine := false }

/-! ### no exception leaves a def -/
abbrev CX0 : CXT := fun _ _ _ _ _ _ => False
abbrev E0 : XK := fun _ _ _ => False
theorem pass0 {X : Cx} : Passes CX0 X E0 := fun _ _ _ _ _ _ _ h => h.elim

/-! ### a def (or method) of the text as it stands behind the top -/
structure Fun (K : PySem.W.Frag) (x qual : Str) (st : Stmt) (f : Addr) (fd : FuncData) : Prop where
  ex : ∃ (oc : Value) (od : Option Addr) (kV doc pm : Value) (an : Option Addr) (cdv ct : Value) (osl : Array (Option Value)),
    fd = PySem.W.fnOf x qual (defArgs st) (defBody st) (defScope st) .none kV doc pm an cdv ct ∧ K.lookup f = some ⟨oc, od, .func fd, osl⟩ ∧ PySem.W.codeIn K cdv qual = true
  kp : PySem.W.keepIn K (.ref f) = true
section
variable {P : Program} {w : World} {K : PySem.W.Frag} {mg : Str → Option Value} {base : Heap}
/-- THE RULE for a def: its body as a term of rules, and the reading of that term -/
theorem Fun.ok {x qual : Str} {st : Stmt} {f : Addr} {fd : FuncData} {N ps : List Str} {k : Nat} {sp : Sp} (F : Fun K x qual st f fd) (S : FnScope N ps (defScope st)) (len : ∀ vs H Q E, sp vs H Q E → vs.length = ps.length)
    (hbody : ∀ (cdv : Value) (A : Around) (outer : List Env) (s : Shared) (H : Hp) (vs : List V) (Q : VK) (E : XK), Room k (A.deeper (envOfC qual (defScope st) s.heap.objs.size f cdv)) → sp vs H Q E →
      ∃ t, PSs (cxOf CX0 P w K mg base N qual (defScope st) f cdv A outer s H E).nox (defBody st) t ∧ t { nx := fun _ H' => Q .non H', rt := Q } (start N vs) H) : FnOk P w K mg base CX0 (k + 1) f fd ps sp := by
  obtain ⟨oc, od, kV, doc, pm, an, cdv, ct, osl, rfl, lk, hcd⟩ := F.ex
  refine fn_of lk hcd S len fun A outer s H vs Q E hr hsp => ?_
  obtain ⟨t, h, q⟩ := hbody cdv A outer s H vs Q E hr hsp
  exact ⟨t, h.nox, q⟩
/-- how its arguments bind (no defaults): h is «fun _ _ _ _ _ _ us hl => match us, hl with | [_, _], _ => rfl», one _ a parameter -/
theorem Fun.binds {x qual : Str} {st : Stmt} {f : Addr} {fd : FuncData} {ps : List Str} (F : Fun K x qual st f fd)
    (h : ∀ (kV doc pm : Value) (an : Option Addr) (cdv ct : Value) (us : List Value), us.length = ps.length → bindArgs (PySem.W.fnOf x qual (defArgs st) (defBody st) (defScope st) .none kV doc pm an cdv ct) ⟨us, []⟩ = pure (ps.zip us)) : Binds K fd ps [] := by
  obtain ⟨oc, od, kV, doc, pm, an, cdv, ct, osl, rfl, lk, hcd⟩ := F.ex
  exact .all (h kV doc pm an cdv ct)
theorem fun_mk {x qual : Str} {st : Stmt} {f : Addr} {oc : Value} {od an : Option Addr} {osl : Array (Option Value)} {kV doc pm cdv ct : Value} (l : K.lookup f = some ⟨oc, od, .func (PySem.W.fnOf x qual (defArgs st) (defBody st) (defScope st) .none kV doc pm an cdv ct), osl⟩)
    (c : PySem.W.codeIn K cdv qual = true) (k : PySem.W.keepIn K (.ref f) = true) : Fun K x qual st f (PySem.W.fnOf x qual (defArgs st) (defBody st) (defScope st) .none kV doc pm an cdv ct) := ⟨⟨oc, od, kV, doc, pm, an, cdv, ct, osl, rfl, l, c⟩, k⟩
end
theorem hu_of {A : Around} {k : Nat} (hr : Room k A) : A.units + 1 < cLine := Nat.lt_of_le_of_lt (Nat.add_le_add_left (by decide : 1 ≤ 64) _) hr.units
theorem small1000 {n : Nat} (h : n ≤ 1000) : n < sizeLine := Nat.lt_of_le_of_lt h (by decide)

/-! ### expressions in short: the name that stands in the i-th slot -/
section
variable {X : Cx}
theorem pv (i : Nat) {x : Str} {pos : Pos} (hN : X.N[i]? = some x := by rfl) (hv : Vis X.env.scope x := by first | exact Or.inl rfl | exact Or.inr (Or.inl rfl) | exact Or.inr (Or.inr rfl)) (hd : (x == ("__debug__" : Str)) = false := by decide)
    (hcd : (x == ("__classdict__" : Str)) = false := by decide) : PE X (.Name x pos) (tVar i) := pe_var hN hv hd hcd
end

/-! ### tests -/
theorem iteF {A B : Prop} (h : B) : if false = true then A else B := by
  rw [if_neg Bool.false_ne_true]
  exact h
theorem iteT {A B : Prop} (h : A) : if true = true then A else B := by
  rw [if_pos rfl]
  exact h
theorem ite2 {c A B : Prop} [Decidable c] (h1 : c → A) (h2 : ¬ c → B) : if c then A else B := by
  by_cases h : c
  · rw [if_pos h]
    exact h1 h
  · rw [if_neg h]
    exact h2 h
theorem iteNS {c A B : Prop} [Decidable c] (hc : c) (h : B) : if (!decide c) = true then A else B := by
  rw [decide_eq_true hc]
  exact iteF h

/-! ### heaps -/
/-- all that was tracked is as it was -/
def Same (H H' : Hp) : Prop := ∀ b o, H b = some o → H' b = some o
theorem Same.refl (H : Hp) : Same H H := fun _ _ h => h
theorem Same.trans {H H1 H2 : Hp} (a : Same H H1) (b : Same H1 H2) : Same H H2 := fun c o h => b c o (a c o h)
theorem Same.free {H H' : Hp} (e : Same H H') {l : Addr} (h : H' l = Option.none) : H l = Option.none := by
  cases q : H l with
  | none => rfl
  | some o =>
    rw [e l o q] at h
    cases h
theorem Same.seq {K : PySem.W.Frag} {H H' : Hp} {a : Addr} {xs : List V} (e : Same H H') (h : SqL K H a xs) : SqL K H' a xs := by
  rcases h with (h | ⟨o, h⟩) | h
  · exact .inl (.inl (e _ _ h))
  · exact .inl (.inr ⟨o, e _ _ h⟩)
  · exact .inr h

end L2
set_option linter.all false
namespace Hull
abbrev P := Int × Int
def turn (a b c : P) : Int := (b.1 - a.1) * (c.2 - a.2) - (b.2 - a.2) * (c.1 - a.1)
def lt (a b : P) : Prop := a.1 < b.1 ∨ (a.1 = b.1 ∧ a.2 < b.2)
instance (a b : P) : Decidable (lt a b) := by unfold lt; infer_instance
def cr (u v : P) : Int := u.1 * v.2 - u.2 * v.1
def pos (u : P) : Prop := 0 < u.1 ∨ (u.1 = 0 ∧ 0 < u.2)
def sb (a b : P) : P := (a.1 - b.1, a.2 - b.2)
theorem pos_sb {a b : P} : pos (sb b a) ↔ lt a b := by unfold pos sb lt; dsimp; omega
theorem lt_trans {a b c : P} (h : lt a b) (g : lt b c) : lt a c := by unfold lt at *; omega
theorem lt_irrefl {a : P} : ¬ lt a a := by unfold lt; omega
theorem lt_asymm {a b : P} (h : lt a b) : ¬ lt b a := by unfold lt at *; omega
theorem lt_ne {a b : P} (h : lt a b) : a ≠ b := fun e => lt_irrefl (e ▸ h)
theorem lt_tri (a b : P) : lt a b ∨ a = b ∨ lt b a := by
  obtain ⟨x, y⟩ := a; obtain ⟨z, w⟩ := b
  unfold lt; simp only [Prod.mk.injEq]; omega
theorem pos_nn {u : P} (h : pos u) : 0 ≤ u.1 := by unfold pos at h; omega

/-- signs of a combination -/
theorem mid_nn {u v w : P} (hu : pos u) (hv : pos v) (hw : pos w) (h1 : 0 ≤ cr u v) (h2 : 0 ≤ cr v w) : 0 ≤ cr u w := by
  have e1 : cr u w * v.1 = cr u v * w.1 + cr v w * u.1 := by unfold cr; grind
  have e2 : cr u w * v.2 = cr u v * w.2 + cr v w * u.2 := by unfold cr; grind
  have hu1 := pos_nn hu
  have hw1 := pos_nn hw
  have a1 := Int.mul_nonneg h1 hw1
  have a2 := Int.mul_nonneg h2 hu1
  apply Classical.byContradiction
  intro hc
  have hc' : cr u w < 0 := by omega
  rcases hv with hv | ⟨hv, hv2⟩
  · have := Int.mul_neg_of_neg_of_pos hc' hv
    omega
  · have b1 : cr v w = - (v.2 * w.1) := by unfold cr; rw [hv]; grind
    have b2 := Int.mul_nonneg (Int.le_of_lt hv2) hw1
    have b3 : v.2 * w.1 = 0 := by omega
    have b4 : w.1 = 0 := by
      rcases Int.mul_eq_zero.mp b3 with h | h
      · omega
      · exact h
    have b5 : 0 < w.2 := by unfold pos at hw; omega
    have b6 : cr u w = u.1 * w.2 := by unfold cr; rw [b4]; grind
    have := Int.mul_nonneg hu1 (Int.le_of_lt b5)
    omega
theorem mid_pos {u v w : P} (hu : pos u) (hv : pos v) (hw : pos w) (h1 : 0 ≤ cr u v) (h2 : 0 ≤ cr v w) (h : 0 < cr u v ∨ 0 < cr v w) : 0 < cr u w := by
  have n := mid_nn hu hv hw h1 h2
  apply Classical.byContradiction
  intro hc
  have z : cr u w = 0 := by omega
  have e1 : cr u v * w.1 + cr v w * u.1 = 0 := by have : cr u w * v.1 = cr u v * w.1 + cr v w * u.1 := by unfold cr; grind
                                                  rw [z] at this; omega
  have e2 : cr u v * w.2 + cr v w * u.2 = 0 := by have : cr u w * v.2 = cr u v * w.2 + cr v w * u.2 := by unfold cr; grind
                                                  rw [z] at this; omega
  have hu1 := pos_nn hu
  have hw1 := pos_nn hw
  have a1 := Int.mul_nonneg h1 hw1
  have a2 := Int.mul_nonneg h2 hu1
  have c1 : cr u v * w.1 = 0 := by omega
  have c2 : cr v w * u.1 = 0 := by omega
  have d1 := Int.mul_eq_zero.mp c1
  have d2 := Int.mul_eq_zero.mp c2
  -- one of the weights is positive: its vector has first number 0, second above 0
  have f1 : 0 ≤ cr u v * w.2 := by
    rcases d1 with d | d
    · rw [d]; simp
    · exact Int.mul_nonneg h1 (by unfold pos at hw; omega)
  have f2 : 0 ≤ cr v w * u.2 := by
    rcases d2 with d | d
    · rw [d]; simp
    · exact Int.mul_nonneg h2 (by unfold pos at hu; omega)
  have g1 := Int.mul_eq_zero.mp (show cr u v * w.2 = 0 by omega)
  have g2 := Int.mul_eq_zero.mp (show cr v w * u.2 = 0 by omega)
  unfold pos at hu hw
  omega

theorem turn_cr (a b c : P) : turn a b c = cr (sb b a) (sb c b) := by unfold turn cr sb; dsimp; grind
theorem turn_cr2 (a b c : P) : turn a b c = cr (sb b a) (sb c a) := by unfold turn cr sb; dsimp
theorem turn_rot (a b c : P) : turn a b c = turn b c a := by unfold turn; grind
theorem turn_swap (a b c : P) : turn a b c = - turn b a c := by unfold turn; grind
theorem turn_aab (a b : P) : turn a a b = 0 := by unfold turn; grind
theorem turn_aba (a b : P) : turn a b a = 0 := by unfold turn; grind
theorem turn_abb (a b : P) : turn a b b = 0 := by unfold turn; grind

/-! ### the chain: a stack, its top first -/
def pops (t : P) : List P → List P
  | b :: a :: r => if turn a b t ≤ 0 then pops t (a :: r) else b :: a :: r
  | l => l
def push (st : List P) (t : P) : List P := t :: pops t st
def chainR (row : List P) : List P := row.foldl push []

def Dec (st : List P) : Prop := st.Pairwise fun b a => lt a b
def EdgesOk (pre : List P) : List P → Prop
  | b :: a :: r => (∀ x ∈ pre, 0 ≤ turn a b x) ∧ EdgesOk pre (a :: r)
  | _ => True
def Conv : List P → Prop
  | c :: b :: a :: r => 0 < turn a b c ∧ Conv (b :: a :: r)
  | _ => True

theorem Dec.tail {a : P} {r : List P} (h : Dec (a :: r)) : Dec r := (List.pairwise_cons.mp h).2
theorem Conv.tail {a : P} {r : List P} (h : Conv (a :: r)) : Conv r := by
  match r, h with
  | [], _ => trivial
  | [_], _ => trivial
  | b :: c :: r, h => exact h.2
theorem EdgesOk.tail {pre : List P} {a : P} {r : List P} (h : EdgesOk pre (a :: r)) : EdgesOk pre r := by
  match r, h with
  | [], _ => trivial
  | b :: r, h => exact h.2
theorem EdgesOk.mono {pre pre' : List P} (s : ∀ x ∈ pre', x ∈ pre) : ∀ {st : List P}, EdgesOk pre st → EdgesOk pre' st
  | [], _ => trivial
  | [_], _ => trivial
  | b :: a :: r, h => ⟨fun x hx => h.1 x (s x hx), EdgesOk.mono s (st := a :: r) h.2⟩

/-- what is left of the stack: it is an end of it, not empty -/
theorem pops_suffix (t : P) : ∀ st : List P, ∃ l, st = l ++ pops t st
  | [] => ⟨[], rfl⟩
  | [b] => ⟨[], rfl⟩
  | b :: a :: r => by
    unfold pops
    split
    · obtain ⟨l, e⟩ := pops_suffix t (a :: r)
      exact ⟨b :: l, by rw [List.cons_append, ← e]⟩
    · exact ⟨[], rfl⟩
theorem pops_ne (t : P) : ∀ st : List P, st ≠ [] → pops t st ≠ []
  | [], h => absurd rfl h
  | [b], _ => by simp [pops]
  | b :: a :: r, _ => by
    unfold pops
    split
    · exact pops_ne t (a :: r) (by simp)
    · simp
/-- behind the pops the last edge turns left to t -/
theorem pops_turn (t : P) : ∀ st : List P, ∀ b a r, pops t st = b :: a :: r → 0 < turn a b t
  | [], b, a, r, h => by simp [pops] at h
  | [_], b, a, r, h => by simp [pops] at h
  | b' :: a' :: r', b, a, r, h => by
    unfold pops at h
    split at h
    · exact pops_turn t (a' :: r') b a r h
    · rename_i hc
      injection h with h1 h2
      injection h2 with h3 h4
      subst h1; subst h3; omega
/-- what was popped last -/
theorem pops_last (t : P) : ∀ st : List P, ∀ a r, pops t st = a :: r → (st = a :: r) ∨ ∃ l b, st = l ++ b :: a :: r ∧ turn a b t ≤ 0
  | [], a, r, h => by simp [pops] at h
  | [b], a, r, h => by simp [pops] at h; exact .inl (by rw [h.1, h.2])
  | b' :: a' :: r', a, r, h => by
    unfold pops at h
    split at h
    · rename_i hc
      rcases pops_last t (a' :: r') a r h with e | ⟨l, b, e, q⟩
      · injection e with e1 e2
        subst e1; subst e2
        exact .inr ⟨[], b', rfl, hc⟩
      · exact .inr ⟨b' :: l, b, by rw [e]; rfl, q⟩
    · exact .inl h

theorem EdgesOk.suffix {pre : List P} : ∀ {l st : List P}, EdgesOk pre (l ++ st) → EdgesOk pre st
  | [], _, h => h
  | _ :: l, _, h => EdgesOk.suffix (l := l) (EdgesOk.tail h)
theorem Conv.suffix : ∀ {l st : List P}, Conv (l ++ st) → Conv st
  | [], _, h => h
  | _ :: l, _, h => Conv.suffix (l := l) (Conv.tail h)
theorem Dec.suffix : ∀ {l st : List P}, Dec (l ++ st) → Dec st
  | [], _, h => h
  | _ :: l, _, h => Dec.suffix (l := l) (Dec.tail h)

structure Ch (st pre : List P) : Prop where
  dec : Dec st
  conv : Conv st
  edges : EdgesOk pre st
  sub : ∀ x ∈ st, x ∈ pre
  top : ∀ x ∈ pre, ∀ b r, st = b :: r → x = b ∨ lt x b
  bot : ∀ x ∈ pre, ∀ l a, st = l ++ [a] → x = a ∨ lt a x
  ne : pre ≠ [] → st ≠ []

theorem Ch.nil : Ch [] [] := ⟨List.Pairwise.nil, trivial, trivial, fun _ h => h, (fun _ h => nomatch h), (fun _ h => nomatch h), fun h => absurd rfl h⟩

/-- all edges of a convex stack turn left to what lies beyond its top -/
theorem all_left {t : P} : ∀ {st : List P}, Dec st → Conv st → (∀ b r, st = b :: r → lt b t) → (∀ b a r, st = b :: a :: r → 0 < turn a b t) → EdgesOk [t] st
  | [], _, _, _, _ => trivial
  | [_], _, _, _, _ => trivial
  | b :: a :: r, hd, hc, ht, hl => by
    have h0 := hl b a r rfl
    refine ⟨fun x hx => ?_, ?_⟩
    · rw [List.mem_singleton.mp hx]; omega
    · have hab : lt a b := (List.pairwise_cons.mp hd).1 a (by simp)
      have hbt := ht b _ rfl
      refine all_left (st := a :: r) hd.tail hc.tail (fun b' r' e => ?_) (fun b' a' r' e => ?_)
      · injection e with e1 _; subst e1; exact lt_trans hab hbt
      · injection e with e1 e2; subst e1; subst e2
        have ha'a : lt a' a := (List.pairwise_cons.mp hd.tail).1 a' (by simp)
        have h1 : 0 < turn a' a b := hc.1
        rw [turn_cr] at h1 h0
        rw [turn_cr2]
        have k := mid_pos (u := sb a a') (v := sb b a) (w := sb t b) (pos_sb.mpr ha'a) (pos_sb.mpr hab) (pos_sb.mpr hbt) (by omega) (by omega) (.inl h1)
        -- cr (a - a') (t - a') = cr u v + cr u w
        have e : cr (sb a a') (sb t a') = cr (sb a a') (sb b a) + cr (sb a a') (sb t b) := by unfold cr sb; dsimp; grind
        omega

theorem Ch.push {st pre : List P} {t : P} (h : Ch st pre) (ht : ∀ x ∈ pre, lt x t) : Ch (push st t) (pre ++ [t]) := by
  obtain ⟨l, el⟩ := pops_suffix t st
  have hd : Dec (pops t st) := Dec.suffix (l := l) (el ▸ h.dec)
  have hc : Conv (pops t st) := Conv.suffix (l := l) (el ▸ h.conv)
  have he : EdgesOk pre (pops t st) := EdgesOk.suffix (l := l) (el ▸ h.edges)
  have hs : ∀ x ∈ pops t st, x ∈ pre := fun x hx => h.sub x (by rw [el]; exact List.mem_append_right _ hx)
  have hl := pops_turn t st
  have htop : ∀ b r, pops t st = b :: r → lt b t := fun b r e => ht b (hs b (by rw [e]; simp))
  have hall : EdgesOk [t] (pops t st) := all_left hd hc htop hl
  have hboth : ∀ s : List P, EdgesOk pre s → EdgesOk [t] s → EdgesOk (pre ++ [t]) s := by
    intro s
    induction s with
    | nil => intro _ _; trivial
    | cons b s ih =>
      match s, ih with
      | [], _ => intro _ _; trivial
      | a :: r, ih =>
        intro h1 h2
        refine ⟨fun x hx => ?_, ih h1.2 h2.2⟩
        rcases List.mem_append.mp hx with hx | hx
        · exact h1.1 x hx
        · exact h2.1 x hx
  refine ⟨?_, ?_, ?_, ?_, ?_, ?_, ?_⟩
  · exact List.pairwise_cons.mpr ⟨fun a ha => ht a (hs a ha), hd⟩
  · show Conv (t :: pops t st)
    cases e : pops t st with
    | nil => trivial
    | cons b r =>
      cases r with
      | nil => trivial
      | cons a r => exact ⟨hl b a r e, by rw [← e]; exact hc⟩
  · show EdgesOk (pre ++ [t]) (t :: pops t st)
    cases e : pops t st with
    | nil => trivial
    | cons c r =>
      refine ⟨fun x hx => ?_, by rw [← e]; exact hboth _ he hall⟩
      have hct : lt c t := htop c r e
      rcases List.mem_append.mp hx with hx | hx
      · rcases lt_tri x c with hxc | hxc | hxc
        · -- x before c: there is an edge below c
          cases r with
          | nil =>
            -- c is the bottom
            have : st = l ++ [c] := by rw [el, e]
            rcases h.bot x hx l c this with q | q
            · rw [q, turn_aba]; exact Int.le_refl 0
            · exact absurd q (lt_asymm hxc)
          | cons d r =>
            have h1 : 0 < turn d c t := hl c d r e
            have h2 : 0 ≤ turn d c x := by have := he; rw [e] at this; exact this.1 x hx
            have hdc : lt d c := (List.pairwise_cons.mp (e ▸ hd)).1 d (by simp)
            rw [turn_cr] at h1
            have k := mid_nn (u := sb c x) (v := sb c d) (w := sb t c) (pos_sb.mpr hxc) (pos_sb.mpr hdc) (pos_sb.mpr hct)
              (by have : cr (sb c x) (sb c d) = turn d c x := by unfold cr sb turn; dsimp; grind
                  omega) (by omega)
            have : turn c t x = cr (sb c x) (sb t c) := by unfold cr sb turn; dsimp; grind
            omega
        · rw [hxc, turn_aba]; exact Int.le_refl 0
        · -- x behind c: c was not the top
          rcases pops_last t st c r e with q | ⟨l', b, q, hq⟩
          · rcases h.top x hx c r q with z | z
            · exact absurd (z ▸ hxc) lt_irrefl
            · exact absurd z (lt_asymm hxc)
          · have hb : EdgesOk pre (b :: c :: r) := EdgesOk.suffix (l := l') (q ▸ h.edges)
            have hdb : Dec (b :: c :: r) := Dec.suffix (l := l') (q ▸ h.dec)
            have hcb : lt c b := (List.pairwise_cons.mp hdb).1 c (by simp)
            have h2 := hb.1 x hx
            have k := mid_nn (u := sb t c) (v := sb b c) (w := sb x c) (pos_sb.mpr hct) (pos_sb.mpr hcb) (pos_sb.mpr hxc)
              (by have : cr (sb t c) (sb b c) = - turn c b t := by unfold cr sb turn; dsimp; grind
                  omega)
              (by have : cr (sb b c) (sb x c) = turn c b x := by unfold cr sb turn; dsimp
                  omega)
            have : turn c t x = cr (sb t c) (sb x c) := by unfold cr sb turn; dsimp
            omega
      · rw [List.mem_singleton.mp hx, turn_abb]; exact Int.le_refl 0
  · intro x hx
    rcases List.mem_cons.mp hx with hx | hx
    · rw [hx]; simp
    · exact List.mem_append_left _ (hs x hx)
  · intro x hx b r e
    have : t = b := by injection e
    subst this
    rcases List.mem_append.mp hx with hx | hx
    · exact .inr (ht x hx)
    · exact .inl (List.mem_singleton.mp hx)
  · intro x hx l' a e
    by_cases hp : pre = []
    · subst hp
      have hst : st = [] := by
        cases st with
        | nil => rfl
        | cons c r => exact absurd (h.sub c (by simp)) (by simp)
      subst hst
      have : l' = [] ∧ t = a := by
        have e' : [t] = l' ++ [a] := e
        cases l' with
        | nil => simp at e'; exact ⟨rfl, e'⟩
        | cons z l' => simp at e'
      simp at hx
      rw [hx]; exact .inl this.2
    · have hne := pops_ne t st (h.ne hp)
      -- the last of the rest is the last of st
      have e2 : pops t st = pops t st := rfl
      cases l' with
      | nil =>
        have e' : t :: pops t st = [a] := e
        injection e' with _ e''
        exact absurd e'' hne
      | cons z l' =>
        have e' : t :: pops t st = z :: (l' ++ [a]) := e
        injection e' with _ e''
        have hst : st = (l ++ l') ++ [a] := by
          calc st = l ++ pops t st := el
            _ = (l ++ l') ++ [a] := by rw [e'', List.append_assoc]
        rcases List.mem_append.mp hx with hx | hx
        · exact h.bot x hx _ a hst
        · rw [List.mem_singleton.mp hx]
          exact .inr (ht a (h.sub a (by rw [hst]; simp)))
  · intro _; exact List.cons_ne_nil _ _

theorem Ch.fold : ∀ (row pre st : List P), Ch st pre → (pre ++ row).Pairwise lt → Ch (row.foldl Hull.push st) (pre ++ row)
  | [], pre, st, h, _ => by simpa using h
  | t :: row, pre, st, h, hp => by
    have ht : ∀ x ∈ pre, lt x t := fun x hx => (List.pairwise_append.mp hp).2.2 x hx t (by simp)
    have := Ch.fold row (pre ++ [t]) (Hull.push st t) (h.push ht) (by simpa using hp)
    simpa using this
theorem chain_ok {row : List P} (h : row.Pairwise lt) : Ch (chainR row) row := by
  have := Ch.fold row [] [] Ch.nil (by simpa using h)
  simpa [chainR] using this

/-! ### held -/
def Held (row : List P) (s : P) : Prop :=
  (∃ p ∈ row, ∃ q ∈ row, turn p q s = 0 ∧ lt p s ∧ lt s q) ∨ (∃ p ∈ row, ∃ q ∈ row, ∃ r ∈ row, 0 < turn p q s ∧ 0 < turn q r s ∧ 0 < turn r p s)

theorem zero_par {w u v : P} (hu : pos u) (hv : pos v) (huv : cr u v = 0) (h1 : cr w u ≤ 0) (h2 : 0 ≤ cr w v) : cr w u = 0 ∧ cr w v = 0 := by
  have e1 : cr w v * u.1 = cr w u * v.1 + cr u v * w.1 := by unfold cr; grind
  have e2 : cr w v * u.2 = cr w u * v.2 + cr u v * w.2 := by unfold cr; grind
  rw [huv] at e1 e2
  have hu1 := pos_nn hu
  have hv1 := pos_nn hv
  have a1 := Int.mul_nonneg h2 hu1
  have a2 := Int.mul_nonneg (show 0 ≤ - cr w u by omega) hv1
  rw [Int.neg_mul] at a2
  have b1 : cr w v * u.1 = 0 := by omega
  have b2 : cr w u * v.1 = 0 := by omega
  have c1 := Int.mul_eq_zero.mp b1
  have c2 := Int.mul_eq_zero.mp b2
  unfold pos at hu hv
  have f1 : 0 ≤ cr w v * u.2 := by
    rcases c1 with c | c
    · rw [c]; simp
    · exact Int.mul_nonneg h2 (by omega)
  have f2 : 0 ≤ (- cr w u) * v.2 := by
    rcases c2 with c | c
    · rw [c]; simp
    · exact Int.mul_nonneg (by omega) (by omega)
  rw [Int.neg_mul] at f2
  have g1 := Int.mul_eq_zero.mp (show cr w v * u.2 = 0 by omega)
  have g2 := Int.mul_eq_zero.mp (show cr w u * v.2 = 0 by omega)
  constructor <;> omega

theorem par_zero {w w' u : P} (hu : pos u ∨ pos (sb (0, 0) u)) (h1 : cr w u = 0) (h2 : cr w' u = 0) : cr w w' = 0 := by
  have e1 : cr w w' * u.1 = cr w u * w'.1 - cr w' u * w.1 := by unfold cr; grind
  have e2 : cr w w' * u.2 = cr w u * w'.2 - cr w' u * w.2 := by unfold cr; grind
  rw [h1, h2] at e1 e2
  have c1 := Int.mul_eq_zero.mp (show cr w w' * u.1 = 0 by omega)
  have c2 := Int.mul_eq_zero.mp (show cr w w' * u.2 = 0 by omega)
  unfold pos sb at hu
  dsimp at hu
  omega

/-- a corner between two edges that have all the row to the left is not held -/
theorem corner_free {row : List P} {a s c : P} (ht : 0 < turn a s c) (h1 : ∀ x ∈ row, 0 ≤ turn a s x) (h2 : ∀ x ∈ row, 0 ≤ turn s c x) : ¬ Held row s := by
  rintro (⟨p, hp, q, hq, hz, l1, l2⟩ | ⟨p, hp, q, hq, r, hr, t1, t2, t3⟩)
  · have hu := pos_sb.mpr l1
    have hv := pos_sb.mpr l2
    have huv : cr (sb s p) (sb q s) = 0 := by have : cr (sb s p) (sb q s) = - turn p q s := by unfold cr sb turn; dsimp; grind
                                              omega
    have z1 := zero_par (w := sb s a) hu hv huv
      (by have := h1 p hp
          have e : turn a s p = - cr (sb s a) (sb s p) := by unfold cr sb turn; dsimp; grind
          omega)
      (by have := h1 q hq
          have e : turn a s q = cr (sb s a) (sb q s) := by unfold cr sb turn; dsimp; grind
          omega)
    have z2 := zero_par (w := sb c s) hu hv huv
      (by have := h2 p hp
          have e : turn s c p = - cr (sb c s) (sb s p) := by unfold cr sb turn; dsimp; grind
          omega)
      (by have := h2 q hq
          have e : turn s c q = cr (sb c s) (sb q s) := by unfold cr sb turn; dsimp
          omega)
    have := par_zero (.inl hu) z1.1 z2.1
    rw [turn_cr] at ht
    omega
  · -- weights
    have e : turn q r s * turn a s p + turn r p s * turn a s q + turn p q s * turn a s r = 0 := by unfold turn; grind
    have f1 := h1 p hp
    have f2 := h1 q hq
    have f3 := h1 r hr
    have m1 := Int.mul_nonneg (Int.le_of_lt t2) f1
    have m2 := Int.mul_nonneg (Int.le_of_lt t3) f2
    have m3 := Int.mul_nonneg (Int.le_of_lt t1) f3
    have k1 := Int.mul_eq_zero.mp (show turn q r s * turn a s p = 0 by omega)
    have k2 := Int.mul_eq_zero.mp (show turn r p s * turn a s q = 0 by omega)
    have n1 : turn a s p = 0 := by omega
    have n2 : turn a s q = 0 := by omega
    have hne : a ≠ s := by intro e; rw [e, turn_aab] at ht; omega
    have hw : pos (sb s a) ∨ pos (sb (0, 0) (sb s a)) := by
      rcases lt_tri a s with g | g | g
      · exact .inl (pos_sb.mpr g)
      · exact absurd g hne
      · right
        have : sb (0, 0) (sb s a) = sb a s := by unfold sb; simp; omega
        rw [this]; exact pos_sb.mpr g
    have := par_zero (w := sb p s) (w' := sb q s) hw
      (by have e : cr (sb p s) (sb s a) = - turn a s p := by unfold cr sb turn; dsimp; grind
          omega)
      (by have e : cr (sb q s) (sb s a) = - turn a s q := by unfold cr sb turn; dsimp; grind
          omega)
    have e : turn p q s = cr (sb p s) (sb q s) := by unfold cr sb turn; dsimp; grind
    omega

theorem tri_ne {p q s : P} (h : 0 < turn p q s) : p ≠ s ∧ q ≠ s := by
  constructor
  · intro e; subst e; rw [turn_aba] at h; omega
  · intro e; subst e; rw [turn_abb] at h; omega
theorem pos_sum {A B C : Int} {u v w : P} (hA : 0 < A) (hB : 0 < B) (hC : 0 < C) (hu : pos u) (hv : pos v) (hw : pos w)
    (e1 : A * u.1 + B * v.1 + C * w.1 = 0) (e2 : A * u.2 + B * v.2 + C * w.2 = 0) : False := by
  have m1 := Int.mul_nonneg (Int.le_of_lt hA) (pos_nn hu)
  have m2 := Int.mul_nonneg (Int.le_of_lt hB) (pos_nn hv)
  have m3 := Int.mul_nonneg (Int.le_of_lt hC) (pos_nn hw)
  have k1 := Int.mul_eq_zero.mp (show A * u.1 = 0 by omega)
  have k2 := Int.mul_eq_zero.mp (show B * v.1 = 0 by omega)
  have k3 := Int.mul_eq_zero.mp (show C * w.1 = 0 by omega)
  unfold pos at hu hv hw
  have n1 := Int.mul_pos hA (show 0 < u.2 by omega)
  have n2 := Int.mul_pos hB (show 0 < v.2 by omega)
  have n3 := Int.mul_pos hC (show 0 < w.2 by omega)
  omega
theorem least_free {row : List P} {s : P} (h : ∀ x ∈ row, x = s ∨ lt s x) : ¬ Held row s := by
  rintro (⟨p, hp, q, hq, hz, l1, l2⟩ | ⟨p, hp, q, hq, r, hr, t1, t2, t3⟩)
  · rcases h p hp with e | e
    · exact lt_ne l1 e
    · exact lt_asymm e l1
  · have hp' := (h p hp).resolve_left (tri_ne t1).1
    have hq' := (h q hq).resolve_left (tri_ne t2).1
    have hr' := (h r hr).resolve_left (tri_ne t3).1
    exact pos_sum t2 t3 t1 (pos_sb.mpr hp') (pos_sb.mpr hq') (pos_sb.mpr hr') (by unfold sb turn; dsimp; grind) (by unfold sb turn; dsimp; grind)
theorem most_free {row : List P} {s : P} (h : ∀ x ∈ row, x = s ∨ lt x s) : ¬ Held row s := by
  rintro (⟨p, hp, q, hq, hz, l1, l2⟩ | ⟨p, hp, q, hq, r, hr, t1, t2, t3⟩)
  · rcases h q hq with e | e
    · exact lt_ne l2 e.symm
    · exact lt_asymm e l2
  · have hp' := (h p hp).resolve_left (tri_ne t1).1
    have hq' := (h q hq).resolve_left (tri_ne t2).1
    have hr' := (h r hr).resolve_left (tri_ne t3).1
    exact pos_sum t2 t3 t1 (pos_sb.mpr hp') (pos_sb.mpr hq') (pos_sb.mpr hr') (by unfold sb turn; dsimp; grind) (by unfold sb turn; dsimp; grind)

/-! ### places in a stack -/
theorem EdgesOk.at {pre : List P} {l l' : List P} {b a : P} (h : EdgesOk pre (l ++ b :: a :: l')) : ∀ x ∈ pre, 0 ≤ turn a b x :=
  (EdgesOk.suffix (l := l) h).1
theorem Conv.at {l l' : List P} {c b a : P} (h : Conv (l ++ c :: b :: a :: l')) : 0 < turn a b c := (Conv.suffix (l := l) h).1
theorem stack_place {s : P} : ∀ {st : List P}, s ∈ st → (∃ r, st = s :: r) ∨ (∃ l, st = l ++ [s]) ∨ ∃ l c a l', st = l ++ c :: s :: a :: l'
  | [], h => nomatch h
  | b :: r, h => by
    rcases List.mem_cons.mp h with e | e
    · subst e; exact .inl ⟨r, rfl⟩
    · rcases stack_place e with ⟨r', q⟩ | ⟨l, q⟩ | ⟨l, c, a, l', q⟩
      · subst q
        cases r' with
        | nil => exact .inr (.inl ⟨[b], rfl⟩)
        | cons a r' => exact .inr (.inr ⟨[], b, a, r', rfl⟩)
      · exact .inr (.inl ⟨b :: l, by rw [q]; rfl⟩)
      · exact .inr (.inr ⟨b :: l, c, a, l', by rw [q]; rfl⟩)
/-- between two in a row -/
theorem stack_gap {R : P → P → Prop} (tr : ∀ x y, R x y ∨ x = y ∨ R y x) {s : P} : ∀ {st : List P}, s ∉ st → (∀ b r, st = b :: r → R s b) → (∀ l a, st = l ++ [a] → R a s) → st ≠ [] →
    (∀ a, ¬ (R s a ∧ R a s)) → ∃ l b a l', st = l ++ b :: a :: l' ∧ R a s ∧ R s b
  | [], _, _, _, h, _ => absurd rfl h
  | [b], _, h1, h2, _, h3 => absurd ⟨h1 b [] rfl, h2 [] b rfl⟩ (h3 b)
  | b :: a :: r, hn, h1, h2, _, h3 => by
    rcases tr a s with e | e | e
    · exact ⟨[], b, a, r, rfl, e, h1 b _ rfl⟩
    · exact absurd (by rw [← e]; simp) hn
    · obtain ⟨l, b', a', l', q, q1, q2⟩ := stack_gap tr (st := a :: r) (fun h => hn (List.mem_cons_of_mem _ h)) (fun b' r' e' => by injection e' with e1 _; subst e1; exact e)
        (fun l a' e' => h2 (b :: l) a' (by rw [e']; rfl)) (by simp) h3
      exact ⟨b :: l, b', a', l', by rw [q]; rfl, q1, q2⟩

/-! ### the upper chain: the same, turned by half a round -/
def ng (a : P) : P := (-a.1, -a.2)
theorem ng_ng (a : P) : ng (ng a) = a := by unfold ng; simp
theorem turn_ng (a b c : P) : turn (ng a) (ng b) (ng c) = turn a b c := by unfold turn ng; dsimp; grind
theorem lt_ng {a b : P} : lt (ng a) (ng b) ↔ lt b a := by unfold lt ng; dsimp; omega
theorem pops_ng (t : P) : ∀ st : List P, pops (ng t) (st.map ng) = (pops t st).map ng
  | [] => rfl
  | [b] => rfl
  | b :: a :: r => by
    show pops (ng t) (ng b :: ng a :: r.map ng) = _
    unfold pops
    rw [turn_ng]
    split
    · exact pops_ng t (a :: r)
    · rfl
theorem fold_ng : ∀ (row st : List P), (row.map ng).foldl push (st.map ng) = (row.foldl push st).map ng
  | [], _ => rfl
  | t :: row, st => by
    have e : push (st.map ng) (ng t) = (push st t).map ng := by unfold push; rw [pops_ng]; rfl
    show (row.map ng).foldl push (push (st.map ng) (ng t)) = _
    rw [e]; exact fold_ng row (push st t)
theorem chain_ng (row : List P) : chainR (row.map ng) = (chainR row).map ng := fold_ng row []

theorem edges_ng {pre : List P} : ∀ {st : List P}, EdgesOk (pre.map ng) (st.map ng) → EdgesOk pre st
  | [], _ => trivial
  | [_], _ => trivial
  | b :: a :: r, h => ⟨fun x hx => by rw [← turn_ng]; exact h.1 (ng x) (List.mem_map_of_mem hx), edges_ng (st := a :: r) h.2⟩
theorem conv_ng : ∀ {st : List P}, Conv (st.map ng) → Conv st
  | [], _ => trivial
  | [_], _ => trivial
  | [_, _], _ => trivial
  | c :: b :: a :: r, h => ⟨by rw [← turn_ng]; exact h.1, conv_ng (st := b :: a :: r) h.2⟩

/-- of the chain of the row from behind -/
structure ChU (st row : List P) : Prop where
  inc : st.Pairwise lt
  conv : Conv st
  edges : EdgesOk row st
  sub : ∀ x ∈ st, x ∈ row
  top : ∀ x ∈ row, ∀ b r, st = b :: r → x = b ∨ lt b x
  bot : ∀ x ∈ row, ∀ l a, st = l ++ [a] → x = a ∨ lt x a
  ne : row ≠ [] → st ≠ []
theorem ng_inj {a b : P} (h : ng a = ng b) : a = b := by rw [← ng_ng a, h, ng_ng]
theorem chainU_ok {row : List P} (h : row.Pairwise lt) : ChU (chainR row.reverse) row := by
  have hr : (row.reverse.map ng).Pairwise lt := by
    rw [List.pairwise_map, List.pairwise_reverse]
    exact h.imp fun g => lt_ng.mpr g
  have c := chain_ok hr
  rw [chain_ng] at c
  have hm : ∀ x, x ∈ row → ng x ∈ row.reverse.map ng := fun x hx => List.mem_map_of_mem (List.mem_reverse.mpr hx)
  refine ⟨?_, conv_ng c.conv, (edges_ng c.edges).mono fun x hx => List.mem_reverse.mpr hx, ?_, ?_, ?_, ?_⟩
  · have := c.dec
    unfold Dec at this
    rw [List.pairwise_map] at this
    exact this.imp fun g => lt_ng.mp g
  · intro x hx
    have := c.sub (ng x) (List.mem_map_of_mem hx)
    obtain ⟨y, hy, e⟩ := List.mem_map.mp this
    rw [← ng_inj e]; exact List.mem_reverse.mp hy
  · intro x hx b r e
    rcases c.top (ng x) (hm x hx) (ng b) (r.map ng) (by rw [e]; rfl) with q | q
    · exact .inl (ng_inj q)
    · exact .inr (lt_ng.mp q)
  · intro x hx l a e
    rcases c.bot (ng x) (hm x hx) (l.map ng) (ng a) (by rw [e]; simp) with q | q
    · exact .inl (ng_inj q)
    · exact .inr (lt_ng.mp q)
  · intro hne e
    have := c.ne (by simpa using hne)
    rw [e] at this; exact this rfl
end Hull
set_option linter.all false
namespace Hull
/-- the corners, in turn -/
def hull (row : List P) : List P := if row.length = 1 then row else (chainR row).reverse.dropLast ++ (chainR row.reverse).reverse.dropLast

section
variable {row : List P} (hrow : row.Pairwise lt)
include hrow

theorem lo_free {s : P} (h : s ∈ chainR row) : ¬ Held row s := by
  have c := chain_ok hrow
  rcases stack_place h with ⟨r, e⟩ | ⟨l, e⟩ | ⟨l, c', a, l', e⟩
  · exact most_free fun x hx => c.top x hx s r e
  · exact least_free fun x hx => c.bot x hx l s e
  · have hc := c.conv
    have he := c.edges
    rw [e] at hc he
    have he2 : EdgesOk row ((l ++ [c']) ++ s :: a :: l') := by simpa using he
    exact corner_free (Conv.at hc) (EdgesOk.at he2) (EdgesOk.at he)
theorem up_free {s : P} (h : s ∈ chainR row.reverse) : ¬ Held row s := by
  have c := chainU_ok hrow
  rcases stack_place h with ⟨r, e⟩ | ⟨l, e⟩ | ⟨l, c', a, l', e⟩
  · exact least_free fun x hx => c.top x hx s r e
  · exact most_free fun x hx => c.bot x hx l s e
  · have hc := c.conv
    have he := c.edges
    rw [e] at hc he
    have he2 : EdgesOk row ((l ++ [c']) ++ s :: a :: l') := by simpa using he
    exact corner_free (Conv.at hc) (EdgesOk.at he2) (EdgesOk.at he)

theorem none_held {s : P} (hs : s ∈ row) (h1 : s ∉ chainR row) (h2 : s ∉ chainR row.reverse) : Held row s := by
  have c := chain_ok hrow
  have d := chainU_ok hrow
  have hne : row ≠ [] := by intro e; rw [e] at hs; cases hs
  obtain ⟨l, q, p, l', e, hps, hsq⟩ := stack_gap (R := lt) lt_tri (s := s) h1
    (fun b r e => (c.top s hs b r e).resolve_left fun q => h1 (by rw [e, q]; simp))
    (fun l a e => (c.bot s hs l a e).resolve_left fun q => h1 (by rw [e, q]; simp)) (c.ne hne) (fun a h => lt_asymm h.1 h.2)
  obtain ⟨m, v, u, m', f, hus, hsv⟩ := stack_gap (R := fun a b => lt b a) (fun x y => by rcases lt_tri x y with h | h | h; exact .inr (.inr h); exact .inr (.inl h); exact .inl h) (s := s) h2
    (fun b r e => (d.top s hs b r e).resolve_left fun q => h2 (by rw [e, q]; simp))
    (fun l a e => (d.bot s hs l a e).resolve_left fun q => h2 (by rw [e, q]; simp)) (d.ne hne) (fun a h => lt_asymm h.1 h.2)
  have he := c.edges
  rw [e] at he
  have hf := d.edges
  rw [f] at hf
  have t1 : 0 ≤ turn p q s := EdgesOk.at he s hs
  have t2 : 0 ≤ turn u v s := EdgesOk.at hf s hs
  have mp : p ∈ row := c.sub p (by rw [e]; simp)
  have mq : q ∈ row := c.sub q (by rw [e]; simp)
  have mu : u ∈ row := d.sub u (by rw [f]; simp)
  have mv : v ∈ row := d.sub v (by rw [f]; simp)
  -- p < s < q, v < s < u
  by_cases z1 : turn p q s = 0
  · exact .inl ⟨p, mp, q, mq, z1, hps, hsq⟩
  by_cases z2 : turn u v s = 0
  · refine .inl ⟨v, mv, u, mu, ?_, hsv, hus⟩
    rw [turn_swap]; omega
  by_cases z3 : turn p u s = 0
  · exact .inl ⟨p, mp, u, mu, z3, hps, hus⟩
  right
  by_cases z4 : 0 < turn p u s
  · -- the triangle p, u, v
    refine ⟨p, mp, u, mu, v, mv, z4, by omega, ?_⟩
    -- A (s - p) + C (s - v) = B (u - s)
    apply Classical.byContradiction
    intro hB
    have hA : 0 < turn u v s := by omega
    have e1 : turn u v s * (sb s p).1 + turn p u s * (sb s v).1 = turn v p s * (sb u s).1 := by unfold sb turn; dsimp; grind
    have e2 : turn u v s * (sb s p).2 + turn p u s * (sb s v).2 = turn v p s * (sb u s).2 := by unfold sb turn; dsimp; grind
    by_cases hz : turn v p s = 0
    · have zz : (0 : Int) < 1 := by decide
      rw [hz] at e1 e2
      have m1 := Int.mul_nonneg (Int.le_of_lt hA) (pos_nn (pos_sb.mpr hps))
      have m2 := Int.mul_nonneg (Int.le_of_lt z4) (pos_nn (pos_sb.mpr hsv))
      have k1 := Int.mul_eq_zero.mp (show turn u v s * (sb s p).1 = 0 by omega)
      have k2 := Int.mul_eq_zero.mp (show turn p u s * (sb s v).1 = 0 by omega)
      have q1 := pos_sb.mpr hps
      have q2 := pos_sb.mpr hsv
      unfold pos at q1 q2
      have n1 := Int.mul_pos hA (show 0 < (sb s p).2 by omega)
      have n2 := Int.mul_pos z4 (show 0 < (sb s v).2 by omega)
      omega
    · exact pos_sum (A := turn u v s) (B := turn p u s) (C := - turn v p s) hA z4 (by omega) (pos_sb.mpr hps) (pos_sb.mpr hsv) (pos_sb.mpr hus) (by rw [Int.neg_mul]; omega) (by rw [Int.neg_mul]; omega)
  · -- the triangle u, p, q
    have hC : 0 < turn u p s := by rw [turn_swap]; omega
    refine ⟨u, mu, p, mp, q, mq, hC, by omega, ?_⟩
    apply Classical.byContradiction
    intro hB
    have hA : 0 < turn p q s := by omega
    have e1 : turn p q s * (sb u s).1 + turn u p s * (sb q s).1 = turn q u s * (sb s p).1 := by unfold sb turn; dsimp; grind
    have e2 : turn p q s * (sb u s).2 + turn u p s * (sb q s).2 = turn q u s * (sb s p).2 := by unfold sb turn; dsimp; grind
    by_cases hz : turn q u s = 0
    · rw [hz] at e1 e2
      have m1 := Int.mul_nonneg (Int.le_of_lt hA) (pos_nn (pos_sb.mpr hus))
      have m2 := Int.mul_nonneg (Int.le_of_lt hC) (pos_nn (pos_sb.mpr hsq))
      have k1 := Int.mul_eq_zero.mp (show turn p q s * (sb u s).1 = 0 by omega)
      have k2 := Int.mul_eq_zero.mp (show turn u p s * (sb q s).1 = 0 by omega)
      have q1 := pos_sb.mpr hus
      have q2 := pos_sb.mpr hsq
      unfold pos at q1 q2
      have n1 := Int.mul_pos hA (show 0 < (sb u s).2 by omega)
      have n2 := Int.mul_pos hC (show 0 < (sb q s).2 by omega)
      omega
    · exact pos_sum (A := turn p q s) (B := turn u p s) (C := - turn q u s) hA hC (by omega) (pos_sb.mpr hus) (pos_sb.mpr hsq) (pos_sb.mpr hps) (by rw [Int.neg_mul]; omega) (by rw [Int.neg_mul]; omega)

/-- no spot lies inside both chains -/
theorem not_both {s : P} {l l' m m' : List P} {c a u v : P} (e : chainR row = l ++ c :: s :: a :: l') (f : chainR row.reverse = m ++ v :: s :: u :: m') : False := by
  have h := chain_ok hrow
  have d := chainU_ok hrow
  have hc := h.conv; have he := h.edges; have hdec := h.dec; have hsub := h.sub
  have dc := d.conv; have de := d.edges; have dinc := d.inc; have dsub := d.sub
  rw [e] at hc he hdec hsub
  rw [f] at dc de dinc dsub
  have he2 : EdgesOk row ((l ++ [c]) ++ s :: a :: l') := by simpa using he
  have de2 : EdgesOk row ((m ++ [v]) ++ s :: u :: m') := by simpa using de
  have mc : c ∈ row := hsub c (by simp)
  have ma : a ∈ row := hsub a (by simp)
  have mu : u ∈ row := dsub u (by simp)
  have mv : v ∈ row := dsub v (by simp)
  have las : lt a s := (List.pairwise_cons.mp (List.pairwise_cons.mp (Dec.suffix (l := l) hdec)).2).1 a (by simp)
  have lsc : lt s c := (List.pairwise_cons.mp (Dec.suffix (l := l) hdec)).1 s (by simp)
  have dinc' := (List.pairwise_append.mp dinc).2.1
  have lvs : lt v s := (List.pairwise_cons.mp dinc').1 s (by simp)
  have lsu : lt s u := (List.pairwise_cons.mp (List.pairwise_cons.mp dinc').2).1 u (by simp)
  have t0 : 0 < turn a s c := Conv.at hc
  -- the edges: a to s, s to c; u to s, s to v
  have f1 := EdgesOk.at he2 u mu
  have f2 := EdgesOk.at de2 a ma
  have f3 := EdgesOk.at he v mv
  have f4 := EdgesOk.at de c mc
  have f5 := EdgesOk.at he2 v mv
  have e1 : turn u s a = - turn a s u := by unfold turn; grind
  have e2 : turn s v c = - turn s c v := by unfold turn; grind
  have z2 : turn s c v = 0 := by omega
  -- v - s lies against c - s
  have hu := pos_sb.mpr lvs
  have hv := pos_sb.mpr lsc
  have huv : cr (sb s v) (sb c s) = 0 := by have : cr (sb s v) (sb c s) = turn s c v := by unfold cr sb turn; dsimp; grind
                                            omega
  have z := zero_par (w := sb s a) hu hv huv
    (by have e : turn a s v = - cr (sb s a) (sb s v) := by unfold cr sb turn; dsimp; grind
        omega)
    (by have e : turn a s c = cr (sb s a) (sb c s) := by unfold cr sb turn; dsimp; grind
        omega)
  have e3 : turn a s c = cr (sb s a) (sb c s) := by unfold cr sb turn; dsimp; grind
  omega
end
end Hull
set_option linter.all false
namespace Hull
section
variable {row : List P} (hrow : row.Pairwise lt)
include hrow

theorem lo_nodup : (chainR row).Nodup := (chain_ok hrow).dec.imp fun h => (lt_ne h).symm
theorem up_nodup : (chainR row.reverse).Nodup := (chainU_ok hrow).inc.imp fun h => lt_ne h

theorem revDrop (st : List P) : st.reverse.dropLast = st.tail.reverse := by
  cases st with
  | nil => rfl
  | cons a r => simp

/-- the top of the lower chain is the greatest, the end the least; of the upper one the other way round -/
theorem tops (h2 : 2 ≤ row.length) : ∃ z y lt' ut', chainR row = z :: lt' ∧ chainR row.reverse = y :: ut' ∧ lt' ≠ [] ∧ ut' ≠ [] ∧ (∃ l, lt' = l ++ [y]) ∧ (∃ m, ut' = m ++ [z]) ∧
    (∀ x ∈ row, x = z ∨ lt x z) ∧ (∀ x ∈ row, x = y ∨ lt y x) ∧ z ∈ row ∧ y ∈ row ∧ y ≠ z := by
  have c := chain_ok hrow
  have d := chainU_ok hrow
  have hne : row ≠ [] := by intro e; rw [e] at h2; simp at h2
  cases e : chainR row with
  | nil => exact absurd e (c.ne hne)
  | cons z lt' =>
    cases f : chainR row.reverse with
    | nil => exact absurd f (d.ne hne)
    | cons y ut' =>
      have hz : ∀ x ∈ row, x = z ∨ lt x z := fun x hx => c.top x hx z lt' e
      have hy : ∀ x ∈ row, x = y ∨ lt y x := fun x hx => d.top x hx y ut' f
      have mz : z ∈ row := c.sub z (by rw [e]; simp)
      have my : y ∈ row := d.sub y (by rw [f]; simp)
      have hyz : y ≠ z := by
        intro q
        -- all are one
        have all1 : ∀ x ∈ row, x = z := fun x hx => by
          rcases hz x hx with h | h
          · exact h
          · rcases hy x hx with g | g
            · rw [g, q]
            · exact absurd h (lt_asymm (q ▸ g))
        match row, hrow, h2, all1 with
        | a :: b :: r, hrow, _, all1 =>
          have := (List.pairwise_cons.mp hrow).1 b (by simp)
          rw [all1 a (by simp), all1 b (by simp)] at this
          exact lt_irrefl this
      -- the end of the lower one
      have le : ∃ l, z :: lt' = l ++ [y] := by
        have hn : z :: lt' ≠ [] := by simp
        have e1 := List.dropLast_concat_getLast hn
        have b := c.bot y my _ _ (by rw [e]; exact e1.symm)
        have hm : (z :: lt').getLast hn ∈ row := c.sub _ (by rw [e]; exact List.getLast_mem hn)
        rcases b with b | b
        · exact ⟨_, by rw [b]; exact e1.symm⟩
        · rcases hy _ hm with g | g
          · exact absurd (g ▸ b) lt_irrefl
          · exact absurd b (lt_asymm g)
      have ue : ∃ l, y :: ut' = l ++ [z] := by
        have hn : y :: ut' ≠ [] := by simp
        have e1 := List.dropLast_concat_getLast hn
        have b := d.bot z mz _ _ (by rw [f]; exact e1.symm)
        have hm : (y :: ut').getLast hn ∈ row := d.sub _ (by rw [f]; exact List.getLast_mem hn)
        rcases b with b | b
        · exact ⟨_, by rw [b]; exact e1.symm⟩
        · rcases hz _ hm with g | g
          · exact absurd (g ▸ b) lt_irrefl
          · exact absurd b (lt_asymm g)
      obtain ⟨l, le⟩ := le
      obtain ⟨m, ue⟩ := ue
      have l1 : ∃ l', lt' = l' ++ [y] := by
        cases l with
        | nil => simp at le; exact absurd le.1.symm hyz
        | cons b l => injection le with _ q; exact ⟨l, q⟩
      have u1 : ∃ m', ut' = m' ++ [z] := by
        cases m with
        | nil => simp at ue; exact absurd ue.1 hyz
        | cons b m => injection ue with _ q; exact ⟨m, q⟩
      refine ⟨z, y, lt', ut', rfl, rfl, ?_, ?_, l1, u1, hz, hy, mz, my, hyz⟩
      · obtain ⟨l', q⟩ := l1; rw [q]; simp
      · obtain ⟨l', q⟩ := u1; rw [q]; simp

theorem hull_eq (h2 : 2 ≤ row.length) : hull row = (chainR row).tail.reverse ++ (chainR row.reverse).tail.reverse := by
  unfold hull
  rw [if_neg (by omega), revDrop hrow, revDrop hrow]

theorem hull_mem (h2 : 2 ≤ row.length) {s : P} : s ∈ hull row ↔ s ∈ chainR row ∨ s ∈ chainR row.reverse := by
  obtain ⟨z, y, l, u, e, f, _, _, ⟨l', el⟩, ⟨u', eu⟩, _⟩ := tops hrow h2
  rw [hull_eq hrow h2, e, f]
  simp only [List.tail_cons, List.mem_append, List.mem_reverse, List.mem_cons]
  constructor
  · rintro (h | h)
    · exact .inl (.inr h)
    · exact .inr (.inr h)
  · rintro ((h | h) | (h | h))
    · exact .inr (by rw [h, eu]; simp)
    · exact .inl h
    · exact .inl (by rw [h, el]; simp)
    · exact .inr h

theorem hull_held {s : P} (h : s ∈ hull row) : s ∈ row ∧ ¬ Held row s := by
  by_cases h2 : 2 ≤ row.length
  · rcases (hull_mem hrow h2).mp h with g | g
    · exact ⟨(chain_ok hrow).sub s g, lo_free hrow g⟩
    · exact ⟨(chainU_ok hrow).sub s g, up_free hrow g⟩
  · match row, h2, h with
    | [], _, h => exact nomatch h
    | [a], _, h =>
      have : s = a := by simpa [hull] using h
      subst this
      refine ⟨by simp, least_free fun x hx => .inl (List.mem_singleton.mp hx)⟩
    | _ :: _ :: _, h2, _ => exact absurd (by simp) h2
theorem held_hull {s : P} (hs : s ∈ row) (h : ¬ Held row s) : s ∈ hull row := by
  by_cases h2 : 2 ≤ row.length
  · rw [hull_mem hrow h2]
    apply Classical.byContradiction
    intro hc
    exact h (none_held hrow hs (fun g => hc (.inl g)) (fun g => hc (.inr g)))
  · match row, h2, hs with
    | [], _, hs => exact nomatch hs
    | [a], _, hs => simpa [hull] using hs
    | _ :: _ :: _, h2, _ => exact absurd (by simp) h2

theorem hull_nodup : (hull row).Nodup := by
  by_cases h2 : 2 ≤ row.length
  · obtain ⟨z, y, l, u, e, f, _, _, ⟨l', el⟩, ⟨u', eu⟩, hz, hy, mz, my, hyz⟩ := tops hrow h2
    rw [hull_eq hrow h2]
    have n1 := lo_nodup hrow
    have n2 := up_nodup hrow
    rw [e] at n1 ⊢
    rw [f] at n2 ⊢
    simp only [List.tail_cons]
    have n1' := List.nodup_cons.mp n1
    have n2' := List.nodup_cons.mp n2
    refine List.nodup_append.mpr ⟨List.pairwise_reverse.mpr (n1'.2.imp Ne.symm), List.pairwise_reverse.mpr (n2'.2.imp Ne.symm), fun s hs s' hs' q => ?_⟩
    subst q
    have hs := List.mem_reverse.mp hs
    have hs' := List.mem_reverse.mp hs'
    have sz : s ≠ z := fun q => n1'.1 (q ▸ hs)
    have sy : s ≠ y := fun q => n2'.1 (q ▸ hs')
    rcases stack_place (st := chainR row) (s := s) (by rw [e]; exact List.mem_cons_of_mem _ hs) with ⟨r, q⟩ | ⟨r, q⟩ | ⟨r, c, a, r', q⟩
    · rw [e] at q; injection q with q _; exact sz q.symm
    · rw [e, el] at q
      have : y = s := by
        have := congrArg List.getLast? q
        rw [← List.cons_append, List.getLast?_concat, List.getLast?_concat] at this
        exact Option.some.inj this
      exact sy this.symm
    · rcases stack_place (st := chainR row.reverse) (s := s) (by rw [f]; exact List.mem_cons_of_mem _ hs') with ⟨r2, q2⟩ | ⟨r2, q2⟩ | ⟨r2, c2, a2, r2', q2⟩
      · rw [f] at q2; injection q2 with q2 _; exact sy q2.symm
      · rw [f, eu] at q2
        have : z = s := by
          have := congrArg List.getLast? q2
          rw [← List.cons_append, List.getLast?_concat, List.getLast?_concat] at this
          exact Option.some.inj this
        exact sz this.symm
      · exact not_both hrow q q2
  · match row, hrow, h2 with
    | [], _, _ => simp [hull, chainR]
    | [a], _, _ => simp [hull]
    | _ :: _ :: _, _, h2 => exact absurd (by simp) h2

/-- an edge: from p to q, all the row to its left -/
def Edge (row : List P) (p q : P) : Prop := ∀ x ∈ row, 0 ≤ turn p q x

theorem hull_next (h2 : 2 ≤ row.length) (i : Nat) (p q : P) (hp : (hull row ++ (hull row).take 1)[i]? = some p) (hq : (hull row ++ (hull row).take 1)[i + 1]? = some q) : Edge row p q := by
  obtain ⟨z, y, l, u, e, f, ln, un, ⟨l', el⟩, ⟨u', eu⟩, hz, hy, mz, my, hyz⟩ := tops hrow h2
  have c := (chain_ok hrow).edges
  have d := (chainU_ok hrow).edges
  have hh := hull_eq hrow h2
  rw [e, f] at hh
  simp only [List.tail_cons] at hh
  have t1 : (hull row).take 1 = [y] := by rw [hh, el]; simp
  rw [t1, hh] at hp hq
  -- from neighbours in a chain
  have adj : ∀ {st : List P}, EdgesOk row st → ∀ k, st.reverse[k]? = some p → st.reverse[k + 1]? = some q → Edge row p q := by
    intro st he k h1 h2
    have hk : k + 1 < st.reverse.length := by
      rcases Nat.lt_or_ge (k + 1) st.reverse.length with h | h
      · exact h
      · rw [List.getElem?_eq_none h] at h2; cases h2
    have e1 : st.reverse = st.reverse.take k ++ p :: q :: st.reverse.drop (k + 2) := by
      have a1 := List.getElem?_eq_some_iff.mp h1
      have a2 := List.getElem?_eq_some_iff.mp h2
      obtain ⟨b1, c1⟩ := a1
      obtain ⟨b2, c2⟩ := a2
      rw [← c1, ← c2]
      rw [← List.drop_eq_getElem_cons, ← List.drop_eq_getElem_cons, List.take_append_drop]
    have e2 : st = (st.reverse.drop (k + 2)).reverse ++ q :: p :: (st.reverse.take k).reverse := by
      have := congrArg List.reverse e1
      simpa using this
    rw [e2] at he
    exact EdgesOk.at he
  have r1 : l.reverse ++ u.reverse ++ [y] = l.reverse ++ ((chainR row.reverse).reverse) := by rw [f]; simp
  have r2 : (chainR row).reverse = l.reverse ++ [z] := by rw [e]; simp
  have r3 : u.reverse = z :: u'.reverse := by rw [eu]; simp
  by_cases hi : i + 1 ≤ l.length
  · refine adj c i ?_ ?_
    · rw [r2, List.getElem?_append_left (by simp; omega)]
      rw [List.append_assoc, List.getElem?_append_left (by simp; omega)] at hp
      exact hp
    · rw [r2]
      rw [List.append_assoc] at hq
      by_cases hj : i + 1 < l.length
      · rw [List.getElem?_append_left (by simp; omega)]
        rw [List.getElem?_append_left (by simp; omega)] at hq
        exact hq
      · rw [List.getElem?_append_right (by simp; omega)]
        rw [List.getElem?_append_right (by simp; omega), r3] at hq
        have : i + 1 - l.reverse.length = 0 := by simp; omega
        rw [this] at hq ⊢
        simpa using hq
  · rw [r1, List.getElem?_append_right (by simp; omega)] at hp hq
    refine adj d (i - l.reverse.length) hp ?_
    have : i + 1 - l.reverse.length = i - l.reverse.length + 1 := by simp; omega
    rw [this] at hq
    exact hq

/-- collinear and all three corners: not possible -/
theorem edge_strict {p q x : P} (hp : p ∈ hull row) (hq : q ∈ hull row) (hx : x ∈ hull row) (he : Edge row p q) (pq : p ≠ q) (xp : x ≠ p) (xq : x ≠ q) : 0 < turn p q x := by
  obtain ⟨mp, np⟩ := hull_held hrow hp
  obtain ⟨mq, nq⟩ := hull_held hrow hq
  obtain ⟨mx, nx⟩ := hull_held hrow hx
  have := he x mx
  apply Classical.byContradiction
  intro hc
  have z : turn p q x = 0 := by omega
  have z1 : turn q p x = 0 := by rw [turn_swap]; omega
  have z2 : turn q x p = 0 := by rw [← turn_rot]; exact z
  have z3 : turn x p q = 0 := by rw [turn_rot]; exact z
  have z4 : turn x q p = 0 := by rw [turn_swap]; omega
  have z5 : turn p x q = 0 := by rw [turn_swap]; omega
  have L : ∀ {a b : P}, a ≠ b → lt a b ∨ lt b a := fun {a b} h => by
    rcases lt_tri a b with g | g | g
    · exact .inl g
    · exact absurd g h
    · exact .inr g
  rcases L pq with a | a
  · rcases L xp with b | b
    · exact np (.inl ⟨x, mx, q, mq, z4, b, a⟩)
    · rcases L xq with c | c
      · exact nx (.inl ⟨p, mp, q, mq, z, b, c⟩)
      · exact nq (.inl ⟨p, mp, x, mx, z5, a, c⟩)
  · rcases L xp with b | b
    · rcases L xq with c | c
      · exact nq (.inl ⟨x, mx, p, mp, z3, c, a⟩)
      · exact nx (.inl ⟨q, mq, p, mp, z1, c, b⟩)
    · exact np (.inl ⟨q, mq, x, mx, z2, a, b⟩)

theorem hull_head : (hull row).head? = row.head? := by
  by_cases h2 : 2 ≤ row.length
  · obtain ⟨z, y, l, u, e, f, ln, un, ⟨l', el⟩, ⟨u', eu⟩, hz, hy, mz, my, hyz⟩ := tops hrow h2
    rw [hull_eq hrow h2, e, el]
    match row, hrow, hy, my with
    | a :: r, hrow, hy, my =>
      have : a = y := by
        rcases List.mem_cons.mp my with g | g
        · exact g.symm
        · have h1 := (List.pairwise_cons.mp hrow).1 y g
          rcases hy a (by simp) with k | k
          · exact k
          · exact absurd k (lt_asymm h1)
      simp [this]
  · match row, h2 with
    | [], _ => simp [hull, chainR]
    | [a], _ => simp [hull]
    | _ :: _ :: _, h2 => exact absurd (by simp) h2
end
theorem sorted_eq : ∀ {xs ys : List P}, xs.Pairwise lt → ys.Pairwise lt → (∀ a, a ∈ xs ↔ a ∈ ys) → xs = ys
  | [], [], _, _, _ => rfl
  | [], y :: ys, _, _, h => absurd ((h y).mpr (by simp)) (by simp)
  | x :: xs, [], _, _, h => absurd ((h x).mp (by simp)) (by simp)
  | x :: xs, y :: ys, hx, hy, h => by
    have hx' := List.pairwise_cons.mp hx
    have hy' := List.pairwise_cons.mp hy
    have e : x = y := by
      rcases List.mem_cons.mp ((h x).mp (by simp)) with g | g
      · exact g
      · rcases List.mem_cons.mp ((h y).mpr (by simp)) with k | k
        · exact k.symm
        · exact absurd (hx'.1 y k) (lt_asymm (hy'.1 x g))
    subst e
    have : xs = ys := sorted_eq hx'.2 hy'.2 fun a => by
      constructor
      · intro ha
        rcases List.mem_cons.mp ((h a).mp (List.mem_cons_of_mem _ ha)) with g | g
        · exact absurd (g ▸ hx'.1 a ha) lt_irrefl
        · exact g
      · intro ha
        rcases List.mem_cons.mp ((h a).mpr (List.mem_cons_of_mem _ ha)) with g | g
        · exact absurd (g ▸ hy'.1 a ha) lt_irrefl
        · exact g
    rw [this]
end Hull
set_option linter.all false
namespace Hull
/-! ### the law's own way to ask -/
def mn (a b : P) : P := if lt b a then b else a
def mx (a b : P) : P := if lt a b then b else a
def le (a b : P) : Prop := ¬ lt b a
def On (a b s : P) : Prop := turn a b s = 0 ∧ le (mn a b) s ∧ le s (mx a b)
def Tri (a b c s : P) : Prop := (0 < turn a b s ∧ 0 < turn b c s ∧ 0 < turn c a s) ∨ (turn a b s < 0 ∧ turn b c s < 0 ∧ turn c a s < 0)
def HeldIx (others : List P) (s : P) : Prop :=
  ∃ (k n : Nat) (a b : P), k < n ∧ others[k]? = some a ∧ others[n]? = some b ∧ (On a b s ∨ ∃ (m : Nat) (c : P), n < m ∧ others[m]? = some c ∧ Tri a b c s)
theorem on_lt {a b s : P} (h : On a b s) (ha : a ≠ s) (hb : b ≠ s) : turn a b s = 0 ∧ ((lt a s ∧ lt s b) ∨ (lt b s ∧ lt s a)) := by
  obtain ⟨h1, h2, h3⟩ := h
  refine ⟨h1, ?_⟩
  unfold le mn at h2
  unfold le mx at h3
  rcases lt_tri a b with g | g | g
  · rw [if_neg (lt_asymm g)] at h2
    rw [if_pos g] at h3
    left
    constructor
    · rcases lt_tri a s with k | k | k
      · exact k
      · exact absurd k ha
      · exact absurd k h2
    · rcases lt_tri s b with k | k | k
      · exact k
      · exact absurd k.symm hb
      · exact absurd k h3
  · subst g
    rw [if_neg lt_irrefl] at h2 h3
    rcases lt_tri a s with k | k | k
    · exact absurd k h3
    · exact absurd k ha
    · exact absurd k h2
  · rw [if_pos g] at h2
    rw [if_neg (lt_asymm g)] at h3
    right
    constructor
    · rcases lt_tri b s with k | k | k
      · exact k
      · exact absurd k hb
      · exact absurd k h2
    · rcases lt_tri s a with k | k | k
      · exact k
      · exact absurd k.symm ha
      · exact absurd k h3
theorem lt_on {a b s : P} (h : turn a b s = 0) (h1 : lt a s) (h2 : lt s b) : On a b s ∧ On b a s := by
  have hab := lt_trans h1 h2
  refine ⟨⟨h, ?_, ?_⟩, ⟨by rw [turn_swap]; omega, ?_, ?_⟩⟩
  · unfold le mn; rw [if_neg (lt_asymm hab)]; exact lt_asymm h1
  · unfold le mx; rw [if_pos hab]; exact lt_asymm h2
  · unfold le mn; rw [if_pos hab]; exact lt_asymm h1
  · unfold le mx; rw [if_neg (lt_asymm hab)]; exact lt_asymm h2
def others (row : List P) (s : P) : List P := row.filter fun x => decide (x ≠ s)
theorem mem_others {row : List P} {s x : P} : x ∈ others row s ↔ x ∈ row ∧ x ≠ s := by unfold others; simp
theorem held_iff {row : List P} {s : P} (hs : s ∈ row) : HeldIx (others row s) s ↔ Held row s := by
  constructor
  · rintro ⟨k, n, a, b, hkn, ha, hb, h⟩
    obtain ⟨ma, na⟩ := mem_others.mp (List.mem_of_getElem? ha)
    obtain ⟨mb, nb⟩ := mem_others.mp (List.mem_of_getElem? hb)
    rcases h with h | ⟨m, c, hnm, hc, h⟩
    · obtain ⟨h1, h2 | h2⟩ := on_lt h na nb
      · exact .inl ⟨a, ma, b, mb, h1, h2.1, h2.2⟩
      · exact .inl ⟨b, mb, a, ma, by rw [turn_swap]; omega, h2.1, h2.2⟩
    · obtain ⟨mc, nc⟩ := mem_others.mp (List.mem_of_getElem? hc)
      rcases h with h | h
      · exact .inr ⟨a, ma, b, mb, c, mc, h.1, h.2.1, h.2.2⟩
      · have e1 := turn_swap a b s
        have e2 := turn_swap b c s
        have e3 := turn_swap c a s
        exact .inr ⟨b, mb, a, ma, c, mc, by omega, by omega, by omega⟩
  · rintro (⟨p, hp, q, hq, hz, l1, l2⟩ | ⟨p, hp, q, hq, r, hr, t1, t2, t3⟩)
    · obtain ⟨i, hi⟩ := List.mem_iff_getElem?.mp (mem_others.mpr ⟨hp, lt_ne l1⟩)
      obtain ⟨j, hj⟩ := List.mem_iff_getElem?.mp (mem_others.mpr ⟨hq, (lt_ne l2).symm⟩)
      obtain ⟨o1, o2⟩ := lt_on hz l1 l2
      rcases Nat.lt_trichotomy i j with h | h | h
      · exact ⟨i, j, p, q, h, hi, hj, .inl o1⟩
      · subst h; rw [hi] at hj; cases hj
        exact absurd (lt_trans l1 l2) lt_irrefl
      · exact ⟨j, i, q, p, h, hj, hi, .inl o2⟩
    · have e1 := turn_swap p q s
      have e2 := turn_swap q r s
      have e3 := turn_swap r p s
      obtain ⟨i, hi⟩ := List.mem_iff_getElem?.mp (mem_others.mpr ⟨hp, (tri_ne t1).1⟩)
      obtain ⟨j, hj⟩ := List.mem_iff_getElem?.mp (mem_others.mpr ⟨hq, (tri_ne t2).1⟩)
      obtain ⟨k, hk⟩ := List.mem_iff_getElem?.mp (mem_others.mpr ⟨hr, (tri_ne t3).1⟩)
      have ij : i ≠ j := by rintro rfl; rw [hi] at hj; cases hj; rw [turn_aab] at t1; omega
      have jk : j ≠ k := by rintro rfl; rw [hj] at hk; cases hk; rw [turn_aab] at t2; omega
      have ki : k ≠ i := by rintro rfl; rw [hk] at hi; cases hi; rw [turn_aab] at t3; omega
      rcases Nat.lt_or_gt_of_ne ij with a | a
      · rcases Nat.lt_or_gt_of_ne jk with b | b
        · exact ⟨i, j, p, q, a, hi, hj, .inr ⟨k, r, b, hk, .inl ⟨t1, t2, t3⟩⟩⟩
        · rcases Nat.lt_or_gt_of_ne ki with c | c
          · exact ⟨k, i, r, p, c, hk, hi, .inr ⟨j, q, a, hj, .inl ⟨t3, t1, t2⟩⟩⟩
          · exact ⟨i, k, p, r, c, hi, hk, .inr ⟨j, q, b, hj, .inr ⟨by omega, by omega, by omega⟩⟩⟩
      · rcases Nat.lt_or_gt_of_ne ki with b | b
        · rcases Nat.lt_or_gt_of_ne jk with c | c
          · exact ⟨j, k, q, r, c, hj, hk, .inr ⟨i, p, b, hi, .inl ⟨t2, t3, t1⟩⟩⟩
          · exact ⟨k, j, r, q, c, hk, hj, .inr ⟨i, p, a, hi, .inr ⟨by omega, by omega, by omega⟩⟩⟩
        · exact ⟨j, i, q, p, a, hj, hi, .inr ⟨k, r, b, hk, .inr ⟨by omega, by omega, by omega⟩⟩⟩
section
open Classical
/-- what the law asks for -/
noncomputable def due (row : List P) : List P := row.filter fun s => decide (¬ HeldIx (others row s) s)
theorem due_sorted {row : List P} (h : row.Pairwise lt) : (due row).Pairwise lt := h.filter _
theorem mem_due {row : List P} {s : P} (h : row.Pairwise lt) : s ∈ due row ↔ s ∈ hull row := by
  unfold due
  rw [List.mem_filter]
  constructor
  · rintro ⟨h1, h2⟩
    have h2' : ¬ HeldIx (others row s) s := of_decide_eq_true h2
    exact held_hull h h1 fun z => h2' ((held_iff h1).mpr z)
  · intro h1
    obtain ⟨h2, h3⟩ := hull_held h h1
    exact ⟨h2, decide_eq_true fun z => h3 ((held_iff h2).mp z)⟩
/-- the corners, sorted, are what is due -/
theorem due_of {row xs : List P} (h : row.Pairwise lt) (hx : xs.Pairwise lt) (hm : ∀ a, a ∈ xs ↔ a ∈ hull row) : xs = due row :=
  sorted_eq hx (due_sorted h) fun a => (hm a).trans (mem_due h).symm
theorem due_head {row : List P} (h : row.Pairwise lt) : (due row).head? = (hull row).head? := by
  rw [hull_head h]
  cases row with
  | nil => rfl
  | cons a r =>
    have : a ∈ due (a :: r) := (mem_due h).mpr (held_hull h (by simp) (least_free fun x hx => by
      rcases List.mem_cons.mp hx with e | e
      · exact .inl e
      · exact .inr ((List.pairwise_cons.mp h).1 x e)))
    unfold due at this ⊢
    rw [List.filter_cons]
    have h2 : decide (¬ HeldIx (others (a :: r) a) a) = true := (List.mem_filter.mp this).2
    rw [if_pos h2]; rfl
end
end Hull
set_option linter.all false
set_option maxRecDepth 100000
namespace SetM
open PySem PySem.SetTable

/-! ### below -/
theorem below_go (xs : Array Nat) (j : Nat) (hs : xs.toList.Pairwise (· < ·)) : ∀ (fuel lo hi : Nat), lo ≤ hi → hi ≤ xs.size → hi - lo ≤ fuel →
    (∀ (i x : Nat), i < lo → xs[i]? = some x → x < j) → (∀ (i x : Nat), hi ≤ i → xs[i]? = some x → j ≤ x) →
    (∀ (i x : Nat), i < below.go xs j fuel lo hi → xs[i]? = some x → x < j) ∧ (∀ (i x : Nat), below.go xs j fuel lo hi ≤ i → xs[i]? = some x → j ≤ x) ∧ below.go xs j fuel lo hi ≤ xs.size
  | 0, lo, hi, h1, h2, h3, a, b => by
    have e : lo = hi := by omega
    subst e
    exact ⟨a, b, h2⟩
  | fuel + 1, lo, hi, h1, h2, h3, a, b => by
    unfold below.go
    by_cases hlt : lo < hi
    · rw [if_pos hlt]
      have hm : (lo + hi) / 2 < xs.size := by omega
      have hv : xs.getD ((lo + hi) / 2) j = xs[(lo + hi) / 2] := by simp [Array.getD, hm]
      have mono : ∀ (i k x y : Nat), i < k → xs[i]? = some x → xs[k]? = some y → x < y := by
        intro i k x y hik hx hy
        have hx' : xs.toList[i]? = some x := by simpa using hx
        have hy' : xs.toList[k]? = some y := by simpa using hy
        obtain ⟨p1, q1⟩ := List.getElem?_eq_some_iff.mp hx'
        obtain ⟨p2, q2⟩ := List.getElem?_eq_some_iff.mp hy'
        have := List.pairwise_iff_getElem.mp hs i k p1 p2 hik
        rw [q1, q2] at this; exact this
      have hme : xs[(lo + hi) / 2]? = some xs[(lo + hi) / 2] := by simp [hm]
      dsimp only
      rw [hv]
      by_cases hc : xs[(lo + hi) / 2] < j
      · rw [if_pos hc]
        refine below_go xs j hs fuel _ hi (by omega) h2 (by omega) (fun i x hi' hx => ?_) b
        rcases Nat.lt_or_ge i ((lo + hi) / 2) with h | h
        · have := mono i _ x _ h hx hme; omega
        · have : i = (lo + hi) / 2 := by omega
          subst this; rw [hme] at hx; cases hx; exact hc
      · rw [if_neg hc]
        refine below_go xs j hs fuel lo _ (by omega) (by omega) (by omega) a (fun i x hi' hx => ?_)
        rcases Nat.lt_or_ge ((lo + hi) / 2) i with h | h
        · have := mono _ i _ x h hme hx; omega
        · have : i = (lo + hi) / 2 := by omega
          subst this; rw [hme] at hx; cases hx; omega
    · rw [if_neg hlt]
      have e : lo = hi := by omega
      subst e
      exact ⟨a, b, h2⟩
theorem below_spec {xs : Array Nat} (j : Nat) (hs : xs.toList.Pairwise (· < ·)) :
    (∀ (i x : Nat), i < below xs j → xs[i]? = some x → x < j) ∧ (∀ (i x : Nat), below xs j ≤ i → xs[i]? = some x → j ≤ x) ∧ below xs j ≤ xs.size := by
  unfold below
  refine below_go xs j hs xs.size 0 xs.size (Nat.zero_le _) (Nat.le_refl _) (by omega) (fun i x h => absurd h (Nat.not_lt_zero _)) (fun i x h hx => ?_)
  rw [Array.getElem?_eq_none h] at hx; cases hx
theorem below_at {xs : Array Nat} {j i : Nat} (hs : xs.toList.Pairwise (· < ·)) (h : xs[i]? = some j) : below xs j = i := by
  obtain ⟨a, b, _⟩ := below_spec j hs
  rcases Nat.lt_trichotomy (below xs j) i with g | g | g
  · have hlt : below xs j < xs.size := by
      have : i < xs.size := by
        rcases Nat.lt_or_ge i xs.size with k | k
        · exact k
        · rw [Array.getElem?_eq_none k] at h; cases h
      omega
    have e : xs[below xs j]? = some xs[below xs j] := by simp [hlt]
    have h1 := b (below xs j) _ (Nat.le_refl _) e
    have hx' : xs.toList[below xs j]? = some xs[below xs j] := by simpa using e
    have hy' : xs.toList[i]? = some j := by simpa using h
    obtain ⟨p1, q1⟩ := List.getElem?_eq_some_iff.mp hx'
    obtain ⟨p2, q2⟩ := List.getElem?_eq_some_iff.mp hy'
    have := List.pairwise_iff_getElem.mp hs _ _ p1 p2 g
    rw [q1, q2] at this
    omega
  · exact g
  · have := a i j g h; omega

def Occ (t : SetTable) (j : Nat) : Prop := j ∈ t.place.toList
theorem slot_live {t : SetTable} {i j : Nat} (hs : t.place.toList.Pairwise (· < ·)) (h : t.place[i]? = some j) : t.slot j = .live i := by
  unfold slot
  dsimp only
  rw [below_at hs h, h]
  simp
theorem slot_empty {t : SetTable} {j : Nat} (hd : t.dummies = #[]) (h : ¬ Occ t j) : t.slot j = .empty := by
  unfold slot
  have h1 : (t.place[below t.place j]? == some j) = false := by
    apply Bool.eq_false_iff.mpr
    intro e
    have e' : t.place[below t.place j]? = some j := by simpa using e
    have e'' : t.place.toList[below t.place j]? = some j := by simpa using e'
    exact h (List.mem_of_getElem? e'')
  have h2 : has t.dummies j = false := by rw [hd]; simp [has]
  simp only [h1, h2]; rfl
theorem occ_ix {t : SetTable} {j : Nat} (h : Occ t j) : ∃ i : Nat, t.place[i]? = some j := by
  obtain ⟨i, hi⟩ := List.mem_iff_getElem?.mp h
  exact ⟨i, by simpa using hi⟩

/-! ### the path of a hash -/
def adv (mask : Nat) (p : Probe) : Probe :=
  if p.more > 0 then { p with j := p.j + 1, more := p.more - 1 } else
  let (i, perturb) := leap mask p.i p.perturb
  { p with j := i, more := runEnd mask i - i, i, perturb }
theorem advance_eq (t : SetTable) (p : Probe) : t.advance p = adv t.mask p := rfl
def at0 (mask i q : Nat) : Probe := { j := i, more := runEnd mask i - i, i, perturb := q, dummy := none }
def path (mask : Nat) (h : Int) : Nat → Probe
  | 0 => at0 mask (bits h % (mask + 1)) (bits h)
  | k + 1 => adv mask (path mask h k)
theorem start_eq (t : SetTable) (h : Int) : t.probeStart h = path t.mask h 0 := rfl
def iter (mask : Nat) (p : Probe) : Nat → Probe
  | 0 => p
  | k + 1 => adv mask (iter mask p k)
theorem iter_add (mask : Nat) (p : Probe) (a : Nat) : ∀ b, iter mask p (a + b) = iter mask (iter mask p a) b
  | 0 => rfl
  | b + 1 => by show adv mask (iter mask p (a + b)) = adv mask (iter mask (iter mask p a) b); rw [iter_add mask p a b]
theorem path_iter (mask : Nat) (h : Int) : ∀ k, path mask h k = iter mask (path mask h 0) k
  | 0 => rfl
  | k + 1 => by show adv mask _ = adv mask _; rw [path_iter mask h k]
/-- a run from a leap's place -/
theorem iter_run (mask i q : Nat) : ∀ k, k ≤ runEnd mask i - i → iter mask (at0 mask i q) k = { j := i + k, more := runEnd mask i - i - k, i := i, perturb := q, dummy := none }
  | 0, _ => rfl
  | k + 1, h => by
    show adv mask (iter mask (at0 mask i q) k) = _
    rw [iter_run mask i q k (by omega)]
    unfold adv
    rw [if_pos (show runEnd mask i - i - k > 0 by omega)]
    simp only [Probe.mk.injEq, and_true, true_and]
    omega
theorem iter_leap (mask i q : Nat) : iter mask (at0 mask i q) (runEnd mask i - i + 1) = at0 mask (leap mask i q).1 (leap mask i q).2 := by
  show adv mask (iter mask (at0 mask i q) (runEnd mask i - i)) = _
  rw [iter_run mask i q _ (Nat.le_refl _)]
  unfold adv
  rw [if_neg (by simp)]
  rfl
def leaps (mask i q : Nat) : Nat → Nat × Nat
  | 0 => (i, q)
  | n + 1 => leap mask (leaps mask i q n).1 (leaps mask i q n).2
theorem runEnd_le (mask i : Nat) : runEnd mask i - i ≤ 9 := by unfold runEnd; split <;> omega
theorem iter_leaps (mask i q : Nat) : ∀ n, ∃ k, k ≤ 10 * n ∧ n ≤ k ∧ iter mask (at0 mask i q) k = at0 mask (leaps mask i q n).1 (leaps mask i q n).2
  | 0 => ⟨0, by omega, by omega, rfl⟩
  | n + 1 => by
    obtain ⟨k, h1, h3, h2⟩ := iter_leaps mask i q n
    have := runEnd_le mask (leaps mask i q n).1
    refine ⟨k + (runEnd mask (leaps mask i q n).1 - (leaps mask i q n).1 + 1), by omega, by omega, ?_⟩
    rw [iter_add, h2, iter_leap]; rfl
theorem leaps_q (mask i q : Nat) : ∀ n, (leaps mask i q n).2 = q / 32 ^ n
  | 0 => by simp [leaps]
  | n + 1 => by
    show (leaps mask i q n).2 / 32 = _
    rw [leaps_q mask i q n, Nat.div_div_eq_div_mul, Nat.pow_succ]
theorem leaps_add (mask i q : Nat) (a : Nat) : ∀ b, leaps mask i q (a + b) = leaps mask (leaps mask i q a).1 (leaps mask i q a).2 b
  | 0 => rfl
  | b + 1 => by
    show leap mask (leaps mask i q (a + b)).1 (leaps mask i q (a + b)).2 = leap mask _ _
    rw [leaps_add mask i q a b]
theorem leaps_lt (mask i q : Nat) (h : i ≤ mask) : ∀ n, (leaps mask i q n).1 ≤ mask
  | 0 => h
  | n + 1 => by
    show ((leaps mask i q n).1 * 5 + 1 + (leaps mask i q n).2 / 32) % (mask + 1) ≤ mask
    have := Nat.mod_lt ((leaps mask i q n).1 * 5 + 1 + (leaps mask i q n).2 / 32) (show 0 < mask + 1 by omega)
    omega
theorem bits_lt (h : Int) : bits h < 2 ^ 64 := by
  unfold bits
  have h1 := Int.emod_nonneg h (show (2 ^ 64 : Int) ≠ 0 by decide)
  have h2 := Int.emod_lt_of_pos h (show (0 : Int) < 2 ^ 64 by decide)
  have e : ((2 : Int) ^ 64) = ((2 ^ 64 : Nat) : Int) := by norm_cast
  rw [e] at h2
  omega
def Full (mask : Nat) : Prop := ∀ i j, i ≤ mask → j ≤ mask → ∃ m, m ≤ mask ∧ (leaps mask i 0 m).1 = j
def reachB (mask i : Nat) (j : Nat) : Bool := (List.range (mask + 1)).any fun m => (leaps mask i 0 m).1 == j
theorem full_of {mask : Nat} (h : ((List.range (mask + 1)).all fun i => (List.range (mask + 1)).all fun j => reachB mask i j) = true) : Full mask := by
  intro i j hi hj
  have h1 := List.all_eq_true.mp h i (List.mem_range.mpr (by omega))
  have h2 := List.all_eq_true.mp h1 j (List.mem_range.mpr (by omega))
  obtain ⟨m, h3, h4⟩ := List.any_eq_true.mp h2
  exact ⟨m, by have := List.mem_range.mp h3; omega, by simpa using h4⟩
theorem full7 : Full 7 := full_of (by decide +kernel)
theorem full31 : Full 31 := full_of (by decide +kernel)
/-- every slot is met within the fuel, by leaps alone -/
theorem cover_leaps {mask : Nat} (hf : Full mask) (i q j : Nat) (hi : i ≤ mask) (hq : q < 2 ^ 64) (hj : j ≤ mask) : ∃ n, n ≤ mask + 13 ∧ (leaps mask i q n).1 = j := by
  have h13 : (leaps mask i q 13).2 = 0 := by
    rw [leaps_q]
    apply Nat.div_eq_of_lt
    have : (32 : Nat) ^ 13 = 2 ^ 65 := by decide +kernel
    rw [this]
    have : (2 : Nat) ^ 65 = 2 * 2 ^ 64 := by decide +kernel
    omega
  obtain ⟨m, h1, h2⟩ := hf (leaps mask i q 13).1 j (leaps_lt mask i q hi 13) hj
  refine ⟨13 + m, by omega, ?_⟩
  rw [leaps_add, h13]; exact h2
theorem cover {mask : Nat} (hf : Full mask) (h : Int) (j : Nat) (hj : j ≤ mask) : ∃ k, k < 10 * turns mask ∧ (path mask h k).j = j := by
  have hi : bits h % (mask + 1) ≤ mask := by have := Nat.mod_lt (bits h) (show 0 < mask + 1 by omega); omega
  obtain ⟨n, h1, h2⟩ := cover_leaps hf (bits h % (mask + 1)) (bits h) j hi (bits_lt h) hj
  obtain ⟨k, h3, _, h4⟩ := iter_leaps mask (bits h % (mask + 1)) (bits h) n
  refine ⟨k, by unfold turns; omega, ?_⟩
  rw [path_iter]
  show (iter mask (at0 mask (bits h % (mask + 1)) (bits h)) k).j = j
  rw [h4, h2]; rfl
theorem adv_dummy (mask : Nat) (p : Probe) : (adv mask p).dummy = p.dummy := by
  unfold adv; split <;> rfl
theorem path_dummy (mask : Nat) (h : Int) : ∀ k, (path mask h k).dummy = none
  | 0 => rfl
  | k + 1 => by show (adv mask (path mask h k)).dummy = none; rw [adv_dummy, path_dummy mask h k]
/-- all slots of a path lie in the table -/
theorem path_in (mask : Nat) (h : Int) : ∀ k, (path mask h k).j + (path mask h k).more ≤ mask ∧ (path mask h k).i ≤ mask
  | 0 => by
    have hi : bits h % (mask + 1) ≤ mask := by have := Nat.mod_lt (bits h) (show 0 < mask + 1 by omega); omega
    refine ⟨?_, hi⟩
    show bits h % (mask + 1) + (runEnd mask (bits h % (mask + 1)) - bits h % (mask + 1)) ≤ mask
    unfold runEnd; split <;> omega
  | k + 1 => by
    obtain ⟨h1, h2⟩ := path_in mask h k
    show (adv mask (path mask h k)).j + (adv mask (path mask h k)).more ≤ mask ∧ (adv mask (path mask h k)).i ≤ mask
    unfold adv
    by_cases hc : (path mask h k).more > 0
    · rw [if_pos hc]; dsimp only; omega
    · rw [if_neg hc]
      have hi : ((path mask h k).i * 5 + 1 + (path mask h k).perturb / 32) % (mask + 1) ≤ mask := by have := Nat.mod_lt ((path mask h k).i * 5 + 1 + (path mask h k).perturb / 32) (show 0 < mask + 1 by omega); omega
      refine ⟨?_, hi⟩
      show ((path mask h k).i * 5 + 1 + (path mask h k).perturb / 32) % (mask + 1) + (runEnd mask (((path mask h k).i * 5 + 1 + (path mask h k).perturb / 32) % (mask + 1)) - ((path mask h k).i * 5 + 1 + (path mask h k).perturb / 32) % (mask + 1)) ≤ mask
      generalize ((path mask h k).i * 5 + 1 + (path mask h k).perturb / 32) % (mask + 1) = x at hi
      unfold runEnd; split <;> omega
end SetM
set_option linter.all false
set_option maxRecDepth 100000
namespace SetM
open PySem PySem.SetTable
theorem hole : ∀ (n : Nat) (l : List Nat), l.length < n → ∃ j, j < n ∧ j ∉ l
  | 0, _, h => absurd h (Nat.not_lt_zero _)
  | n + 1, l, h => by
    by_cases hm : n ∈ l
    · have hl : (l.erase n).length = l.length - 1 := List.length_erase_of_mem hm
      have hp : 0 < l.length := List.length_pos_of_mem hm
      obtain ⟨j, h1, h2⟩ := hole n (l.erase n) (by omega)
      refine ⟨j, by omega, fun h3 => h2 ((List.mem_erase_of_ne (by omega)).mpr h3)⟩
    · exact ⟨n, by omega, hm⟩
theorem least {p : Nat → Prop} : ∀ (K : Nat), (∃ k, k < K ∧ p k) → ∃ k, k < K ∧ p k ∧ ∀ k', k' < k → ¬ p k'
  | 0, ⟨k, h, _⟩ => absurd h (Nat.not_lt_zero _)
  | K + 1, ⟨k, h, hp⟩ => by
    by_cases hq : ∃ k, k < K ∧ p k
    · obtain ⟨k, h1, h2, h3⟩ := least K hq
      exact ⟨k, by omega, h2, h3⟩
    · refine ⟨k, h, hp, fun k' hk' hp' => hq ⟨k', by omega, hp'⟩⟩

/-- the path of h reaches j through taken slots -/
def Reach (mask : Nat) (occ : Nat → Prop) (h : Int) (j : Nat) : Prop := ∃ k, k < 10 * turns mask ∧ (path mask h k).j = j ∧ ∀ k', k' < k → occ (path mask h k').j
theorem Reach.mono {mask : Nat} {occ occ' : Nat → Prop} {h : Int} {j : Nat} (r : Reach mask occ h j) (m : ∀ j, occ j → occ' j) : Reach mask occ' h j := by
  obtain ⟨k, h1, h2, h3⟩ := r
  exact ⟨k, h1, h2, fun k' hk' => m _ (h3 k' hk')⟩
structure TOk {α : Type} (t : SetTable) (es : List (Int × α)) (Z : List (Nat × (Int × α))) : Prop where
  hm : t.mask = 7 ∨ t.mask = 31
  dum : t.dummies = #[]
  pl : t.place.toList = Z.map (·.1)
  el : es = Z.map (·.2)
  rise : (Z.map (·.1)).Pairwise (· < ·)
  bound : ∀ z ∈ Z, z.1 ≤ t.mask
  room : Z.length ≤ t.mask
  reach : ∀ z ∈ Z, Reach t.mask (Occ t) z.2.1 z.1
section
variable {α : Type} {t : SetTable} {es : List (Int × α)} {Z : List (Nat × (Int × α))}
theorem TOk.full (T : TOk t es Z) : Full t.mask := by
  rcases T.hm with e | e <;> rw [e]
  · exact full7
  · exact full31
theorem TOk.rise' (T : TOk t es Z) : t.place.toList.Pairwise (· < ·) := by rw [T.pl]; exact T.rise
theorem TOk.occ (T : TOk t es Z) {j : Nat} : Occ t j ↔ ∃ z ∈ Z, z.1 = j := by
  unfold Occ; rw [T.pl]; simp
/-- the first empty slot on a path -/
theorem TOk.free (T : TOk t es Z) (h : Int) : ∃ k, k < 10 * turns t.mask ∧ ¬ Occ t (path t.mask h k).j ∧ ∀ k', k' < k → Occ t (path t.mask h k').j := by
  obtain ⟨j, h1, h2⟩ := hole (t.mask + 1) t.place.toList (by rw [T.pl, List.length_map]; have := T.room; omega)
  obtain ⟨k, h3, h4⟩ := cover T.full h j (by omega)
  obtain ⟨k, h5, h6, h7⟩ := least (p := fun k => ¬ Occ t (path t.mask h k).j) _ ⟨k, h3, by rw [h4]; exact h2⟩
  exact ⟨k, h5, h6, fun k' hk' => Classical.not_not.mp (h7 k' hk')⟩
theorem TOk.get (T : TOk t es Z) {i : Nat} {z : Nat × (Int × α)} (h : Z[i]? = some z) : t.place[i]? = some z.1 ∧ es[i]? = some z.2 := by
  constructor
  · have : t.place.toList[i]? = some z.1 := by rw [T.pl, List.getElem?_map, h]; rfl
    simpa using this
  · rw [T.el, List.getElem?_map, h]; rfl
theorem TOk.ix (T : TOk t es Z) {j : Nat} (h : Occ t j) : ∃ (i : Nat) (z : Nat × (Int × α)), Z[i]? = some z ∧ z.1 = j := by
  obtain ⟨z, hz, e⟩ := T.occ.mp h
  obtain ⟨i, hi⟩ := List.mem_iff_getElem?.mp hz
  exact ⟨i, z, hi, e⟩
/-- a probe walks over taken slots of other hashes -/
theorem TOk.probe_go (T : TOk t es Z) (hashAt : Nat → Int) (h : Int) : ∀ (fuel k0 k1 : Nat), k0 ≤ k1 → k1 < k0 + fuel →
    (∀ k, k0 ≤ k → k < k1 → ∃ i, t.place[i]? = some (path t.mask h k).j ∧ hashAt i ≠ h) →
    (¬ Occ t (path t.mask h k1).j → probe.go t hashAt h fuel (path t.mask h k0) = some (.empty (path t.mask h k1).j none)) ∧
    (∀ i : Nat, t.place[i]? = some (path t.mask h k1).j → hashAt i = h → probe.go t hashAt h fuel (path t.mask h k0) = some (.candidate (path t.mask h k1).j i (path t.mask h (k1 + 1))))
  | 0, k0, k1, h1, h2, _ => by omega
  | fuel + 1, k0, k1, h1, h2, hw => by
    rcases Nat.eq_or_lt_of_le h1 with e | hlt
    · subst e
      constructor
      · intro ho
        unfold probe.go
        rw [slot_empty T.dum ho]
        dsimp only
        rw [path_dummy]
      · intro i hi hh
        unfold probe.go
        rw [slot_live T.rise' hi]
        dsimp only
        rw [hh]
        simp only [beq_self_eq_true, if_true]
        rfl
    · obtain ⟨i, hi, hne⟩ := hw k0 (Nat.le_refl _) hlt
      have ih := TOk.probe_go T hashAt h fuel (k0 + 1) k1 (by omega) (by omega) fun k a b => hw k (by omega) b
      have step : probe.go t hashAt h (fuel + 1) (path t.mask h k0) = probe.go t hashAt h fuel (path t.mask h (k0 + 1)) := by
        conv => lhs; unfold probe.go
        rw [slot_live T.rise' hi]
        dsimp only
        have : (hashAt i == h) = false := by simpa using hne
        rw [this]
        simp only [Bool.false_eq_true, if_false]
        rfl
      rw [step]; exact ih

/-- an element is put into an empty slot of its path -/
theorem insertAt_list {β : Type} (xs : Array β) (p : Nat) (x : β) : (SetTable.insertAt xs p x).toList = xs.toList.take p ++ x :: xs.toList.drop p := by
  simp [SetTable.insertAt, List.extract_eq_take_drop, List.take_of_length_le]
theorem TOk.put (T : TOk t es Z) {h : Int} {x : α} {k : Nat} (hk : k < 10 * turns t.mask) (hfree : ¬ Occ t (path t.mask h k).j) (hocc : ∀ k', k' < k → Occ t (path t.mask h k').j) (room : Z.length + 1 ≤ t.mask) (pln : Bool) :
    ∃ Z', TOk { (t.put (path t.mask h k).j).1 with plain := pln } (es.take (t.put (path t.mask h k).j).2 ++ (h, x) :: es.drop (t.put (path t.mask h k).j).2) Z' ∧ Z'.length = Z.length + 1 := by
  generalize hj : (path t.mask h k).j = j at *
  have hp : (t.put j).2 = below t.place j := rfl
  have hd : (t.put j).1.dummies = #[] := by
    show (if has t.dummies j then eraseAt t.dummies (below t.dummies j) else t.dummies) = #[]
    rw [T.dum]; simp [has]
  have hpl : (t.put j).1.place.toList = t.place.toList.take (below t.place j) ++ j :: t.place.toList.drop (below t.place j) := insertAt_list _ _ _
  obtain ⟨b1, b2, b3⟩ := below_spec j T.rise'
  have hjm : j ≤ t.mask := by have := (path_in t.mask h k).1; rw [hj] at this; omega
  refine ⟨Z.take (below t.place j) ++ (j, (h, x)) :: Z.drop (below t.place j), ⟨T.hm, hd, ?_, ?_, ?_, ?_, ?_, ?_⟩, ?_⟩
  · show (t.put j).1.place.toList = _
    rw [hpl, T.pl]; simp [List.map_take, List.map_drop]
  · rw [hp, T.el]; simp [List.map_take, List.map_drop]
  · have e : (Z.take (below t.place j) ++ (j, (h, x)) :: Z.drop (below t.place j)).map (·.1) = t.place.toList.take (below t.place j) ++ j :: t.place.toList.drop (below t.place j) := by
      rw [T.pl]; simp [List.map_take, List.map_drop]
    rw [e]
    have r := T.rise'
    have r' := r
    rw [← List.take_append_drop (below t.place j) t.place.toList] at r'
    obtain ⟨r1, r2, r3⟩ := List.pairwise_append.mp r'
    refine List.pairwise_append.mpr ⟨r1, List.pairwise_cons.mpr ⟨fun y hy => ?_, r2⟩, fun y hy z hz => ?_⟩
    · obtain ⟨i, hi⟩ := List.mem_iff_getElem?.mp hy
      rw [List.getElem?_drop] at hi
      have := b2 (below t.place j + i) y (by omega) (by simpa using hi)
      have hne : y ≠ j := fun e => hfree (by rw [← e]; exact List.mem_of_getElem? hi)
      omega
    · have hyj : y < j := by
        obtain ⟨i, hi⟩ := List.mem_iff_getElem?.mp hy
        rw [List.getElem?_take] at hi
        split at hi
        · rename_i hlt
          exact b1 i y hlt (by simpa using hi)
        · cases hi
      rcases List.mem_cons.mp hz with e | hz
      · omega
      · exact r3 y hy z hz
  · intro z hz
    rcases List.mem_append.mp hz with hz | hz
    · exact T.bound z (List.mem_of_mem_take hz)
    · rcases List.mem_cons.mp hz with e | hz
      · rw [e]; exact hjm
      · exact T.bound z (List.mem_of_mem_drop hz)
  · show (Z.take (below t.place j) ++ (j, (h, x)) :: Z.drop (below t.place j)).length ≤ t.mask
    rw [List.length_append, List.length_cons, List.length_take, List.length_drop]
    omega
  · have om : ∀ i, Occ t i → Occ { (t.put j).1 with plain := pln } i := fun i hi => by
      show i ∈ (t.put j).1.place.toList
      rw [hpl]
      have hi' : i ∈ t.place.toList := hi
      rw [← List.take_append_drop (below t.place j) t.place.toList] at hi'
      rcases List.mem_append.mp hi' with q | q
      · exact List.mem_append_left _ q
      · exact List.mem_append_right _ (List.mem_cons_of_mem _ q)
    intro z hz
    have old : ∀ z ∈ Z, Reach t.mask (Occ { (t.put j).1 with plain := pln }) z.2.1 z.1 := fun z hz => (T.reach z hz).mono om
    rcases List.mem_append.mp hz with hz | hz
    · exact old z (List.mem_of_mem_take hz)
    · rcases List.mem_cons.mp hz with e | hz
      · rw [e]
        exact ⟨k, hk, hj, fun k' hk' => om _ (hocc k' hk')⟩
      · exact old z (List.mem_of_mem_drop hz)
  · rw [List.length_append, List.length_cons, List.length_take, List.length_drop]
    have : below t.place j ≤ Z.length := by
      have : t.place.size = Z.length := by have := congrArg List.length T.pl; simpa using this
      omega
    omega
theorem TOk.fresh (f m : Nat) (led : Bool) : TOk (α := α) (SetTable.fresh f m led) [] [] :=
  ⟨.inl rfl, rfl, rfl, rfl, List.Pairwise.nil, (fun _ h => nomatch h), Nat.zero_le _, (fun _ h => nomatch h)⟩
end
end SetM
set_option linter.all false
set_option maxRecDepth 100000
namespace SetM
open PySem PySem.SetTable
/-! ### a table laid anew -/
def OccO (owner : Array (Option Nat)) (j : Nat) : Prop := ∃ k, owner[j]? = some (some k)
/-- from a leap's place the free slot is the first empty one of the path -/
theorem free_path (mask : Nat) (owner : Array (Option Nat)) (hsz : owner.size = mask + 1) (h : Int) : ∀ (fuel k0 i q : Nat), path mask h k0 = at0 mask i q → i ≤ mask →
    ∀ (n : Nat), n < fuel → (∃ j, j ≤ mask ∧ (leaps mask i q n).1 = j ∧ ¬ OccO owner j) →
    ∃ k, k0 ≤ k ∧ k ≤ k0 + 10 * n + 9 ∧ layClean.free mask owner fuel i q = some (path mask h k).j ∧ ¬ OccO owner (path mask h k).j ∧ ∀ k', k0 ≤ k' → k' < k → OccO owner (path mask h k').j
  | 0, _, _, _, _, _, n, hn, _ => absurd hn (Nat.not_lt_zero _)
  | fuel + 1, k0, i, q, hp, hi, n, hn, hj => by
    have run : ∀ m, m ≤ runEnd mask i - i → (path mask h (k0 + m)).j = i + m := by
      intro m hm
      rw [path_iter, iter_add, ← path_iter, hp, iter_run mask i q m hm]
    have inb : ∀ m, m ≤ runEnd mask i - i → i + m < owner.size := by
      intro m hm
      rw [hsz]
      unfold runEnd at hm
      split at hm <;> omega
    have none_iff : ∀ m, m ≤ runEnd mask i - i → ((owner.getD (i + m) (some 0)).isNone = true ↔ ¬ OccO owner (i + m)) := by
      intro m hm
      have hb := inb m hm
      have e : owner.getD (i + m) (some 0) = owner[i + m] := by simp [Array.getD, hb]
      have e2 : owner[i + m]? = some owner[i + m] := by simp [hb]
      rw [e]
      unfold OccO
      rw [e2]
      cases owner[i + m] with
      | none => simp
      | some k => simp
    unfold layClean.free
    cases hf : (List.range (runEnd mask i + 1 - i)).find? fun k => (owner.getD (i + k) (some 0)).isNone with
    | some m =>
      have hre : i ≤ runEnd mask i := by unfold runEnd; split <;> omega
      obtain ⟨hm1, l1, l2, hl, hall⟩ := List.find?_eq_some_iff_append.mp hf
      have hmr : m ∈ List.range (runEnd mask i + 1 - i) := by rw [hl]; simp
      have hm : m ≤ runEnd mask i - i := by have := List.mem_range.mp hmr; omega
      have hr9 := runEnd_le mask i
      refine ⟨k0 + m, by omega, by omega, ?_, ?_, fun k' h1 h2 => ?_⟩
      · dsimp only; rw [run m hm]
      · rw [run m hm]; exact (none_iff m hm).mp hm1
      · obtain ⟨d, rfl⟩ : ∃ d, k' = k0 + d := ⟨k' - k0, by omega⟩
        have hd : d < m := by omega
        rw [run d (by omega)]
        have hdm : d ∈ l1 := by
          have hin : d ∈ List.range (runEnd mask i + 1 - i) := List.mem_range.mpr (by omega)
          rw [hl] at hin
          rcases List.mem_append.mp hin with h | h
          · exact h
          · -- behind m all are greater
            exfalso
            have hpw : (List.range (runEnd mask i + 1 - i)).Pairwise (· < ·) := List.pairwise_lt_range
            rw [hl] at hpw
            have hc := (List.pairwise_append.mp hpw).2.1
            rcases List.mem_cons.mp h with e | h
            · omega
            · have := (List.pairwise_cons.mp hc).1 d h; omega
        have := hall d hdm
        have hn' : ¬ ((owner.getD (i + d) (some 0)).isNone = true) := by
          intro hc; rw [hc] at this; simp at this
        exact Classical.not_not.mp fun hc => hn' ((none_iff d (by omega)).mpr hc)
    | none =>
      have hre : i ≤ runEnd mask i := by unfold runEnd; split <;> omega
      have hnone := List.find?_eq_none.mp hf
      have allocc : ∀ m, m ≤ runEnd mask i - i → OccO owner (i + m) := by
        intro m hm
        have := hnone m (List.mem_range.mpr (by omega))
        exact Classical.not_not.mp fun hc => this ((none_iff m hm).mpr hc)
      -- n is not 0
      have hn0 : n ≠ 0 := by
        intro e; subst e
        obtain ⟨j, h1, h2, h3⟩ := hj
        have : i = j := h2
        subst this
        exact h3 (by simpa using allocc 0 (Nat.zero_le _))
      obtain ⟨n', rfl⟩ : ∃ n', n = 1 + n' := ⟨n - 1, by omega⟩
      have hp' : path mask h (k0 + (runEnd mask i - i + 1)) = at0 mask (leap mask i q).1 (leap mask i q).2 := by
        rw [path_iter, iter_add, ← path_iter, hp, iter_leap]
      have hl1 : leaps mask i q 1 = leap mask i q := rfl
      have hi' : (leap mask i q).1 ≤ mask := leaps_lt mask i q hi 1
      obtain ⟨k, a1, a2, a3, a4, a5⟩ := free_path mask owner hsz h fuel (k0 + (runEnd mask i - i + 1)) (leap mask i q).1 (leap mask i q).2 hp' hi' n' (by omega) (by
        obtain ⟨j, h1, h2, h3⟩ := hj
        refine ⟨j, h1, ?_, h3⟩
        rw [leaps_add, hl1] at h2
        exact h2)
      have hr9 := runEnd_le mask i
      refine ⟨k, by omega, by omega, a3, a4, fun k' h1 h2 => ?_⟩
      rcases Nat.lt_or_ge k' (k0 + (runEnd mask i - i + 1)) with g | g
      · obtain ⟨d, rfl⟩ : ∃ d, k' = k0 + d := ⟨k' - k0, by omega⟩
        rw [run d (by omega)]
        exact allocc d (by omega)
      · exact a5 k' g h2

def liveOf (mask : Nat) (owner : Array (Option Nat)) : List (Nat × Nat) := (List.range (mask + 1)).filterMap fun j => (owner.getD j none).map (j, ·)
theorem mem_live {mask : Nat} {owner : Array (Option Nat)} {j k : Nat} : (j, k) ∈ liveOf mask owner ↔ j ≤ mask ∧ owner.getD j none = some k := by
  unfold liveOf
  rw [List.mem_filterMap]
  constructor
  · rintro ⟨a, h1, h2⟩
    cases e : owner.getD a none with
    | none => rw [e] at h2; cases h2
    | some b =>
      rw [e] at h2
      simp only [Option.map_some, Option.some.injEq, Prod.mk.injEq] at h2
      obtain ⟨rfl, rfl⟩ := h2
      exact ⟨by have := List.mem_range.mp h1; omega, e⟩
  · rintro ⟨h1, h2⟩
    exact ⟨j, List.mem_range.mpr (by omega), by rw [h2]; rfl⟩
theorem live_rise (mask : Nat) (owner : Array (Option Nat)) : ((liveOf mask owner).map (·.1)).Pairwise (· < ·) := by
  unfold liveOf
  rw [List.map_filterMap]
  have e : (fun x => Option.map (fun x : Nat × Nat => x.1) (Option.map (fun x_1 => (x, x_1)) (owner.getD x none))) = fun j => if (owner.getD j none).isSome then some j else none := by
    funext j
    cases owner.getD j none <;> rfl
  rw [e]
  have : ((List.range (mask + 1)).filterMap fun j => if (owner.getD j none).isSome then some j else none) = (List.range (mask + 1)).filter fun j => (owner.getD j none).isSome := by
    rw [← List.filterMap_eq_filter]
    rfl
  rw [this]
  exact List.pairwise_lt_range.filter _

structure OwnOk (mask : Nat) (hs : List Int) (owner : Array (Option Nat)) (n : Nat) : Prop where
  size : owner.size = mask + 1
  val : ∀ (j k : Nat), owner[j]? = some (some k) → k < n
  all : ∀ k, k < n → ∃ j : Nat, owner[j]? = some (some k)
  inj : ∀ (j j' k : Nat), owner[j]? = some (some k) → owner[j']? = some (some k) → j = j'
  reach : ∀ (j k : Nat) (h : Int), owner[j]? = some (some k) → hs[k]? = some h → Reach mask (OccO owner) h j

theorem own_step {mask : Nat} (hf : Full mask) {hs : List Int} {owner : Array (Option Nat)} {n : Nat} (O : OwnOk mask hs owner n) (hn : n ≤ mask) {h : Int} (hh : hs[n]? = some h) :
    ∃ j, layClean.free mask owner (turns mask) (bits h % (mask + 1)) (bits h) = some j ∧ OwnOk mask hs (owner.setIfInBounds j (some n)) (n + 1) := by
  -- an empty slot
  have hi : bits h % (mask + 1) ≤ mask := by have := Nat.mod_lt (bits h) (show 0 < mask + 1 by omega); omega
  have hfree : ∃ j, j < mask + 1 ∧ ¬ OccO owner j := by
    apply Classical.byContradiction
    intro hc
    have hall : ∀ j, j < mask + 1 → ∃ k, owner[j]? = some (some k) := fun j hj => Classical.not_not.mp fun h => hc ⟨j, hj, h⟩
    -- the owners' slots
    have hch : ∃ f : Nat → Nat, ∀ k, k < n → owner[f k]? = some (some k) := by
      refine ⟨fun k => if hk : k < n then Classical.choose (O.all k hk) else 0, fun k hk => ?_⟩
      simp only [hk, dif_pos]
      exact Classical.choose_spec (O.all k hk)
    obtain ⟨f, hfk⟩ := hch
    obtain ⟨j, h1, h2⟩ := hole (mask + 1) ((List.range n).map f) (by simp; omega)
    obtain ⟨k, hk⟩ := hall j h1
    have hkn := O.val j k hk
    exact h2 (List.mem_map.mpr ⟨k, List.mem_range.mpr hkn, O.inj _ _ k (hfk k hkn) hk⟩)
  obtain ⟨j0, hj0, ho⟩ := hfree
  obtain ⟨m, hm, hl⟩ := cover_leaps hf (bits h % (mask + 1)) (bits h) j0 hi (bits_lt h) (by omega)
  obtain ⟨k, a1, a2, a3, a4, a5⟩ := free_path mask owner O.size h (turns mask) 0 (bits h % (mask + 1)) (bits h) rfl hi m (by unfold turns; omega) ⟨j0, by omega, hl, ho⟩
  have hjm : (path mask h k).j ≤ mask := by have := (path_in mask h k).1; omega
  refine ⟨_, a3, ?_⟩
  generalize hj : (path mask h k).j = j at *
  have hjs : j < owner.size := by rw [O.size]; omega
  have get : ∀ i, (owner.setIfInBounds j (some n))[i]? = if i = j then some (some n) else owner[i]? := by
    intro i
    rw [Array.getElem?_setIfInBounds]
    by_cases e : j = i
    · subst e; simp [hjs]
    · rw [if_neg e, if_neg (fun q => e q.symm)]
  have om : ∀ i, OccO owner i → OccO (owner.setIfInBounds j (some n)) i := fun i ⟨q, hq⟩ => by
    unfold OccO
    rw [get]
    by_cases e : i = j
    · rw [if_pos e]; exact ⟨n, rfl⟩
    · rw [if_neg e]; exact ⟨q, hq⟩
  refine ⟨by simp [O.size], fun i q hq => ?_, fun q hq => ?_, fun i i' q h1 h2 => ?_, fun i q g h1 h2 => ?_⟩
  · rw [get] at hq
    split at hq
    · cases hq; omega
    · have := O.val i q hq; omega
  · rcases Nat.lt_or_ge q n with hlt | hge
    · obtain ⟨i, hi'⟩ := O.all q hlt
      refine ⟨i, ?_⟩
      rw [get, if_neg]
      · exact hi'
      · intro e; subst e; exact a4 ⟨q, hi'⟩
    · have : q = n := by omega
      subst this
      exact ⟨j, by rw [get, if_pos rfl]⟩
  · rw [get] at h1 h2
    split at h1
    · rename_i e1
      split at h2
      · rename_i e2; rw [e1, e2]
      · cases h1; have := O.val i' _ h2; omega
    · split at h2
      · cases h2; have := O.val i _ h1; omega
      · exact O.inj i i' q h1 h2
  · rw [get] at h1
    split at h1
    · rename_i e1
      cases h1
      rw [hh] at h2; cases h2
      subst e1
      exact ⟨k, by unfold turns; omega, hj, fun k' hk' => om _ (a5 k' (Nat.zero_le _) hk')⟩
    · exact (O.reach i q g h1 h2).mono om

theorem own_fold {mask : Nat} (hf : Full mask) (hs : List Int) (hlen : hs.length ≤ mask) : ∀ (rest : List Int) (n : Nat) (owner : Array (Option Nat)), n ≤ hs.length → hs.drop n = rest → OwnOk mask hs owner n →
    ∃ owner', (rest.foldl (init := some (owner, n)) fun acc h => do
      let (owner, k) ← acc
      let j ← layClean.free mask owner (turns mask) (bits h % (mask + 1)) (bits h)
      pure (owner.setIfInBounds j (some k), k + 1)) = some (owner', hs.length) ∧ OwnOk mask hs owner' hs.length
  | [], n, owner, hn2, hd, O => by
    have hn : hs.length ≤ n := by
      rcases Nat.lt_or_ge n hs.length with h | h
      · have := List.drop_eq_getElem_cons h; rw [hd] at this; cases this
      · exact h
    have e : n = hs.length := by omega
    subst e
    exact ⟨owner, rfl, O⟩
  | h :: rest, n, owner, hn2, hd, O => by
    have hn : n < hs.length := by
      rcases Nat.lt_or_ge n hs.length with g | g
      · exact g
      · rw [List.drop_eq_nil_of_le g] at hd; cases hd
    have hc := List.drop_eq_getElem_cons hn
    rw [hd] at hc
    injection hc with h1 h2
    obtain ⟨j, e1, O'⟩ := own_step hf O (by omega) (h := h) (by rw [h1]; simp [hn])
    obtain ⟨owner', e2, O''⟩ := own_fold hf hs hlen rest (n + 1) _ (by omega) h2.symm O'
    refine ⟨owner', ?_, O''⟩
    rw [List.foldl_cons]
    simp only [Option.bind_eq_bind, Option.bind_some, e1, Option.pure_def]
    exact e2

theorem own_start (mask : Nat) (hs : List Int) : OwnOk mask hs (Array.replicate (mask + 1) none) 0 := by
  have no : ∀ (j k : Nat), (Array.replicate (mask + 1) (none : Option Nat))[j]? ≠ some (some k) := by
    intro j k h
    rw [Array.getElem?_replicate] at h
    split at h <;> simp at h
  exact ⟨by simp, fun j k h => absurd h (no j k), fun k h => absurd h (Nat.not_lt_zero _), fun j _ k h => absurd h (no j k), fun j k _ h => absurd h (no j k)⟩
theorem layClean_ok {mask : Nat} (hf : Full mask) (hs : Array Int) (hlen : hs.size ≤ mask) : ∃ owner, layClean mask hs = some owner ∧ OwnOk mask hs.toList owner hs.size := by
  obtain ⟨owner, e, O⟩ := own_fold hf hs.toList (by simpa using hlen) hs.toList 0 _ (Nat.zero_le _) rfl (own_start mask hs.toList)
  refine ⟨owner, ?_, by simpa using O⟩
  unfold layClean
  rw [← Array.foldl_toList]
  have e' := congrArg (Option.map (·.1)) e
  exact e'
/-- the table laid anew holds the same elements -/
theorem laid_ok {α : Type} {mask : Nat} (hm : mask = 7 ∨ mask = 31) (f m : Nat) (led plain : Bool) (es : Array (Int × α)) (hlen : es.size ≤ mask) :
    ∃ t' order, laid mask f m led plain (es.map (·.1)) = some (t', order) ∧ t'.led = led ∧ t'.plain = plain ∧ t'.mask = mask ∧
      ∃ Z, TOk t' (order.filterMap (es[·]?)).toList Z ∧ List.Perm (order.filterMap (es[·]?)).toList es.toList := by
  have hf : Full mask := by rcases hm with e | e <;> rw [e]; exact full7; exact full31
  obtain ⟨owner, e, O⟩ := layClean_ok hf (es.map (·.1)) (by simpa using hlen)
  have hsz : (es.map (·.1)).size = es.size := by simp
  rw [hsz] at O
  refine ⟨{ mask, place := ((liveOf mask owner).map (·.1)).toArray, dummies := #[], finger := f, led, moves := m, plain }, ((liveOf mask owner).map (·.2)).toArray, ?_, rfl, rfl, rfl, ?_⟩
  · unfold laid
    rw [e]; rfl
  have getD : ∀ j k, owner.getD j none = some k ↔ owner[j]? = some (some k) := by
    intro j k
    by_cases hj : j < owner.size
    · simp [Array.getD, hj]
    · simp [Array.getD, hj]
  -- the owners are all places, once each
  have nd : ((liveOf mask owner).map (·.2)).Nodup := by
    have r := live_rise mask owner
    rw [List.nodup_iff_pairwise_ne, List.pairwise_map]
    rw [List.pairwise_map] at r
    refine (List.Pairwise.and_mem.mp r).imp fun {a b} ⟨ha, hb, hab⟩ hq => ?_
    obtain ⟨a1, a2⟩ := a
    obtain ⟨b1, b2⟩ := b
    have h1 := (getD _ _).mp (mem_live.mp ha).2
    have h2 := (getD _ _).mp (mem_live.mp hb).2
    have hq' : a2 = b2 := hq
    subst hq'
    have := O.inj _ _ _ h1 h2
    have hab' : a1 < b1 := hab
    omega
  have pm : List.Perm ((liveOf mask owner).map (·.2)) (List.range es.size) := by
    refine (List.perm_ext_iff_of_nodup nd List.nodup_range).mpr fun k => ?_
    rw [List.mem_range, List.mem_map]
    constructor
    · rintro ⟨⟨j, q⟩, h1, rfl⟩
      exact O.val j q ((getD _ _).mp (mem_live.mp h1).2)
    · intro hk
      obtain ⟨j, hj⟩ := O.all k hk
      have hjs : j < owner.size := by
        rcases Nat.lt_or_ge j owner.size with g | g
        · exact g
        · rw [Array.getElem?_eq_none g] at hj; cases hj
      exact ⟨(j, k), mem_live.mpr ⟨by have := O.size; omega, (getD _ _).mpr hj⟩, rfl⟩
  have rng : (List.range es.size).filterMap (fun i => es[i]?) = es.toList := by
    have aux : ∀ l : List (Int × α), (List.range l.length).filterMap (fun i => l[i]?) = l := by
      intro l
      induction l with
      | nil => simp
      | cons a t ih =>
        rw [List.length_cons, List.range_succ_eq_map, List.filterMap_cons_some (b := a) (by simp), List.filterMap_map]
        have e : ((fun i => (a :: t)[i]?) ∘ Nat.succ) = fun i => t[i]? := by funext i; simp
        rw [e, ih]
    have := aux es.toList
    simpa using this
  have eq1 : (((liveOf mask owner).map (·.2)).toArray.filterMap (es[·]?)).toList = (liveOf mask owner).filterMap (fun z => es[z.2]?) := by
    rw [Array.toList_filterMap]
    simp [List.filterMap_map, Function.comp_def]
  refine ⟨(liveOf mask owner).filterMap fun z => (es[z.2]?).map (z.1, ·), ?_, ?_⟩
  · -- every owner is an element
    have some_at : ∀ z ∈ liveOf mask owner, ∃ x, es[z.2]? = some x := fun z hz => by
      have := O.val z.1 z.2 ((getD _ _).mp (mem_live.mp hz).2)
      exact ⟨es[z.2], by simp [this]⟩
    have m1 : ∀ l : List (Nat × Nat), (∀ z ∈ l, ∃ x, es[z.2]? = some x) → (l.filterMap fun z => (es[z.2]?).map (z.1, ·)).map (·.1) = l.map (·.1) := by
      intro l
      induction l with
      | nil => intro _; rfl
      | cons z l ih =>
        intro h
        obtain ⟨x, hx⟩ := h z (by simp)
        rw [List.filterMap_cons_some (b := (z.1, x)) (by rw [hx]; rfl), List.map_cons, List.map_cons, ih fun y hy => h y (List.mem_cons_of_mem _ hy)]
    have m2 : ∀ l : List (Nat × Nat), (l.filterMap fun z => (es[z.2]?).map (z.1, ·)).map (·.2) = l.filterMap fun z => es[z.2]? := by
      intro l
      induction l with
      | nil => rfl
      | cons z l ih =>
        cases hx : es[z.2]? with
        | none => rw [List.filterMap_cons_none (by rw [hx]; rfl), List.filterMap_cons_none (f := fun z : Nat × Nat => es[z.2]?) hx, ih]
        | some x => rw [List.filterMap_cons_some (b := (z.1, x)) (by rw [hx]; rfl), List.filterMap_cons_some (f := fun z : Nat × Nat => es[z.2]?) hx, List.map_cons, ih]
    have lenL : (liveOf mask owner).length = es.size := by have := pm.length_eq; simpa using this
    refine ⟨hm, rfl, ?_, ?_, ?_, ?_, ?_, ?_⟩
    · rw [m1 _ some_at]
    · rw [eq1, m2]
    · rw [m1 _ some_at]; exact live_rise mask owner
    · intro z hz
      obtain ⟨⟨j, k⟩, h1, h2⟩ := List.mem_filterMap.mp hz
      obtain ⟨x, hx⟩ := some_at _ h1
      rw [hx] at h2
      cases h2
      exact (mem_live.mp h1).1
    · have : ((liveOf mask owner).filterMap fun z => (es[z.2]?).map (z.1, ·)).length = (liveOf mask owner).length := by
        have := congrArg List.length (m1 _ some_at); simpa using this
      rw [this, lenL]; exact hlen
    · intro z hz
      obtain ⟨⟨j, k⟩, h1, h2⟩ := List.mem_filterMap.mp hz
      obtain ⟨x, hx⟩ := some_at _ h1
      rw [hx] at h2
      cases h2
      have ho := (getD _ _).mp (mem_live.mp h1).2
      refine (O.reach j k x.1 ho (by simp [hx])).mono fun i hi => ?_
      obtain ⟨q, hq⟩ := hi
      show i ∈ (liveOf mask owner).map (·.1)
      have his : i < owner.size := by
        rcases Nat.lt_or_ge i owner.size with g | g
        · exact g
        · rw [Array.getElem?_eq_none g] at hq; cases hq
      exact List.mem_map.mpr ⟨(i, q), mem_live.mpr ⟨by have := O.size; omega, (getD _ _).mpr hq⟩, rfl⟩
  · rw [eq1]
    have h1 := pm.filterMap (fun i => es[i]?)
    rw [rng, List.filterMap_map] at h1
    exact h1
end SetM
set_option linter.all false
set_option maxRecDepth 100000
namespace SortM
open PySem PySem.W PyProof.Rows
/-- the answers of an order -/
def run {α : Type} (T : Nat → Nat → Bool) : KasT α → α
  | .ret a => a
  | .ask i j k => run T (k (T i j))
theorem run_bind {α β : Type} (T : Nat → Nat → Bool) (f : α → KasT β) : ∀ t : KasT α, run T (t.bind f) = run T (f (run T t))
  | .ret _ => rfl
  | .ask i j k => by
    show run T ((k (T i j)).bind f) = _
    rw [run_bind T f (k (T i j))]; rfl
structure Ord (n : Nat) (T : Nat → Nat → Bool) : Prop where
  irr : ∀ i, T i i = false
  tr : ∀ i j k, T i j = true → T j k = true → T i k = true
  tot : ∀ i j, i < n → j < n → i ≠ j → T i j = true ∨ T j i = true
theorem Ord.no {n : Nat} {T : Nat → Nat → Bool} (O : Ord n T) {i j : Nat} (h : T i j = true) : T j i = false := by
  cases e : T j i with
  | false => rfl
  | true => have := O.tr i j i h e; rw [O.irr] at this; cases this
structure Pm (n : Nat) (p : Array Nat) : Prop where
  size : p.size = n
  lt : ∀ i, i < n → p.getD i 0 < n
  inj : ∀ i j, i < n → j < n → p.getD i 0 = p.getD j 0 → i = j
theorem Pm.start (n : Nat) : Pm n (List.toArray (List.range n)) := by
  have g : ∀ i, i < n → (List.toArray (List.range n)).getD i 0 = i := fun i hi => by simp [Array.getD, hi]
  exact ⟨by simp, fun i hi => by rw [g i hi]; exact hi, fun i j hi hj e => by rw [g i hi, g j hj] at e; exact e⟩
def Srt (T : Nat → Nat → Bool) (p : Array Nat) (m : Nat) : Prop := ∀ a b, a < b → b < m → T (p.getD a 0) (p.getD b 0) = true
def Dsc (T : Nat → Nat → Bool) (p : Array Nat) (m : Nat) : Prop := ∀ a b, a < b → b < m → T (p.getD b 0) (p.getD a 0) = true
section
variable {n : Nat} {T : Nat → Nat → Bool} (O : Ord n T)
include O
theorem tot' {p : Array Nat} (P : Pm n p) {i j : Nat} (hi : i < n) (hj : j < n) (hij : i ≠ j) (h : ¬ T (p.getD i 0) (p.getD j 0) = true) : T (p.getD j 0) (p.getD i 0) = true :=
  (O.tot _ _ (P.lt i hi) (P.lt j hj) fun e => hij (P.inj i j hi hj e)).resolve_left h
theorem srt_more {p : Array Nat} {m : Nat} (hm : 1 ≤ m) (S : Srt T p m) (h : T (p.getD (m - 1) 0) (p.getD m 0) = true) : Srt T p (m + 1) := by
  intro a b hab hb
  rcases Nat.lt_or_ge b m with g | g
  · exact S a b hab g
  · have e : b = m := by omega
    subst e
    rcases Nat.lt_or_ge a (b - 1) with k | k
    · exact O.tr _ _ _ (S a (b - 1) k (by omega)) h
    · have : a = b - 1 := by omega
      subst this; exact h
theorem dsc_more {p : Array Nat} {m : Nat} (hm : 1 ≤ m) (S : Dsc T p m) (h : T (p.getD m 0) (p.getD (m - 1) 0) = true) : Dsc T p (m + 1) := by
  intro a b hab hb
  rcases Nat.lt_or_ge b m with g | g
  · exact S a b hab g
  · have e : b = m := by omega
    subst e
    rcases Nat.lt_or_ge a (b - 1) with k | k
    · exact O.tr _ _ _ h (S a (b - 1) k (by omega))
    · have : a = b - 1 := by omega
      subst this; exact h
theorem asc_ok {p : Array Nat} (P : Pm n p) : ∀ (f m : Nat), 1 ≤ m → m + f ≤ n → Srt T p m →
    m ≤ run T (kas_asc p f m) ∧ run T (kas_asc p f m) ≤ m + f ∧ Srt T p (run T (kas_asc p f m)) ∧ (run T (kas_asc p f m) = m + f ∨ T (p.getD (run T (kas_asc p f m)) 0) (p.getD (run T (kas_asc p f m) - 1) 0) = true)
  | 0, m, _, _, S => ⟨Nat.le_refl _, Nat.le_refl _, S, .inl rfl⟩
  | f + 1, m, h1, h2, S => by
    have e : run T (kas_asc p (f + 1) m) = run T (if T (p.getD m 0) (p.getD (m - 1) 0) = true then .ret m else kas_asc p f (m + 1)) := rfl
    rw [e]
    by_cases hc : T (p.getD m 0) (p.getD (m - 1) 0) = true
    · rw [if_pos hc]
      exact ⟨Nat.le_refl _, by show m ≤ m + (f + 1); omega, S, .inr hc⟩
    · rw [if_neg hc]
      have hS := srt_more O h1 S (tot' O P (i := m) (j := m - 1) (by omega) (by omega) (by omega) hc)
      obtain ⟨a, b, c, d⟩ := asc_ok P f (m + 1) (by omega) (by omega) hS
      refine ⟨by omega, by omega, c, ?_⟩
      rcases d with d | d
      · exact .inl (by omega)
      · exact .inr d
theorem desc_ok {p : Array Nat} (P : Pm n p) : ∀ (f m : Nat), 1 ≤ m → m + f ≤ n → Dsc T p m →
    ∃ m', run T (kas_desc f p m 0) = (p, m', 0) ∧ m ≤ m' ∧ m' ≤ m + f ∧ Dsc T p m'
  | 0, m, _, _, S => ⟨m, rfl, Nat.le_refl _, Nat.le_refl _, S⟩
  | f + 1, m, h1, h2, S => by
    have e : run T (kas_desc (f + 1) p m 0) = run T (if T (p.getD m 0) (p.getD (m - 1) 0) = true then (if 0 > 0 then kas_desc f (kas_rev p (m - (0 + 1)) m) (m + 1) 0 else kas_desc f p (m + 1) 0)
      else .ask (p.getD (m - 1) 0) (p.getD m 0) fun d => if d = true then .ret (p, m, 0) else kas_desc f p (m + 1) (0 + 1)) := rfl
    rw [e]
    by_cases hc : T (p.getD m 0) (p.getD (m - 1) 0) = true
    · rw [if_pos hc, if_neg (by omega)]
      obtain ⟨m', a, b, c, d⟩ := desc_ok P f (m + 1) (by omega) (by omega) (dsc_more O h1 S hc)
      exact ⟨m', a, by omega, by omega, d⟩
    · rw [if_neg hc]
      have hd := tot' O P (i := m) (j := m - 1) (by omega) (by omega) (by omega) hc
      refine ⟨m, ?_, Nat.le_refl _, by omega, S⟩
      show run T (if T (p.getD (m - 1) 0) (p.getD m 0) = true then .ret (p, m, 0) else kas_desc f p (m + 1) (0 + 1)) = _
      rw [if_pos hd]; rfl
end
theorem getD_rev {p : Array Nat} {m : Nat} (hm : m ≤ p.size) (k : Nat) : (kas_rev p 0 m).getD k 0 = if k < m then p.getD (m - 1 - k) 0 else p.getD k 0 := by
  have h := getElem?_mirror_all (xs := p) (i := 0) (j := m) hm k
  have e : ∀ (xs : Array Nat) (k : Nat), xs.getD k 0 = (xs[k]?).getD 0 := fun xs k => by simp [Array.getD_eq_getD_getElem?]
  rw [e]
  show ((mirror p 0 m ((m - 0) / 2))[k]?).getD 0 = _
  rw [h]
  by_cases hk : k < m
  · rw [if_pos hk, e]
    simp [hk, Nat.zero_add]
  · rw [if_neg hk, e]
    simp [hk]
def rix (m k : Nat) : Nat := if k < m then m - 1 - k else k
theorem getD_rix {p : Array Nat} {m : Nat} (hm : m ≤ p.size) (k : Nat) : (kas_rev p 0 m).getD k 0 = p.getD (rix m k) 0 := by
  rw [getD_rev hm]
  unfold rix
  by_cases h1 : k < m
  · rw [if_pos h1, if_pos h1]
  · rw [if_neg h1, if_neg h1]
theorem rix_lt {n m k : Nat} (hm : m ≤ n) (hk : k < n) : rix m k < n := by unfold rix; split <;> omega
theorem rix_inj {m i j : Nat} (e : rix m i = rix m j) : i = j := by
  unfold rix at e
  repeat' split at e
  all_goals omega
theorem pm_rev {n : Nat} {p : Array Nat} (P : Pm n p) {m : Nat} (hm : m ≤ n) : Pm n (kas_rev p 0 m) := by
  have hs : m ≤ p.size := by rw [P.size]; exact hm
  refine ⟨by rw [← P.size]; exact mirror_size _ _ _ _, fun i hi => ?_, fun i j hi hj e => ?_⟩
  · rw [getD_rix hs]; exact P.lt _ (rix_lt hm hi)
  · rw [getD_rix hs, getD_rix hs] at e
    exact rix_inj (P.inj _ _ (rix_lt hm hi) (rix_lt hm hj) e)
theorem srt_rev {n : Nat} {T : Nat → Nat → Bool} {p : Array Nat} (P : Pm n p) {m : Nat} (hm : m ≤ n) (D : Dsc T p m) : Srt T (kas_rev p 0 m) m := by
  have hs : m ≤ p.size := by rw [P.size]; exact hm
  intro a b hab hb
  rw [getD_rev hs, getD_rev hs, if_pos (by omega), if_pos hb]
  exact D (m - 1 - b) (m - 1 - a) (by omega) (by omega)
section
variable {n : Nat} {T : Nat → Nat → Bool} (O : Ord n T)
include O
theorem count_ok {p : Array Nat} (P : Pm n p) (h1 : 1 ≤ n) : ∃ m p', run T (kas_count n p) = (m, p') ∧ Pm n p' ∧ 1 ≤ m ∧ m ≤ n ∧ Srt T p' m := by
  have S1 : Srt T p 1 := fun a b hab hb => by omega
  obtain ⟨a, b, c, d⟩ := asc_ok O P (n - 1) 1 (Nat.le_refl _) (by omega) S1
  unfold kas_count
  rw [run_bind]
  generalize run T (kas_asc p (n - 1) 1) = m at a b c d
  by_cases hm : (m == n) = true
  · rw [if_pos hm]
    exact ⟨m, p, rfl, P, a, by omega, c⟩
  · rw [if_neg hm]
    have hmn : m ≠ n := by simpa using hm
    have hd : T (p.getD m 0) (p.getD (m - 1) 0) = true := by
      rcases d with d | d
      · omega
      · exact d
    by_cases h2 : m > 1
    · rw [if_pos h2]
      have h0 : T (p.getD 0 0) (p.getD (m - 1) 0) = true := c 0 (m - 1) (by omega) (by omega)
      refine ⟨m, p, ?_, P, a, by omega, c⟩
      show run T (if T (p.getD 0 0) (p.getD (m - 1) 0) = true then .ret (m, p) else kas_descPart m n (kas_rev p 0 m)) = _
      rw [if_pos h0]; rfl
    · rw [if_neg h2]
      have hm1 : m = 1 := by omega
      subst hm1
      have D2 : Dsc T p (1 + 1) := fun x y hxy hy => by
        have e1 : x = 0 := by omega
        have e2 : y = 1 := by omega
        subst e1; subst e2; exact hd
      obtain ⟨m', e, f, g, h⟩ := desc_ok O P (n - (1 + 1)) (1 + 1) (by omega) (by omega) D2
      unfold kas_descPart
      rw [run_bind, e]
      dsimp only
      rw [if_neg (by omega)]
      unfold kas_tail3
      rw [run_bind]
      have P' := pm_rev P (m := m') (by omega)
      have S' := srt_rev P (m := m') (by omega) h
      obtain ⟨a', b', c', _⟩ := asc_ok O P' (n - m') m' (by omega) (by omega) S'
      exact ⟨_, _, rfl, P', by omega, by omega, c'⟩
theorem place_ok {p : Array Nat} (P : Pm n p) {k : Nat} (hk : k < n) (S : Srt T p k) : ∀ (f l r : Nat), l ≤ r → r ≤ k → r - l ≤ f →
    (∀ a, a < l → T (p.getD a 0) (p.getD k 0) = true) → (∀ a, r ≤ a → a < k → T (p.getD k 0) (p.getD a 0) = true) →
    run T (kas_place p k f l r) ≤ k ∧ (∀ a, a < run T (kas_place p k f l r) → T (p.getD a 0) (p.getD k 0) = true) ∧ (∀ a, run T (kas_place p k f l r) ≤ a → a < k → T (p.getD k 0) (p.getD a 0) = true)
  | 0, l, r, h1, h2, h3, A, B => by
    have e : l = r := by omega
    subst e
    exact ⟨h2, A, B⟩
  | f + 1, l, r, h1, h2, h3, A, B => by
    unfold kas_place
    by_cases hc : l ≥ r
    · rw [if_pos hc]
      have e : l = r := by omega
      subst e
      exact ⟨h2, A, B⟩
    · rw [if_neg hc]
      show run T (if T (p.getD k 0) (p.getD ((l + r) / 2) 0) = true then kas_place p k f l ((l + r) / 2) else kas_place p k f ((l + r) / 2 + 1) r) ≤ k ∧ (∀ a, a < run T (if T (p.getD k 0) (p.getD ((l + r) / 2) 0) = true then kas_place p k f l ((l + r) / 2) else kas_place p k f ((l + r) / 2 + 1) r) → _) ∧ (∀ a, run T (if T (p.getD k 0) (p.getD ((l + r) / 2) 0) = true then kas_place p k f l ((l + r) / 2) else kas_place p k f ((l + r) / 2 + 1) r) ≤ a → _)
      by_cases hd : T (p.getD k 0) (p.getD ((l + r) / 2) 0) = true
      · rw [if_pos hd]
        refine place_ok P hk S f l ((l + r) / 2) (by omega) (by omega) (by omega) A fun a ha hak => ?_
        rcases Nat.lt_or_ge a r with g | g
        · rcases Nat.eq_or_lt_of_le ha with q | q
          · rw [← q]; exact hd
          · exact O.tr _ _ _ hd (S _ a q hak)
        · exact B a g hak
      · rw [if_neg hd]
        have hd' := tot' O P (i := k) (j := (l + r) / 2) hk (by omega) (by omega) hd
        refine place_ok P hk S f ((l + r) / 2 + 1) r (by omega) h2 (by omega) (fun a ha => ?_) B
        rcases Nat.lt_or_ge a ((l + r) / 2) with g | g
        · exact O.tr _ _ _ (S a _ g (by omega)) hd'
        · have : a = (l + r) / 2 := by omega
          subst this; exact hd'
end
theorem getD_bubble {p : Array Nat} {src d : Nat} (hs : src < p.size) (hd : d ≤ src) (k : Nat) : (bubble p src d).getD k 0 = if k = src - d then p.getD src 0 else if src - d < k ∧ k ≤ src then p.getD (k - 1) 0 else p.getD k 0 := by
  have h := getElem?_bubble hs d hd k
  have e : ∀ (xs : Array Nat) (k : Nat), xs.getD k 0 = (xs[k]?).getD 0 := fun xs k => by simp [Array.getD_eq_getD_getElem?]
  rw [e, h]
  by_cases h1 : k = src - d
  · rw [if_pos h1, if_pos h1, e]
  · rw [if_neg h1, if_neg h1]
    by_cases h2 : src - d < k ∧ k ≤ src
    · rw [if_pos h2, if_pos h2, e]
    · rw [if_neg h2, if_neg h2, e]
def bix (src d k : Nat) : Nat := if k = src - d then src else if src - d < k ∧ k ≤ src then k - 1 else k
theorem getD_bix {p : Array Nat} {src d : Nat} (hs : src < p.size) (hd : d ≤ src) (k : Nat) : (bubble p src d).getD k 0 = p.getD (bix src d k) 0 := by
  rw [getD_bubble hs hd]
  unfold bix
  by_cases h1 : k = src - d
  · rw [if_pos h1, if_pos h1]
  · rw [if_neg h1, if_neg h1]
    by_cases h2 : src - d < k ∧ k ≤ src
    · rw [if_pos h2, if_pos h2]
    · rw [if_neg h2, if_neg h2]
theorem bix_lt {n src d k : Nat} (hs : src < n) (hk : k < n) : bix src d k < n := by
  unfold bix; repeat' split
  all_goals omega
theorem bix_inj {src d i j : Nat} (hd : d ≤ src) (e : bix src d i = bix src d j) : i = j := by
  unfold bix at e
  repeat' split at e
  all_goals omega
theorem pm_bubble {n : Nat} {p : Array Nat} (P : Pm n p) {src d : Nat} (hs : src < n) (hd : d ≤ src) : Pm n (bubble p src d) := by
  have hs' : src < p.size := by rw [P.size]; exact hs
  refine ⟨by rw [← P.size]; exact bubble_size _ _ _, fun i hi => ?_, fun i j hi hj e => ?_⟩
  · rw [getD_bix hs' hd]; exact P.lt _ (bix_lt hs hi)
  · rw [getD_bix hs' hd, getD_bix hs' hd] at e
    exact bix_inj hd (P.inj _ _ (bix_lt hs hi) (bix_lt hs hj) e)
section
variable {n : Nat} {T : Nat → Nat → Bool} (O : Ord n T)
include O
theorem bin_ok : ∀ (f : Nat) (p : Array Nat) (k : Nat), Pm n p → 1 ≤ k → k + f = n → Srt T p k → Pm n (run T (kas_bin f p k)) ∧ Srt T (run T (kas_bin f p k)) n
  | 0, p, k, P, _, h, S => by
    have e : k = n := by omega
    subst e; exact ⟨P, S⟩
  | f + 1, p, k, P, h1, h, S => by
    unfold kas_bin
    rw [run_bind]
    obtain ⟨a, b, c⟩ := place_ok O P (k := k) (by omega) S k 0 k (Nat.zero_le _) (Nat.le_refl _) (by omega) (fun a ha => absurd ha (Nat.not_lt_zero _)) (fun a ha hk => by omega)
    generalize run T (kas_place p k k 0 k) = l at a b c
    have hs : k < p.size := by rw [P.size]; omega
    refine bin_ok f _ (k + 1) (pm_bubble P (by omega) (by omega)) (by omega) (by omega) fun x y hxy hy => ?_
    have ekl : k - (k - l) = l := by omega
    rw [getD_bubble hs (by omega), getD_bubble hs (by omega), ekl]
    by_cases hx : x = l
    · rw [if_pos hx, if_neg (by omega), if_pos ⟨by omega, by omega⟩]
      exact c (y - 1) (by omega) (by omega)
    · rw [if_neg hx]
      by_cases hy' : y = l
      · rw [if_pos hy', if_neg (by omega)]
        exact b x (by omega)
      · rw [if_neg hy']
        by_cases h2 : l < x ∧ x ≤ k
        · rw [if_pos h2, if_pos ⟨by omega, by omega⟩]
          exact S (x - 1) (y - 1) (by omega) (by omega)
        · rw [if_neg h2]
          by_cases h3 : l < y ∧ y ≤ k
          · rw [if_pos h3]
            rcases Nat.lt_or_ge x (y - 1) with g | g
            · exact S x (y - 1) g (by omega)
            · omega
          · rw [if_neg h3]; exact S x y hxy (by omega)
theorem sort_ok (h1 : 1 ≤ n) : Pm n (run T (kas_sort n)) ∧ Srt T (run T (kas_sort n)) n := by
  unfold kas_sort
  rw [run_bind]
  obtain ⟨m, p', e, P, a, b, c⟩ := count_ok O (Pm.start n) h1
  rw [e]
  dsimp only
  by_cases hm : m < n
  · rw [if_pos hm]
    have hx : max m 1 = m := by omega
    rw [hx]
    exact bin_ok O (n - m) p' m P a (by omega) c
  · rw [if_neg hm]
    have : m = n := by omega
    subst this
    exact ⟨P, c⟩
end
end SortM
set_option linter.all false
set_option maxRecDepth 100000
set_option maxHeartbeats 4000000
namespace SortM
open PySem PySem.W PyProof.Rows
def AskP {α : Type} (n : Nat) (R : α → Prop) : KasT α → Prop
  | .ret a => R a
  | .ask i j k => i < n ∧ j < n ∧ ∀ b, AskP n R (k b)
theorem AskP.bind {α β : Type} {n : Nat} {R : α → Prop} {S : β → Prop} {f : α → KasT β} : ∀ {t : KasT α}, AskP n R t → (∀ a, R a → AskP n S (f a)) → AskP n S (t.bind f)
  | .ret a, h, g => g a h
  | .ask i j k, h, g => ⟨h.1, h.2.1, fun b => AskP.bind (h.2.2 b) g⟩
def Sm (n : Nat) (p : Array Nat) : Prop := p.Perm (List.range n).toArray
theorem Sm.lt {n : Nat} {p : Array Nat} (h1 : 1 ≤ n) (P : Sm n p) (i : Nat) : p.getD i 0 < n := by
  by_cases hi : i < p.size
  · have e : p.getD i 0 = p[i] := by simp [Array.getD, hi]
    rw [e]
    have : p[i] ∈ (List.range n).toArray := P.mem_iff.mp (Array.getElem_mem hi)
    simpa using this
  · have e : p.getD i 0 = 0 := by simp [Array.getD, hi]
    rw [e]; exact h1
theorem Sm.rev {n : Nat} {p : Array Nat} (P : Sm n p) (i j : Nat) : Sm n (kas_rev p i j) := (mirror_perm _ _ _ _).trans P
section
variable {n : Nat} (h1 : 1 ≤ n)
include h1
theorem asc_ask {p : Array Nat} (P : Sm n p) : ∀ f m, AskP n (fun _ => True) (kas_asc p f m)
  | 0, _ => trivial
  | f + 1, m => ⟨P.lt h1 _, P.lt h1 _, fun b => by
    cases b with
    | true => exact trivial
    | false => exact asc_ask P f (m + 1)⟩
theorem desc_ask : ∀ f {p : Array Nat} (m q : Nat), Sm n p → AskP n (fun r : Array Nat × Nat × Nat => Sm n r.1) (kas_desc f p m q)
  | 0, _, _, _, P => P
  | f + 1, p, m, q, P => ⟨P.lt h1 _, P.lt h1 _, fun b => by
    cases b with
    | true =>
      show AskP n _ (if q > 0 then kas_desc f (kas_rev p (m - (q + 1)) m) (m + 1) 0 else kas_desc f p (m + 1) 0)
      by_cases hq : q > 0
      · rw [if_pos hq]; exact desc_ask f _ _ (P.rev _ _)
      · rw [if_neg hq]; exact desc_ask f _ _ P
    | false =>
      refine ⟨P.lt h1 _, P.lt h1 _, fun b => ?_⟩
      cases b with
      | true => exact P
      | false => exact desc_ask f _ _ P⟩
theorem tail3_ask {p : Array Nat} (m k : Nat) (P : Sm n p) : AskP n (fun r : Nat × Array Nat => Sm n r.2) (kas_tail3 m k p) :=
  (asc_ask h1 (P.rev _ _) _ _).bind fun _ _ => P.rev _ _
theorem descPart_ask {p : Array Nat} (m k : Nat) (P : Sm n p) : AskP n (fun r : Nat × Array Nat => Sm n r.2) (kas_descPart m k p) := by
  refine (desc_ask h1 _ _ _ P).bind fun r R => ?_
  by_cases hq : r.2.2 > 0
  · rw [if_pos hq]; exact tail3_ask h1 _ _ (R.rev _ _)
  · rw [if_neg hq]; exact tail3_ask h1 _ _ R
theorem count_ask {p : Array Nat} (k : Nat) (P : Sm n p) : AskP n (fun r : Nat × Array Nat => Sm n r.2) (kas_count k p) := by
  refine (asc_ask h1 P _ _).bind fun m _ => ?_
  by_cases ha : (m == k) = true
  · rw [if_pos ha]; exact P
  · rw [if_neg ha]
    by_cases hb : m > 1
    · rw [if_pos hb]
      refine ⟨P.lt h1 _, P.lt h1 _, fun b => ?_⟩
      cases b with
      | true => exact P
      | false => exact descPart_ask h1 _ _ (P.rev _ _)
    · rw [if_neg hb]; exact descPart_ask h1 _ _ P
theorem place_ask {p : Array Nat} (k : Nat) (P : Sm n p) : ∀ f l r, AskP n (fun _ => True) (kas_place p k f l r)
  | 0, _, _ => trivial
  | f + 1, l, r => by
    unfold kas_place
    by_cases h : l ≥ r
    · rw [if_pos h]; exact trivial
    · rw [if_neg h]
      refine ⟨P.lt h1 _, P.lt h1 _, fun b => ?_⟩
      cases b with
      | true => exact place_ask k P f _ _
      | false => exact place_ask k P f _ _
theorem bin_ask : ∀ f {p : Array Nat} (k : Nat), Sm n p → AskP n (Sm n) (kas_bin f p k)
  | 0, _, _, P => P
  | f + 1, _, k, P => (place_ask h1 k P _ _ _).bind fun _ _ => bin_ask f _ ((bubble_perm _ _ _).trans P)
theorem sort_ask : AskP n (Sm n) (kas_sort n) := by
  refine (count_ask h1 n (Array.Perm.refl _)).bind fun r R => ?_
  by_cases h : r.1 < n
  · rw [if_pos h]; exact bin_ask h1 _ _ R
  · rw [if_neg h]; exact R
end
theorem kasWp_run {α : Type} {n : Nat} {R : α → Prop} {T : Nat → Nat → Bool} {cmp : Nat → Nat → (Bool → Shared → Prop) → Shared → Prop} {s : Shared} (hc : ∀ i j C, i < n → j < n → C (T i j) s → cmp i j C s) {Q : α → Shared → Prop} :
    ∀ t : KasT α, AskP n R t → (R (run T t) → Q (run T t) s) → t.kasWp cmp Q s
  | .ret a, h, q => q h
  | .ask i j k, h, q => hc i j _ h.1 h.2.1 (kasWp_run hc (k (T i j)) (h.2.2 _) q)

/-! ### spots in the heap -/
open Hull
def SpotAt (h : Heap) (v : Value) (p : P) : Prop := ∃ a o t u n, v = .ref a ∧ h.get? a = some o ∧ o.cls = .type "tuple" ∧ o.data = .seq #[.int p.1 t, .int p.2 u] n
inductive Spots (h : Heap) : List Value → List P → Prop
  | nil : Spots h [] []
  | cons {v p vs ps} : SpotAt h v p → Spots h vs ps → Spots h (v :: vs) (p :: ps)
theorem Spots.length {h : Heap} {vs : List Value} {ps : List P} (S : Spots h vs ps) : vs.length = ps.length := by
  induction S with
  | nil => rfl
  | cons _ _ ih => rw [List.length_cons, List.length_cons, ih]
theorem Spots.get {h : Heap} {vs : List Value} {ps : List P} (S : Spots h vs ps) : ∀ i, i < vs.length → SpotAt h (vs.getD i .none) (ps.getD i (0, 0)) := by
  induction S with
  | nil => intro i hi; simp at hi
  | cons a _ ih =>
    intro i hi
    cases i with
    | zero => exact a
    | succ i => exact ih i (by simpa using hi)
theorem SpotAt.kept {h h' : Heap} {v : Value} {p : P} (k : ∀ a o, o.cls = .type "tuple" → h.get? a = some o → h'.get? a = some o) (S : SpotAt h v p) : SpotAt h' v p := by
  obtain ⟨a, o, t, u, n, e, ho, hc, hd⟩ := S
  exact ⟨a, o, t, u, n, e, k a o hc ho, hc, hd⟩
theorem Spots.kept {h h' : Heap} {vs : List Value} {ps : List P} (k : ∀ a o, o.cls = .type "tuple" → h.get? a = some o → h'.get? a = some o) (S : Spots h vs ps) : Spots h' vs ps := by
  induction S with
  | nil => exact .nil
  | cons a _ ih => exact .cons (a.kept k) ih
theorem Spots.firsts {h : Heap} {vs : List Value} {ps : List P} (S : Spots h vs ps) : ∃ fs, KatTups h vs fs ∧ fs.length = vs.length ∧ ∀ v ∈ fs, ∃ i t, v = .int i t := by
  induction S with
  | nil => exact ⟨[], trivial, rfl, fun _ h => nomatch h⟩
  | cons a _ ih =>
    obtain ⟨fs, k, l, q⟩ := ih
    obtain ⟨a, o, t, u, n, rfl, ho, hc, hd⟩ := a
    refine ⟨_ :: fs, KatTups.cons ho hc hd rfl k, by rw [List.length_cons, List.length_cons, l], fun v hv => ?_⟩
    rcases List.mem_cons.mp hv with rfl | hv
    · exact ⟨_, _, rfl⟩
    · exact q v hv
def ltb (p q : P) : Bool := decide (lt p q)
section
variable {prog : Program} {w : World} {A : Around} {E : Value → Shared → Prop} {s : Shared}
theorem spot_lt {x y : Value} {p q : P} {Q : Bool → Shared → Prop} (hx : SpotAt s.heap x p) (hy : SpotAt s.heap y q) (h : Q (ltb p q) s) : wpAny (model prog w) A (keyLt' (tuples' true) x y) Q E s := by
  obtain ⟨a, o, t, u, n, rfl, ho, hc, hd⟩ := hx
  obtain ⟨a', o', t', u', n', rfl, ho', hc', hd'⟩ := hy
  refine kat_lt ho hd ho' hd' (kat_cons (wpAny_eqBool_int ?_))
  refine kat_go (fun e => kat_yes (kat_cons (wpAny_eqBool_int (kat_go (fun e2 => kat_yes (kat_nil ?_)) fun e2 => kat_no ?_)))) fun e => kat_no ?_
  · have e1 : p.1 = q.1 := by simpa using e
    have e3 : p.2 = q.2 := by simpa using e2
    have : ltb p q = false := decide_eq_false (by unfold lt; omega)
    rw [this] at h
    exact h
  · have e1 : p.1 = q.1 := by simpa using e
    have e3 : p.2 ≠ q.2 := by simpa using e2
    have : ltb p q = decide (p.2 < q.2) := decide_eq_decide.mpr (by unfold lt; omega)
    rw [this] at h
    exact kat_one _ _ (PyProof.Rows.lt_int h)
  · have e1 : p.1 ≠ q.1 := by simpa using e
    have : ltb p q = decide (p.1 < q.1) := decide_eq_decide.mpr (by unfold lt; omega)
    rw [this] at h
    exact oneLt_int h
def atIx (ps : List P) (ix : List Nat) : List P := ix.map fun i => ps.getD i (0, 0)
def valIx (vs : List Value) (ix : List Nat) : List Value := ix.map fun i => vs.getD i .none
theorem ord_of {ps : List P} (hnd : ps.Nodup) : Ord ps.length fun i j => ltb (ps.getD i (0, 0)) (ps.getD j (0, 0)) := by
  refine ⟨fun i => by unfold ltb; exact decide_eq_false lt_irrefl, fun i j k h g => ?_, fun i j hi hj hij => ?_⟩
  · unfold ltb at *
    exact decide_eq_true (lt_trans (of_decide_eq_true h) (of_decide_eq_true g))
  · unfold ltb
    have ei : ps.getD i (0, 0) = ps[i] := by simp [hi]
    have ej : ps.getD j (0, 0) = ps[j] := by simp [hj]
    rw [ei, ej]
    rcases lt_tri ps[i] ps[j] with g | g | g
    · exact .inl (decide_eq_true g)
    · exact absurd ((List.getElem_inj hnd).mp g) hij
    · exact .inr (decide_eq_true g)
theorem valIx_range (vs : List Value) : valIx vs (List.range vs.length) = vs := by
  apply List.ext_getElem
  · simp [valIx]
  · intro i h1 h2
    simp [valIx, h2]
theorem list_sort_spots {a : Addr} {vs : List Value} {ps : List P} {n : Nat} {P' : PySem.Fin → Shared → Prop} (ho : s.heap.get? a = some (seqObj "list" vs.toArray n))
    (hS : Spots s.heap vs ps) (hnd : ps.Nodup) (h64 : vs.length < 64)
    (h : ∀ ix : List Nat, ix.Perm (List.range vs.length) → (atIx ps ix).Pairwise lt → P' (.done (.ret .none)) { s with heap := sortedHeap s.heap a vs (valIx vs ix).toArray }) :
    wpAny (model prog w) A (Builtin.«list.sort» ⟨[.ref a], []⟩) P' E s := by
  rw [list_sort_plain]
  have ha : a < s.heap.objs.size := Heap.lt_size ho
  refine wpAny_bind (listItems_at ho rfl ?_)
  refine wpAny_bind (listUpdate_at ho rfl ?_ (by rw [List.size_toArray, sizeLine_eq]; omega) (Nat.zero_le _))
  obtain ⟨e1, ho1⟩ : ∃ e1, (s.heap.update a (Obj.mapSeq fun _ => (#[] : Array Value))).get? a = some (seqObj "list" #[] e1) := ⟨_, get?_update_seq ho (fun _ => #[])⟩
  refine wpAny_bind (seqEpoch_at ho1 rfl ?_)
  refine wpAny_bind (wpAny_newTuple ?_ (by show vs.length ≤ _; rw [sizeLine_eq]; omega))
  refine wpAny_bind (wpAny_newList ?_ (Nat.zero_le _))
  refine wpAny_holding ?_
  have ho6 : (((s.heap.update a (Obj.mapSeq fun _ => (#[] : Array Value))).push (seqObj "tuple" vs.toArray 0)).push (seqObj "list" #[] 0)).get? a = some (seqObj "list" #[] e1) := by
    rw [Heap.get?_push_ne _ _ _ (by rw [size_push', Heap.size_update]; exact Nat.ne_of_lt (Nat.lt_succ_of_lt ha)), Heap.get?_push_ne _ _ _ (by rw [Heap.size_update]; exact Nat.ne_of_lt ha)]
    exact ho1
  have keep : ∀ b o, o.cls = .type "tuple" → s.heap.get? b = some o → (((s.heap.update a (Obj.mapSeq fun _ => (#[] : Array Value))).push (seqObj "tuple" vs.toArray 0)).push (seqObj "list" #[] 0)).get? b = some o := fun b o hc e => by
    have hne : b ≠ a := by
      rintro rfl
      rw [ho] at e; cases e
      have hc' : Value.type "list" = Value.type "tuple" := hc
      exact absurd hc' (by decide)
    refine Heap.get?_push_of_some _ (Heap.get?_push_of_some _ ?_)
    rw [Heap.get?_update_ne _ _ _ _ hne]; exact e
  have hS' := hS.kept keep
  show wpAny (model prog w) A _ P' E { s with heap := ((s.heap.update a (Obj.mapSeq fun _ => #[])).push (seqObj "tuple" vs.toArray 0)).push (seqObj "list" #[] 0) }
  dsimp only
  have hsz : vs.toArray.size = vs.length := by simp
  by_cases h2 : vs.toArray.size < 2
  · rw [if_pos h2, if_pos h2]
    refine wpAny_bind (wpAny_pure ?_)
    rw [StateT.run_pure]
    refine wpAny_bind (wpAny_pure ?_)
    dsimp only
    have hout : (arrOf (SortSt.mk' general' (vs.toArray.zip vs.toArray) #[] 7 none)).map (·.2) = (valIx vs (List.range vs.length)).toArray := by
      rw [valIx_range]
      show (vs.toArray.zip vs.toArray).map (·.2) = vs.toArray
      apply Array.ext_getElem?
      intro i
      rw [Array.getElem?_map]
      by_cases hi : i < vs.length
      · simp [hi]
      · simp [hi]
    rw [hout]
    refine wpAny_bind (seqEpoch_at ho6 rfl ?_)
    refine wpAny_bind (listUpdate_at ho6 rfl ?_ (Nat.zero_le _) (by rw [valIx_range, List.size_toArray, sizeLine_eq]; omega))
    simp only [bne_self_eq_false, Bool.false_eq_true, if_false]
    refine wpAny_pure (h (List.range vs.length) (List.Perm.refl _) ?_)
    have hp : (atIx ps (List.range vs.length)).length ≤ 1 := by unfold atIx; rw [List.length_map, List.length_range]; omega
    match atIx ps (List.range vs.length), hp with
    | [], _ => exact .nil
    | [_], _ => exact List.pairwise_singleton _ _
    | _ :: _ :: _, q => simp at q
  · rw [if_neg h2, if_neg h2]
    obtain ⟨fs, kt, lf, hf⟩ := hS'.firsts
    have hl := hS.length
    refine wpAny_bind (kat_kind (T := .type "int") kt (by omega) (fun v hv => ?_) (by rfl) ?_)
    · obtain ⟨i, t, rfl⟩ := hf v hv
      exact Looks.now
    have hb : (Value.type "int" != Value.type "tuple") = true := by decide
    rw [hb]
    refine wpAny_bind (wpAny_mono (kat_run (ks := vs) (vs := vs) (Q := fun st' s' => ∃ p : Array Nat, p.size = vs.length ∧ arrOf st' = p.map (kas_item (vs.toArray.zip vs.toArray)) ∧ failedOf st' = none ∧ s' = { s with heap := ((s.heap.update a (Obj.mapSeq fun _ => #[])).push (seqObj "tuple" vs.toArray 0)).push (seqObj "list" #[] 0) } ∧ Sm vs.length p ∧ (atIx ps p.toList).Pairwise lt)
      rfl (by omega) h64 (G := fun p s' => s' = { s with heap := ((s.heap.update a (Obj.mapSeq fun _ => #[])).push (seqObj "tuple" vs.toArray 0)).push (seqObj "list" #[] 0) } ∧ Sm vs.length p ∧ (atIx ps p.toList).Pairwise lt)
      (fun p' st' s' a1 a2 a3 a4 => ⟨p', a1, a2, a3, a4⟩) ?_) ?_ fun _ _ e => e)
    · refine kasWp_run (n := vs.length) (T := fun i j => ltb (ps.getD i (0, 0)) (ps.getD j (0, 0))) (fun i j C hi hj hC => spot_lt (hS'.get i hi) (hS'.get j hj) hC) _ (sort_ask (by omega)) fun R => ⟨rfl, R, ?_⟩
      have O := ord_of hnd
      rw [← hl] at O
      have so := (sort_ok O (by omega)).2
      have hps : (run (fun i j => ltb (ps.getD i (0, 0)) (ps.getD j (0, 0))) (kas_sort vs.length)).size = vs.length := by rw [R.size_eq]; simp
      rw [List.pairwise_iff_getElem]
      intro i j hi hj hij
      unfold atIx at hi hj ⊢
      rw [List.length_map, Array.length_toList] at hi hj
      have := so i j hij (by omega)
      have e : ∀ k (hk : k < (run (fun i j => ltb (ps.getD i (0, 0)) (ps.getD j (0, 0))) (kas_sort vs.length)).size), (run (fun i j => ltb (ps.getD i (0, 0)) (ps.getD j (0, 0))) (kas_sort vs.length)).getD k 0 = (run (fun i j => ltb (ps.getD i (0, 0)) (ps.getD j (0, 0))) (kas_sort vs.length))[k] := fun k hk => by simp only [Array.getD, hk, dif_pos]; rfl
      rw [e i hi, e j hj] at this
      rw [List.getElem_map, List.getElem_map, Array.getElem_toList, Array.getElem_toList]
      exact of_decide_eq_true this
    rintro ⟨⟨⟩, st'⟩ s' ⟨p, hp, har, hf', rfl, hsm, hpw⟩
    dsimp only
    have hout := kat_snds (ks := vs) (vs := vs) rfl har
    rw [hout]
    refine wpAny_bind (seqEpoch_at ho6 rfl ?_)
    refine wpAny_bind (listUpdate_at ho6 rfl ?_ (Nat.zero_le _) (by rw [List.size_toArray, List.length_map, Array.length_toList, hp, sizeLine_eq]; omega))
    rw [hf']
    simp only [bne_self_eq_false, Bool.false_eq_true, if_false]
    exact wpAny_pure (h p.toList (by simpa using hsm.toList) hpw)
end
end SortM
set_option linter.all false
set_option maxRecDepth 100000
set_option maxHeartbeats 4000000
namespace SetX
open PySem PySem.W PyProof.Rows Hull SortM SetM
section
variable {prog : Program} {w : World} {A : Around} {E : Value → Shared → Prop} {s : Shared}
def hashP (prog : Program) (w : World) (p : P) : Int := tupleKeyHash (intKind prog w) [p.1, p.2]
theorem tkey {h : Heap} {a : Addr} {p : P} (S : SpotAt h (.ref a) p) : IsTupleKey (intKind prog w) h [p.1, p.2] a := by
  obtain ⟨b, o, t, u, n, e, ho, hc, hd⟩ := S
  cases e
  exact ⟨o, _, n, ho, hc, hd, .cons (intKind_is _ _ _ _) (.cons (intKind_is _ _ _ _) .nil)⟩
theorem SpotAt.ref {h : Heap} {v : Value} {p : P} (S : SpotAt h v p) : ∃ a, v = .ref a := by
  obtain ⟨a, _, _, _, _, e, _⟩ := S; exact ⟨a, e⟩
theorem SpotAt.typeIs {v : Value} {p : P} (S : SpotAt s.heap v p) : s.TypeIs v "tuple" := by
  obtain ⟨a, o, _, _, _, rfl, ho, hc, _⟩ := S; exact ⟨o, ho, hc⟩
theorem spot_hash {v : Value} {p : P} {Q : Int → Shared → Prop} (hu : A.units < cLine) (S : SpotAt s.heap v p) (h : Q (hashP prog w p) { s with toks := s.toks + 3 }) : wpAny (model prog w) A (pyHash v) Q E s := by
  obtain ⟨a, rfl⟩ := SpotAt.ref S
  exact wpAny_pyHash_tuple hu (tkey S) h
theorem spot_eq {v u : Value} {p q : P} {Q : Bool → Shared → Prop} (hu : A.units < cLine) (S : SpotAt s.heap v p) (T : SpotAt s.heap u q) (h : Q (decide (p = q)) s) : wpAny (model prog w) A (eqBool v u) Q E s := by
  obtain ⟨a, rfl⟩ := SpotAt.ref S
  obtain ⟨b, rfl⟩ := SpotAt.ref T
  refine wpAny_eqBool_tuple hu (tkey S) (tkey T) ?_
  have : decide ([p.1, p.2] = [q.1, q.2]) = decide (p = q) := by
    refine decide_eq_decide.mpr ⟨fun e => ?_, fun e => by rw [e]⟩
    simp only [List.cons.injEq, and_true] at e
    exact Prod.ext e.1 e.2
  rw [this]; exact h
theorem spot_quiet {v : Value} {p : P} {Q : Bool → Shared → Prop} (S : SpotAt s.heap v p) (h : Q true s) : wpAny (model prog w) A (eqIsQuiet 8 v) Q E s := by
  obtain ⟨a, rfl⟩ := SpotAt.ref S
  exact wpAny_eqIsQuiet_tuple (tkey (prog := prog) (w := w) S) h
theorem spot_class {v : Value} {p : P} {Q : Bool → Shared → Prop} (S : SpotAt s.heap v p) (h : Q false s) : wpAny (model prog w) A (ofAClassStatement 8 v) Q E s := by
  have hT := SpotAt.typeIs S
  obtain ⟨a, o, t, u, n, rfl, ho, hc, hd⟩ := S
  unfold ofAClassStatement
  refine wpAny_bind (wpAny_typeOf hT ?_)
  dsimp only
  have e : (("tuple" : String) == "tuple") = true := by decide
  rw [if_pos e]
  refine wpAny_bind (wpAny_pure ?_)
  simp only [Bool.not_true, Bool.false_eq_true, if_false]
  refine wpAny_bind (wpAny_seqItems ho hd ?_)
  dsimp only
  refine wpAny_bind ?_
  rw [← Array.forIn_toList]
  refine wpAny_forIn_list _ (fun rest r s' => r.1 = none ∧ s' = s ∧ ∀ v ∈ rest, ∃ i t, v = .int i t) _ ?_ ?_ _ _ ⟨rfl, rfl, fun v hv => ?_⟩
  · rintro v rest r s' ⟨hr, rfl, hall⟩
    obtain ⟨i, t, rfl⟩ := hall v (.head _)
    refine wpAny_bind (wpAny_pure ?_)
    simp only [Bool.false_eq_true, if_false]
    exact wpAny_pure ⟨rfl, rfl, fun u hu' => hall u (List.mem_cons_of_mem _ hu')⟩
  · rintro ⟨r1, r2⟩ s' ⟨hr, rfl, _⟩
    simp only at hr
    subst hr
    exact wpAny_pure h
  · simp at hv
    rcases hv with rfl | rfl
    · exact ⟨_, _, rfl⟩
    · exact ⟨_, _, rfl⟩
theorem spot_byValue {v : Value} {p : P} {Q : Bool → Shared → Prop} (S : SpotAt s.heap v p) (h : Q true s) : wpAny (model prog w) A (hashByValue 8 v) Q E s := by
  have hT := SpotAt.typeIs S
  obtain ⟨a, o, t, u, n, rfl, ho, hc, hd⟩ := S
  unfold hashByValue
  refine wpAny_bind (wpAny_specialOf hT F.slot_tuple_hash.lookup ?_)
  dsimp only
  refine wpAny_bind (wpAny_seqItems ho hd ?_)
  dsimp only [Option.getD]
  refine wpAny_bind ?_
  rw [← Array.forIn_toList]
  refine wpAny_forIn_list _ (fun rest r s' => r.1 = none ∧ s' = s ∧ ∀ v ∈ rest, ∃ i t, v = .int i t) _ ?_ ?_ _ _ ⟨rfl, rfl, fun v hv => ?_⟩
  · rintro v rest r s' ⟨hr, rfl, hall⟩
    obtain ⟨i, t, rfl⟩ := hall v (.head _)
    refine wpAny_bind (wpAny_pure ?_)
    simp only [Bool.not_true, Bool.false_eq_true, if_false]
    exact wpAny_pure ⟨rfl, rfl, fun u hu' => hall u (List.mem_cons_of_mem _ hu')⟩
  · rintro ⟨r1, r2⟩ s' ⟨hr, rfl, _⟩
    simp only at hr
    subst hr
    exact wpAny_pure h
  · simp at hv
    rcases hv with rfl | rfl
    · exact ⟨_, _, rfl⟩
    · exact ⟨_, _, rfl⟩
theorem spot_unseen {v : Value} {p : P} {Q : Bool → Shared → Prop} (S : SpotAt s.heap v p) : ∀ {l : List Value}, (∀ y ∈ l, ∃ q, SpotAt s.heap y q) → Q false s → wpAny (model prog w) A (searchCouldBeSeen v l) Q E s := by
  intro l hl h
  unfold searchCouldBeSeen
  refine wpAny_bind ?_
  refine wpAny_forIn_list _ (fun rest r s' => r.1 = none ∧ s' = s ∧ ∀ v ∈ rest, ∃ q, SpotAt s.heap v q) _ ?_ ?_ _ _ ⟨rfl, rfl, hl⟩
  · rintro y rest r s' ⟨hr, rfl, hall⟩
    obtain ⟨q, T⟩ := hall y (.head _)
    obtain ⟨a, rfl⟩ := SpotAt.ref S
    obtain ⟨b, rfl⟩ := SpotAt.ref T
    dsimp only
    split
    · exact wpAny_pure ⟨rfl, rfl, fun u hu' => hall u (List.mem_cons_of_mem _ hu')⟩
    · refine wpAny_bind (spot_quiet S ?_)
      simp only [Bool.not_true, Bool.false_eq_true, if_false]
      refine wpAny_bind (spot_quiet T ?_)
      simp only [Bool.not_true, Bool.false_eq_true, if_false]
      refine wpAny_bind (spot_class S ?_)
      simp only [Bool.false_eq_true, if_false]
      refine wpAny_bind (spot_class T ?_)
      simp only [Bool.false_eq_true, if_false]
      exact wpAny_pure ⟨rfl, rfl, fun u hu' => hall u (List.mem_cons_of_mem _ hu')⟩
  · rintro ⟨r1, r2⟩ s' ⟨hr, rfl, _⟩
    simp only at hr
    subst hr
    exact wpAny_pure h
end
end SetX
set_option linter.all false
set_option maxRecDepth 100000
set_option maxHeartbeats 4000000
namespace SetX
open PySem PySem.W PyProof.Rows Hull SortM SetM
abbrev VP := Value × P
def ent (prog : Program) (w : World) (z : VP) : Int × Value := (hashP prog w z.2, z.1)
theorem perm_map_inv {α β : Type} {f : α → β} {l₁ l₂ : List β} (h : l₁.Perm l₂) : ∀ L : List α, l₂ = L.map f → ∃ L' : List α, L'.Perm L ∧ l₁ = L'.map f := by
  induction h with
  | nil =>
    intro L e
    exact ⟨L, .refl _, e⟩
  | cons x _ ih =>
    intro L e
    cases L with
    | nil => cases e
    | cons a L =>
      rw [List.map_cons] at e
      injection e with e1 e2
      obtain ⟨L', p, q⟩ := ih L e2
      exact ⟨a :: L', p.cons a, by rw [List.map_cons, e1, q]⟩
  | swap x y l =>
    intro L e
    match L, e with
    | a :: b :: L, e =>
      rw [List.map_cons, List.map_cons] at e
      injection e with e1 e2
      injection e2 with e2 e3
      exact ⟨b :: a :: L, List.Perm.swap a b L, by rw [List.map_cons, List.map_cons, e1, e2, e3]⟩
  | trans _ _ ih1 ih2 =>
    intro L e
    obtain ⟨L2, p2, q2⟩ := ih2 L e
    obtain ⟨L1, p1, q1⟩ := ih1 L2 q2
    exact ⟨L1, p1.trans p2, q1⟩
section
variable {prog : Program} {w : World} {A : Around} {E : Value → Shared → Prop} {s : Shared}
theorem search_ok {a : Addr} {o : Obj} {es : Array (Int × Value)} {ep : Nat} {t : SetTable} {Z : List (Nat × (Int × Value))} {L : List VP} {x : Value} {p : P} {Q : SetFound → Shared → Prop} {kf : Nat}
    (hu : A.units < cLine) (ho : s.heap.get? a = some o) (hd : o.data = .set es ep t) (T : TOk t es.toList Z) (he : es.toList = L.map (ent prog w)) (hL : ∀ z ∈ L, SpotAt s.heap z.1 z.2) (S : SpotAt s.heap x p)
    (k1 : kf < 10 * SetTable.turns t.mask) (k2 : ¬ Occ t (path t.mask (hashP prog w p) kf).j) (k3 : ∀ k', k' < kf → Occ t (path t.mask (hashP prog w p) k').j)
    (q1 : p ∈ L.map (·.2) → Q (.there none) s) (q2 : p ∉ L.map (·.2) → Q (.free (path t.mask (hashP prog w p) kf).j false) s) :
    ∀ (n k0 fuel : Nat) (stand : Option SetTable.Probe), kf - k0 = n → k0 ≤ kf → n < fuel → stand.getD (t.probeStart (hashP prog w p)) = path t.mask (hashP prog w p) k0 →
      (∀ k, k < k0 → ∀ (i : Nat) z l, Z[i]? = some z → z.1 = (path t.mask (hashP prog w p) k).j → L[i]? = some l → l.2 ≠ p) →
      wpAny (model prog w) A (setSearchFrom a x (hashP prog w p) true fuel stand) Q E s := by
  have hZL : Z.map (·.2) = L.map (ent prog w) := T.el.symm.trans he
  have hlen : Z.length = L.length := by have := congrArg List.length hZL; simpa using this
  have hsz : es.size = Z.length := by have := congrArg List.length T.el; simpa using this
  have hfits : t.fits es.size = true := by
    have h1 : t.place.size = Z.length := by have := congrArg List.length T.pl; simpa using this
    have h2 : t.fill = Z.length := by unfold SetTable.fill; rw [T.dum, h1]; simp
    unfold SetTable.fits
    rw [h1, hsz, h2]
    simpa using T.room
  have hodd : t.gaveWay = false := by
    unfold SetTable.gaveWay
    rcases T.hm with e | e <;> rw [e] <;> decide
  have zl : ∀ (i : Nat) (z : Nat × (Int × Value)), Z[i]? = some z → ∃ l, L[i]? = some l ∧ l ∈ L ∧ z.2 = ent prog w l := fun i z hz => by
    have hi : i < L.length := by rw [← hlen]; exact (List.getElem?_eq_some_iff.mp hz).1
    have e := congrArg (fun l => l[i]?) hZL
    simp only [List.getElem?_map, hz, List.getElem?_eq_getElem hi, Option.map_some] at e
    exact ⟨L[i], by simp [hi], List.getElem_mem hi, Option.some.inj e⟩
  intro n
  induction n using Nat.strongRecOn with
  | _ n ih =>
    intro k0 fuel stand hn hk hf hst hnp
    obtain ⟨fuel, rfl⟩ : ∃ f, fuel = f + 1 := ⟨fuel - 1, by omega⟩
    obtain ⟨m, hm1, ⟨hm2, hm3⟩, hm4⟩ := least (p := fun k => k0 ≤ k ∧ (k = kf ∨ ∃ (i : Nat) (z : Nat × (Int × Value)), Z[i]? = some z ∧ z.1 = (path t.mask (hashP prog w p) k).j ∧ z.2.1 = hashP prog w p)) (kf + 1) ⟨kf, by omega, hk, .inl rfl⟩
    have skip : ∀ k, k0 ≤ k → k < m → ∃ (i : Nat) (z : Nat × (Int × Value)), Z[i]? = some z ∧ z.1 = (path t.mask (hashP prog w p) k).j ∧ z.2.1 ≠ hashP prog w p := fun k a1 a2 => by
      obtain ⟨i, z, h1, h2⟩ := T.ix (k3 k (by omega))
      exact ⟨i, z, h1, h2, fun e => hm4 k a2 ⟨a1, .inr ⟨i, z, h1, h2, e⟩⟩⟩
    have zinj : ∀ (i i' : Nat) (z z' : Nat × (Int × Value)), Z[i]? = some z → Z[i']? = some z' → z.1 = z'.1 → i = i' := fun i i' z z' h1 h2 e => by
      have r := T.rise
      have g1 : (Z.map (·.1))[i]? = some z.1 := by rw [List.getElem?_map, h1]; rfl
      have g2 : (Z.map (·.1))[i']? = some z'.1 := by rw [List.getElem?_map, h2]; rfl
      rw [← e] at g2
      obtain ⟨b1, c1⟩ := List.getElem?_eq_some_iff.mp g1
      obtain ⟨b2, c2⟩ := List.getElem?_eq_some_iff.mp g2
      rcases Nat.lt_trichotomy i i' with g | g | g
      · have := List.pairwise_iff_getElem.mp r i i' b1 b2 g; omega
      · exact g
      · have := List.pairwise_iff_getElem.mp r i' i b2 b1 g; omega
    have hnp' : ∀ k, k < m → ∀ (i : Nat) z l, Z[i]? = some z → z.1 = (path t.mask (hashP prog w p) k).j → L[i]? = some l → l.2 ≠ p := fun k hkm i z l h1 h2 h3 => by
      rcases Nat.lt_or_ge k k0 with g | g
      · exact hnp k g i z l h1 h2 h3
      · obtain ⟨i', z', g1, g2, g3⟩ := skip k g hkm
        have := zinj i i' z z' h1 g1 (by rw [h2, g2])
        subst this
        rw [h1] at g1; cases g1
        obtain ⟨l', e1, _, e2⟩ := zl i z h1
        rw [h3] at e1; cases e1
        intro e
        apply g3
        rw [e2, ← e]; rfl
    unfold setSearchFrom
    refine wpAny_bind (wpAny_setState_of ho hd hfits ?_)
    dsimp only
    rw [hodd]
    simp only [Bool.false_eq_true, if_false]
    rw [hst]
    have hpg := T.probe_go (fun i => (es[i]?.map (·.1)).getD 0) (hashP prog w p) (10 * SetTable.turns t.mask) k0 m hm2 (by omega) (fun k a1 a2 => by
      obtain ⟨i, z, h1, h2, h3⟩ := skip k a1 a2
      refine ⟨i, by rw [← h2]; exact (T.get h1).1, ?_⟩
      have : es[i]? = some z.2 := by have := (T.get h1).2; simpa using this
      show (es[i]?.map (·.1)).getD 0 ≠ _
      rw [this]; exact h3)
    rcases Nat.lt_or_ge m kf with hmk | hmk
    · -- a candidate
      obtain ⟨i, z, h1, h2, h3⟩ := hm3.resolve_left (by omega)
      obtain ⟨l, l1, l2, l3⟩ := zl i z h1
      have hes : es[i]? = some z.2 := by have := (T.get h1).2; simpa using this
      have hpl : t.place[i]? = some (path t.mask (hashP prog w p) m).j := by rw [← h2]; exact (T.get h1).1
      have hc := hpg.2 i hpl (by show (es[i]?.map (·.1)).getD 0 = _; rw [hes]; exact h3)
      generalize hX : SetTable.probe t _ (hashP prog w p) (path t.mask (hashP prog w p) k0) = X
      obtain rfl : X = some (.candidate (path t.mask (hashP prog w p) m).j i (path t.mask (hashP prog w p) (m + 1))) := hX.symm.trans hc
      dsimp only
      by_cases hled : (!t.led) = true
      · rw [if_pos hled]
        refine wpAny_bind (spot_unseen S (fun y hy => ?_) ?_)
        · obtain ⟨e, he', rfl⟩ := List.mem_map.mp hy
          have hme : e ∈ es.toList := by
            have : e ∈ Array.filter (fun x => x.fst == hashP prog w p) es := by simpa using he'
            exact Array.mem_toList_iff.mpr (Array.mem_filter.mp this).1
          rw [he] at hme
          obtain ⟨q, hq, rfl⟩ := List.mem_map.mp hme
          exact ⟨q.2, hL q hq⟩
        simp only [Bool.false_eq_true, if_false]
        rw [hes, l3]
        dsimp only [ent]
        refine wpAny_bind (wpAny_holding (spot_eq hu (hL l l2) S ?_))
        refine wpAny_bind (wpAny_setState_of ho hd hfits ?_)
        dsimp only
        by_cases hq : l.2 = p
        · rw [decide_eq_true hq]
          simp only [Bool.and_self, if_true]
          exact wpAny_pure (q1 (List.mem_map.mpr ⟨l, l2, hq⟩))
        · rw [decide_eq_false hq]
          simp only [Bool.and_false, Bool.false_eq_true, if_false]
          have hsm : t.sameMemory t.moves t.mask = some true := by unfold SetTable.sameMemory; simp
          have hes' : es[i]? = some (ent prog w l) := by rw [hes, l3]
          obtain ⟨b, hb⟩ := SpotAt.ref (hL l l2)
          rw [hsm]
          dsimp only
          rw [if_pos rfl, slot_live T.rise' hpl]
          dsimp only
          rw [hes']
          dsimp only [ent]
          rw [hb]
          refine wpAny_bind (wpAny_isSame_ref_self ?_)
          refine wpAny_bind (wpAny_pure ?_)
          rw [if_pos rfl]
          dsimp only
          refine ih (kf - (m + 1)) (by omega) (m + 1) fuel (some (path t.mask (hashP prog w p) (m + 1))) rfl (by omega) (by omega) rfl fun k hk' => ?_
          rcases Nat.lt_or_ge k m with g | g
          · exact hnp' k g
          · have e : k = m := by omega
            subst e
            intro i' z' l' e1 e2 e3
            have := zinj i i' z z' h1 e1 (by rw [h2, e2])
            subst this
            rw [l1] at e3; cases e3
            exact hq
      · rw [if_neg hled]
        rw [hes, l3]
        dsimp only [ent]
        refine wpAny_bind (wpAny_holding (spot_eq hu (hL l l2) S ?_))
        refine wpAny_bind (wpAny_setState_of ho hd hfits ?_)
        dsimp only
        by_cases hq : l.2 = p
        · rw [decide_eq_true hq]
          simp only [Bool.and_self, if_true]
          exact wpAny_pure (q1 (List.mem_map.mpr ⟨l, l2, hq⟩))
        · rw [decide_eq_false hq]
          simp only [Bool.and_false, Bool.false_eq_true, if_false]
          have hsm : t.sameMemory t.moves t.mask = some true := by unfold SetTable.sameMemory; simp
          have hes' : es[i]? = some (ent prog w l) := by rw [hes, l3]
          obtain ⟨b, hb⟩ := SpotAt.ref (hL l l2)
          rw [hsm]
          dsimp only
          rw [if_pos rfl, slot_live T.rise' hpl]
          dsimp only
          rw [hes']
          dsimp only [ent]
          rw [hb]
          refine wpAny_bind (wpAny_isSame_ref_self ?_)
          refine wpAny_bind (wpAny_pure ?_)
          rw [if_pos rfl]
          dsimp only
          refine ih (kf - (m + 1)) (by omega) (m + 1) fuel (some (path t.mask (hashP prog w p) (m + 1))) rfl (by omega) (by omega) rfl fun k hk' => ?_
          rcases Nat.lt_or_ge k m with g | g
          · exact hnp' k g
          · have e : k = m := by omega
            subst e
            intro i' z' l' e1 e2 e3
            have := zinj i i' z z' h1 e1 (by rw [h2, e2])
            subst this
            rw [l1] at e3; cases e3
            exact hq
    · have e : m = kf := by omega
      subst e
      have hc := hpg.1 k2
      generalize hX : SetTable.probe t _ (hashP prog w p) (path t.mask (hashP prog w p) k0) = X
      obtain rfl : X = some (.empty (path t.mask (hashP prog w p) m).j none) := hX.symm.trans hc
      dsimp only
      refine wpAny_pure (q2 fun hm => ?_)
      obtain ⟨l, hl, rfl⟩ := List.mem_map.mp hm
      obtain ⟨i, hi⟩ := List.mem_iff_getElem?.mp hl
      have hiZ : i < Z.length := by rw [hlen]; exact (List.getElem?_eq_some_iff.mp hi).1
      have hz : Z[i]? = some Z[i] := by simp [hiZ]
      obtain ⟨l', e1, _, e2⟩ := zl i _ hz
      rw [hi] at e1; cases e1
      obtain ⟨k, r1, r2, r3⟩ := T.reach Z[i] (List.getElem_mem hiZ)
      rw [e2] at r2 r3
      have hocc : Occ t (path t.mask (hashP prog w l.2) k).j := T.occ.mpr ⟨Z[i], List.getElem_mem hiZ, r2.symm⟩
      rcases Nat.lt_trichotomy k m with g | g | g
      · exact hnp' k g i _ l hz r2.symm hi rfl
      · subst g; exact k2 hocc
      · exact k2 (r3 m g)
end
end SetX
set_option linter.all false
set_option maxRecDepth 100000
set_option maxHeartbeats 4000000
namespace SetX
open PySem PySem.W PyProof.Rows Hull SortM SetM
def led (w : World) : Bool := !(w.params.followText "set-order")
def setObj (es : Array (Int × Value)) (ep : Nat) (t : SetTable) : Obj := { cls := .type "set", dict := none, data := .set es ep t }
structure SBody (prog : Program) (w : World) (h : Heap) (es : Array (Int × Value)) (t : SetTable) (L : List VP) : Prop where
  el : es.toList = L.map (ent prog w)
  tok : ∃ Z, TOk t es.toList Z
  pln : t.plain = true
  ld : t.led = led w
  sp : ∀ z ∈ L, SpotAt h z.1 z.2
  nd : (L.map (·.2)).Nodup
  few : t.mask = 7 → L.length ≤ 4
def SSet (prog : Program) (w : World) (h : Heap) (a : Addr) (L : List VP) : Prop := ∃ es ep t, h.get? a = some (setObj es ep t) ∧ SBody prog w h es t L
section
variable {prog : Program} {w : World} {A : Around} {E : Value → Shared → Prop} {s : Shared}
theorem SBody.size {h : Heap} {es : Array (Int × Value)} {t : SetTable} {L : List VP} (B : SBody prog w h es t L) : es.size = L.length := by
  have := congrArg List.length B.el; simpa using this
theorem SBody.fill {h : Heap} {es : Array (Int × Value)} {t : SetTable} {L : List VP} (B : SBody prog w h es t L) : t.fill = L.length ∧ t.place.size = L.length := by
  obtain ⟨Z, T⟩ := B.tok
  have h1 : t.place.size = Z.length := by have := congrArg List.length T.pl; simpa using this
  have h3 : es.size = Z.length := by have := congrArg List.length T.el; simpa using this
  have h2 : t.fill = Z.length := by unfold SetTable.fill; rw [T.dum, h1]; simp
  rw [← B.size, h2, h1, h3]; exact ⟨rfl, rfl⟩
theorem SBody.fits {h : Heap} {es : Array (Int × Value)} {t : SetTable} {L : List VP} (B : SBody prog w h es t L) : t.fits es.size = true := by
  obtain ⟨Z, T⟩ := B.tok
  have h3 : es.size = Z.length := by have := congrArg List.length T.el; simpa using this
  obtain ⟨f1, f2⟩ := B.fill
  have := T.room
  unfold SetTable.fits
  rw [f1, f2, B.size]
  rw [B.size] at h3
  simp; omega
theorem SBody.kept {h h' : Heap} {es : Array (Int × Value)} {t : SetTable} {L : List VP} (k : ∀ a o, o.cls = .type "tuple" → h.get? a = some o → h'.get? a = some o) (B : SBody prog w h es t L) : SBody prog w h' es t L :=
  ⟨B.el, B.tok, B.pln, B.ld, fun z hz => (B.sp z hz).kept k, B.nd, B.few⟩
theorem SSet.kept {h h' : Heap} {a : Addr} {L : List VP} (k : ∀ b o, (o.cls = .type "tuple" ∨ b = a) → h.get? b = some o → h'.get? b = some o) (S : SSet prog w h a L) : SSet prog w h' a L := by
  obtain ⟨es, ep, t, ho, B⟩ := S
  exact ⟨es, ep, t, k a _ (.inr rfl) ho, B.kept fun b o hc e => k b o (.inl hc) e⟩
theorem setObj_tuple {h : Heap} {a b : Addr} {es : Array (Int × Value)} {ep : Nat} {t : SetTable} {o : Obj} (ho : h.get? a = some (setObj es ep t)) (hc : o.cls = .type "tuple") (hb : h.get? b = some o) : b ≠ a := by
  rintro rfl
  rw [ho] at hb; cases hb
  have hc' : Value.type "set" = Value.type "tuple" := hc
  exact absurd hc' (by decide)
theorem stored {h : Heap} {a : Addr} {es : Array (Int × Value)} {ep : Nat} {t : SetTable} (ho : h.get? a = some (setObj es ep t)) (es' : Array (Int × Value)) (t' : SetTable) :
    (h.update a (Obj.putSet es' t')).get? a = some (setObj es' (ep + 1) t') := by
  have := Heap.get?_update_self (Obj.putSet es' t') ho (by rw [putSet_of es' t' rfl]; rfl)
  rw [putSet_of es' t' rfl] at this; exact this
theorem relay_ok {a : Addr} {es : Array (Int × Value)} {ep : Nat} {t : SetTable} {L : List VP} {n : Nat} {Q : Unit → Shared → Prop} (ho : s.heap.get? a = some (setObj es ep t)) (hf : t.fits es.size = true)
    (el : es.toList = L.map (ent prog w)) (hs : SetTable.sizeAbove n = 32) (hl : L.length ≤ 31) (pln : t.plain = true) (ld : t.led = led w) (sp : ∀ z ∈ L, SpotAt s.heap z.1 z.2) (nd : (L.map (·.2)).Nodup)
    (q : ∀ h' L', Heap.SameBut a s.heap h' → SSet prog w h' a L' → L'.Perm L → Q () { s with heap := h' }) :
    wpAny (model prog w) A (setRelay a n) Q E s := by
  have hsz : es.size = L.length := by have := congrArg List.length el; simpa using this
  obtain ⟨t', order, e1, e2, e3, e4, Z, T, pm⟩ := laid_ok (mask := 31) (.inr rfl) t.finger (t.movedTo 31) t.led t.plain es (by omega)
  obtain ⟨L', p1, p2⟩ := perm_map_inv pm L el
  have hs2 : (order.filterMap (es[·]?)).size = es.size := by rw [← Array.length_toList, pm.length_eq, Array.length_toList]
  unfold setRelay
  refine wpAny_bind (wpAny_setState_of ho rfl hf ?_)
  dsimp only
  rw [hs]
  rw [if_neg (by rw [sizeLine_eq]; omega)]
  have hr : t.relaid (es.map (·.1)) n = some (t', order) := by unfold SetTable.relaid; rw [hs]; exact e1
  rw [hr]
  refine wpAny_bind ?_
  show wpAny _ _ (@ite _ _ _ _ _) _ _ _
  rw [if_neg (by rw [hs2]; simp)]
  refine wpAny_pure ?_
  dsimp only
  refine wpAny_storeSet_of ho rfl ?_ (by rw [hs2, hsz, sizeLine_eq]; omega)
  have sb := Heap.SameBut.update s.heap a (Obj.putSet (order.filterMap (es[·]?)) t')
  refine q _ L' sb ⟨_, _, t', stored ho _ _, ?_⟩ p1
  refine ⟨p2, ⟨Z, T⟩, by rw [e3]; exact pln, by rw [e2]; exact ld, fun z hz => ?_, (p1.map _).nodup_iff.mpr nd, fun e => by rw [e4] at e; cases e⟩
  exact (sp z (p1.mem_iff.mp hz)).kept fun b o hc e => (sb.2 b (setObj_tuple ho hc e)).trans e
theorem add_ok {a : Addr} {L : List VP} {x : Value} {p : P} {Q : Bool → Shared → Prop} (hu : A.units < cLine) (h : SSet prog w s.heap a L) (S : SpotAt s.heap x p) (hn : L.length < 12)
    (q : ∀ b h' L', Heap.SameBut a s.heap h' → SSet prog w h' a L' → (∀ r, r ∈ L'.map (·.2) ↔ r ∈ L.map (·.2) ∨ r = p) → L'.length ≤ L.length + 1 → (∀ z ∈ L', z ∈ L ∨ z = (x, p)) → Q b { s with heap := h' }) :
    wpAny (model prog w) A (setAddHashed a x (hashP prog w p)) Q E s := by
  obtain ⟨es, ep, t, ho, B⟩ := h
  obtain ⟨Z, T⟩ := B.tok
  have hf := B.fits
  have hsz := B.size
  have hZ : Z.length = L.length := by have := congrArg List.length T.el; rw [Array.length_toList, List.length_map, hsz] at this; exact this.symm
  obtain ⟨kf, k1, k2, k3⟩ := T.free (hashP prog w p)
  have hb : byScan x es = false := by
    obtain ⟨b, rfl⟩ := SpotAt.ref S
    simp [byScan, Value.scannable]
  unfold setAddHashed setAddHashedIn
  refine wpAny_holding ?_
  refine wpAny_bind (wpAny_setState_of ho rfl hf ?_)
  dsimp only
  rw [hb]
  simp only [Bool.false_eq_true, if_false]
  unfold setSearch
  refine wpAny_bind (search_ok hu ho rfl T B.el B.sp S k1 k2 k3 (fun hm => ?_) (fun hm => ?_) kf 0 100000 none rfl (Nat.zero_le _) ?_ rfl fun k hk => absurd hk (Nat.not_lt_zero _))
  · refine wpAny_pure (q _ s.heap L (Heap.SameBut.refl a s.heap) ⟨es, ep, t, ho, B⟩ (fun r => ⟨.inl, fun e => e.elim id fun e => e ▸ hm⟩) (Nat.le_succ _) fun z hz => .inl hz)
  · dsimp only
    refine wpAny_bind (wpAny_setState_of ho rfl hf ?_)
    dsimp only
    obtain ⟨Z', T', hZ'⟩ := T.put (x := x) k1 k2 k3 (by rcases T.hm with e | e; (have := B.few e; omega); omega) true
    generalize (path t.mask (hashP prog w p) kf).j = j at *
    have hpl : (t.put j).1.plain = true := B.pln
    have heta : ({ (t.put j).1 with plain := true } : SetTable) = (t.put j).1 := by
      have : (t.put j).1.plain = true := B.pln
      generalize (t.put j).1 = u at *
      cases u; simp_all
    rw [heta] at T'
    have hins := insertAt_list es (t.put j).2 (hashP prog w p, x)
    rw [hpl]
    simp only [if_true]
    refine wpAny_bind (spot_byValue S ?_)
    simp only [if_true]
    generalize hL1 : L.take (t.put j).2 ++ (x, p) :: L.drop (t.put j).2 = L1
    have hel : (SetTable.insertAt es (t.put j).2 (hashP prog w p, x)).toList = L1.map (ent prog w) := by
      rw [hins, B.el, ← hL1]; simp [List.map_take, List.map_drop, ent]
    have hpm : L1.Perm ((x, p) :: L) := by
      rw [← hL1]
      refine List.perm_middle.trans ?_
      rw [List.take_append_drop]
    have hl1 : L1.length = L.length + 1 := by rw [hpm.length_eq]; rfl
    have hz1 : (SetTable.insertAt es (t.put j).2 (hashP prog w p, x)).size = L.length + 1 := by rw [← Array.length_toList, hel, List.length_map, hl1]
    refine wpAny_bind (wpAny_storeSet_of ho rfl ?_ (by rw [hz1, sizeLine_eq]; omega))
    have sb := Heap.SameBut.update s.heap a (Obj.putSet (SetTable.insertAt es (t.put j).2 (hashP prog w p, x)) (t.put j).1)
    have ho1 := stored ho (SetTable.insertAt es (t.put j).2 (hashP prog w p, x)) (t.put j).1
    have kp : ∀ b o, o.cls = .type "tuple" → s.heap.get? b = some o → (s.heap.update a (Obj.putSet (SetTable.insertAt es (t.put j).2 (hashP prog w p, x)) (t.put j).1)).get? b = some o := fun b o hc e => (sb.2 b (setObj_tuple ho hc e)).trans e
    have hsp : ∀ z ∈ L1, SpotAt (s.heap.update a (Obj.putSet (SetTable.insertAt es (t.put j).2 (hashP prog w p, x)) (t.put j).1)) z.1 z.2 := fun z hz => by
      rcases List.mem_cons.mp (hpm.mem_iff.mp hz) with rfl | hz
      · exact S.kept kp
      · exact (B.sp z hz).kept kp
    have hnd : (L1.map (·.2)).Nodup := by
      rw [(hpm.map _).nodup_iff]
      exact List.nodup_cons.mpr ⟨hm, B.nd⟩
    have hmem : ∀ L2 : List VP, L2.Perm L1 → ∀ r, r ∈ L2.map (·.2) ↔ r ∈ L.map (·.2) ∨ r = p := fun L2 p2 r => by
      rw [((p2.trans hpm).map (·.2)).mem_iff, List.map_cons, List.mem_cons]
      exact Or.comm
    have hent : ∀ L2 : List VP, L2.Perm L1 → ∀ z ∈ L2, z ∈ L ∨ z = (x, p) := fun L2 p2 z hz => by
      rcases List.mem_cons.mp ((p2.trans hpm).mem_iff.mp hz) with e | e
      · exact .inr e
      · exact .inl e
    have hfill : (t.put j).1.fill = L.length + 1 := by
      have h1 : (t.put j).1.place.size = Z'.length := by have := congrArg List.length T'.pl; simpa using this
      unfold SetTable.fill; rw [T'.dum, h1, hZ', hZ]; simp
    have hmask : (t.put j).1.mask = t.mask := rfl
    have hfit1 : (t.put j).1.fits (SetTable.insertAt es (t.put j).2 (hashP prog w p, x)).size = true := by
      have h1 : (t.put j).1.place.size = Z'.length := by have := congrArg List.length T'.pl; simpa using this
      unfold SetTable.fits
      rw [hz1, h1, hfill, hZ', hZ]
      have := T'.room
      simp; omega
    by_cases hfull : (!false && (t.put j).1.tooFull) = true
    · rw [if_pos hfull]
      have h35 : (t.put j).1.fill * 5 ≥ (t.put j).1.mask * 3 := by
        have : (t.put j).1.tooFull = true := by simpa using hfull
        unfold SetTable.tooFull at this
        exact of_decide_eq_true this
      rw [hfill, hmask] at h35
      have h7 : L.length = 4 := by
        rcases T.hm with e | e
        · have := B.few e; omega
        · omega
      refine wpAny_bind (relay_ok (s := { s with heap := s.heap.update a (Obj.putSet (SetTable.insertAt es (t.put j).2 (hashP prog w p, x)) (t.put j).1) }) ho1 hfit1 hel (by rw [hsz, h7]; decide) (by omega) hpl B.ld hsp hnd fun h' L2 sb2 S2 p2 => ?_)
      exact wpAny_pure (q _ h' L2 (sb.trans sb2) S2 (hmem L2 p2) (by rw [p2.length_eq, hl1]; exact Nat.le_refl _) (hent L2 p2))
    · rw [if_neg hfull]
      refine wpAny_pure (q _ _ L1 sb ⟨_, _, _, ho1, ⟨hel, ⟨Z', ?_⟩, hpl, B.ld, hsp, hnd, fun e => ?_⟩⟩ (hmem L1 (.refl _)) (Nat.le_of_eq hl1) (hent L1 (.refl _)))
      · rw [hins]; exact T'
      · have : (t.put j).1.tooFull = false := by simpa using hfull
        unfold SetTable.tooFull at this
        have := of_decide_eq_false this
        rw [hfill] at this
        omega
  · rcases T.hm with e | e <;> rw [e] at k1 <;> unfold SetTable.turns at k1 <;> omega
end
end SetX
set_option linter.all false
set_option maxRecDepth 100000
set_option maxHeartbeats 8000000
namespace SetX
open PySem PySem.W PyProof.Rows Hull SortM SetM
section
variable {prog : Program} {w : World} {A : Around} {R : Result → Shared → Prop} {I : Addr} {fp wr : List Addr} {G : Array GenState → Array GenState → Prop} {n : Nat} {Pv : Nat → Value → Prop} {St : Nat → Shared → Prop}
theorem fill_ok (W : WalksS prog w A.in1 I fp wr G n Pv St) (S : Addr) (hSf : S ∉ fp) (hu : A.in1.units < cLine) (hn : n ≤ 12) (ps : Nat → P)
    (hw : ∀ i (s : Shared) b o, St i s → b ∈ wr → s.heap.get? b = some o → o.cls ≠ .type "tuple") :
    ∀ (k i : Nat) (s : Shared) (L : List VP), n - i = k → i ≤ n → St i s → SSet prog w s.heap S L → L.length ≤ i → (∀ j v, Pv j v → SpotAt s.heap v (ps j)) →
      (∀ s' L', Moved (S :: wr) G s s' → SSet prog w s'.heap S L' → (∀ r, r ∈ L'.map (·.2) ↔ r ∈ L.map (·.2) ∨ ∃ j, i ≤ j ∧ j < n ∧ r = ps j) → L'.length ≤ n → (∀ z ∈ L', z ∈ L ∨ ∃ j v, Pv j v ∧ z = (v, ps j)) → R (.ok (.ret .none)) s') →
      codeAny (model prog w) A (.builtin "set.update.loop" ⟨[.ref S, .ref I], []⟩) R s := by
  have hSw : S ∉ wr := fun h => hSf (W.sub _ h)
  have hsub : ∀ b ∈ wr, b ∈ S :: wr := fun b hb => List.mem_cons_of_mem _ hb
  have keepT : ∀ i (s s' : Shared), St i s → Moved wr G s s' → ∀ b o, o.cls = .type "tuple" → s.heap.get? b = some o → s'.heap.get? b = some o := fun i s s' hst hm b o hc e =>
    hm.heap b o (fun hb => hw i s b o hst hb e hc) e
  intro k
  induction k with
  | zero =>
    intro i s L hk hi hst hS hl hp hR
    have hin : i = n := by omega
    subst hin
    refine codeAny_builtin PyProof.Rows.F.entry_set_update_loop ?_
    rw [Around.under_plainId PyProof.Rows.F.plain_set_update_loop _]
    show wpAny _ A.in1 (pyNext (.ref I) >>= _) _ _ s
    refine wpAny_bind (W.done s _ _ hst fun s' hm => ?_)
    show wpAny _ A.in1 (ret Value.none) _ _ s'
    refine wpAny_pure (hR s' L (hm.mono hsub) (hS.kept fun b o hb e => ?_) (fun r => ⟨.inl, fun h => h.elim id fun ⟨j, a, b, _⟩ => by omega⟩) hl fun z hz => .inl hz)
    rcases hb with hc | rfl
    · exact keepT _ s s' hst hm b o hc e
    · exact hm.heap b o hSw e
  | succ k ih =>
    intro i s L hk hi hst hS hl hp hR
    have hlt : i < n := by omega
    refine codeAny_builtin PyProof.Rows.F.entry_set_update_loop ?_
    rw [Around.under_plainId PyProof.Rows.F.plain_set_update_loop _]
    show wpAny _ A.in1 (pyNext (.ref I) >>= _) _ _ s
    refine wpAny_bind (W.item i s _ _ hlt hst fun v s' hP hst' hm => ?_)
    have kT := keepT _ s s' hst hm
    have hS' : SSet prog w s'.heap S L := hS.kept fun b o hb e => by
      rcases hb with hc | rfl
      · exact kT b o hc e
      · exact hm.heap b o hSw e
    have hp' : ∀ j v, Pv j v → SpotAt s'.heap v (ps j) := fun j v h => (hp j v h).kept kT
    show wpAny _ A.in1 (holding [v] (setAdd S v) >>= _) _ _ s'
    refine wpAny_bind (wpAny_holding ?_)
    unfold setAdd
    refine wpAny_holding ?_
    refine wpAny_bind (spot_hash hu (hp' i v hP) ?_)
    refine add_ok (s := { s' with toks := s'.toks + 3 }) hu hS' (hp' i v hP) (by omega) fun _ h' L' sb hS2 hmem hlen hent => ?_
    obtain ⟨es, ep, t, ho, B⟩ := hS'
    have kT2 : ∀ b o, o.cls = .type "tuple" → s'.heap.get? b = some o → h'.get? b = some o := fun b o hc e => (sb.2 b (setObj_tuple ho hc e)).trans e
    refine wpAny_pure ⟨plainId_quiet PyProof.Rows.F.plain_set_update_loop _, ih (i + 1) _ L' (by omega) hlt (W.frame _ s' _ _ hst' (Nat.le_add_right _ _) fun b hb o e => ?_) hS2 (by omega) (fun j v h => (hp' j v h).kept kT2) fun s'' L'' hm'' hS'' hmem'' hl'' hent'' => ?_⟩
    · rw [sb.2 b (fun h : b = S => hSf (by rw [← h]; exact hb))]; exact e
    · refine hR s'' L'' (Moved.trans W.gtrans ((hm.mono hsub).then_heap (Nat.le_add_right _ _) fun b o hb e => ?_) hm'') hS'' (fun r => ?_) hl'' fun z hz => ?_
      · rw [sb.2 b (fun h : b = S => hb (by rw [h]; exact List.mem_cons_self))]; exact e
      · rw [hmem'' r, hmem r]
        constructor
        · rintro ((h | h) | ⟨j, a, b, c⟩)
          · exact .inl h
          · exact .inr ⟨i, Nat.le_refl _, hlt, h⟩
          · exact .inr ⟨j, by omega, b, c⟩
        · rintro (h | ⟨j, a, b, c⟩)
          · exact .inl (.inl h)
          · rcases Nat.eq_or_lt_of_le a with e | e
            · subst e; exact .inl (.inr c)
            · exact .inr ⟨j, e, b, c⟩
      · rcases hent'' z hz with g | g
        · rcases hent z g with g | g
          · exact .inl g
          · exact .inr ⟨i, v, hP, g⟩
        · exact .inr g
end
section
variable {prog : Program} {w : World} {A : Around} {E : Value → Shared → Prop} {s : Shared}
def emptySet (w : World) : Obj := { cls := .type "set", dict := none, data := .set #[] 0 (.fresh 0 0 (led w)) }
theorem set_new {a : Value} {Q₁ : Value → Shared → Prop}
    (h : Q₁ (.ref s.heap.objs.size) { s with heap := s.heap.push (emptySet w) }) :
    codeAny (model prog w) A (.call (.builtin "set.__new__") ⟨[.type "set", a], []⟩) (wants Q₁ E) s := by
  refine codeAny_of_tree ?_
  show wpAny _ A.in1 (do checkBuiltinCall "set.__new__" ⟨[.type "set", a], []⟩; again (.builtin "set.__new__" ⟨[.type "set", a], []⟩)) _ _ s
  refine wpAny_bind (wpAny_of_eq (F.newCall_set_1 a) (wpAny_pure ⟨plainId_quiet F.plain_set_new _, codeAny_builtin F.entry_set_new ?_⟩))
  rw [Around.under_plainId F.plain_set_new _]
  unfold Builtin.«set.__new__» Builtin.Frozenset.newClass
  have hsub := sub_set_self
  obtain ⟨hp, g, d, tk, os⟩ := s
  dsimp only
  wp_walk
  refine wpAny_askSetting (wpAny_pure ?_)
  dsimp only
  simp only [newObj]
  refine wpAny_bind (wpAny_alloc (wpAny_pure ?_))
  exact wpAny_pure h
end
end SetX
set_option linter.all false
set_option maxRecDepth 100000
set_option maxHeartbeats 8000000
namespace SetX
open PySem PySem.W PyProof.Rows Hull SortM SetM
section
variable {prog : Program} {w : World} {A : Around} {E : Value → Shared → Prop} {s : Shared}
theorem sset_empty (h : Heap) : SSet prog w (h.push (emptySet w)) h.objs.size [] :=
  ⟨#[], 0, _, Heap.get?_push_size _ rfl, ⟨rfl, ⟨[], TOk.fresh 0 0 (led w)⟩, rfl, rfl, (fun _ h => nomatch h), List.nodup_nil, fun _ => Nat.zero_le _⟩⟩
theorem call_set_spots {l : Addr} {items : List Value} {ps : List P} {Q : Value → Shared → Prop}
    (hh : A.handled = none) (hu : A.units + 8 < cLine) (hl : s.heap.IsList l items.toArray) (hi : Spots s.heap items ps) (hb : items.length ≤ 12)
    (h : ∀ (h' : Heap) (tk : Nat) (L : List VP), SSet prog w h' s.heap.objs.size L → (∀ r, r ∈ L.map (·.2) ↔ r ∈ ps) → L.length ≤ ps.length → (∀ z ∈ L, ∃ j, j < items.length ∧ z = (items.getD j .none, ps.getD j (0, 0))) →
      (∀ b o, b < s.heap.objs.size → s.heap.get? b = some o → h'.get? b = some o) → Q (.ref s.heap.objs.size) { s with heap := h', toks := tk }) :
    wpAny (model prog w) A (call (.type "set") [.ref l]) Q E s := by
  obtain ⟨c, tl, hmro⟩ := F.called_set.mro
  have hmade := F.called_set.made
  have hsub := F.called_set.sub
  have hlen := hi.length
  refine wpAny_call (codeAny_of_tree ?_)
  show wpAny _ _ (callAny (.type "set") _) _ _ _
  refine wpAny_pure ⟨Code.quiet_builtin _ (by decide +kernel), codeAny_builtin F.entry_type_call ?_⟩
  rw [Around.under_plain (weight_type_call_type "set" [.ref l] []) rfl]
  have h1 := F.called_set.notType
  have h2 := F.called_set.canCreate
  have hct := F.typeCall_set_1 (.ref l)
  repeat (any_goals (first | assumption | wp_step))
  refine codeAny_mono (set_new (a := .ref l) (E := E) (Q₁ := fun obj s₁ => obj = .ref s.heap.objs.size ∧ s₁ = { s with heap := s.heap.push (emptySet w) }) ⟨rfl, rfl⟩) fun r s₁ hr => ?_
  cases r with
  | error e => exact hr
  | ok fl =>
    cases fl with
    | ret obj =>
      obtain ⟨rfl, rfl⟩ := hr
      have hS : (s.heap.push (emptySet w)).get? s.heap.objs.size = some (emptySet w) := Heap.get?_push_size _ rfl
      have hT : Shared.TypeIs { s with heap := s.heap.push (emptySet w) } (.ref s.heap.objs.size) "set" := ⟨_, hS, rfl⟩
      have hli := F.called_set.init.lookup
      have hbi := F.called_set.init.bind (.ref s.heap.objs.size)
      repeat (any_goals (first | assumption | wp_step))
      refine codeAny_mono (codeAny_call_builtin (R := wants (fun r s₂ => r = .none ∧ ∃ h' tk L, s₂ = { s with heap := h', toks := tk } ∧ SSet prog w h' s.heap.objs.size L ∧ (∀ r, r ∈ L.map (·.2) ↔ r ∈ ps) ∧ L.length ≤ ps.length ∧ (∀ z ∈ L, ∃ j, j < items.length ∧ z = (items.getD j .none, ps.getD j (0, 0))) ∧
          (∀ b o, b < s.heap.objs.size → s.heap.get? b = some o → h'.get? b = some o)) E) F.called_set.init.plain F.entry_set_init (check_set_init_1 hT ?_)) fun r₂ s₂ hr₂ => ?_
      · obtain ⟨ol, hol, hcl, nl, hdl⟩ := hl
        obtain ⟨ocls, odict, odata, oslots⟩ := ol
        simp only at hcl hdl
        subst hcl; subst hdl
        have hol' : (s.heap.push (emptySet w)).get? l = some { cls := .type "list", dict := odict, data := .seq items.toArray nl, slots := oslots } := Heap.get?_push_of_some _ hol
        have hsls := F.sub_list_set
        have hslf := F.sub_list_frozenset
        have hne : (Value.type "list" == Value.type "dict") = false := by decide
        have hl1 : (s.heap.push (emptySet w)).IsList l items.toArray := ⟨_, hol', rfl, nl, rfl⟩
        unfold Builtin.«set.__init__» noKeywords Builtin.Frozenset.updateFrom
        generalize hPI : pyIter = PI
        wp_walk
        subst hPI
        refine wpAny_pyIter_list hl1 ?_
        refine wpAny_bind (wpAny_runValue ?_)
        have hlS : l < s.heap.objs.size := Heap.lt_size hol
        have hh3 : A.in1.in1.in1.handled = none := by simp [hh]
        have hneI : l ≠ (s.heap.push (emptySet w)).objs.size := by
          rw [Heap.size_push]; exact Nat.ne_of_lt (Nat.lt_succ_of_lt hlS)
        have hSf : s.heap.objs.size ∉ [(s.heap.push (emptySet w)).objs.size, l] := by
          rw [Heap.size_push]; simp only [List.mem_cons, List.mem_singleton, List.not_mem_nil, or_false, not_or]
          exact ⟨Nat.ne_of_lt (Nat.lt_succ_self _), Nat.ne_of_gt hlS⟩
        have hkp : ∀ b o, o.cls = .type "tuple" → s.heap.get? b = some o → ((s.heap.push (emptySet w)).push { cls := .type "list_iterator", data := .fields #[.ref l, .int 0 0] }).get? b = some o := fun b o _ e => Heap.get?_push_of_some _ (Heap.get?_push_of_some _ e)
        refine fill_ok ((Walks.list hh3 _ l hneI items.toArray).toS) s.heap.objs.size
          hSf (by simp only [Around.in1_units]; omega) (by simpa using hb) (fun i => ps.getD i (0, 0)) ?hw (items.toArray.size - 0) 0 _ [] (by omega) (Nat.zero_le _)
          ⟨⟨_, Heap.get?_push_size _ rfl, rfl, rfl⟩, (hl1.push _)⟩ ?hS0 (Nat.zero_le _) ?hp ?hR
        case hw =>
          rintro i s' b o ⟨⟨oi, hoi, hci, _⟩, _⟩ hb' e
          have : b = (s.heap.push (emptySet w)).objs.size := by simpa using hb'
          subst this
          rw [hoi] at e; cases e
          rw [hci]; decide
        case hS0 => exact (sset_empty s.heap).kept fun b o _ e => Heap.get?_push_of_some _ e
        case hp =>
          intro j v hv
          have hj : j < items.length := by
            have hv' : items[j]? = some v := by simpa using hv
            exact (List.getElem?_eq_some_iff.mp hv').1
          have hv' : items.getD j .none = v := by
            have hv' : items[j]? = some v := by simpa using hv
            rw [List.getD_eq_getElem?_getD, hv']; rfl
          have := hi.get j hj
          rw [hv'] at this
          exact this.kept hkp
        case hR =>
          intro s' L hm hS' hmem hlL hent
          obtain ⟨h', g', d', tk', os'⟩ := s'
          have eg : g' = s.gens := hm.gens
          have ed : d' = s.drawn := hm.drawn
          have eo : os' = s.os := hm.os
          subst eg; subst ed; subst eo
          show wpAny _ _ _ _ _ _
          refine wpAny_pure ?_
          show wpAny _ _ (ret Value.none) _ _ _
          refine wpAny_pure ⟨rfl, h', tk', L, rfl, hS', fun r => ?_, by simp at hlL; omega, fun z hz => ?_, fun b o hb e => ?_⟩
          · rw [hmem r]
            constructor
            · rintro (h | ⟨j, _, hj, rfl⟩)
              · cases h
              · have hj' : j < ps.length := by simp at hj; omega
                have : ps.getD j (0, 0) = ps[j] := by simp [hj']
                rw [this]; exact List.getElem_mem hj'
            · intro hr
              obtain ⟨j, hj, rfl⟩ := List.mem_iff_getElem.mp hr
              exact .inr ⟨j, Nat.zero_le _, by simp; omega, by simp [hj]⟩
          · rcases hent z hz with g | ⟨j, v, hv, rfl⟩
            · cases g
            · have hv' : items[j]? = some v := by simpa using hv
              exact ⟨j, (List.getElem?_eq_some_iff.mp hv').1, by rw [List.getD_eq_getElem?_getD (l := items), hv']; rfl⟩
          · have hb1 : b ≠ s.heap.objs.size := Nat.ne_of_lt hb
            have hb2 : b ≠ (s.heap.push (emptySet w)).objs.size := by
              rw [Heap.size_push]; exact Nat.ne_of_lt (Nat.lt_succ_of_lt hb)
            exact hm.heap b o (by simp only [List.mem_cons, List.mem_singleton, List.not_mem_nil, or_false, not_or]; exact ⟨hb1, hb2⟩) (Heap.get?_push_of_some _ (Heap.get?_push_of_some _ e))
      · cases r₂ with
        | error e => exact hr₂
        | ok fl₂ =>
          cases fl₂ with
          | ret r =>
            obtain ⟨rfl, h', tk, L, rfl, hS', hm', hl', he', hk'⟩ := hr₂
            repeat (any_goals (first | assumption | wp_step))
            exact h _ _ _ hS' hm' hl' he' hk'
          | _ => exact hr₂.elim
    | _ => exact hr.elim
end
end SetX
set_option linter.all false
set_option maxRecDepth 100000
set_option maxHeartbeats 8000000
namespace SetX
open PySem PySem.W PyProof.Rows Hull SortM SetM
namespace F
theorem slot_next : Slot "set_iterator" "__next__" "set_iterator.__next__" :=
  .of (owner := "set_iterator") (n := "__next__") (by rw [typeLookup_type, builtinLookup_eq_fast]; kernel_rfl) (by decide +kernel) (by decide +kernel) (by decide +kernel)
    (by first | exact .inl (by decide +kernel) | exact .inr (by decide +kernel)) (by rw [isSubtype_type]; kernel_rfl)
theorem entry_next : entryFor table "set_iterator.__next__" = some Builtin.«set_iterator.__next__» := entryFor_of_tree (by kernel_rfl)
theorem args_next (a : Value) : argsOk "set_iterator.__next__" ⟨[a], []⟩ := by unfold argsOk; kernel_rfl
theorem slot_self : Slot "set_iterator" "__iter__" "set_iterator.__iter__" :=
  .of (owner := "set_iterator") (n := "__iter__") (by rw [typeLookup_type, builtinLookup_eq_fast]; kernel_rfl) (by decide +kernel) (by decide +kernel) (by decide +kernel)
    (by first | exact .inl (by decide +kernel) | exact .inr (by decide +kernel)) (by rw [isSubtype_type]; kernel_rfl)
theorem entry_self : entryFor table "set_iterator.__iter__" = some Builtin.«dict_keyiterator.__iter__» :=
  entryFor_alias (id' := "dict_keyiterator.__iter__") (by kernel_rfl) rfl (by decide +kernel) (by kernel_rfl)
theorem args_self (a : Value) : argsOk "set_iterator.__iter__" ⟨[a], []⟩ := by unfold argsOk; kernel_rfl
theorem entry_iter : entryFor table "set.__iter__" = some Builtin.«frozenset.__iter__» :=
  entryFor_alias (id' := "frozenset.__iter__") (by kernel_rfl) rfl (by decide +kernel) (by kernel_rfl)
end F
/-! ### the order of a walk -/
theorem pick_perm {α : Type} (next : Nat → Nat) : ∀ (fuel k : Nat) (left : List α) (out : Array α), left.length = fuel → (pickOrder.go next fuel k left out).toList.Perm (out.toList ++ left)
  | 0, k, left, out, h => by
    have : left = [] := List.length_eq_zero_iff.mp h
    subst this
    unfold pickOrder.go; simp
  | fuel + 1, k, left, out, h => by
    have hlt : next k % left.length < left.length := Nat.mod_lt _ (by omega)
    unfold pickOrder.go
    rw [List.getElem?_eq_getElem hlt]
    dsimp only
    refine (pick_perm next fuel (k + 1) _ _ (by rw [List.length_eraseIdx, if_pos hlt]; omega)).trans ?_
    rw [Array.toList_push, List.append_assoc]
    refine List.Perm.append_left _ ?_
    have d : left.take (next k % left.length) ++ left[next k % left.length] :: left.drop (next k % left.length + 1) = left := by rw [← List.drop_eq_getElem_cons hlt, List.take_append_drop]
    rw [List.eraseIdx_eq_take_drop_succ]
    refine List.Perm.trans ?_ (List.Perm.of_eq d)
    rw [List.singleton_append]
    exact List.perm_middle.symm
def byText (w : World) : Bool := w.params.followText "set-order"
def ord (w : World) (a : Addr) (ep : Nat) (es : Array (Int × Value)) : Array (Int × Value) := if byText w then pickOrder (w.params.setOrder a ep) es else es
theorem ord_perm (w : World) (a : Addr) (ep : Nat) (es : Array (Int × Value)) : (ord w a ep es).toList.Perm es.toList := by
  unfold ord
  split
  · exact (pick_perm _ es.size 0 es.toList #[] (by simp)).trans (by simp)
  · exact .refl _
def sl (w : World) (t : SetTable) (i : Nat) : Nat := if byText w then 0 else if i = 0 then 0 else t.place.getD (i - 1) 0 + 1
section
variable {prog : Program} {w : World} {A : Around} {E : Value → Shared → Prop} {s : Shared} {a : Addr} {es : Array (Int × Value)} {ep : Nat} {t : SetTable} {L : List VP}
theorem byText_ask {Q : Bool → Shared → Prop} (h : Q (byText w) s) : wpAny (model prog w) A setsByText Q E s := by
  unfold setsByText
  exact wpAny_bind (wpAny_askSetting (wpAny_pure h))
theorem ord_size (w : World) (a : Addr) (ep : Nat) (es : Array (Int × Value)) : (ord w a ep es).size = es.size := by
  have := (ord_perm w a ep es).length_eq; simpa using this
theorem below_sl (hs : t.place.toList.Pairwise (· < ·)) (hb : byText w = false) {i : Nat} (hi : i ≤ t.place.size) : SetTable.below t.place (sl w t i) = i := by
  obtain ⟨b1, b2, b3⟩ := below_spec (sl w t i) hs
  unfold sl at *
  rw [hb] at *
  simp only [Bool.false_eq_true, if_false] at *
  generalize hB : SetTable.below t.place (if i = 0 then 0 else t.place.getD (i - 1) 0 + 1) = B at *
  have hp : ∀ (j k : Nat) (x y : Nat), j < k → t.place[j]? = some x → t.place[k]? = some y → x < y := fun j k x y hjk h1 h2 => by
    have h1' : t.place.toList[j]? = some x := by simpa using h1
    have h2' : t.place.toList[k]? = some y := by simpa using h2
    obtain ⟨c1, d1⟩ := List.getElem?_eq_some_iff.mp h1'
    obtain ⟨c2, d2⟩ := List.getElem?_eq_some_iff.mp h2'
    rw [← d1, ← d2]
    exact List.pairwise_iff_getElem.mp hs j k c1 c2 hjk
  by_cases h0 : i = 0
  · rw [if_pos h0] at b1 b2
    rcases Nat.eq_zero_or_pos B with g | g
    · omega
    · have hlt : B - 1 < t.place.size := by omega
      have := b1 (B - 1) t.place[B - 1] (by omega) (by simp [hlt])
      omega
  · rw [if_neg h0] at b1 b2
    have hi1 : i - 1 < t.place.size := by omega
    have e1 : t.place.getD (i - 1) 0 = t.place[i - 1] := by simp [Array.getD, hi1]
    rw [e1] at b1 b2
    rcases Nat.lt_trichotomy B i with g | g | g
    · have := b2 (i - 1) t.place[i - 1] (by omega) (by simp [hi1])
      omega
    · exact g
    · have hlt : i < t.place.size := by omega
      have h1 := b1 i t.place[i] g (by simp [hlt])
      have h2 := hp (i - 1) i _ _ (by omega) (by simp [hi1] : t.place[i - 1]? = some t.place[i - 1]) (by simp [hlt] : t.place[i]? = some t.place[i])
      omega
theorem next_ok {i : Nat} {Q : Option (Value × Nat) → Shared → Prop} (ho : s.heap.get? a = some (setObj es ep t)) (B : SBody prog w s.heap es t L) (hi : i ≤ es.size)
    (h1 : ∀ e, (ord w a ep es)[i]? = some e → Q (some (e.2, sl w t (i + 1))) s) (h2 : (ord w a ep es)[i]? = none → Q none s) : wpAny (model prog w) A (setNext a (sl w t i) i ep) Q E s := by
  have hf := B.fits
  unfold setNext
  refine wpAny_bind (wpAny_setState_of ho rfl hf ?_)
  dsimp only
  refine wpAny_bind (byText_ask ?_)
  by_cases hb : byText w = true
  · rw [if_pos hb]
    rw [if_neg (by simp)]
    refine wpAny_bind ?_
    unfold setWalk
    refine wpAny_bind (wpAny_setState_of ho rfl hf ?_)
    dsimp only
    refine wpAny_bind (byText_ask ?_)
    rw [if_pos hb]
    refine wpAny_bind (wpAny_askSetting (wpAny_pure ?_))
    have hord : ord w a ep es = pickOrder (w.params.setOrder a ep) es := by unfold ord; rw [if_pos hb]
    rw [hord] at h1 h2
    have hsl : ∀ i, sl w t i = 0 := fun i => by unfold sl; rw [if_pos hb]
    rw [hsl] at h1 ⊢
    show wpAny _ _ (pure (((pickOrder (w.params.setOrder a ep) es)[i]?).map fun e => (e.2, 0))) _ _ _
    cases hc : (pickOrder (w.params.setOrder a ep) es)[i]? with
    | none => exact wpAny_pure (h2 hc)
    | some e => exact wpAny_pure (h1 e hc)
  · have hb' : byText w = false := by simpa using hb
    rw [if_neg hb]
    have hord : ord w a ep es = es := by unfold ord; rw [if_neg hb]
    rw [hord] at h1 h2
    rw [if_neg (by show ¬ ((!t.plain && decide (es.size > 1)) = true); rw [B.pln]; simp)]
    refine wpAny_bind ?_
    show wpAny _ _ (@ite _ _ _ _ _) _ _ _
    rw [if_neg (by
      have : t.led = true := by rw [B.ld]; unfold led; have : w.params.followText "set-order" = false := hb'; rw [this]; rfl
      rw [this]; simp)]
    refine wpAny_pure ?_
    obtain ⟨Z, T⟩ := B.tok
    obtain ⟨f1, f2⟩ := B.fill
    have hsz := B.size
    rw [below_sl T.rise' hb' (by omega)]
    rcases Nat.lt_or_ge i es.size with g | g
    · have hp : i < t.place.size := by omega
      have e1 : es[i]? = some es[i] := by simp [g]
      have e2 : t.place[i]? = some t.place[i] := by simp [hp]
      have e3 : sl w t (i + 1) = t.place[i] + 1 := by unfold sl; rw [if_neg hb, if_neg (by omega)]; simp [Array.getD, hp]
      rw [e1, e2]
      dsimp only
      refine wpAny_pure ?_
      have := h1 _ e1
      rw [e3] at this
      exact this
    · have e1 : es[i]? = none := by simp [g]
      rw [e1]
      exact wpAny_pure (h2 e1)
end
end SetX
set_option linter.all false
set_option maxRecDepth 100000
set_option maxHeartbeats 8000000
namespace SetX
open PySem PySem.W PyProof.Rows Hull SortM SetM
def IsSetIter (h : Heap) (it a : Addr) (slot i n ep : Nat) : Prop := ∃ o, h.get? it = some o ∧ o.cls = .type "set_iterator" ∧ o.data = .fields #[.int slot 0, .int i 0, .ref a, .int n 0, .int ep 0]
section
variable {prog : Program} {w : World} {A : Around} {E : Value → Shared → Prop} {s : Shared} {a it : Addr} {es : Array (Int × Value)} {ep : Nat} {t : SetTable} {L : List VP}
theorem IsSetIter.typeIs {slot i n ep : Nat} (x : IsSetIter s.heap it a slot i n ep) : s.TypeIs (.ref it) "set_iterator" := let ⟨o, ho, hc, _⟩ := x; ⟨o, ho, hc⟩
theorem next_item {i : Nat} {e : Int × Value} {Q : Option Value → Shared → Prop} (hit : IsSetIter s.heap it a (sl w t i) i es.size ep) (ho : s.heap.get? a = some (setObj es ep t)) (B : SBody prog w s.heap es t L) (hx : (ord w a ep es)[i]? = some e)
    (hQ : ∀ h', IsSetIter h' it a (sl w t (i + 1)) (i + 1) es.size ep → Heap.SameBut it s.heap h' → Q (some e.2) { s with heap := h' }) : wpAny (model prog w) A (pyNext (.ref it)) Q E s := by
  obtain ⟨o, hoi, hc, hd⟩ := id hit
  have hi : i < es.size := by
    rw [← ord_size w a ep es]
    exact (Array.getElem?_eq_some_iff.mp hx).1
  unfold pyNext
  refine wpAny_bind (wpAny_attempt (wpAny_callSpecial?_slot (name := Str.ofString "__next__") hit.typeIs F.slot_next (wpAny_call_entry F.slot_next hit.typeIs F.entry_next ?_ (F.args_next _))))
  unfold Builtin.«set_iterator.__next__»
  refine wpAny_bind (m := slotArgs _ _ _) (wpAny_pure ?_)
  refine wpAny_bind (wpAny_fieldsOf hoi hd ?_)
  dsimp only
  refine wpAny_bind (wpAny_setEntries_of ho rfl B.fits ?_)
  rw [if_neg (by simp)]
  simp only [Int.toNat_natCast]
  refine wpAny_bind (next_ok ho B (by omega) (fun e' he' => ?_) fun hn => ?_)
  · rw [hx] at he'; cases he'
    dsimp only
    refine wpAny_bind (wpAny_setField hoi hd (by simp) ?_)
    have ho2 := Heap.get?_update_self (Obj.mapFields (·.setIfInBounds 0 (rawInt ((sl w t (i + 1) : Nat) : Int)))) hoi (Obj.isFreed_of_fields (Obj.data_mapFields hd _))
    have hd2 := Obj.data_mapFields hd (·.setIfInBounds 0 (rawInt ((sl w t (i + 1) : Nat) : Int)))
    refine wpAny_bind (wpAny_setField ho2 hd2 (by simp) ?_)
    refine wpAny_pure ⟨_, rfl, wpAny_pure (hQ _ ⟨_, Heap.get?_update_self _ ho2 (Obj.isFreed_of_fields (Obj.data_mapFields hd2 _)), ?_, ?_⟩ ((Heap.SameBut.update ..).trans (Heap.SameBut.update ..)))⟩
    · rw [Obj.cls_mapFields, Obj.cls_mapFields]; exact hc
    · rw [Obj.data_mapFields hd2]; simp [rawInt]
  · rw [hx] at hn; cases hn
theorem next_end {Q : Option Value → Shared → Prop} (hh : A.handled = none) (hit : IsSetIter s.heap it a (sl w t es.size) es.size es.size ep) (ho : s.heap.get? a = some (setObj es ep t)) (B : SBody prog w s.heap es t L)
    (hQ : ∀ h', Heap.ExtBut it s.heap h' → Q none { s with heap := h' }) : wpAny (model prog w) A (pyNext (.ref it)) Q E s := by
  obtain ⟨o, hoi, hc, hd⟩ := id hit
  unfold pyNext
  refine wpAny_bind (wpAny_attempt (wpAny_callSpecial?_slot (name := Str.ofString "__next__") hit.typeIs F.slot_next (wpAny_call_entry F.slot_next hit.typeIs F.entry_next ?_ (F.args_next _))))
  unfold Builtin.«set_iterator.__next__»
  refine wpAny_bind (m := slotArgs _ _ _) (wpAny_pure ?_)
  refine wpAny_bind (wpAny_fieldsOf hoi hd ?_)
  dsimp only
  refine wpAny_bind (wpAny_setEntries_of ho rfl B.fits ?_)
  rw [if_neg (by simp)]
  simp only [Int.toNat_natCast]
  have hnone : (ord w a ep es)[es.size]? = none := by rw [Array.getElem?_eq_none]; rw [ord_size]; exact Nat.le_refl _
  refine wpAny_bind (next_ok ho B (Nat.le_refl _) (fun e' he' => ?_) fun hn => ?_)
  · rw [hnone] at he'; cases he'
  · dsimp only
    refine wpAny_bind (wpAny_setField hoi hd (by simp) ?_)
    refine wpAny_bind ?_
    simp only [newExc, newTuple]
    refine wpAny_bind (wpAny_newObj_type ?_ (by size_fits))
    refine wpAny_bind (m := firstArgMember _ _) (wpAny_of_eq (a := Value.none) (by first | rfl | (simp only [firstArgMember]; rfl)) ?_)
    refine wpAny_newObj_type ?_ (by size_fits)
    simp only [raiseNew]
    refine wpAny_bind (wpAny_handled ?_)
    rw [show A.in1.handled = none from hh]
    refine wpAny_bind (wpAny_pure (wpAny_throw ?_))
    refine wpAny_bind (wpAny_isInstance (T := "StopIteration") (b := true) ⟨_, Heap.get?_push_size _ rfl, rfl⟩ isSubtype_stop ?_)
    exact wpAny_pure (hQ _ (((Heap.SameBut.update ..).extBut.push _).push _))
theorem iter_self {slot i n : Nat} {Q : Value → Shared → Prop} (hit : IsSetIter s.heap it a slot i n ep) (h : Q (.ref it) s) : wpAny (model prog w) A (pyIter (.ref it)) Q E s := by
  refine wpAny_pyIter_slot hit.typeIs F.slot_self (wpAny_call_entry F.slot_self hit.typeIs F.entry_self ?_ (F.args_self _))
  show wpAny _ _ (ret (.ref it)) _ _ s
  exact wpAny_pure ⟨_, rfl, "set_iterator", _, hit.typeIs, F.slot_next.lookup, h⟩
theorem iter_set {Q : Value → Shared → Prop} (ho : s.heap.get? a = some (setObj es ep t)) (B : SBody prog w s.heap es t L)
    (hQ : Q (.ref s.heap.objs.size) { s with heap := s.heap.push { cls := .type "set_iterator", data := .fields #[.int 0 0, .int 0 0, .ref a, .int es.size 0, .int ep 0] } }) : wpAny (model prog w) A (pyIter (.ref a)) Q E s := by
  have hT : s.TypeIs (.ref a) "set" := ⟨_, ho, rfl⟩
  refine wpAny_pyIter_slot hT PySem.F.slot_set_iter (wpAny_call_entry PySem.F.slot_set_iter hT F.entry_iter ?_ (PySem.F.args_set_iter_1 _))
  unfold Builtin.«frozenset.__iter__» Builtin.Frozenset.slot0 Builtin.Frozenset.sizeOf setDrawn
  refine wpAny_bind (wpAny_bind (m := slotArgs _ _ _) (wpAny_pure (wpAny_pure ?_)))
  refine wpAny_bind (wpAny_bind (wpAny_setEntries_of ho rfl B.fits (wpAny_pure ?_)))
  refine wpAny_bind (wpAny_bind (wpAny_setState_of ho rfl B.fits ?_))
  dsimp only
  refine wpAny_bind (byText_ask (wpAny_pure ?_))
  rw [if_neg (by show ¬ ((!byText w && (!t.plain && decide (es.size > 1))) = true); rw [B.pln]; simp)]
  refine wpAny_bind (wpAny_pure ?_)
  refine wpAny_bind (wpAny_setEpoch_of ho rfl B.fits ?_)
  refine wpAny_bind (wpAny_newObj_type (wpAny_pure ⟨_, rfl, "set_iterator", _, ⟨_, Heap.get?_push_size _ rfl, rfl⟩, F.slot_next.lookup, ?_⟩))
  simpa [rawInt] using hQ
def SStay (prog : Program) (w : World) (a : Addr) (es : Array (Int × Value)) (ep : Nat) (t : SetTable) (L : List VP) (h : Heap) : Prop := h.get? a = some (setObj es ep t) ∧ SBody prog w h es t L
theorem walks_set (hh : A.handled = none) (I : Addr) (hne : a ≠ I) (fp : List Addr) (hfp : ∀ z ∈ L, ∀ b, z.1 = .ref b → b ∈ fp ∧ b ≠ I) :
    Walks prog w A I (I :: a :: fp) [I] es.size (fun i v => ((ord w a ep es)[i]?).map (·.2) = some v) (fun i h => IsSetIter h I a (sl w t i) i es.size ep ∧ h.get? a = some (setObj es ep t) ∧ SBody prog w h es t L) where
  sub := fun b hb => by simp at hb; simp [hb]
  frame := fun i h h' st hk => by
    obtain ⟨⟨o, e, r⟩, ho, B⟩ := st
    refine ⟨⟨o, hk I (by simp) o e, r⟩, hk a (by simp) _ ho, ⟨B.el, B.tok, B.pln, B.ld, fun z hz => ?_, B.nd, B.few⟩⟩
    obtain ⟨b, o, t, u, n, e1, e2, e3⟩ := B.sp z hz
    exact ⟨b, o, t, u, n, e1, hk b (by simp [(hfp z hz b e1).1]) o e2, e3⟩
  item := fun i s Q E hi st hQ => by
    obtain ⟨hit, ho, B⟩ := st
    obtain ⟨e, he⟩ : ∃ e, (ord w a ep es)[i]? = some e := ⟨(ord w a ep es)[i]'(by rw [ord_size]; exact hi), by simp [ord_size, hi]⟩
    refine next_item hit ho B he fun h' hit' hs' => ?_
    refine hQ _ h' s.toks (by rw [he]; rfl) ⟨hit', (hs'.2 a hne).trans ho, ⟨B.el, B.tok, B.pln, B.ld, fun z hz => ?_, B.nd, B.few⟩⟩ fun b o hb e => hs'.extBut b o (fun h => hb (by simp [h])) e
    obtain ⟨b, o, t, u, n, e1, e2, e3⟩ := B.sp z hz
    exact ⟨b, o, t, u, n, e1, (hs'.2 b (hfp z hz b e1).2).trans e2, e3⟩
  done := fun s Q E st hQ => by
    obtain ⟨hit, ho, B⟩ := st
    exact next_end hh hit ho B fun h' he' => hQ h' s.toks fun b o hb e => he' b o (fun h => hb (by simp [h])) e
  self := fun _ _ _ _ st hQ => iter_self st.1 hQ
end
end SetX
set_option linter.all false
set_option maxRecDepth 100000
set_option maxHeartbeats 8000000
namespace SetX
open PySem PySem.W PyProof.Rows Hull SortM SetM
section
variable {prog : Program} {w : World} {A : Around} {E : Value → Shared → Prop} {s : Shared} {a it : Addr} {es : Array (Int × Value)} {ep : Nat} {t : SetTable} {L : List VP}
def refs (L : List VP) : List Addr := L.filterMap fun z => match z.1 with | .ref b => some b | _ => none
theorem mem_refs {z : VP} {b : Addr} (hz : z ∈ L) (e : z.1 = .ref b) : b ∈ refs L := List.mem_filterMap.mpr ⟨z, hz, by rw [e]⟩
theorem collect_set {Q : List Value → Shared → Prop} (hh : A.handled = none) (ho : s.heap.get? a = some (setObj es ep t)) (B : SBody prog w s.heap es t L) (hlen : L.length ≤ 12)
    (hQ : ∀ (h' : Heap) (tk : Nat) (L' : List VP), (∀ b o, s.heap.get? b = some o → h'.get? b = some o) → s.heap.objs.size ≤ h'.objs.size → L'.Perm L → Q (L'.map (·.1)) { s with heap := h', toks := tk }) :
    wpAny (model prog w) A (collect (.ref a)) Q E s := by
  have ha : a < s.heap.objs.size := Heap.lt_size ho
  have hsz := B.size
  unfold collect
  refine wpAny_bind (wpAny_runValue (codeAny_builtin PySem.F.entry_proto_collect ?_))
  rw [Around.under_plainId PySem.F.plain_proto_collect _]
  show wpAny _ A.in1 (newList [] >>= fun l => again (.builtin "list.__iadd__" ⟨[l, .ref a], []⟩)) _ _ s
  refine wpAny_bind (wpAny_newObj_type ?_)
  refine wpAny_pure ⟨plainId_quiet PySem.F.plain_list_iadd _, codeAny_builtin PySem.F.entry_list_iadd ?_⟩
  rw [Around.under_plainId PySem.F.plain_list_iadd _]
  have ho1 : (s.heap.push { cls := .type "list", data := .seq ([] : List Value).toArray }).get? a = some (setObj es ep t) := Heap.get?_push_of_some _ ho
  have B1 : SBody prog w (s.heap.push { cls := .type "list", data := .seq ([] : List Value).toArray }) es t L := B.kept fun b o _ e => Heap.get?_push_of_some _ e
  have hT1 : Shared.TypeIs { s with heap := s.heap.push { cls := .type "list", data := .seq ([] : List Value).toArray } } (.ref a) "set" := ⟨_, ho1, rfl⟩
  show wpAny _ A.in1 (Builtin.List.listExtendWith (.ref s.heap.objs.size) (.ref a) (.ref s.heap.objs.size)) _ _ _
  unfold Builtin.List.listExtendWith
  refine wpAny_bind (wpAny_typeOf hT1 ?_)
  have h1 : Builtin.List.listSameRef (.ref s.heap.objs.size) (.ref a) = false := by simp [Builtin.List.listSameRef, Nat.ne_of_gt ha]
  have h2 : (Value.type "set" == Value.type "list") = false := by decide
  have h3 : (Value.type "set" == Value.type "tuple") = false := by decide
  simp only [h1, h2, h3, Bool.or_false, Bool.false_eq_true, if_false]
  refine wpAny_bind (iter_set (s := { s with heap := s.heap.push { cls := .type "list", data := .seq ([] : List Value).toArray } }) ho1 B1 ?_)
  refine wpAny_bind (wpAny_holding ?_)
  generalize hI : (s.heap.push { cls := .type "list", data := .seq ([] : List Value).toArray }).objs.size = I
  have hI' : I = s.heap.objs.size + 1 := by rw [← hI, Heap.size_push]
  have ho2 : ((s.heap.push { cls := .type "list", data := .seq ([] : List Value).toArray }).push { cls := .type "set_iterator", data := .fields #[.int 0 0, .int 0 0, .ref a, .int es.size 0, .int ep 0] }).get? a = some (setObj es ep t) := Heap.get?_push_of_some _ ho1
  have hT2 : Shared.TypeIs { s with heap := ((s.heap.push { cls := .type "list", data := .seq ([] : List Value).toArray }).push { cls := .type "set_iterator", data := .fields #[.int 0 0, .int 0 0, .ref a, .int es.size 0, .int ep 0] }) } (.ref a) "set" := ⟨_, ho2, rfl⟩
  unfold Builtin.List.listLengthHint
  refine wpAny_bind (wpAny_specialOf hT2 PySem.F.slot_set_len.lookup ?_)
  dsimp only
  have hsp : splitId "set.__len__" = some ("set", "__len__") := by decide +kernel
  rw [hsp]
  dsimp only
  refine wpAny_bind (wpAny_isInstance hT2 sub_set_self ?_)
  simp only [Bool.not_true, Bool.false_eq_true, if_false]
  rw [if_pos (by decide +kernel)]
  refine wpAny_bind (wpAny_typeOf hT2 (wpAny_pure ?_))
  rw [if_pos (by decide +kernel)]
  refine wpAny_bind (wpAny_rule ?_)
  have hS₁ : ((s.heap.push { cls := .type "list", data := .seq ([] : List Value).toArray }).push { cls := .type "set_iterator", data := .fields #[.int 0 0, .int 0 0, .ref a, .int es.size 0, .int ep 0] }).get? s.heap.objs.size = some { cls := .type "list", data := .seq ([] : List Value).toArray } := Heap.get?_push_of_some _ (Heap.get?_push_size _ rfl)
  refine wpAny_bind ?_
  show wpAny _ A.in1 (updateSeq s.heap.objs.size (·.push .none) >>= fun _ => updateSeq s.heap.objs.size (·.pop)) _ _ _
  refine wpAny_bind (wpAny_updateSeq hS₁ rfl ?_)
  have hS₂ := Heap.get?_update_self (Obj.mapSeq (·.push Value.none)) hS₁ rfl
  refine wpAny_updateSeq hS₂ rfl ?_
  have hS₃ := Heap.get?_update_self (Obj.mapSeq (·.pop)) hS₂ rfl
  generalize hH : ((((s.heap.push { cls := .type "list", data := .seq ([] : List Value).toArray }).push { cls := .type "set_iterator", data := .fields #[.int 0 0, .int 0 0, .ref a, .int es.size 0, .int ep 0] }).update s.heap.objs.size (Obj.mapSeq (·.push Value.none))).update s.heap.objs.size (Obj.mapSeq (·.pop))) = H at *
  have oth : ∀ b o, b ≠ s.heap.objs.size → ((s.heap.push { cls := .type "list", data := .seq ([] : List Value).toArray }).push { cls := .type "set_iterator", data := .fields #[.int 0 0, .int 0 0, .ref a, .int es.size 0, .int ep 0] }).get? b = some o → H.get? b = some o := fun b o hb e => by
    rw [← hH]; exact (Heap.get?_update_other _ _ (Ne.symm hb)).trans ((Heap.get?_update_other _ _ (Ne.symm hb)).trans e)
  have old : ∀ b o, s.heap.get? b = some o → H.get? b = some o := fun b o e => oth b o (Nat.ne_of_lt (Heap.lt_size e)) (Heap.get?_push_of_some _ (Heap.get?_push_of_some _ e))
  have hIt : H.get? I = some { cls := .type "set_iterator", data := .fields #[.int 0 0, .int 0 0, .ref a, .int es.size 0, .int ep 0] } := oth I _ (by rw [hI']; exact Nat.ne_of_gt (Nat.lt_succ_self _)) (by rw [← hI]; exact Heap.get?_push_size _ rfl)
  have hh1 : A.in1.handled = none := by simp [hh]
  have hneI : a ≠ I := by rw [hI']; exact Nat.ne_of_lt (Nat.lt_succ_of_lt ha)
  have hrl : ∀ z ∈ L, ∀ b, z.1 = .ref b → b < s.heap.objs.size := fun z hz b e => by
    obtain ⟨b', o, _, _, _, e1, e2, _⟩ := B.sp z hz
    rw [e] at e1; cases e1; exact Heap.lt_size e2
  have W := (walks_set (prog := prog) (w := w) (A := A.in1) (es := es) (ep := ep) (t := t) (L := L) hh1 I hneI (refs L) (fun z hz b e => ⟨mem_refs hz e, by rw [hI']; exact Nat.ne_of_lt (Nat.lt_succ_of_lt (hrl z hz b e))⟩)).toS
  have hSf : s.heap.objs.size ∉ I :: a :: refs L := by
    intro hm
    rcases List.mem_cons.mp hm with e | hm
    · rw [hI'] at e; exact Nat.ne_of_lt (Nat.lt_succ_self _) e
    · rcases List.mem_cons.mp hm with e | hm
      · exact Nat.ne_of_gt ha e
      · obtain ⟨z, hz, hz2⟩ := List.mem_filterMap.mp hm
        obtain ⟨b, hb⟩ := SpotAt.ref (B.sp z hz)
        rw [hb] at hz2
        cases hz2
        exact Nat.lt_irrefl _ (hrl z hz _ hb)
  have hst0 : IsSetIter H I a (sl w t 0) 0 es.size ep ∧ H.get? a = some (setObj es ep t) ∧ SBody prog w H es t L := by
    refine ⟨⟨_, hIt, rfl, ?_⟩, old a _ ho, B.kept fun b o _ e => old b o e⟩
    have : sl w t 0 = 0 := by unfold sl; split <;> rfl
    rw [this]; rfl
  refine wpAny_pure ⟨plainId_quiet PySem.F.plain_extend_loop _, codeAny_extend_loopS W (by rw [sizeLine_eq]; omega) _ hSf _ es.size 0 _ _ _ rfl (Nat.zero_le _) hst0 hS₃ (ItemsOf.nil _) fun s' acc' c' hm hS' hacc => ?_⟩
  show wpAny _ A (load s.heap.objs.size >>= _) _ _ s'
  refine wpAny_bind (wpAny_load hS' ?_)
  obtain ⟨h', g', d', tk', os'⟩ := s'
  have eg : g' = s.gens := hm.gens
  have ed : d' = s.drawn := hm.drawn
  have eo : os' = s.os := hm.os
  subst eg; subst ed; subst eo
  obtain ⟨L', p1, p2⟩ := perm_map_inv (f := ent prog w) (ord_perm w a ep es) L B.el
  have hvs : acc'.toList = L'.map (·.1) := by
    have hl' : L'.length = es.size := by rw [p1.length_eq, hsz]
    apply List.ext_getElem?
    intro j
    rcases Nat.lt_or_ge j es.size with g | g
    · have hj : j < acc'.size := by rw [hacc.1]; exact g
      have h1 : ((ord w a ep es)[j]?).map (·.2) = some acc'[j] := hacc.2 j acc'[j] (by simp [hj])
      have h2 : (ord w a ep es)[j]? = (L'.map (ent prog w))[j]? := by rw [← p2]; simp
      rw [h2] at h1
      rw [List.getElem?_map] at h1 ⊢
      have hj2 : j < L'.length := by omega
      rw [List.getElem?_eq_getElem hj2] at h1 ⊢
      simp only [Option.map_some] at h1 ⊢
      have h3 : L'[j].1 = acc'[j] := Option.some.inj h1
      rw [h3]; simp [hj]
    · rw [List.getElem?_eq_none (by rw [Array.length_toList, hacc.1]; exact g), List.getElem?_eq_none (by rw [List.length_map, hl']; exact g)]
  refine wpAny_pure ?_
  show Q acc'.toList _
  rw [hvs]
  refine hQ h' tk' L' (fun b o e => ?_) (Nat.le_of_lt (Heap.lt_size hS')) p1
  refine hm.heap b o ?_ (old b o e)
  have hlt := Heap.lt_size e
  simp only [List.mem_cons, List.mem_singleton, List.not_mem_nil, or_false, not_or]
  exact ⟨Nat.ne_of_lt hlt, by rw [hI']; exact Nat.ne_of_lt (Nat.lt_succ_of_lt hlt)⟩
end
end SetX
set_option linter.all false
set_option maxRecDepth 100000
set_option maxHeartbeats 4000000
namespace SpotC
open PySem PySem.W PyProof.Rows Hull SortM
section
variable {prog : Program} {w : World} {A : Around} {E : Value → Shared → Prop} {s : Shared}
theorem tree_lt {a b : Addr} {p q : P} {P' : PySem.Fin → Shared → Prop} (hx : SpotAt s.heap (.ref a) p) (hy : SpotAt s.heap (.ref b) q) (h : P' (.done (.ret (.bool (ltb p q)))) s) :
    wpAny (model prog w) A (Builtin.«tuple.__lt__» ⟨[.ref a, .ref b], []⟩) P' E s := by
  have hTb := SetX.SpotAt.typeIs hy
  obtain ⟨a', oa, t, u, na, e1, hoa, hca, hda⟩ := hx
  obtain ⟨b', ob, t', u', nb, e2, hob, hcb, hdb⟩ := hy
  cases e1; cases e2
  show wpAny _ _ (isInstance (.ref b) (.type "tuple") >>= _) _ _ s
  refine wpAny_bind (wpAny_isInstance hTb isSubtype_tuple_tuple ?_)
  simp only [Bool.not_true, Bool.false_eq_true, if_false]
  refine wpAny_bind (wpAny_tupleItemsOf hoa hda ?_)
  refine wpAny_bind (wpAny_tupleItemsOf hob hdb ?_)
  refine wpAny_bind ?_
  show wpAny _ _ (forIn [((.int p.1 t : Value), (.int q.1 t' : Value)), (.int p.2 u, .int q.2 u')] _ _) _ _ _
  rw [List.forIn_cons]
  refine wpAny_bind (wpAny_bind (wpAny_eqBool_int ?_))
  by_cases h1 : p.1 = q.1
  · have e1 : (p.1 == q.1) = true := by simpa using h1
    rw [e1]
    simp only [Bool.not_true, Bool.false_eq_true, if_false]
    refine wpAny_pure ?_
    dsimp only
    rw [List.forIn_cons]
    refine wpAny_bind (wpAny_bind (wpAny_eqBool_int ?_))
    by_cases h2 : p.2 = q.2
    · have e2 : (p.2 == q.2) = true := by simpa using h2
      rw [e2]
      simp only [Bool.not_true, Bool.false_eq_true, if_false]
      refine wpAny_pure ?_
      dsimp only
      rw [List.forIn_nil]
      refine wpAny_pure ?_
      refine wpAny_pure ?_
      have hb : (ltb p q) = false := by
        have : p = q := Prod.ext h1 h2
        rw [this]; unfold ltb; rw [decide_eq_false lt_irrefl]
      rw [hb] at h
      exact h
    · have e2 : (p.2 == q.2) = false := by simpa using h2
      rw [e2]
      simp only [Bool.not_false, if_true]
      refine wpAny_bind (wpAny_rule ?_)
      have hb : (ltb p q) = decide (p.2 < q.2) := by unfold ltb; exact decide_eq_decide.mpr (by unfold lt; omega)
      rw [hb] at h
      refine wpAny_bind (PyProof.Rows.lt_int (wpAny_bind (wpAny_pure (wpAny_pure ?_))))
      exact wpAny_pure (wpAny_pure h)
  · have e1 : (p.1 == q.1) = false := by simpa using h1
    rw [e1]
    simp only [Bool.not_false, if_true]
    refine wpAny_bind (wpAny_rule ?_)
    have hb : (ltb p q) = decide (p.1 < q.1) := by unfold ltb; exact decide_eq_decide.mpr (by unfold lt; omega)
    rw [hb] at h
    refine wpAny_bind (PyProof.Rows.lt_int (wpAny_bind (wpAny_pure (wpAny_pure ?_))))
    exact wpAny_pure (wpAny_pure h)
theorem spots_lt {v v' : Value} {p q : P} {Q : Value → Shared → Prop} (hu : A.units < cLine) (hx : SpotAt s.heap v p) (hy : SpotAt s.heap v' q) (h : Q (.bool (ltb p q)) s) : wpAny (model prog w) A (compareOp .Lt v v') Q E s := by
  obtain ⟨a, rfl⟩ := SetX.SpotAt.ref hx
  obtain ⟨b, rfl⟩ := SetX.SpotAt.ref hy
  exact wpAny_richCompare_same_room (op := .Lt) (SetX.SpotAt.typeIs hx) (SetX.SpotAt.typeIs hy) PySem.F.slot_tuple_lt
    (wpAny_call_entry PySem.F.slot_tuple_lt (SetX.SpotAt.typeIs hx) PySem.F.entry_tuple_lt (tree_lt hx hy ⟨_, rfl, (fun e => nomatch e), h⟩) (PySem.F.args_tuple_lt_2 _ _)) hu
theorem tree_gt {a b : Addr} {p q : P} {P' : PySem.Fin → Shared → Prop} (hx : SpotAt s.heap (.ref a) p) (hy : SpotAt s.heap (.ref b) q) (h : P' (.done (.ret (.bool (ltb q p)))) s) :
    wpAny (model prog w) A (Builtin.«tuple.__gt__» ⟨[.ref a, .ref b], []⟩) P' E s := by
  have hTb := SetX.SpotAt.typeIs hy
  obtain ⟨a', oa, t, u, na, e1, hoa, hca, hda⟩ := hx
  obtain ⟨b', ob, t', u', nb, e2, hob, hcb, hdb⟩ := hy
  cases e1; cases e2
  show wpAny _ _ (isInstance (.ref b) (.type "tuple") >>= _) _ _ s
  refine wpAny_bind (wpAny_isInstance hTb isSubtype_tuple_tuple ?_)
  simp only [Bool.not_true, Bool.false_eq_true, if_false]
  refine wpAny_bind (wpAny_tupleItemsOf hoa hda ?_)
  refine wpAny_bind (wpAny_tupleItemsOf hob hdb ?_)
  refine wpAny_bind ?_
  show wpAny _ _ (forIn [((.int p.1 t : Value), (.int q.1 t' : Value)), (.int p.2 u, .int q.2 u')] _ _) _ _ _
  rw [List.forIn_cons]
  refine wpAny_bind (wpAny_bind (wpAny_eqBool_int ?_))
  by_cases h1 : p.1 = q.1
  · have e1 : (p.1 == q.1) = true := by simpa using h1
    rw [e1]
    simp only [Bool.not_true, Bool.false_eq_true, if_false]
    refine wpAny_pure ?_
    dsimp only
    rw [List.forIn_cons]
    refine wpAny_bind (wpAny_bind (wpAny_eqBool_int ?_))
    by_cases h2 : p.2 = q.2
    · have e2 : (p.2 == q.2) = true := by simpa using h2
      rw [e2]
      simp only [Bool.not_true, Bool.false_eq_true, if_false]
      refine wpAny_pure ?_
      dsimp only
      rw [List.forIn_nil]
      refine wpAny_pure ?_
      refine wpAny_pure ?_
      have hb : (ltb q p) = false := by
        have : p = q := Prod.ext h1 h2
        rw [this]; unfold ltb; rw [decide_eq_false lt_irrefl]
      rw [hb] at h
      exact h
    · have e2 : (p.2 == q.2) = false := by simpa using h2
      rw [e2]
      simp only [Bool.not_false, if_true]
      refine wpAny_bind (wpAny_rule ?_)
      have hb : (ltb q p) = decide (q.2 < p.2) := by unfold ltb; exact decide_eq_decide.mpr (by unfold lt; omega)
      rw [hb] at h
      refine wpAny_bind (PyProof.Rows.gt_int (wpAny_bind (wpAny_pure (wpAny_pure ?_))))
      exact wpAny_pure (wpAny_pure h)
  · have e1 : (p.1 == q.1) = false := by simpa using h1
    rw [e1]
    simp only [Bool.not_false, if_true]
    refine wpAny_bind (wpAny_rule ?_)
    have hb : (ltb q p) = decide (q.1 < p.1) := by unfold ltb; exact decide_eq_decide.mpr (by unfold lt; omega)
    rw [hb] at h
    refine wpAny_bind (PyProof.Rows.gt_int (wpAny_bind (wpAny_pure (wpAny_pure ?_))))
    exact wpAny_pure (wpAny_pure h)
theorem spots_gt {v v' : Value} {p q : P} {Q : Value → Shared → Prop} (hu : A.units < cLine) (hx : SpotAt s.heap v p) (hy : SpotAt s.heap v' q) (h : Q (.bool (ltb q p)) s) : wpAny (model prog w) A (compareOp .Gt v v') Q E s := by
  obtain ⟨a, rfl⟩ := SetX.SpotAt.ref hx
  obtain ⟨b, rfl⟩ := SetX.SpotAt.ref hy
  exact wpAny_richCompare_same_room (op := .Gt) (SetX.SpotAt.typeIs hx) (SetX.SpotAt.typeIs hy) PySem.F.slot_tuple_gt
    (wpAny_call_entry PySem.F.slot_tuple_gt (SetX.SpotAt.typeIs hx) PySem.F.entry_tuple_gt (tree_gt hx hy ⟨_, rfl, (fun e => nomatch e), h⟩) (PySem.F.args_tuple_gt_2 _ _)) hu
theorem tree_le {a b : Addr} {p q : P} {P' : PySem.Fin → Shared → Prop} (hx : SpotAt s.heap (.ref a) p) (hy : SpotAt s.heap (.ref b) q) (h : P' (.done (.ret (.bool (!ltb q p)))) s) :
    wpAny (model prog w) A (Builtin.«tuple.__le__» ⟨[.ref a, .ref b], []⟩) P' E s := by
  have hTb := SetX.SpotAt.typeIs hy
  obtain ⟨a', oa, t, u, na, e1, hoa, hca, hda⟩ := hx
  obtain ⟨b', ob, t', u', nb, e2, hob, hcb, hdb⟩ := hy
  cases e1; cases e2
  show wpAny _ _ (isInstance (.ref b) (.type "tuple") >>= _) _ _ s
  refine wpAny_bind (wpAny_isInstance hTb isSubtype_tuple_tuple ?_)
  simp only [Bool.not_true, Bool.false_eq_true, if_false]
  refine wpAny_bind (wpAny_tupleItemsOf hoa hda ?_)
  refine wpAny_bind (wpAny_tupleItemsOf hob hdb ?_)
  refine wpAny_bind ?_
  show wpAny _ _ (forIn [((.int p.1 t : Value), (.int q.1 t' : Value)), (.int p.2 u, .int q.2 u')] _ _) _ _ _
  rw [List.forIn_cons]
  refine wpAny_bind (wpAny_bind (wpAny_eqBool_int ?_))
  by_cases h1 : p.1 = q.1
  · have e1 : (p.1 == q.1) = true := by simpa using h1
    rw [e1]
    simp only [Bool.not_true, Bool.false_eq_true, if_false]
    refine wpAny_pure ?_
    dsimp only
    rw [List.forIn_cons]
    refine wpAny_bind (wpAny_bind (wpAny_eqBool_int ?_))
    by_cases h2 : p.2 = q.2
    · have e2 : (p.2 == q.2) = true := by simpa using h2
      rw [e2]
      simp only [Bool.not_true, Bool.false_eq_true, if_false]
      refine wpAny_pure ?_
      dsimp only
      rw [List.forIn_nil]
      refine wpAny_pure ?_
      refine wpAny_pure ?_
      have hb : (!ltb q p) = true := by
        have : p = q := Prod.ext h1 h2
        rw [this]; unfold ltb; rw [decide_eq_false lt_irrefl]; rfl
      rw [hb] at h
      exact h
    · have e2 : (p.2 == q.2) = false := by simpa using h2
      rw [e2]
      simp only [Bool.not_false, if_true]
      refine wpAny_bind (wpAny_rule ?_)
      have hb : (!ltb q p) = decide (p.2 ≤ q.2) := by unfold ltb; rw [← decide_not]; exact decide_eq_decide.mpr (by unfold lt; omega)
      rw [hb] at h
      refine wpAny_bind (PyProof.Rows.le_int (wpAny_bind (wpAny_pure (wpAny_pure ?_))))
      exact wpAny_pure (wpAny_pure h)
  · have e1 : (p.1 == q.1) = false := by simpa using h1
    rw [e1]
    simp only [Bool.not_false, if_true]
    refine wpAny_bind (wpAny_rule ?_)
    have hb : (!ltb q p) = decide (p.1 ≤ q.1) := by unfold ltb; rw [← decide_not]; exact decide_eq_decide.mpr (by unfold lt; omega)
    rw [hb] at h
    refine wpAny_bind (PyProof.Rows.le_int (wpAny_bind (wpAny_pure (wpAny_pure ?_))))
    exact wpAny_pure (wpAny_pure h)
theorem spots_le {v v' : Value} {p q : P} {Q : Value → Shared → Prop} (hu : A.units < cLine) (hx : SpotAt s.heap v p) (hy : SpotAt s.heap v' q) (h : Q (.bool (!ltb q p)) s) : wpAny (model prog w) A (compareOp .LtE v v') Q E s := by
  obtain ⟨a, rfl⟩ := SetX.SpotAt.ref hx
  obtain ⟨b, rfl⟩ := SetX.SpotAt.ref hy
  exact wpAny_richCompare_same_room (op := .LtE) (SetX.SpotAt.typeIs hx) (SetX.SpotAt.typeIs hy) PySem.F.slot_tuple_le
    (wpAny_call_entry PySem.F.slot_tuple_le (SetX.SpotAt.typeIs hx) PySem.F.entry_tuple_le (tree_le hx hy ⟨_, rfl, (fun e => nomatch e), h⟩) (PySem.F.args_tuple_le_2 _ _)) hu
end
end SpotC
set_option linter.all false
set_option maxRecDepth 100000
set_option maxHeartbeats 4000000
namespace SpotC
open PySem PySem.W PyProof.Rows Hull SortM
theorem min_loop2 {prog : Program} {w : World} {A : Around} {R : Result → Shared → Prop} {I : Addr} {fp wr : List Addr} {Pv : Nat → Value → Prop} {St : Nat → Heap → Prop} (W : Walks prog w A.in1 I fp wr 2 Pv St) (S : Addr) (hSf : S ∉ fp) {Kp : Heap → Prop} {b : Bool}
    (hK : ∀ h h', Kp h → (∀ b o, b ∉ wr → b ≠ S → h.get? b = some o → h'.get? b = some o) → Kp h')
    (hcmp : ∀ v1 v2 (s : Shared) (Q : Value → Shared → Prop) (E : Value → Shared → Prop), Pv 0 v1 → Pv 1 v2 → Kp s.heap → Q (.bool b) s → wpAny (model prog w) A.in1 (richCompare .Lt v2 v1) Q E s)
    {s : Shared} {c : Nat} (hst : St 0 s.heap) (hk0 : Kp s.heap) (hS : s.heap.get? S = some { cls := .type "list", dict := none, data := .seq #[] c, slots := #[] })
    (hR : ∀ v h' tk, Pv (if b = true then 1 else 0) v → (∀ b o, b ∉ wr → b ≠ S → s.heap.get? b = some o → h'.get? b = some o) → R (.ok (.ret v)) { s with heap := h', toks := tk }) :
    codeAny (model prog w) A (.builtin "min.loop" ⟨[.ref I, .none, .ref S], []⟩) R s := by
  have hSw : S ∉ wr := fun h => hSf (W.sub _ h)
  have hname : (toString "min" ++ toString ".loop" : String) = "min.loop" := by decide
  -- the last turn
  have last : ∀ (s' : Shared) (vb : Value) (c : Nat), St 2 s'.heap → s'.heap.get? S = some { cls := .type "list", dict := none, data := .seq #[vb, vb] c, slots := #[] } →
      (∀ h' tk, (∀ b o, b ∉ wr → b ≠ S → s'.heap.get? b = some o → h'.get? b = some o) → R (.ok (.ret vb)) { s' with heap := h', toks := tk }) →
      codeAny (model prog w) A (.builtin "min.loop" ⟨[.ref I, .none, .ref S], []⟩) R s' := by
    intro s vb c hst hS hR
    refine codeAny_builtin PySem.F.entry_min_loop ?_
    rw [Around.under_plainId PySem.F.plain_min_loop _]
    show wpAny _ A.in1 (seqItems? (.ref S) >>= _) _ _ s
    refine wpAny_bind (wpAny_seqItems hS rfl ?_)
    show wpAny _ A.in1 (tryCatch (pyNext (.ref I)) _ >>= _) _ _ s
    refine wpAny_bind (wpAny_tryCatch (W.done s _ _ hst fun h' tk hk' => ?_))
    have hS' := hk' S _ hSw hS
    show wpAny _ A.in1 (updateSeq S (fun _ => #[]) >>= _) _ _ _
    refine wpAny_bind ?_
    refine wpAny_updateSeq hS' rfl (wpAny_bind (wpAny_letGo (wpAny_pure ?_)))
    exact hR _ tk fun b o hbw hbS e => (Heap.get?_update_other _ _ (Ne.symm hbS)).trans (hk' b o hbw e)
  refine codeAny_builtin PySem.F.entry_min_loop ?_
  rw [Around.under_plainId PySem.F.plain_min_loop _]
  show wpAny _ A.in1 (seqItems? (.ref S) >>= _) _ _ s
  refine wpAny_bind (wpAny_seqItems hS rfl ?_)
  show wpAny _ A.in1 (tryCatch (pyNext (.ref I)) _ >>= _) _ _ s
  refine wpAny_bind (wpAny_tryCatch (W.item 0 s _ _ (by decide) hst fun v1 h1 tk1 hP1 hst1 hk1 => ?_))
  have hS1 := hk1 S _ hSw hS
  show wpAny _ A.in1 (updateSeq S (fun _ => #[v1, v1]) >>= _) _ _ _
  refine wpAny_bind ?_
  refine wpAny_updateSeq hS1 rfl ?_
  rw [hname]
  refine wpAny_pure ⟨plainId_quiet PySem.F.plain_min_loop _, ?_⟩
  have hst2 : St 1 (h1.update S (Obj.mapSeq fun _ => #[v1, v1])) := W.frame _ _ _ hst1 fun b hbf o e => (Heap.get?_update_other _ _ (fun h : S = b => hSf (by rw [h]; exact hbf))).trans e
  have hS2 := Heap.get?_update_self (Obj.mapSeq fun _ => #[v1, v1]) hS1 rfl
  have kp2 : ∀ b o, b ∉ wr → b ≠ S → s.heap.get? b = some o → (h1.update S (Obj.mapSeq fun _ => #[v1, v1])).get? b = some o := fun b o hbw hbS e => (Heap.get?_update_other _ _ (Ne.symm hbS)).trans (hk1 b o hbw e)
  refine codeAny_builtin PySem.F.entry_min_loop ?_
  rw [Around.under_plainId PySem.F.plain_min_loop _]
  show wpAny _ A.in1 (seqItems? (.ref S) >>= _) _ _ _
  refine wpAny_bind (wpAny_seqItems hS2 rfl ?_)
  show wpAny _ A.in1 (tryCatch (pyNext (.ref I)) _ >>= _) _ _ _
  refine wpAny_bind (wpAny_tryCatch (W.item 1 { s with heap := h1.update S (Obj.mapSeq fun _ => #[v1, v1]), toks := tk1 } _ _ (by decide) hst2 fun v2 h3 tk3 hP2 hst3 hk3 => ?_))
  have hS3 := hk3 S _ hSw hS2
  have kp3 : ∀ b o, b ∉ wr → b ≠ S → s.heap.get? b = some o → h3.get? b = some o := fun b o hbw hbS e => hk3 b o hbw (kp2 b o hbw hbS e)
  show wpAny _ A.in1 (tryCatch (holding [v2, v2] (richCompare .Lt v2 v1 >>= _)) _ >>= _) _ _ _
  refine wpAny_bind (wpAny_tryCatch (wpAny_holding (wpAny_bind (hcmp v1 v2 _ _ _ hP1 hP2 (hK _ _ hk0 kp3) ?_))))
  refine wpAny_bind (wpAny_holding (wpAny_truthy_bool ?_))
  refine wpAny_bind (wpAny_letGo (wpAny_pure ?_))
  cases b with
  | true =>
    simp only [if_true] at hR ⊢
    refine wpAny_bind ?_
    refine wpAny_updateSeq hS3 rfl (wpAny_bind (wpAny_letGo ?_))
    rw [hname]
    refine wpAny_pure ⟨plainId_quiet PySem.F.plain_min_loop _, last _ v2 _ (W.frame _ _ _ hst3 fun b hbf o e => ?_) (Heap.get?_update_self _ hS3 rfl) fun h' tk hk' => hR v2 h' tk hP2 fun b o hbw hbS e => ?_⟩
    · exact (Heap.get?_update_other _ _ (fun h : S = b => hSf (by rw [h]; exact hbf))).trans e
    · exact hk' b o hbw hbS ((Heap.get?_update_other _ _ (Ne.symm hbS)).trans (kp3 b o hbw hbS e))
  | false =>
    simp only [Bool.false_eq_true, if_false] at hR ⊢
    refine wpAny_bind (wpAny_letGo ?_)
    rw [hname]
    exact wpAny_pure ⟨plainId_quiet PySem.F.plain_min_loop _, last { s with heap := h3, toks := tk3 } v1 _ hst3 hS3 fun h' tk hk' => hR v1 h' tk hP1 fun b o hbw hbS e => hk' b o hbw hbS (kp3 b o hbw hbS e)⟩
theorem min_spots {prog : Program} {w : World} {A : Around} {E : Value → Shared → Prop} {s : Shared} {v1 v2 : Value} {p1 p2 : P} {Q : Value → Shared → Prop} (hh : A.handled = none) (hu : A.in1.units < cLine) (s1 : SpotAt s.heap v1 p1) (s2 : SpotAt s.heap v2 p2)
    (h : ∀ h' tk, (∀ c o, s.heap.get? c = some o → h'.get? c = some o) → Q (if (ltb p2 p1) = true then v2 else v1) { s with heap := h', toks := tk }) :
    wpAny (model prog w) A (call (.builtin "min") [v1, v2]) Q E s := by
  have hname : (toString "min" ++ toString ".loop" : String) = "min.loop" := by decide
  refine call_function_tree PySem.F.kind_min PySem.F.plain_min PySem.F.entry_min (PySem.F.args_min2 _ _) ?_
  show wpAny _ A.in1 (Builtin.Builtins.bindParams "min" ["key", "default"] 0 ⟨[], []⟩ >>= _) _ _ s
  refine wpAny_bind (wpAny_of_eq (show Builtin.Builtins.bindParams "min" ["key", "default"] 0 ⟨[], []⟩ = pure [none, none] from rfl) ?_)
  show wpAny _ A.in1 (newTuple [v1, v2] >>= _) _ _ s
  refine wpAny_bind (wpAny_newObj_type ?_)
  have hT : (s.heap.push { cls := .type "tuple", data := .seq #[v1, v2] }).IsTuple s.heap.objs.size #[v1, v2] := ⟨_, Heap.get?_push_size _ rfl, rfl, 0, rfl⟩
  refine wpAny_bind (wpAny_pyIter_tuple hT ?_)
  have hsz : (s.heap.push { cls := .type "tuple", data := .seq #[v1, v2] }).objs.size = s.heap.objs.size + 1 := Heap.size_push ..
  refine wpAny_bind (wpAny_newObj_type ?_)
  rw [hname]
  generalize hI : (s.heap.push { cls := .type "tuple", data := .seq #[v1, v2] }).objs.size = I at *
  subst hsz
  have W := Walks.tuple (prog := prog) (w := w) (A := A.in1) hh (s.heap.objs.size + 1) s.heap.objs.size (Nat.ne_of_lt (Nat.lt_succ_self _)) #[v1, v2]
  have hI1 : ((s.heap.push { cls := .type "tuple", data := .seq #[v1, v2] }).push { cls := .type "tuple_iterator", data := .fields #[.ref s.heap.objs.size, .int 0 0] }).objs.size = s.heap.objs.size + 2 := by rw [Heap.size_push, hI]
  have hIt : ((s.heap.push { cls := .type "tuple", data := .seq #[v1, v2] }).push { cls := .type "tuple_iterator", data := .fields #[.ref s.heap.objs.size, .int 0 0] }).IsTupleIter (s.heap.objs.size + 1) s.heap.objs.size 0 := ⟨_, by rw [← hI]; exact Heap.get?_push_size _ rfl, rfl, rfl⟩
  have hSf : ((s.heap.push { cls := .type "tuple", data := .seq #[v1, v2] }).push { cls := .type "tuple_iterator", data := .fields #[.ref s.heap.objs.size, .int 0 0] }).objs.size ∉ [s.heap.objs.size + 1, s.heap.objs.size] := by
    rw [hI1]; simp only [List.mem_cons, List.mem_singleton, List.not_mem_nil, or_false, not_or]
    exact ⟨Nat.ne_of_gt (Nat.lt_succ_self _), Nat.ne_of_gt (Nat.lt_succ_of_lt (Nat.lt_succ_self _))⟩
  have old : ∀ b o, s.heap.get? b = some o → b ∉ [s.heap.objs.size + 1] ∧ b ≠ ((s.heap.push { cls := .type "tuple", data := .seq #[v1, v2] }).push { cls := .type "tuple_iterator", data := .fields #[.ref s.heap.objs.size, .int 0 0] }).objs.size := fun b o e => by
    have hlt := Heap.lt_size e
    rw [hI1]; simp only [List.mem_singleton]
    exact ⟨Nat.ne_of_lt (Nat.lt_succ_of_lt hlt), Nat.ne_of_lt (Nat.lt_succ_of_lt (Nat.lt_succ_of_lt hlt))⟩
  refine wpAny_pure ⟨plainId_quiet PySem.F.plain_min_loop _, min_loop2 (Kp := fun h => ∀ b o, s.heap.get? b = some o → h.get? b = some o) (b := ltb p2 p1) W _ hSf (fun h h' hk ke b o e => ke b o (old b o e).1 (old b o e).2 (hk b o e)) (fun u1 u2 s' Q' E' e1 e2 hk hq => ?_)
    (W.frame _ _ _ (show _ ∧ _ from ⟨hIt, hT.push _⟩) fun b _ o e => Heap.get?_push_of_some _ e) (fun b o e => Heap.get?_push_of_some _ (Heap.get?_push_of_some _ (Heap.get?_push_of_some _ e))) (Heap.get?_push_size _ rfl) fun v h' tk hP hk => ?_⟩
  · have e1' : v1 = u1 := by simpa using e1
    have e2' : v2 = u2 := by simpa using e2
    subst e1'; subst e2'
    exact SpotC.spots_lt (A := A.in1) hu (s2.kept fun b o _ e => hk b o e) (s1.kept fun b o _ e => hk b o e) hq
  · have hv : v = if (ltb p2 p1) = true then v2 else v1 := by
      by_cases hc : (ltb p2 p1) = true
      · rw [if_pos hc] at hP ⊢; simpa using hP.symm
      · rw [if_neg hc] at hP ⊢; simpa using hP.symm
    rw [hv]
    exact h h' tk fun c o e => hk c o (old c o e).1 (old c o e).2 (Heap.get?_push_of_some _ (Heap.get?_push_of_some _ (Heap.get?_push_of_some _ e)))
theorem max_loop2 {prog : Program} {w : World} {A : Around} {R : Result → Shared → Prop} {I : Addr} {fp wr : List Addr} {Pv : Nat → Value → Prop} {St : Nat → Heap → Prop} (W : Walks prog w A.in1 I fp wr 2 Pv St) (S : Addr) (hSf : S ∉ fp) {Kp : Heap → Prop} {b : Bool}
    (hK : ∀ h h', Kp h → (∀ b o, b ∉ wr → b ≠ S → h.get? b = some o → h'.get? b = some o) → Kp h')
    (hcmp : ∀ v1 v2 (s : Shared) (Q : Value → Shared → Prop) (E : Value → Shared → Prop), Pv 0 v1 → Pv 1 v2 → Kp s.heap → Q (.bool b) s → wpAny (model prog w) A.in1 (richCompare .Gt v2 v1) Q E s)
    {s : Shared} {c : Nat} (hst : St 0 s.heap) (hk0 : Kp s.heap) (hS : s.heap.get? S = some { cls := .type "list", dict := none, data := .seq #[] c, slots := #[] })
    (hR : ∀ v h' tk, Pv (if b = true then 1 else 0) v → (∀ b o, b ∉ wr → b ≠ S → s.heap.get? b = some o → h'.get? b = some o) → R (.ok (.ret v)) { s with heap := h', toks := tk }) :
    codeAny (model prog w) A (.builtin "max.loop" ⟨[.ref I, .none, .ref S], []⟩) R s := by
  have hSw : S ∉ wr := fun h => hSf (W.sub _ h)
  have hname : (toString "max" ++ toString ".loop" : String) = "max.loop" := by decide
  -- the last turn
  have last : ∀ (s' : Shared) (vb : Value) (c : Nat), St 2 s'.heap → s'.heap.get? S = some { cls := .type "list", dict := none, data := .seq #[vb, vb] c, slots := #[] } →
      (∀ h' tk, (∀ b o, b ∉ wr → b ≠ S → s'.heap.get? b = some o → h'.get? b = some o) → R (.ok (.ret vb)) { s' with heap := h', toks := tk }) →
      codeAny (model prog w) A (.builtin "max.loop" ⟨[.ref I, .none, .ref S], []⟩) R s' := by
    intro s vb c hst hS hR
    refine codeAny_builtin PySem.F.entry_max_loop ?_
    rw [Around.under_plainId PySem.F.plain_max_loop _]
    show wpAny _ A.in1 (seqItems? (.ref S) >>= _) _ _ s
    refine wpAny_bind (wpAny_seqItems hS rfl ?_)
    show wpAny _ A.in1 (tryCatch (pyNext (.ref I)) _ >>= _) _ _ s
    refine wpAny_bind (wpAny_tryCatch (W.done s _ _ hst fun h' tk hk' => ?_))
    have hS' := hk' S _ hSw hS
    show wpAny _ A.in1 (updateSeq S (fun _ => #[]) >>= _) _ _ _
    refine wpAny_bind ?_
    refine wpAny_updateSeq hS' rfl (wpAny_bind (wpAny_letGo (wpAny_pure ?_)))
    exact hR _ tk fun b o hbw hbS e => (Heap.get?_update_other _ _ (Ne.symm hbS)).trans (hk' b o hbw e)
  refine codeAny_builtin PySem.F.entry_max_loop ?_
  rw [Around.under_plainId PySem.F.plain_max_loop _]
  show wpAny _ A.in1 (seqItems? (.ref S) >>= _) _ _ s
  refine wpAny_bind (wpAny_seqItems hS rfl ?_)
  show wpAny _ A.in1 (tryCatch (pyNext (.ref I)) _ >>= _) _ _ s
  refine wpAny_bind (wpAny_tryCatch (W.item 0 s _ _ (by decide) hst fun v1 h1 tk1 hP1 hst1 hk1 => ?_))
  have hS1 := hk1 S _ hSw hS
  show wpAny _ A.in1 (updateSeq S (fun _ => #[v1, v1]) >>= _) _ _ _
  refine wpAny_bind ?_
  refine wpAny_updateSeq hS1 rfl ?_
  rw [hname]
  refine wpAny_pure ⟨plainId_quiet PySem.F.plain_max_loop _, ?_⟩
  have hst2 : St 1 (h1.update S (Obj.mapSeq fun _ => #[v1, v1])) := W.frame _ _ _ hst1 fun b hbf o e => (Heap.get?_update_other _ _ (fun h : S = b => hSf (by rw [h]; exact hbf))).trans e
  have hS2 := Heap.get?_update_self (Obj.mapSeq fun _ => #[v1, v1]) hS1 rfl
  have kp2 : ∀ b o, b ∉ wr → b ≠ S → s.heap.get? b = some o → (h1.update S (Obj.mapSeq fun _ => #[v1, v1])).get? b = some o := fun b o hbw hbS e => (Heap.get?_update_other _ _ (Ne.symm hbS)).trans (hk1 b o hbw e)
  refine codeAny_builtin PySem.F.entry_max_loop ?_
  rw [Around.under_plainId PySem.F.plain_max_loop _]
  show wpAny _ A.in1 (seqItems? (.ref S) >>= _) _ _ _
  refine wpAny_bind (wpAny_seqItems hS2 rfl ?_)
  show wpAny _ A.in1 (tryCatch (pyNext (.ref I)) _ >>= _) _ _ _
  refine wpAny_bind (wpAny_tryCatch (W.item 1 { s with heap := h1.update S (Obj.mapSeq fun _ => #[v1, v1]), toks := tk1 } _ _ (by decide) hst2 fun v2 h3 tk3 hP2 hst3 hk3 => ?_))
  have hS3 := hk3 S _ hSw hS2
  have kp3 : ∀ b o, b ∉ wr → b ≠ S → s.heap.get? b = some o → h3.get? b = some o := fun b o hbw hbS e => hk3 b o hbw (kp2 b o hbw hbS e)
  show wpAny _ A.in1 (tryCatch (holding [v2, v2] (richCompare .Gt v2 v1 >>= _)) _ >>= _) _ _ _
  refine wpAny_bind (wpAny_tryCatch (wpAny_holding (wpAny_bind (hcmp v1 v2 _ _ _ hP1 hP2 (hK _ _ hk0 kp3) ?_))))
  refine wpAny_bind (wpAny_holding (wpAny_truthy_bool ?_))
  refine wpAny_bind (wpAny_letGo (wpAny_pure ?_))
  cases b with
  | true =>
    simp only [if_true] at hR ⊢
    refine wpAny_bind ?_
    refine wpAny_updateSeq hS3 rfl (wpAny_bind (wpAny_letGo ?_))
    rw [hname]
    refine wpAny_pure ⟨plainId_quiet PySem.F.plain_max_loop _, last _ v2 _ (W.frame _ _ _ hst3 fun b hbf o e => ?_) (Heap.get?_update_self _ hS3 rfl) fun h' tk hk' => hR v2 h' tk hP2 fun b o hbw hbS e => ?_⟩
    · exact (Heap.get?_update_other _ _ (fun h : S = b => hSf (by rw [h]; exact hbf))).trans e
    · exact hk' b o hbw hbS ((Heap.get?_update_other _ _ (Ne.symm hbS)).trans (kp3 b o hbw hbS e))
  | false =>
    simp only [Bool.false_eq_true, if_false] at hR ⊢
    refine wpAny_bind (wpAny_letGo ?_)
    rw [hname]
    exact wpAny_pure ⟨plainId_quiet PySem.F.plain_max_loop _, last { s with heap := h3, toks := tk3 } v1 _ hst3 hS3 fun h' tk hk' => hR v1 h' tk hP1 fun b o hbw hbS e => hk' b o hbw hbS (kp3 b o hbw hbS e)⟩
theorem max_spots {prog : Program} {w : World} {A : Around} {E : Value → Shared → Prop} {s : Shared} {v1 v2 : Value} {p1 p2 : P} {Q : Value → Shared → Prop} (hh : A.handled = none) (hu : A.in1.units < cLine) (s1 : SpotAt s.heap v1 p1) (s2 : SpotAt s.heap v2 p2)
    (h : ∀ h' tk, (∀ c o, s.heap.get? c = some o → h'.get? c = some o) → Q (if (ltb p1 p2) = true then v2 else v1) { s with heap := h', toks := tk }) :
    wpAny (model prog w) A (call (.builtin "max") [v1, v2]) Q E s := by
  have hname : (toString "max" ++ toString ".loop" : String) = "max.loop" := by decide
  refine call_function_tree PySem.F.kind_max PySem.F.plain_max PySem.F.entry_max (PySem.F.args_max2 _ _) ?_
  show wpAny _ A.in1 (Builtin.Builtins.bindParams "max" ["key", "default"] 0 ⟨[], []⟩ >>= _) _ _ s
  refine wpAny_bind (wpAny_of_eq (show Builtin.Builtins.bindParams "max" ["key", "default"] 0 ⟨[], []⟩ = pure [none, none] from rfl) ?_)
  show wpAny _ A.in1 (newTuple [v1, v2] >>= _) _ _ s
  refine wpAny_bind (wpAny_newObj_type ?_)
  have hT : (s.heap.push { cls := .type "tuple", data := .seq #[v1, v2] }).IsTuple s.heap.objs.size #[v1, v2] := ⟨_, Heap.get?_push_size _ rfl, rfl, 0, rfl⟩
  refine wpAny_bind (wpAny_pyIter_tuple hT ?_)
  have hsz : (s.heap.push { cls := .type "tuple", data := .seq #[v1, v2] }).objs.size = s.heap.objs.size + 1 := Heap.size_push ..
  refine wpAny_bind (wpAny_newObj_type ?_)
  rw [hname]
  generalize hI : (s.heap.push { cls := .type "tuple", data := .seq #[v1, v2] }).objs.size = I at *
  subst hsz
  have W := Walks.tuple (prog := prog) (w := w) (A := A.in1) hh (s.heap.objs.size + 1) s.heap.objs.size (Nat.ne_of_lt (Nat.lt_succ_self _)) #[v1, v2]
  have hI1 : ((s.heap.push { cls := .type "tuple", data := .seq #[v1, v2] }).push { cls := .type "tuple_iterator", data := .fields #[.ref s.heap.objs.size, .int 0 0] }).objs.size = s.heap.objs.size + 2 := by rw [Heap.size_push, hI]
  have hIt : ((s.heap.push { cls := .type "tuple", data := .seq #[v1, v2] }).push { cls := .type "tuple_iterator", data := .fields #[.ref s.heap.objs.size, .int 0 0] }).IsTupleIter (s.heap.objs.size + 1) s.heap.objs.size 0 := ⟨_, by rw [← hI]; exact Heap.get?_push_size _ rfl, rfl, rfl⟩
  have hSf : ((s.heap.push { cls := .type "tuple", data := .seq #[v1, v2] }).push { cls := .type "tuple_iterator", data := .fields #[.ref s.heap.objs.size, .int 0 0] }).objs.size ∉ [s.heap.objs.size + 1, s.heap.objs.size] := by
    rw [hI1]; simp only [List.mem_cons, List.mem_singleton, List.not_mem_nil, or_false, not_or]
    exact ⟨Nat.ne_of_gt (Nat.lt_succ_self _), Nat.ne_of_gt (Nat.lt_succ_of_lt (Nat.lt_succ_self _))⟩
  have old : ∀ b o, s.heap.get? b = some o → b ∉ [s.heap.objs.size + 1] ∧ b ≠ ((s.heap.push { cls := .type "tuple", data := .seq #[v1, v2] }).push { cls := .type "tuple_iterator", data := .fields #[.ref s.heap.objs.size, .int 0 0] }).objs.size := fun b o e => by
    have hlt := Heap.lt_size e
    rw [hI1]; simp only [List.mem_singleton]
    exact ⟨Nat.ne_of_lt (Nat.lt_succ_of_lt hlt), Nat.ne_of_lt (Nat.lt_succ_of_lt (Nat.lt_succ_of_lt hlt))⟩
  refine wpAny_pure ⟨plainId_quiet PySem.F.plain_max_loop _, max_loop2 (Kp := fun h => ∀ b o, s.heap.get? b = some o → h.get? b = some o) (b := ltb p1 p2) W _ hSf (fun h h' hk ke b o e => ke b o (old b o e).1 (old b o e).2 (hk b o e)) (fun u1 u2 s' Q' E' e1 e2 hk hq => ?_)
    (W.frame _ _ _ (show _ ∧ _ from ⟨hIt, hT.push _⟩) fun b _ o e => Heap.get?_push_of_some _ e) (fun b o e => Heap.get?_push_of_some _ (Heap.get?_push_of_some _ (Heap.get?_push_of_some _ e))) (Heap.get?_push_size _ rfl) fun v h' tk hP hk => ?_⟩
  · have e1' : v1 = u1 := by simpa using e1
    have e2' : v2 = u2 := by simpa using e2
    subst e1'; subst e2'
    exact SpotC.spots_gt (A := A.in1) hu (s2.kept fun b o _ e => hk b o e) (s1.kept fun b o _ e => hk b o e) hq
  · have hv : v = if (ltb p1 p2) = true then v2 else v1 := by
      by_cases hc : (ltb p1 p2) = true
      · rw [if_pos hc] at hP ⊢; simpa using hP.symm
      · rw [if_neg hc] at hP ⊢; simpa using hP.symm
    rw [hv]
    exact h h' tk fun c o e => hk c o (old c o e).1 (old c o e).2 (Heap.get?_push_of_some _ (Heap.get?_push_of_some _ (Heap.get?_push_of_some _ e)))
end SpotC
set_option linter.all false
set_option maxRecDepth 100000
set_option maxHeartbeats 8000000
namespace RevX
open PySem PySem.W PyProof.Rows
namespace F
theorem mro : mroOf (.type "reversed") = pure [.type "reversed", .type "object"] := by rw [mroOf_type]; kernel_rfl
theorem lookup_new : typeLookup (.type "reversed") "__new__" = pure (some (.builtin "reversed.__new__")) := by rw [typeLookup_type, builtinLookup_eq_fast]; kernel_rfl
theorem notType : (Value.type "reversed" == Value.type "type") = false := by decide +kernel
theorem canCreate : ((Manifest.find? "reversed").bind (·.mro.findSome? fun t => (Manifest.find? t).bind fun b => if b.noNew then some true else if b.attrs.any (·.1 == "__new__") then some false else none)).getD false = false := by decide +kernel
theorem made : Bind.madeBy (.type "reversed") = pure (some "reversed.__new__") := madeBy_type mro lookup_new (by decide +kernel)
theorem plain_new : plainId "reversed.__new__" = true := by decide +kernel
theorem sub : isSubtype (.type "reversed") (.type "reversed") = pure true := by rw [isSubtype_type]; kernel_rfl
theorem sub_other : isSubtype (.type "list_reverseiterator") (.type "reversed") = pure false := by rw [isSubtype_type]; kernel_rfl
theorem typeCall (a : Value) : checkTypeCall "reversed" ⟨[a], []⟩ = pure () := by kernel_rfl
theorem newCall (a : Value) : checkBuiltinCall "reversed.__new__" ⟨[.type "reversed", a], []⟩ = pure () := by kernel_rfl
theorem entry_new : entryFor table "reversed.__new__" = some Builtin.«reversed.__new__» := entryFor_of_tree (by kernel_rfl)
end F
def revObj (l : Addr) (i : Int) : Obj := { cls := .type "list_reverseiterator", data := .fields #[.ref l, .int i 0] }
section
variable {prog : Program} {w : World} {A : Around} {E : Value → Shared → Prop} {s : Shared}
theorem rev_new {l : Addr} {items : Array Value} {n : Nat} {Q₁ : Value → Shared → Prop} (hl : s.heap.get? l = some { cls := .type "list", dict := none, data := .seq items n, slots := #[] })
    (h : Q₁ (.ref s.heap.objs.size) { s with heap := s.heap.push (revObj l ((items.size : Int) - 1)) }) :
    codeAny (model prog w) A (.call (.builtin "reversed.__new__") ⟨[.type "reversed", .ref l], []⟩) (wants Q₁ E) s := by
  refine codeAny_of_tree ?_
  show wpAny _ A.in1 (do checkBuiltinCall "reversed.__new__" ⟨[.type "reversed", .ref l], []⟩; again (.builtin "reversed.__new__" ⟨[.type "reversed", .ref l], []⟩)) _ _ s
  refine wpAny_bind (wpAny_of_eq (F.newCall _) (wpAny_pure ⟨plainId_quiet F.plain_new _, codeAny_builtin F.entry_new ?_⟩))
  rw [Around.under_plainId F.plain_new _]
  have hT : s.TypeIs (.ref l) "list" := ⟨_, hl, rfl⟩
  have hsub := F.sub
  unfold Builtin.«reversed.__new__» Builtin.SmallTypes.newClass Builtin.SmallTypes.refuseKeywords
  wp_walk
  refine wpAny_of_eq PySem.F.slot_list_reversed.lookup ?_
  dsimp only
  refine wpAny_bind (wpAny_of_eq (PySem.F.slot_list_reversed.bind (.ref l)) ?_)
  dsimp only
  rw [if_neg (by decide)]
  refine wpAny_bind (wpAny_rule ?_)
  show wpAny _ _ (call (.builtin "list.__reversed__") [.ref l] >>= _) _ _ _
  refine wpAny_bind (call_meets PySem.F.slot_list_reversed hT PySem.F.entry_list_reversed (PySem.F.args_list_reversed_1 _) (AutoListH.list___reversed___list_0 l items n) ⟨hl, ?_⟩)
  exact wpAny_pure h
theorem call_rev {l : Addr} {items : Array Value} {n : Nat} {Q : Value → Shared → Prop} (hl : s.heap.get? l = some { cls := .type "list", dict := none, data := .seq items n, slots := #[] })
    (h : Q (.ref s.heap.objs.size) { s with heap := s.heap.push (revObj l ((items.size : Int) - 1)) }) :
    wpAny (model prog w) A (call (.type "reversed") [.ref l]) Q E s := by
  have hmro := F.mro
  have hmade := F.made
  have hsub := F.sub
  refine wpAny_call (codeAny_of_tree ?_)
  show wpAny _ _ (callAny (.type "reversed") _) _ _ _
  refine wpAny_pure ⟨Code.quiet_builtin _ (by decide +kernel), codeAny_builtin PySem.F.entry_type_call ?_⟩
  rw [Around.under_plain (weight_type_call_type "reversed" [.ref l] []) rfl]
  have h1 := F.notType
  have h2 := F.canCreate
  have hct := F.typeCall (.ref l)
  repeat (any_goals (first | assumption | wp_step))
  refine codeAny_mono (rev_new (E := E) (Q₁ := fun obj s₁ => obj = .ref s.heap.objs.size ∧ s₁ = { s with heap := s.heap.push (revObj l ((items.size : Int) - 1)) }) hl ⟨rfl, rfl⟩) fun r s₁ hr => ?_
  cases r with
  | error e => exact hr
  | ok fl =>
    cases fl with
    | ret obj =>
      obtain ⟨rfl, rfl⟩ := hr
      have hT : Shared.TypeIs { s with heap := s.heap.push (revObj l ((items.size : Int) - 1)) } (.ref s.heap.objs.size) "list_reverseiterator" := ⟨_, Heap.get?_push_size _ rfl, rfl⟩
      have hso := F.sub_other
      repeat (any_goals (first | assumption | wp_step))
    | _ => exact hr.elim
end
end RevX
set_option linter.all false
set_option maxRecDepth 100000
set_option maxHeartbeats 8000000
namespace RevX
open PySem PySem.W PyProof.Rows
namespace F
theorem slot_next : Slot "list_reverseiterator" "__next__" "list_reverseiterator.__next__" :=
  .of (owner := "list_reverseiterator") (n := "__next__") (by rw [typeLookup_type, builtinLookup_eq_fast]; kernel_rfl) (by decide +kernel) (by decide +kernel) (by decide +kernel)
    (by first | exact .inl (by decide +kernel) | exact .inr (by decide +kernel)) (by rw [isSubtype_type]; kernel_rfl)
theorem entry_next : entryFor table "list_reverseiterator.__next__" = some Builtin.«list_reverseiterator.__next__» := entryFor_of_tree (by kernel_rfl)
theorem args_next (a : Value) : argsOk "list_reverseiterator.__next__" ⟨[a], []⟩ := by unfold argsOk; kernel_rfl
theorem slot_self : Slot "list_reverseiterator" "__iter__" "list_reverseiterator.__iter__" :=
  .of (owner := "list_reverseiterator") (n := "__iter__") (by rw [typeLookup_type, builtinLookup_eq_fast]; kernel_rfl) (by decide +kernel) (by decide +kernel) (by decide +kernel)
    (by first | exact .inl (by decide +kernel) | exact .inr (by decide +kernel)) (by rw [isSubtype_type]; kernel_rfl)
theorem args_self (a : Value) : argsOk "list_reverseiterator.__iter__" ⟨[a], []⟩ := by unfold argsOk; kernel_rfl
theorem nolen : typeLookup (.type "list_reverseiterator") "__len__" = pure none := by rw [typeLookup_type, builtinLookup_eq_fast]; kernel_rfl
theorem hint : typeLookup (.type "list_reverseiterator") "__length_hint__" = pure (some (.builtin "list_reverseiterator.__length_hint__")) := by rw [typeLookup_type, builtinLookup_eq_fast]; kernel_rfl
end F
end RevX
set_option linter.all false
set_option maxRecDepth 100000
set_option maxHeartbeats 8000000
namespace RevX
open PySem PySem.W PyProof.Rows
theorem F.entry_self : entryFor table "list_reverseiterator.__iter__" = some Builtin.«dict_keyiterator.__iter__» :=
  entryFor_alias (id' := "dict_keyiterator.__iter__") (by kernel_rfl) rfl (by decide +kernel) (by kernel_rfl)
def IsRev (h : Heap) (it l : Addr) (i : Int) : Prop := ∃ o, h.get? it = some o ∧ o.cls = .type "list_reverseiterator" ∧ o.data = .fields #[.ref l, .int i 0]
section
variable {prog : Program} {w : World} {A : Around} {E : Value → Shared → Prop} {s : Shared} {it l : Addr} {items : Array Value}
theorem IsRev.typeIs {i : Int} (x : IsRev s.heap it l i) : s.TypeIs (.ref it) "list_reverseiterator" := let ⟨o, ho, hc, _⟩ := x; ⟨o, ho, hc⟩
theorem rev_item {i : Nat} {v : Value} {Q : Option Value → Shared → Prop} (hit : IsRev s.heap it l i) (hl : s.heap.IsList l items) (hv : items[i]? = some v)
    (hQ : ∀ h', IsRev h' it l ((i : Int) - 1) → Heap.SameBut it s.heap h' → Q (some v) { s with heap := h' }) : wpAny (model prog w) A (pyNext (.ref it)) Q E s := by
  obtain ⟨o, ho, hc, hd⟩ := id hit
  obtain ⟨ol, hol, hcl, n, hdl⟩ := hl
  unfold pyNext
  refine wpAny_bind (wpAny_attempt (wpAny_callSpecial?_slot (name := Str.ofString "__next__") hit.typeIs F.slot_next (wpAny_call_entry F.slot_next hit.typeIs F.entry_next ?_ (F.args_next _))))
  unfold Builtin.«list_reverseiterator.__next__»
  refine wpAny_bind (m := slotArgs _ _ _) (wpAny_pure ?_)
  refine wpAny_bind (wpAny_field (x := .int i 0) ho hd rfl ?_)
  dsimp only
  rw [if_neg (by omega)]
  refine wpAny_bind (wpAny_field (x := .ref l) ho hd rfl ?_)
  refine wpAny_bind (wpAny_seqItems hol hdl ?_)
  dsimp only
  rw [Int.toNat_natCast, hv]
  dsimp only
  refine wpAny_bind (wpAny_setField ho hd (by simp) ?_)
  refine wpAny_pure ⟨_, rfl, wpAny_pure (hQ _ ⟨_, Heap.get?_update_self _ ho (Obj.isFreed_of_fields (Obj.data_mapFields hd _)), ?_, ?_⟩ (Heap.SameBut.update ..))⟩
  · rw [Obj.cls_mapFields]; exact hc
  · rw [Obj.data_mapFields hd]; simp [rawInt]
theorem rev_end {Q : Option Value → Shared → Prop} (hh : A.handled = none) (hit : IsRev s.heap it l (-1))
    (hQ : ∀ h', Heap.ExtBut it s.heap h' → Q none { s with heap := h' }) : wpAny (model prog w) A (pyNext (.ref it)) Q E s := by
  obtain ⟨o, ho, hc, hd⟩ := id hit
  unfold pyNext
  refine wpAny_bind (wpAny_attempt (wpAny_callSpecial?_slot (name := Str.ofString "__next__") hit.typeIs F.slot_next (wpAny_call_entry F.slot_next hit.typeIs F.entry_next ?_ (F.args_next _))))
  unfold Builtin.«list_reverseiterator.__next__»
  refine wpAny_bind (m := slotArgs _ _ _) (wpAny_pure ?_)
  refine wpAny_bind (wpAny_field (x := .int (-1) 0) ho hd rfl ?_)
  dsimp only
  rw [if_pos (by decide)]
  refine wpAny_bind (wpAny_rule ?_)
  refine wpAny_bind ?_
  unfold Builtin.SmallTypes.stopIteration
  refine wpAny_bind ?_
  simp only [newExc, newTuple]
  refine wpAny_bind (wpAny_newObj_type ?_ (by size_fits))
  refine wpAny_bind (m := firstArgMember _ _) (wpAny_of_eq (a := Value.none) (by first | rfl | (simp only [firstArgMember]; rfl)) ?_)
  refine wpAny_newObj_type ?_ (by size_fits)
  simp only [raiseNew]
  refine wpAny_bind (wpAny_handled ?_)
  rw [show A.in1.handled = none from hh]
  refine wpAny_bind (wpAny_pure (wpAny_throw ?_))
  refine wpAny_bind (wpAny_isInstance (T := "StopIteration") (b := true) ⟨_, Heap.get?_push_size _ rfl, rfl⟩ isSubtype_stop ?_)
  exact wpAny_pure (hQ _ (((Heap.ExtBut.refl _ _).push _).push _))
theorem rev_self {i : Int} {Q : Value → Shared → Prop} (hit : IsRev s.heap it l i) (h : Q (.ref it) s) : wpAny (model prog w) A (pyIter (.ref it)) Q E s := by
  refine wpAny_pyIter_slot hit.typeIs F.slot_self (wpAny_call_entry F.slot_self hit.typeIs F.entry_self ?_ (F.args_self _))
  show wpAny _ _ (ret (.ref it)) _ _ s
  exact wpAny_pure ⟨_, rfl, "list_reverseiterator", _, hit.typeIs, F.slot_next.lookup, h⟩
theorem walks_rev (hh : A.handled = none) (I : Addr) (hne : l ≠ I) :
    Walks prog w A I [I, l] [I] items.size (fun i v => items[items.size - 1 - i]? = some v) (fun i h => IsRev h I l ((items.size : Int) - 1 - i) ∧ h.IsList l items) where
  sub := fun b hb => by simp at hb; simp [hb]
  frame := fun i h h' st hk => by
    obtain ⟨⟨o, e, r⟩, hl⟩ := st
    exact ⟨⟨o, hk I (by simp) o e, r⟩, hl.at fun o e => hk l (by simp) o e⟩
  item := fun i s Q E hi st hQ => by
    obtain ⟨hit, hl⟩ := st
    have e : ((items.size : Int) - 1 - i) = ((items.size - 1 - i : Nat) : Int) := by omega
    rw [e] at hit
    refine rev_item hit hl (v := items[items.size - 1 - i]'(by omega)) (by simp) fun h' hit' hs' => ?_
    have e2 : (((items.size - 1 - i : Nat) : Int) - 1) = (items.size : Int) - 1 - (i + 1 : Nat) := by omega
    rw [e2] at hit'
    exact hQ _ h' s.toks (by simp) ⟨hit', hl.extBut hs'.extBut hne⟩ fun b o hb e => hs'.extBut b o (fun h => hb (by simp [h])) e
  done := fun s Q E st hQ => by
    obtain ⟨hit, hl⟩ := st
    have e : ((items.size : Int) - 1 - (items.size : Nat)) = -1 := by omega
    rw [e] at hit
    exact rev_end hh hit fun h' he' => hQ h' s.toks fun b o hb e => he' b o (fun h => hb (by simp [h])) e
  self := fun _ _ _ _ st hQ => rev_self st.1 hQ
theorem list_rev {Q : Value → Shared → Prop} (hh : A.handled = none) (hit : IsRev s.heap it l ((items.size : Int) - 1)) (hl : s.heap.IsList l items) (hne : l ≠ it) (hsz : items.size ≤ sizeLine)
    (hQ : ∀ h' tk c', (∀ b o', b ≠ it → s.heap.get? b = some o' → h'.get? b = some o') → h'.get? s.heap.objs.size = some { cls := .type "list", dict := none, data := .seq items.reverse c', slots := #[] } → Q (.ref s.heap.objs.size) { s with heap := h', toks := tk }) :
    wpAny (model prog w) A (call (.type "list") [.ref it]) Q E s := by
  have hlt : it < s.heap.objs.size := let ⟨_, ho, _⟩ := hit; Heap.lt_size ho
  have hll : l < s.heap.objs.size := let ⟨_, ho, _⟩ := hl; Heap.lt_size ho
  have hneS : it ≠ s.heap.objs.size := Nat.ne_of_lt hlt
  refine callType_codes (Q₁ := fun obj s₁ => obj = .ref s.heap.objs.size ∧ s₁ = { s with heap := s.heap.push { cls := .type "list", data := .seq #[] } }) PySem.F.called_list (PySem.F.typeCall_list_1 _) PySem.F.entry_list_init
    (code_list_new _ ⟨rfl, rfl⟩) fun obj s₁ h₁ => ?_
  obtain ⟨rfl, rfl⟩ := h₁
  have hS : (s.heap.push { cls := .type "list", data := .seq #[] }).get? s.heap.objs.size = some { cls := .type "list", data := .seq #[] } := Heap.get?_push_size _ rfl
  refine ⟨⟨_, hS, rfl⟩, PySem.F.args_list_init_2 _ _, ?_⟩
  show wpAny _ _ (do let old ← Builtin.List.listItems (.ref s.heap.objs.size); Builtin.List.listUpdate (.ref s.heap.objs.size) (fun _ => #[]); letGo old.toList.reverse; Builtin.List.listExtendWith (.ref s.heap.objs.size) (.ref it) .none) _ _ _
  refine wpAny_bind ?_
  unfold Builtin.List.listItems
  refine wpAny_bind (wpAny_seqItems hS rfl (wpAny_pure ?_))
  show wpAny _ _ (updateSeq s.heap.objs.size (fun _ => #[]) >>= fun _ => letGo (#[] : Array Value).toList.reverse >>= fun _ => Builtin.List.listExtendWith (.ref s.heap.objs.size) (.ref it) .none) _ _ _
  refine wpAny_bind (wpAny_updateSeq hS rfl ?_)
  have hS₂ := Heap.get?_update_self (Obj.mapSeq (fun _ => (#[] : Array Value))) hS rfl
  refine wpAny_bind (wpAny_letGo ?_)
  generalize hH : (s.heap.push { cls := .type "list", data := .seq #[] }).update s.heap.objs.size (Obj.mapSeq (fun _ => (#[] : Array Value))) = H at *
  have old : ∀ b o, s.heap.get? b = some o → H.get? b = some o := fun b o e => by
    rw [← hH]; exact (Heap.get?_update_other _ _ (Ne.symm (Nat.ne_of_lt (Heap.lt_size e)))).trans (Heap.get?_push_of_some _ e)
  have hit1 : IsRev H it l ((items.size : Int) - 1) := let ⟨o, ho, r⟩ := hit; ⟨o, old _ _ ho, r⟩
  have hl1 : H.IsList l items := hl.at fun o e => old _ _ e
  have hT : Shared.TypeIs { s with heap := H } (.ref it) "list_reverseiterator" := IsRev.typeIs (s := { s with heap := H }) hit1
  have h1 : Builtin.List.listSameRef (.ref s.heap.objs.size) (.ref it) = false := by simp [Builtin.List.listSameRef, Ne.symm hneS]
  unfold Builtin.List.listExtendWith
  refine wpAny_bind (wpAny_typeOf hT ?_)
  rw [if_neg (by rw [h1]; decide)]
  refine wpAny_bind (rev_self (s := { s with heap := H }) hit1 ?_)
  refine wpAny_bind (wpAny_holding ?_)
  unfold Builtin.List.listLengthHint
  refine wpAny_bind (wpAny_specialOf hT F.nolen ?_)
  show wpAny _ _ (specialOf (Value.ref it) (Str.ofString "__length_hint__") >>= _) _ _ _
  refine wpAny_bind (wpAny_specialOf hT F.hint ?_)
  generalize hid : ("list_reverseiterator.__length_hint__" : String) = id0
  dsimp only
  rw [show splitId id0 = some ("list_reverseiterator", "__length_hint__") from by subst hid; decide +kernel]
  subst hid
  dsimp only
  refine wpAny_bind (wpAny_isInstance (b := true) hT (by rw [isSubtype_type]; kernel_rfl) ?_)
  refine wpAny_pure ?_
  rw [if_neg (by decide)]
  have hSf : s.heap.objs.size ∉ [it, l] := by
    simp only [List.mem_cons, List.mem_singleton, List.not_mem_nil, or_false, not_or]
    exact ⟨Ne.symm hneS, Nat.ne_of_gt hll⟩
  have hst : IsRev H it l ((items.size : Int) - 1 - (0 : Nat)) ∧ H.IsList l items := ⟨by simpa using hit1, hl1⟩
  refine wpAny_pure ⟨plainId_quiet PySem.F.plain_extend_loop _, codeAny_extend_loopS ((walks_rev (by simp [hh]) it hne).toS) hsz _ hSf _ items.size 0 { s with heap := H } _ _ rfl (Nat.zero_le _) hst hS₂ (ItemsOf.nil _) fun s' acc' c' hm hS' hacc => ?_⟩
  obtain ⟨h', g', d', tk', os'⟩ := s'
  have eg : g' = s.gens := hm.gens
  have ed : d' = s.drawn := hm.drawn
  have eo : os' = s.os := hm.os
  subst eg; subst ed; subst eo
  refine ⟨rfl, hQ h' tk' c' (fun b o hb e => hm.heap b o ?_ (old b o e)) ?_⟩
  · simp only [List.mem_cons, List.mem_singleton, List.not_mem_nil, or_false, not_or]
    exact ⟨Nat.ne_of_lt (Heap.lt_size e), hb⟩
  · have : acc' = items.reverse := by
      apply Array.ext_getElem?
      intro j
      rcases Nat.lt_or_ge j items.size with g | g
      · have hj : j < acc'.size := by rw [hacc.1]; exact g
        have hx : items[items.size - 1 - j]? = some acc'[j] := hacc.2 j acc'[j] (by simp [hj])
        rw [Array.getElem?_reverse g, hx]; simp [hj]
      · rw [Array.getElem?_eq_none (by rw [hacc.1]; exact g), Array.getElem?_eq_none (by simpa using g)]
    rw [← this]; exact hS'
end
end RevX
set_option Elab.async false
set_option linter.all false
set_option maxRecDepth 100000
set_option maxHeartbeats 4000000
/-! COMPREHENSIONS over the layer -/
namespace L2
open PySem PySem.Spec PyProof.Rows

/-! ### cells, over those taken over -/
theorem cells_look : ∀ (names : List (Str × NameKind)) (h : Heap) (acc : List (Str × Addr)) (x : Str) (c : Addr), (cellsFrom h.objs.size names acc).lookup x = some c →
    acc.lookup x = some c ∨ ((pushCells h names).IsCell c none ∧ h.objs.size ≤ c)
  | [], _, _, _, _, e => .inl e
  | (name, kind) :: r, h, acc, x, c, e => by
    unfold cellsFrom at e
    unfold pushCells
    split at e
    · rename_i hk
      rw [if_pos hk]
      have q := cells_look r (h.push { cls := .type "cell", data := .cell none }) ((name, h.objs.size) :: acc) x c (by rw [Heap.size_push]; exact e)
      rcases q with q | ⟨q, z⟩
      · rw [List.lookup_cons] at q
        cases hb : x == name with
        | true =>
          rw [hb] at q; cases q
          exact .inr ⟨⟨_, pushCells_keeps r _ _ _ (Heap.get?_push_size _ rfl), rfl⟩, Nat.le_refl _⟩
        | false => rw [hb] at q; exact .inl q
      · exact .inr ⟨q, by rw [Heap.size_push] at z; omega⟩
    · rename_i hk
      rw [if_neg hk]
      exact cells_look r h acc x c e
theorem cells_inj : ∀ (names : List (Str × NameKind)) (n : Nat) (acc : List (Str × Addr)), (∀ x c, acc.lookup x = some c → c < n) → (∀ x y c, acc.lookup x = some c → acc.lookup y = some c → x = y) →
    ∀ x y c, (cellsFrom n names acc).lookup x = some c → (cellsFrom n names acc).lookup y = some c → x = y
  | [], _, _, _, h => h
  | (name, kind) :: r, n, acc, hl, h => by
    unfold cellsFrom
    split
    · refine cells_inj r (n + 1) ((name, n) :: acc) (fun x c e => ?_) (fun x y c e1 e2 => ?_)
      · rw [List.lookup_cons] at e
        cases hb : x == name with
        | true => rw [hb] at e; cases e; exact Nat.lt_succ_self _
        | false => rw [hb] at e; exact Nat.lt_succ_of_lt (hl x c e)
      · rw [List.lookup_cons] at e1 e2
        cases hb : x == name with
        | true =>
          rw [hb] at e1; cases e1
          cases hb' : y == name with
          | true => rw [beq_iff_eq.mp hb, beq_iff_eq.mp hb']
          | false => rw [hb'] at e2; exact absurd (hl y _ e2) (Nat.lt_irrefl _)
        | false =>
          rw [hb] at e1
          cases hb' : y == name with
          | true => rw [hb'] at e2; cases e2; exact absurd (hl x _ e1) (Nat.lt_irrefl _)
          | false => rw [hb'] at e2; exact h x y c e1 e2
    · exact cells_inj r n acc hl h
theorem cells_own : ∀ (names : List (Str × NameKind)) (n : Nat) (acc : List (Str × Addr)) (x : Str) (c : Addr), (names.lookup x = some .cell ∨ ∀ c, acc.lookup x = some c → n ≤ c) → (cellsFrom n names acc).lookup x = some c → n ≤ c
  | [], _, _, x, c, h, e => by
    rcases h with h | h
    · cases h
    · exact h c e
  | (name, kind) :: r, n, acc, x, c, h, e => by
    unfold cellsFrom at e
    rw [List.lookup_cons] at h
    split at e
    · rename_i hk
      have : n ≤ c := by
        have q := cells_low r (n + 1) ((name, n) :: acc) n x c (by omega) ?_ e
        · exact q
        · cases hb : x == name with
          | true => exact .inr fun c' e' => by rw [List.lookup_cons, hb] at e'; cases e'; exact Nat.le_refl _
          | false =>
            rw [hb] at h
            rcases h with h | h
            · exact .inl h
            · exact .inr fun c' e' => by rw [List.lookup_cons, hb] at e'; exact h c' e'
      exact this
    · rename_i hk
      refine cells_own r n acc x c ?_ e
      cases hb : x == name with
      | true =>
        rw [hb] at h
        rcases h with h | h
        · cases h; exact absurd rfl hk
        · exact .inr h
      | false => rw [hb] at h; exact h
where
  cells_low : ∀ (names : List (Str × NameKind)) (n : Nat) (acc : List (Str × Addr)) (lo : Nat) (x : Str) (c : Addr), lo ≤ n → (names.lookup x = some .cell ∨ ∀ c, acc.lookup x = some c → lo ≤ c) → (cellsFrom n names acc).lookup x = some c → lo ≤ c
  | [], _, _, _, x, c, _, h, e => by
    rcases h with h | h
    · cases h
    · exact h c e
  | (name, kind) :: r, n, acc, lo, x, c, hl, h, e => by
    unfold cellsFrom at e
    rw [List.lookup_cons] at h
    split at e
    · refine cells_low r (n + 1) ((name, n) :: acc) lo x c (by omega) ?_ e
      cases hb : x == name with
      | true => exact .inr fun c' e' => by rw [List.lookup_cons, hb] at e'; cases e'; exact hl
      | false =>
        rw [hb] at h
        rcases h with h | h
        · exact .inl h
        · exact .inr fun c' e' => by rw [List.lookup_cons, hb] at e'; exact h c' e'
    · rename_i hk
      refine cells_low r n acc lo x c hl ?_ e
      cases hb : x == name with
      | true =>
        rw [hb] at h
        rcases h with h | h
        · cases h; exact absurd rfl hk
        · exact .inr h
      | false => rw [hb] at h; exact h
theorem cells_old : ∀ (names : List (Str × NameKind)) (n : Nat) (acc : List (Str × Addr)) (x : Str), (∀ k, (x, k) ∈ names → k ≠ .cell) → (cellsFrom n names acc).lookup x = acc.lookup x
  | [], _, _, _, _ => rfl
  | (name, kind) :: r, n, acc, x, h => by
    unfold cellsFrom
    split
    · rename_i hk
      rw [cells_old r (n + 1) _ x fun k hm => h k (List.mem_cons_of_mem _ hm), List.lookup_cons]
      cases hb : x == name with
      | true => exact absurd (beq_iff_eq.mp hk) (h kind (by rw [beq_iff_eq.mp hb]; exact List.mem_cons_self))
      | false => rfl
    · exact cells_old r n acc x fun k hm => h k (List.mem_cons_of_mem _ hm)

/-- a comprehension's environment is made -/
theorem newEnv_comp {M : Model} {A : Around} {E : Value → Shared → Prop} {s : Shared} {scope : Scope} {env : Env} {cl : List (Str × Addr)} {Q : Env → Shared → Prop}
    (hQ : ∀ h', (∀ b o, s.heap.get? b = some o → h'.get? b = some o) → h'.Ns s.heap.objs.size (fun _ => none) →
      (∀ x c, (cellsFrom (s.heap.objs.size + 1) scope.names cl).lookup x = some c → cl.lookup x = some c ∨ (h'.IsCell c none ∧ s.heap.objs.size + 1 ≤ c)) →
      Q (newEnv scope s.heap.objs.size env.globals (cellsFrom (s.heap.objs.size + 1) scope.names cl) env.qual none .none (some env) builtinsNs) { s with heap := h' }) :
    wpAny M A (newFunctionEnv scope env.globals cl [] env.qual none .none (some env)) Q E s := by
  simp only [newFunctionEnv, Option.isSome_some, if_true]
  refine wpAny_bind (wpAny_alloc ?_)
  refine wpAny_bind (wpAny_layCells _ (fun name kind cells => by cases hkc : kind == NameKind.cell <;> simp [hkc]) _ _ _ _ ?_)
  rw [show ({ s with heap := s.heap.push { cls := .type "dict", data := .dict #[] } } : Shared).heap.objs.size = s.heap.objs.size + 1 from Heap.size_push ..]
  refine wpAny_bind (wpAny_pure (wpAny_pure ?_))
  have look := cells_look scope.names (s.heap.push { cls := .type "dict", data := .dict #[] }) cl
  rw [Heap.size_push] at look
  exact hQ _ (fun b o e => pushCells_keeps _ _ b o (Heap.get?_push_of_some _ e)) ((Heap.Ns.new s.heap (.type "dict")).keeps (pushCells_keeps _ _)) look

/-- what a comprehension's scope must be, over the environment that holds it; cl: the cells that it takes over -/
structure CompSc (env : Env) (scope : Scope) (cl : List (Str × Addr)) : Prop where
  kind : scope.kind = .function
  names : ∀ y ∈ scope.names, y.2 = .local → scope.names.lookup y.1 = some .local
  clos : closureFor scope env = pure cl
  sub : ∀ x c, cl.lookup x = some c → env.cells.lookup x = some c
  has : ∀ x, scope.names.lookup x = some .free → ∃ c, cl.lookup x = some c
  nocell : ∀ x, scope.names.lookup x = some .free → ∀ k, (x, k) ∈ scope.names → k ≠ .cell

/-- the cells that a comprehension takes over -/
def clOf (env : Env) : List (Str × NameKind) → List (Str × Addr) → List (Str × Addr)
  | [], acc => acc
  | (n, k) :: r, acc => if k == .free then clOf env r ((n, (env.cells.lookup n).getD 0) :: acc) else clOf env r acc
def freeB (env : Env) (names : List (Str × NameKind)) : Bool := names.all fun y => !(y.2 == .free) || (env.cells.lookup y.1).isSome
def nameB (names : List (Str × NameKind)) : Bool := names.all fun y => (!(y.2 == .local) || names.lookup y.1 == some .local) && (!(y.2 == .cell) || !(names.lookup y.1 == some .free))
theorem closureFor_go (env : Env) (f : Str × NameKind → List (Str × Addr) → Sem (ForInStep (List (Str × Addr))))
    (hf : ∀ name kind cs, f (name, kind) cs = if kind == .free then (do let c ← cellOf env name; pure (.yield ((name, c) :: cs))) else pure (.yield cs)) : ∀ (names : List (Str × NameKind)) (acc : List (Str × Addr)), freeB env names = true →
    (forIn names acc f : Sem (List (Str × Addr))) = pure (clOf env names acc)
  | [], acc, _ => rfl
  | (n, k) :: r, acc, h => by
    have h' : ((!(k == .free) || (env.cells.lookup n).isSome) && freeB env r) = true := h
    obtain ⟨h1, h2⟩ := Bool.and_eq_true_iff.mp h'
    rw [List.forIn_cons, hf]
    unfold clOf
    by_cases hk : (k == NameKind.free) = true
    · rw [hk, Bool.not_true, Bool.false_or] at h1
      obtain ⟨c, hc⟩ := Option.isSome_iff_exists.mp h1
      have e : cellOf env n = pure c := by unfold cellOf; rw [hc]
      rw [if_pos hk, if_pos hk, e, pure_bind, pure_bind]
      have := closureFor_go env f hf r ((n, c) :: acc) h2
      rw [hc]
      exact this
    · rw [if_neg hk, if_neg hk, pure_bind]
      exact closureFor_go env f hf r acc h2
theorem closureFor_all {env : Env} {scope : Scope} (h : freeB env scope.names = true) : closureFor scope env = pure (clOf env scope.names []) := by
  unfold closureFor
  dsimp only
  rw [closureFor_go env _ (fun name kind cs => by cases hk : kind == NameKind.free <;> simp [hk]) scope.names [] h, pure_bind]
theorem clOf_look (env : Env) : ∀ (names : List (Str × NameKind)) (acc : List (Str × Addr)), freeB env names = true → (∀ x c, acc.lookup x = some c → env.cells.lookup x = some c) → ∀ x c, (clOf env names acc).lookup x = some c → env.cells.lookup x = some c
  | [], _, _, h, x, c, e => h x c e
  | (n, k) :: r, acc, hf, h, x, c, e => by
    have h' : ((!(k == .free) || (env.cells.lookup n).isSome) && freeB env r) = true := hf
    obtain ⟨h1, h2⟩ := Bool.and_eq_true_iff.mp h'
    unfold clOf at e
    split at e
    · rename_i hk
      rw [hk, Bool.not_true, Bool.false_or] at h1
      obtain ⟨c0, hc0⟩ := Option.isSome_iff_exists.mp h1
      refine clOf_look env r _ h2 (fun y d q => ?_) x c e
      rw [List.lookup_cons] at q
      cases hb : y == n with
      | true => rw [hb] at q; rw [beq_iff_eq.mp hb, hc0]; rw [hc0] at q; exact q
      | false => rw [hb] at q; exact h y d q
    · exact clOf_look env r _ h2 h x c e
theorem clOf_has (env : Env) (x : Str) : ∀ (names : List (Str × NameKind)) (acc : List (Str × Addr)), (names.lookup x = some .free ∨ ∃ c, acc.lookup x = some c) → ∃ c, (clOf env names acc).lookup x = some c
  | [], _, h => by
    rcases h with h | h
    · cases h
    · exact h
  | (n, k) :: r, acc, h => by
    unfold clOf
    split
    · refine clOf_has env x r _ ?_
      rw [List.lookup_cons] at h
      cases hb : x == n with
      | true => exact .inr ⟨_, by rw [List.lookup_cons, hb]⟩
      | false =>
        rw [hb] at h
        rcases h with h | ⟨c, h⟩
        · exact .inl h
        · exact .inr ⟨c, by rw [List.lookup_cons, hb]; exact h⟩
    · rename_i hk
      refine clOf_has env x r _ ?_
      rw [List.lookup_cons] at h
      cases hb : x == n with
      | true =>
        rw [hb] at h
        rcases h with h | h
        · cases h; exact absurd rfl hk
        · exact .inr h
      | false => rw [hb] at h; exact h
theorem comp_sc {env : Env} {scope : Scope} (hk : scope.kind = .function) (hn : nameB scope.names = true) (hf : freeB env scope.names = true) : CompSc env scope (clOf env scope.names []) := by
  have hn' : ∀ y ∈ scope.names, ((!(y.2 == .local) || scope.names.lookup y.1 == some .local) && (!(y.2 == .cell) || !(scope.names.lookup y.1 == some .free))) = true := List.all_eq_true.mp hn
  refine ⟨hk, fun y hy e => ?_, closureFor_all hf, clOf_look env scope.names [] hf (fun x c h => by cases h), fun x h => clOf_has env x scope.names [] (.inl h), fun x h k hm e => ?_⟩
  · have := (Bool.and_eq_true_iff.mp (hn' y hy)).1
    rw [e] at this
    simpa using this
  · have := (Bool.and_eq_true_iff.mp (hn' (x, k) hm)).2
    subst e
    rw [h] at this
    simp at this

/-- the context of a comprehension's block -/
def cxComp (X : Cx) (Nc : List Str) (scope : Scope) (cl : List (Str × Addr)) (fp : List Addr) (pins : List (Addr × Obj)) (s3 : Shared) (H3 : Hp) : Cx where
  prog := X.prog
  w := X.w
  K := X.K
  mg := X.mg
  base := X.base
  A := X.A
  N := Nc
  s₀ := s3
  H₀ := H3
  env := compEnvC scope (cellsFrom (s3.heap.objs.size + 1) scope.names cl) s3.heap.objs.size X.env
  outer := X.stack
  stack := X.stack
  ex := fp
  calm := X.calm
  fn := fun x => decide (scope.names.lookup x = some .cell)
  pn := X.pn ++ pins
  xe := fun _ _ => False

theorem relabel_look {env : Env} : ∀ {names : List (Str × NameKind)} {x : Str} {k : NameKind}, (names.map fun (n, k) => if (k == NameKind.free && env.scope.kind == .function && env.kindOf n == some .cell) then (n, NameKind.cell) else (n, k)).lookup x = some k →
    names.lookup x = some k ∨ names.lookup x = some .free
  | [], _, _, h => by simp at h
  | (n, j) :: r, x, k, h => by
    have ih := @relabel_look env r x k
    rw [List.map_cons] at h
    by_cases hc : (j == NameKind.free && env.scope.kind == .function && env.kindOf n == some .cell) = true
    · simp only [hc, if_true] at h
      rw [List.lookup_cons] at h ⊢
      cases hx : x == n with
      | true =>
        simp only [Bool.and_eq_true] at hc
        right
        rw [beq_iff_eq.mp hc.1.1]
      | false => rw [hx] at h; exact ih h
    · have hc' : (j == NameKind.free && env.scope.kind == .function && env.kindOf n == some .cell) = false := by simpa using hc
      simp only [hc', Bool.false_eq_true, if_false] at h
      rw [List.lookup_cons] at h ⊢
      cases hx : x == n with
      | true => rw [hx] at h; exact .inl h
      | false => rw [hx] at h; exact ih h

section
variable {X : Cx} {pins : List (Addr × Obj)} {σ : St} {H : Hp} {s : Shared} {scope : Scope} {cl : List (Str × Addr)} {fp : List Addr} {Nc : List Str} {σc : St}

theorem comp_ok (S : CompSc X.env scope cl) (I : Inv X pins σ H s) (hf : ∀ b ∈ fp, FpOk X pins H b) (hfp : ∀ b ∈ fp, b < s.heap.objs.size) : (cxComp X Nc scope cl fp pins s H).Ok := by
  have clt : ∀ x c, cl.lookup x = some c → c < s.heap.objs.size + 1 := fun x c e => by
    obtain ⟨v, q⟩ := I.cell x c (S.sub x c e)
    exact Nat.lt_succ_of_lt q.lt
  refine ⟨I.ok.mod, S.kind, I.ok.glob, I.ok.blt, Nat.le_refl _, ?_, ?_, ?_, I.ok.hd, I.ok.frames, .inl rfl, ?_, I.bs, Nat.le_trans I.ok.bsz I.sz, ?_, ?_, I.stack, I.stkFree⟩
  · exact cells_inj scope.names _ cl clt fun x y c e1 e2 => I.ok.inj x y c (S.sub x c e1) (S.sub y c e2)
  · intro x hx
    have hx' : (relabel scope X.env).names.lookup x = some .cell ∨ (relabel scope X.env).names.lookup x = some .free := hx
    have : scope.names.lookup x = some .cell ∨ scope.names.lookup x = some .free := by
      rcases hx' with h | h
      · exact relabel_look h
      · rcases relabel_look h with h | h <;> exact .inr h
    rcases this with h | h
    · exact Option.isSome_iff_exists.mp (PySem.W.cellsFrom_some scope.names _ cl (.inl h))
    · obtain ⟨c, e⟩ := S.has x h
      exact Option.isSome_iff_exists.mp (PySem.W.cellsFrom_some scope.names _ cl (.inr (by rw [e]; rfl)))
  · intro x c hx e
    have hx' : scope.names.lookup x = some .cell := of_decide_eq_true hx
    have := cells_own scope.names _ cl x c (.inl hx') e
    exact Nat.le_of_succ_le this
  · intro b hb
    obtain ⟨f0, f1, f2, f3, f4, f5⟩ := hf b hb
    refine ⟨Nat.ne_of_lt (hfp b hb), fun x c e => ?_⟩
    have e' : (cellsFrom (s.heap.objs.size + 1) scope.names cl).lookup x = some c := e
    rcases cells_look scope.names (s.heap.push { cls := .type "dict", data := .dict #[] }) cl x c (by rw [Heap.size_push]; exact e') with q | ⟨_, q⟩
    · exact f4 x c (S.sub x c q)
    · rw [Heap.size_push] at q
      exact fun e => absurd (Nat.lt_of_lt_of_le (hfp b hb) (Nat.le_of_succ_le q)) (by rw [e]; exact Nat.lt_irrefl _)
  · intro b o e hb
    obtain ⟨f0, f1, f2, f3, f4, f5⟩ := hf b hb
    rcases f3 with z | z
    · exact I.ok.noex b o e z
    · exact absurd (Nat.lt_of_lt_of_le (Heap.lt_size e) (Nat.le_trans I.ok.bsz z)) (Nat.lt_irrefl _)
  · intro b hb hs
    obtain ⟨f0, f1, f2, f3, f4, f5⟩ := hf b hb
    rcases List.mem_cons.mp (I.stkSub b hs) with z | z
    · exact f1 z
    · exact f2 z

theorem comp_inv (S : CompSc X.env scope cl) (I : Inv X pins σ H s) (hf : ∀ b ∈ fp, FpOk X pins H b) (hfp : ∀ b ∈ fp, b < s.heap.objs.size) (hlen : σc.length = Nc.length)
    (hσ : ∀ (i : Nat) (x : Str) (v : V), Nc[i]? = some x → σc[i]? = some (some v) → scope.names.lookup x = some .free ∧ X.env.kindOf x ≠ some .local ∧ Vis X.env.scope x ∧ ∃ j : Nat, X.N[j]? = some x ∧ σ[j]? = some (some v))
    {h' : Heap} (hk : ∀ b o, s.heap.get? b = some o → h'.get? b = some o) (hns : h'.Ns s.heap.objs.size (fun _ => none))
    (hcl : ∀ x c, (cellsFrom (s.heap.objs.size + 1) scope.names cl).lookup x = some c → cl.lookup x = some c ∨ (h'.IsCell c none ∧ s.heap.objs.size + 1 ≤ c)) :
    Inv (cxComp X Nc scope cl fp pins s H) [] σc H { s with heap := h' } := by
  have cellOf : ∀ x c, cl.lookup x = some c → ∃ v, h'.IsCell c v ∧ H c = none := fun x c e => by
    obtain ⟨v, q⟩ := I.cell x c (S.sub x c e)
    exact ⟨v, q.keeps hk, I.freeC x c (S.sub x c e)⟩
  refine ⟨comp_ok S I hf hfp, rfl, I.bare, Un.kept hk, ⟨_, hns, fun i x v e1 e2 e3 => ?_⟩, fun x c e => ?_, I.hok.fresh (Nat.le_refl _), fun x c e => ?_, fun p hp => ?_, I.hok.kept hk, hlen⟩
  · obtain ⟨hx, hnl, hv, j, j1, j2⟩ := hσ i x v e1 e2
    obtain ⟨m, hn, hl⟩ := I.loc
    obtain ⟨u, r, l⟩ := hl j x v j1 j2 hv
    refine ⟨u, r, ?_⟩
    rcases l with ⟨k, _⟩ | ⟨k, c, ec, q⟩
    · exact absurd k hnl
    · obtain ⟨c', ec'⟩ := S.has x hx
      have := S.sub x c' ec'
      rw [ec] at this; cases this
      refine .inr ⟨?_, c, ?_, q.keeps hk⟩
      · -- its kind: relabelled, or free
        show (relabel scope X.env).names.lookup x = some .cell ∨ (relabel scope X.env).names.lookup x = some .free
        have look : ∀ {names : List (Str × NameKind)}, names.lookup x = some .free → (names.map fun (n, k) => if (k == NameKind.free && X.env.scope.kind == .function && X.env.kindOf n == some .cell) then (n, NameKind.cell) else (n, k)).lookup x = some .cell ∨
            (names.map fun (n, k) => if (k == NameKind.free && X.env.scope.kind == .function && X.env.kindOf n == some .cell) then (n, NameKind.cell) else (n, k)).lookup x = some .free := by
          intro names
          induction names with
          | nil => intro h; cases h
          | cons y r ih =>
            obtain ⟨n, j⟩ := y
            intro h
            rw [List.lookup_cons] at h
            rw [List.map_cons]
            cases hx : x == n with
            | true =>
              rw [hx] at h; cases h
              by_cases hc : (NameKind.free == NameKind.free && X.env.scope.kind == .function && X.env.kindOf n == some .cell) = true
              · simp only [hc, if_true, List.lookup_cons, hx]; exact .inl trivial
              · have hc' : (NameKind.free == NameKind.free && X.env.scope.kind == .function && X.env.kindOf n == some .cell) = false := by simpa using hc
                simp only [hc', Bool.false_eq_true, if_false, List.lookup_cons, hx]; exact .inr trivial
            | false =>
              rw [hx] at h
              have q := ih h
              by_cases hc : (j == NameKind.free && X.env.scope.kind == .function && X.env.kindOf n == some .cell) = true
              · simp only [hc, if_true, List.lookup_cons, hx]; exact q
              · have hc' : (j == NameKind.free && X.env.scope.kind == .function && X.env.kindOf n == some .cell) = false := by simpa using hc
                simp only [hc', Bool.false_eq_true, if_false, List.lookup_cons, hx]; exact q
        exact look hx
      · show (cellsFrom (s.heap.objs.size + 1) scope.names cl).lookup x = some c
        rw [cells_old _ _ _ _ (S.nocell x hx)]; exact ec'
  · rcases hcl x c e with q | q
    · obtain ⟨v, z, _⟩ := cellOf x c q
      exact ⟨v, z⟩
    · exact ⟨none, q.1⟩
  · rcases hcl x c e with q | q
    · obtain ⟨v, _, z⟩ := cellOf x c q
      exact z
    · exact I.hok.fresh (Nat.le_of_succ_le q.2)
  · have hp' : p ∈ X.pn ++ pins := by
      have : p ∈ (X.pn ++ pins) ++ [] := hp
      simpa using this
    obtain ⟨e, n, ne, nf, d⟩ := I.pin p hp'
    refine ⟨hk _ _ e, n, Nat.ne_of_lt (Heap.lt_size e), fun z => ?_, d⟩
    rcases List.mem_cons.mp (I.stkSub p.1 z) with z | z
    · exact ne z
    · exact nf z
end

/-! ### the tests of a clause -/
def PF (X : Cx) (ifs : List Expr) (t : TT) : Prop :=
  ∀ (pins : List (Addr × Obj)) (s : Shared) (σ : St) (H : Hp) (Q : Bool → Hp → Prop), Inv X pins σ H s → t σ H Q →
    wpAny (model X.prog X.w) X.A (forIn ifs true fun c r => if r = true then do let ok ← isTrue c X.env (eval c X.env); pure (ForInStep.yield ok) else pure (ForInStep.yield r)) (TP X pins σ Q) X.xe s
def tYes : TT := fun _ H Q => Q true H
theorem pf_nil {X : Cx} : PF X [] tYes := fun _ _ _ H _ I h => wpAny_pure ⟨H, I, h⟩
theorem pf_one {X : Cx} {c : Expr} {t : TT} (h : PT X c t) : PF X [c] t := by
  intro pins s σ H Q I hq
  simp only [List.forIn_cons, List.forIn_nil, if_true]
  exact wpAny_bind (wpAny_bind (wpAny_mono (h pins s σ H Q I hq) (fun b s' hb => wpAny_pure (wpAny_pure hb)) fun _ _ x => x))

/-- the loop of a comprehension, whatever its target -/
theorem compLoop_gen {prog : Program} {w : World} {A : Around} {R : Result → Shared → Prop} {s : Shared} {elt target iter : Expr} {ifs : List Expr} {scope : Scope} {pos : Pos} {it acc : Value} {env : Env} (I : Nat → Shared → Prop)
    (turn : ∀ n s, I n s → wpAny (model prog w) A (pyNext it) (fun r s₁ => match r with
      | none => R (.ok .next) s₁
      | some v => wpAny (model prog w) A (letOwnedTupleGo target it v) (fun _ s₁' => wpAny (model prog w) A (assign target env v) (fun _ s₂ =>
          wpAny (model prog w) A (forIn ifs true fun c r => if r = true then do let ok ← isTrue c env (eval c env); pure (ForInStep.yield ok) else pure (ForInStep.yield r)) (fun ok s₃ =>
            if ok = true then wpAny (model prog w) A (eval elt env) (fun x s₄ =>
              wpAny (model prog w) A (call (.builtin "list.append") [acc, x]) (fun _ s₅ => ∃ m, m < n ∧ I m s₅) (fun _ _ => False) s₄) (fun _ _ => False) s₃
            else ∃ m, m < n ∧ I m s₃) (fun _ _ => False) s₂) (fun _ _ => False) s₁') (fun _ _ => False) s₁) (fun _ _ => False) s)
    (n : Nat) (h : I n s) :
    codeAny (model prog w) A (.compLoop (.ListComp elt [⟨target, iter, ifs, 0⟩] scope pos) 0 it acc env) R s := by
  refine codeAny_loop rfl I (fun n s hI => ?_) n h
  show wpAny _ A ((compTurn (.ListComp elt [⟨target, iter, ifs, 0⟩] scope pos) 0 it acc env).onRaise (fun x => do noteFrame x env; theTreesLotGoes x)) _ _ s
  refine wpAny_noted ?_
  rw [compTurn_list]
  refine wpAny_bind (wpAny_standAt (wpAny_bind (wpAny_mono (turn n s hI) (fun r s₁ h₁ => ?_) fun _ _ h' => h'.elim)))
  cases r with
  | none => exact wpAny_pure h₁
  | some v =>
    refine wpAny_bind (wpAny_mono h₁ (fun _ s₁' h₁' => ?_) fun _ _ h' => h'.elim)
    refine wpAny_bind (wpAny_mono h₁' (fun _ s₂ h₂ => wpAny_bind (wpAny_mono h₂ (fun ok s₃ h₃ => ?_) fun _ _ h' => h'.elim)) fun _ _ h' => h'.elim)
    cases ok with
    | false => exact wpAny_pure ⟨rfl, h₃⟩
    | true =>
      exact wpAny_bind (wpAny_bind (wpAny_mono h₃ (fun x s₄ h₄ => wpAny_bind (wpAny_mono h₄ (fun _ s₅ h₅ => wpAny_pure (wpAny_pure ⟨rfl, h₅⟩)) fun _ _ h' => h'.elim)) fun _ _ h' => h'.elim))

/-- the names' values at a comprehension's start: none of its own, those that it takes over -/
def compSt (fi : List (Option Nat)) (σ : St) : St := fi.map fun o => match o with
  | none => none
  | some j => (σ[j]?).join
/-- the reading: W, the invariant by the turn and a measure; a: the list that grows -/
abbrev CT (α : Type) := List Addr → List (Addr × Obj) → Shared → Hp → α
/-- W, the invariant by the turn and a measure; a: the list that grows -/
def CompW (J : It) (a : Addr) (σ0 : St) (H1 : Hp) (g : TG) (tc : TT) (te : TE) (Q : VK) : Prop :=
  ∃ W : Nat → Nat → St → Hp → Prop, (∃ m, W 0 m σ0 (upd H1 a (.lst []))) ∧ ∀ i m σc Hc, W i m σc Hc →
    (J.stop i Hc ∧ Q (.ref a) Hc) ∨ (J.go i Hc ∧ ∀ x H', J.yld i Hc x H' → g x σc H' fun σ2 H2 => tc σ2 H2 fun b H3' =>
      if b = true then te σ2 H3' fun y H4 => ∃ ys, H4 a = some (.lst ys) ∧ ys.length < sizeLine ∧ ∃ m', m' < m ∧ W (i + 1) m' σ2 (upd H4 a (.lst (ys ++ [y])))
      else ∃ m', m' < m ∧ W (i + 1) m' σ2 H3')
def tComp (fi : List (Option Nat)) (wi : TI) (g : CT TG) (tc : CT TT) (te : CT TE) : TE := fun σ H Q => wi σ H fun J H1 => ∀ fp pins s3 H3 a, H1 a = none →
  CompW J a (compSt fi σ) H1 (g fp pins s3 H3) (tc fp pins s3 H3) (te fp pins s3 H3) Q
/-- where the names come from -/
def CompFrom (X : Cx) (scope : Scope) (Nc : List Str) (fi : List (Option Nat)) : Prop :=
  fi.length = Nc.length ∧ ∀ (i : Nat) (x : Str) (j : Nat), Nc[i]? = some x → fi[i]? = some (some j) → scope.names.lookup x = some .free ∧ X.env.kindOf x ≠ some .local ∧ Vis X.env.scope x ∧ X.N[j]? = some x

def cfB (sc : Scope) (env : Env) (N : List Str) : List Str → List (Option Nat) → Bool
  | [], [] => true
  | _ :: xs, none :: os => cfB sc env N xs os
  | x :: xs, some j :: os => (sc.names.lookup x == some .free) && ((env.scope.names.lookup x == some .cell) || (env.scope.names.lookup x == some .free)) && (N[j]? == some x) && cfB sc env N xs os
  | _, _ => false
theorem comp_from_go {X : Cx} {scope : Scope} : ∀ {Nc : List Str} {fi : List (Option Nat)}, cfB scope X.env X.N Nc fi = true → CompFrom X scope Nc fi
  | [], [], _ => ⟨rfl, fun i x j e => by simp at e⟩
  | _ :: xs, none :: os, h => by
    obtain ⟨h1, h2⟩ := comp_from_go (X := X) (scope := scope) (Nc := xs) (fi := os) h
    refine ⟨by rw [List.length_cons, List.length_cons, h1], fun i x j e1 e2 => ?_⟩
    cases i with
    | zero => simp at e2
    | succ i => exact h2 i x j (by simpa using e1) (by simpa using e2)
  | x :: xs, some k :: os, h => by
    have h' : ((scope.names.lookup x == some .free) && ((X.env.scope.names.lookup x == some .cell) || (X.env.scope.names.lookup x == some .free)) && (X.N[k]? == some x) && cfB scope X.env X.N xs os) = true := h
    simp only [Bool.and_eq_true, Bool.or_eq_true, beq_iff_eq] at h'
    obtain ⟨⟨⟨a1, a2⟩, a3⟩, a4⟩ := h'
    obtain ⟨h1, h2⟩ := comp_from_go (X := X) (scope := scope) (Nc := xs) (fi := os) a4
    refine ⟨by rw [List.length_cons, List.length_cons, h1], fun i y j e1 e2 => ?_⟩
    cases i with
    | zero =>
      simp at e1 e2
      subst e1; subst e2
      refine ⟨a1, ?_, ?_, a3⟩
      · show X.env.scope.names.lookup x ≠ some .local
        rcases a2 with a2 | a2 <;> rw [a2] <;> decide
      · rcases a2 with a2 | a2
        · exact .inr (.inl a2)
        · exact .inr (.inr a2)
    | succ i => exact h2 i y j (by simpa using e1) (by simpa using e2)
  | [], _ :: _, h => by cases h
  | _ :: _, [], h => by cases h

section
variable {X : Cx} {elt tg iter : Expr} {ifs : List Expr} {scope : Scope} {pos : Pos} {cl : List (Str × Addr)} {Nc : List Str} {fi : List (Option Nat)} {wi : TI} {g : CT TG} {tc : CT TT} {te : CT TE}

/-- the block, from its iterator on; what is wanted of the list that it made -/
theorem comp_block (S : CompSc X.env scope cl) (hc : X.calm = true) (hfr : CompFrom X scope Nc fi)
    (hb : ∀ fp pins s3 H3, PG (cxComp X Nc scope cl fp pins s3 H3) tg (g fp pins s3 H3) ∧ PF (cxComp X Nc scope cl fp pins s3 H3) ifs (tc fp pins s3 H3) ∧ PE (cxComp X Nc scope cl fp pins s3 H3) elt (te fp pins s3 H3))
    {pins : List (Addr × Obj)} {σ : St} {Q : VK} {itv : Value} {s2 : Shared} {RR : Value → Addr → Result → Shared → Prop}
    (h2 : PIE X pins σ tg (fun J H1 => ∀ fp pins s3 H3 a, H1 a = none → CompW J a (compSt fi σ) H1 (g fp pins s3 H3) (tc fp pins s3 H3) (te fp pins s3 H3) Q) itv s2)
    (hRR : ∀ a C s' H' m, s'.heap.Ns C m → (∀ h', Heap.SameBut C s'.heap h' → Inv X pins σ H' { s' with heap := h' }) → FpOk X pins H' C → Q (.ref a) H' → RR (.ref a) C (.ok .next) s') :
    wpAny (model X.prog X.w) X.A (newList []) (fun acc s₃ => wpAny (model X.prog X.w) X.A (newFunctionEnv scope X.env.globals cl [] X.env.qual none .none (some X.env)) (fun cenv s₄ =>
      codeAny (model X.prog X.w) X.A (.compStart (.ListComp elt [⟨tg, iter, ifs, 0⟩] scope pos) 0 itv acc { cenv with scope := relabel scope X.env }) (RR acc cenv.locals) s₄) X.xe s₃) X.xe s2 := by
  obtain ⟨it, fp, tn, J, H2, e, I2, T, st2, f2, hR⟩ := h2
  subst e
  refine wpAny_newObj_type ?_
  have hfr2 : H2 s2.heap.objs.size = none := I2.hok.fresh (Nat.le_refl _)
  -- the list, tracked
  have I3 : Inv X pins σ (upd H2 s2.heap.objs.size (.lst [])) { s2 with heap := s2.heap.push { cls := .type "list", dict := none, data := .seq ([] : List Value).toArray } } :=
    I2.laid (t' := s2.toks) (fun b u e => Heap.get?_push_of_some _ e) (Nat.le_refl _) ⟨Nat.zero_le _, [], 0, .nil, Heap.get?_push_size _ rfl⟩
  obtain ⟨W, ⟨m0, w0⟩, turn⟩ := hR fp pins { s2 with heap := s2.heap.push { cls := .type "list", dict := none, data := .seq ([] : List Value).toArray } } (upd H2 s2.heap.objs.size (.lst [])) s2.heap.objs.size hfr2
  generalize hH3 : upd H2 s2.heap.objs.size (.lst []) = H3 at I3 w0 turn
  generalize hs3 : ({ s2 with heap := s2.heap.push { cls := .type "list", dict := none, data := .seq ([] : List Value).toArray } } : Shared) = s3 at I3 turn
  have hheap3 : s3.heap = s2.heap.push { cls := .type "list", dict := none, data := .seq ([] : List Value).toArray } := by rw [← hs3]
  have hsz3 : s3.heap.objs.size = s2.heap.objs.size + 1 := by rw [hheap3, Heap.size_push]
  have keep3 : ∀ b o, s2.heap.get? b = some o → s3.heap.get? b = some o := fun b o e => by rw [hheap3]; exact Heap.get?_push_of_some _ e
  have st3 : tn 0 s3.heap := T.keep _ _ _ st2 fun b _ o e => keep3 b o e
  have hfp : ∀ b ∈ fp, b < s2.heap.objs.size := fun b hb => by
    obtain ⟨o, e, _⟩ := T.obj _ _ st2 b hb
    exact Heap.lt_size e
  have f3 : ∀ b ∈ fp, FpOk X pins H3 b := fun b hb => by
    obtain ⟨f0, fr⟩ := f2 b hb
    refine ⟨?_, fr⟩
    rw [← hH3, upd_ne (Nat.ne_of_lt (hfp b hb))]; exact f0
  have hfp3 : ∀ b ∈ fp, b < s3.heap.objs.size := fun b hb => by rw [hsz3]; exact Nat.lt_succ_of_lt (hfp b hb)
  show wpAny _ _ _ _ _ s3
  refine newEnv_comp fun h4 hk4 hns4 hcl4 => ?_
  have hlen : (compSt fi σ).length = Nc.length := by rw [← hfr.1]; simp [compSt]
  have I4 : Inv (cxComp X Nc scope cl fp pins s3 H3) [] (compSt fi σ) H3 { s3 with heap := h4 } := by
    refine comp_inv S I3 f3 hfp3 hlen (fun i x v e1 e2 => ?_) hk4 hns4 hcl4
    unfold compSt at e2
    rw [List.getElem?_map] at e2
    cases ef : fi[i]? with
    | none => rw [ef] at e2; cases e2
    | some o =>
      rw [ef] at e2
      cases o with
      | none => cases e2
      | some j =>
        obtain ⟨q1, q2, q3, q4⟩ := hfr.2 i x j e1 ef
        have e2' : (σ[j]?).join = some v := Option.some.inj e2
        refine ⟨q1, q2, q3, j, q4, ?_⟩
        cases es : σ[j]? with
        | none => rw [es] at e2'; cases e2'
        | some z => rw [es] at e2'; cases z with
          | none => cases e2'
          | some z => cases e2'; rfl
  have st4 : tn 0 h4 := T.keep _ _ _ st3 fun b _ o e => hk4 b o e
  obtain ⟨pg, pf, pe⟩ := hb fp pins s3 H3
  -- the loop
  have loop : codeAny (model X.prog X.w) X.A (.compLoop (.ListComp elt [⟨tg, iter, ifs, 0⟩] scope pos) 0 (.ref it) (.ref s2.heap.objs.size) (cxComp X Nc scope cl fp pins s3 H3).env) (RR (.ref s2.heap.objs.size) s3.heap.objs.size) { s3 with heap := h4 } := by
    have stat : ∀ {H' : Hp}, (∀ b ∈ fp, H' b = none) → ∀ b ∈ fp, FpOk (cxComp X Nc scope cl fp pins s3 H3) [] H' b := fun hn b hb => by
      obtain ⟨f0, f1, f2', f3', f4, f5⟩ := f3 b hb
      have ok := I4.ok
      refine ⟨hn b hb, (ok.exf b hb).1, ok.exfs b hb, .inl hb, (ok.exf b hb).2, fun p hp => ?_⟩
      have : p ∈ X.pn ++ pins := by
        have : p ∈ (X.pn ++ pins) ++ [] := hp
        simpa using this
      exact f5 p this
    refine compLoop_gen (fun n s' => ∃ i σ' H', Inv (cxComp X Nc scope cl fp pins s3 H3) [] σ' H' s' ∧ tn i s'.heap ∧ (∀ b ∈ fp, H' b = none) ∧ W i n σ' H') ?_ m0 ⟨0, _, H3, I4, st4, fun b hb => (f3 b hb).1, w0⟩
    rintro n s5 ⟨i, σ5, H5, I5, st5, fr5, w5⟩
    rcases turn i n σ5 H5 w5 with ⟨stop, q⟩ | ⟨go, step⟩
    · refine thn (T.done (cxComp X Nc scope cl fp pins s3 H3) rfl rfl rfl hc i [] s5 σ5 H5 _ I5 (stat fr5) st5 stop) fun r s6 ⟨hr, I6⟩ => ?_
      subst hr
      obtain ⟨m, hn, _⟩ := id I6.loc
      refine hRR _ _ s6 H5 m hn (fun h' hs' => ?_) (I3.fpOk (Nat.le_refl _) I6.free) q
      · -- back in the body
        have ub : Un (frs X.stack) fp H3 H5 s3.heap s6.heap := I6.base
        have neC : ∀ b o, s3.heap.get? b = some o → b ≠ s3.heap.objs.size := fun b o e => Nat.ne_of_lt (Heap.lt_size e)
        have ub' : Un (frs X.stack) fp H3 H5 s3.heap h' :=
          ⟨fun b o e n hb hx => (hs'.2 b (neC b o e)).trans (ub.keep b o e n hb hx), fun b o e n hb hx => (ub.slot b o e n hb hx).imp fun sl z => (hs'.2 b (neC b o e)).trans z, ub.free, fun b o e hx => (ub.there b o e hx).imp fun o' z => (hs'.2 b (neC b o e)).trans z, ub.tups, ub.frzs, ub.tbls⟩
        have hok' : HOk X.prog X.w H5 h' := fun b ob e => by
          refine (I6.hok b ob e).stay (fun c w' hcc z => (hs'.2 c ?_).trans z) (fun _ z => z) fun _ _ z => z
          rintro rfl
          have hfree : H5 s3.heap.objs.size = none := I6.free
          rcases hcc with z | z
          · have z' : s3.heap.objs.size = b := z
            rw [← z', hfree] at e; cases e
          · have z' : H5 s3.heap.objs.size = some (.own b) := z
            rw [hfree] at z'; cases z'
        exact I3.call' (s' := { s6 with heap := h' }) (ch := fp) I6.os ub' hok' I6.bare fun b hb => by
          obtain ⟨f0, f1, f2', f3', f4, f5⟩ := f3 b hb
          exact ⟨f3', f1, f4, f5⟩
    · refine thn (T.item (cxComp X Nc scope cl fp pins s3 H3) rfl rfl rfl hc i [] s5 σ5 H5 _ I5 (stat fr5) st5 go) fun r s6 ⟨u, hr, h6⟩ => ?_
      subst hr
      refine thn h6 fun _ s7 ⟨x, H7, I7, r7, y7, st7, fr7⟩ => ?_
      have I7' := I7.pinned (stat fr7) (T.obj _ _ st7)
      refine thn (pg _ s7 σ5 H7 x u _ I7' r7 (step x H7 y7)) fun _ s8 ⟨σ8, H8, I8, q8⟩ => ?_
      refine thn (pf _ s8 σ8 H8 _ I8 q8) fun ok s9 ⟨H9, I9, q9⟩ => ?_
      have again : ∀ {σ' : St} {H' : Hp} {s' : Shared}, Inv (cxComp X Nc scope cl fp pins s3 H3) ([] ++ pinsAt fp s7.heap) σ' H' s' → (∃ m', m' < n ∧ W (i + 1) m' σ' H') →
          ∃ m, m < n ∧ ∃ i σ' H', Inv (cxComp X Nc scope cl fp pins s3 H3) [] σ' H' s' ∧ tn i s'.heap ∧ (∀ b ∈ fp, H' b = none) ∧ W i m σ' H' := fun {σ' H' s'} I' ⟨m', hm, w'⟩ => by
        refine ⟨m', hm, i + 1, σ', H', I'.unpinned, T.keep _ _ _ st7 fun b hb o e => (I'.pin (b, o) (List.mem_append_right _ (List.mem_append_right _ (mem_pinsAt hb e)))).1, fun b hb => ?_, w'⟩
        obtain ⟨o, e, d⟩ := T.obj _ _ st7 b hb
        exact (I'.pin (b, o) (List.mem_append_right _ (List.mem_append_right _ (mem_pinsAt hb e)))).2.1
      cases ok with
      | false => exact again I9 q9
      | true =>
        rw [if_pos rfl]
        refine thn (pe _ s9 σ8 H9 _ I9 q9) fun y s10 ⟨yv, H10, I10, r10, ys, ha, hz, q10⟩ => ?_
        refine thn (mt_append _ s10 σ8 H10 (.ref s2.heap.objs.size) [yv] (.ref s2.heap.objs.size) [y] (fun _ H' => ∃ m', m' < n ∧ W (i + 1) m' σ8 H') I10 rfl (.cons r10 .nil) ⟨_, ys, yv, rfl, rfl, ha, hz, q10⟩) fun _ s11 ⟨_, H11, I11, _, q11⟩ => ?_
        exact again I11 q11
  exact codeAny_compStart_list loop (T.self X.A 0 _ _ _ st4 loop)

/-- [elt for tg in iter if ..] -/
theorem pe_comp (S : CompSc X.env scope cl) (hc : X.calm = true) (hfr : CompFrom X scope Nc fi) (hi : PI X tg iter wi)
    (hb : ∀ fp pins s3 H3, PG (cxComp X Nc scope cl fp pins s3 H3) tg (g fp pins s3 H3) ∧ PF (cxComp X Nc scope cl fp pins s3 H3) ifs (tc fp pins s3 H3) ∧ PE (cxComp X Nc scope cl fp pins s3 H3) elt (te fp pins s3 H3))
    (hs : ∀ x, foldedSetIterable iter X.env x = pure x := by intro _; rfl) : PE X (.ListComp elt [⟨tg, iter, ifs, 0⟩] scope pos) (tComp fi wi g tc te) := by
  intro pins s σ H Q I h
  rw [eval_ListComp]
  refine wpAny_comprehension_free (use := none) rfl hs S.clos S.kind S.names (thn (hi pins s σ H _ I h) fun v s1 h1 => thn h1 fun itv s2 h2 => ?_)
  refine comp_block (Q := Q) (RR := fun acc C => compPost (model X.prog X.w) X.A X.xe none (EP X pins σ Q) acc C) S hc hfr hb h2 ?_
  intro a C s' H' m hn hI _ q
  exact ⟨m, hn, fun h' hs' => ⟨.ref a, H', hI h' hs', rfl, q⟩⟩

/-- name = [elt for tg in iter if ..]: the name is stored ahead of the letting go -/
theorem ps_setComp {i : Nat} {y : Str} {py spos : Pos} (S : CompSc X.env scope cl) (hc : X.calm = true) (hfr : CompFrom X scope Nc fi) (hN : X.N.Nodup) (hiy : X.N[i]? = some y) (hy : X.env.kindOf y = some .local) (hi : PI X tg iter wi)
    (hb : ∀ fp pins s3 H3, PG (cxComp X Nc scope cl fp pins s3 H3) tg (g fp pins s3 H3) ∧ PF (cxComp X Nc scope cl fp pins s3 H3) ifs (tc fp pins s3 H3) ∧ PE (cxComp X Nc scope cl fp pins s3 H3) elt (te fp pins s3 H3))
    (hsw : swapsWith (.ListComp elt [⟨tg, iter, ifs, 0⟩] scope pos) (some (.Name y py)) spos.line X.env = pure true)
    (hs : ∀ x, foldedSetIterable iter X.env x = pure x := by intro _; rfl) : PS X (.Assign [.Name y py] (.ListComp elt [⟨tg, iter, ifs, 0⟩] scope pos) spos) (tAsg (tComp fi wi g tc te) (gName i)) := by
  intro pins s σ H D I h
  rw [exec_Assign_Name_used _ _ _ _ hsw]
  refine wpAny_bind (wpAny_standAt (wpAny_bind ?_))
  show wpAny _ X.A (do let _ ← comprehension (.ListComp elt [⟨tg, iter, ifs, 0⟩] scope pos) scope X.env _ (newList []) false (eval iter X.env) (some (assign (.Name y py) X.env))) _ _ s
  refine wpAny_bind (wpAny_mono (wpAny_comprehension_free (use := some (assign (.Name y py) X.env)) (Q := fun _ s' => SP X pins D .next s') rfl hs S.clos S.kind S.names
    (thn (hi pins s σ H _ I h) fun v s1 h1 => thn h1 fun itv s2 h2 => ?_)) (fun _ s' hq => wpAny_pure (wpAny_pure hq)) fun _ _ e => e)
  refine comp_block (Q := fun v H' => gName i v σ H' D.nx) (RR := fun acc C => compPost (model X.prog X.w) X.A X.xe (some (assign (.Name y py) X.env)) (fun _ s' => SP X pins D .next s') acc C) S hc hfr hb h2 ?_
  intro a C s' H' m hn hI ⟨f0, f1, f2, f3, f4, f5⟩ q
  show wpAny _ X.A (assign (.Name y py) X.env (.ref a)) _ _ _
  have I' : Inv X pins σ H' s' := hI s'.heap (Heap.SameBut.refl ..)
  obtain ⟨mL, hnL, _⟩ := id I'.loc
  refine wpAny_assign_Name (store_ok2 I' hN hiy (.inl hy) (v := .ref a) rfl (fun s'' I'' ⟨b, sb, hbL⟩ => ?_) (.inr hy))
  have hb' : b ≠ C := by
    rcases hbL with z | z
    · rw [z]; exact Ne.symm f1
    · intro e
      exact f4 y b z e
  refine ⟨m, hn.sameBut sb (Ne.symm hb'), fun h3 hs3 => ?_⟩
  refine ⟨σ.set i (some (.ref a)), H', ?_, q⟩
  -- the frame of the comprehension changed behind the store
  have keep : ∀ b o, b ≠ C → s''.heap.get? b = some o → h3.get? b = some o := fun b o hb e => (hs3.2 b hb).trans e
  exact Inv.turned (t' := s''.toks) (it := C) I'' keep f0 f1 f3 f4 f5
end
end L2
set_option Elab.async false
set_option linter.all false
set_option maxRecDepth 100000
set_option maxHeartbeats 4000000
namespace PySem.L3
open PySem
theorem boot_len : bootBuiltins "len" = some (.builtin "len") := by decide +kernel
theorem boot_abs : bootBuiltins "abs" = some (.builtin "abs") := by decide +kernel
theorem boot_any : bootBuiltins "any" = some (.builtin "any") := by decide +kernel
theorem boot_all : bootBuiltins "all" = some (.builtin "all") := by decide +kernel
theorem boot_sum : bootBuiltins "sum" = some (.builtin "sum") := by decide +kernel
theorem boot_min : bootBuiltins "min" = some (.builtin "min") := by decide +kernel
theorem boot_max : bootBuiltins "max" = some (.builtin "max") := by decide +kernel
theorem boot_sorted : bootBuiltins "sorted" = some (.builtin "sorted") := by decide +kernel
theorem boot_isinstance : bootBuiltins "isinstance" = some (.builtin "isinstance") := by decide +kernel
theorem boot_tuple : bootBuiltins "tuple" = some (.type "tuple") := by decide +kernel
theorem boot_list : bootBuiltins "list" = some (.type "list") := by decide +kernel
theorem boot_bool : bootBuiltins "bool" = some (.type "bool") := by decide +kernel
theorem boot_int : bootBuiltins "int" = some (.type "int") := by decide +kernel
theorem boot_str : bootBuiltins "str" = some (.type "str") := by decide +kernel
theorem boot_set : bootBuiltins "set" = some (.type "set") := by decide +kernel
theorem boot_range : bootBuiltins "range" = some (.type "range") := by decide +kernel
theorem boot_reversed : bootBuiltins "reversed" = some (.type "reversed") := by decide +kernel
theorem boot_zip : bootBuiltins "zip" = some (.type "zip") := by decide +kernel
theorem boot_enumerate : bootBuiltins "enumerate" = some (.type "enumerate") := by decide +kernel
end PySem.L3

namespace L2
open PySem PySem.Spec PyProof.Rows

/-! ### a def that may be called -/
def Cal (P : Program) (w : World) (K : PySem.W.Frag) (mg : Str → Option Value) (base : Heap) (k : Nat) (x : Str) (sp : Sp) : Prop :=
  ∃ f fd ps, FnOk P w K mg base CX0 k f fd ps sp ∧ Binds K fd ps [] ∧ PySem.W.keepIn K (.ref f) = true ∧ mg x = some (.ref f)
def tCl (sp : Sp) (t : TA) : TE := fun σ H Q => t σ H fun vs H1 => sp vs H1 Q E0
section
variable {X : Cx} {k : Nat} {x : Str} {sp : Sp} {p pos : Pos} {e : Expr} {es : List Expr} {t : TA}
theorem pe_c (C : Cal X.prog X.w X.K X.mg X.base k x sp) (hr : Room k X.A) (hg : Gl X x) (ha : PA X (e :: es) t) (hdb : (x == ("__debug__" : Str)) = false := by decide)
    (he : starEach (e :: es) X.env = (false, eval e X.env) :: starEach es X.env := by rfl) (hpl : (backTo pos (starEach es X.env)).any (·.1) = false := by rfl) : PE X (.Call (.Name x p) (e :: es) [] pos) (tCl sp t) := by
  obtain ⟨f, fd, ps, F, hb, hk, hm⟩ := C
  have q := pe_call (dvs := []) (E := E0) (p := p) (pos := pos) F hr hg hm hk hb .nil pass0 ha hdb he hpl
  intro pins s σ H Q I h
  refine q pins s σ H Q I ?_
  show t σ H fun vs H1 => sp (vs ++ []) H1 Q E0
  have e0 : (fun vs H1 => sp (vs ++ []) H1 Q E0) = fun vs H1 => sp vs H1 Q E0 := by funext vs H1; rw [List.append_nil]
  rw [e0]; exact h
end
/-- a def of the text as it may be called -/
theorem cal_mk {P : Program} {w : World} {K : PySem.W.Frag} {mg : Str → Option Value} {base : Heap} {k : Nat} {x : Str} {sp : Sp} {f : Addr} {fd : FuncData} {ps : List Str}
    (F : FnOk P w K mg base CX0 k f fd ps sp) (b : Binds K fd ps []) (kp : PySem.W.keepIn K (.ref f) = true) (m : mg x = some (.ref f)) : Cal P w K mg base k x sp := ⟨f, fd, ps, F, b, kp, m⟩

/-! ### isinstance -/
theorem kitOne_type {K : PySem.W.Frag} {a b : String} {r : Bool} (h : PySem.W.kitOne K (.type a) (.type b) = some r) : PySem.W.kitOne K (.type a) (.type b) = some r := h
section
variable {X : Cx}
theorem call_isinstance : CallR X (.builtin "isinstance") (fun xs H Q => ∃ x T t b, xs = [x, .ty T] ∧ TyOf X.K H x t ∧ PySem.W.kitOne X.K t (.type T) = some b ∧ Q (.bl b) H) := by
  intro pins s σ H xs us Q I rv h
  obtain ⟨x, T, t, b, rfl, ty, e, q⟩ := h
  obtain ⟨u, u', rfl, rx, rt⟩ := vals2 rv
  cases rt
  exact isinst_ok I rx ty e fun tk => ⟨.bl b, H, I.tok tk, rfl, q⟩

/-! ### any, all of a list of truths -/
theorem bools_of : ∀ {bs : List Bool} {its : List Value}, Vals (bs.map V.bl) its → its = bs.map Value.bool
  | [], _, r => by cases r; rfl
  | b :: bs, _, r => by
    cases r with
    | cons r1 r2 => cases r1; rw [bools_of r2]; rfl
theorem range_any (bs : List Bool) : (List.range bs.length).any (fun i => bs.getD i false) = bs.any id := by
  induction bs with
  | nil => rfl
  | cons b bs ih =>
    rw [List.length_cons, List.range_succ_eq_map, List.any_cons, List.any_map, List.any_cons]
    simpa [Function.comp_def] using congrArg (b || ·) ih
theorem range_all (bs : List Bool) : (List.range bs.length).all (fun i => bs.getD i false) = bs.all id := by
  induction bs with
  | nil => rfl
  | cons b bs ih =>
    rw [List.length_cons, List.range_succ_eq_map, List.all_cons, List.all_map, List.all_cons]
    simpa [Function.comp_def] using congrArg (b && ·) ih
theorem walk_bools {pins : List (Addr × Obj)} {s : Shared} {σ : St} {H : Hp} {p : Addr} {bs : List Bool} {R : Bool → Bool} {E : Value → Shared → Prop} (hc : X.calm = true) (I : Inv X pins σ H s) (hq : SqL X.K H p (bs.map V.bl))
    {QQ : (Nat → Bool) → Nat → Shared → Prop} (hQ : ∀ h' tk, (∀ b o, s.heap.get? b = some o → h'.get? b = some o) → QQ (fun i => bs.getD i false) bs.length { s with heap := h', toks := tk }) :
    wpAny (model X.prog X.w) X.A.in1 (pyIter (.ref p)) (fun it s₂ => ∃ I fp wr n P St tr, it = .ref I ∧ Walks X.prog X.w X.A.in1 I fp wr n P St ∧ St 0 s₂.heap ∧ TruthOf X.prog X.w X.A.in1 P tr ∧
      ∀ h' tk, (∀ b o, b ∉ wr → s₂.heap.get? b = some o → h'.get? b = some o) → QQ tr n { s₂ with heap := h', toks := tk }) E s := by
  obtain ⟨its, rv, pl, hz⟩ := I.list hq
  have e := bools_of rv
  subst e
  have hl := pl.isList
  have hax : p < s.heap.objs.size := by obtain ⟨_, e, _⟩ := hl; exact Heap.lt_size e
  refine wpAny_pyIter_list hl ?_
  refine ⟨s.heap.objs.size, [s.heap.objs.size, p], [s.heap.objs.size], (bs.map Value.bool).toArray.size, (fun i v => (bs.map Value.bool).toArray[i]? = some v), _, fun i => bs.getD i false, rfl,
    Walks.list (prog := X.prog) (w := X.w) (A := X.A.in1) (I.ok.hd hc) s.heap.objs.size p (Nat.ne_of_lt hax) _, ⟨⟨_, Heap.get?_push_size _ rfl, rfl, rfl⟩, hl.push _⟩, ?_, fun h' tk hk => ?_⟩
  · intro i v s' Q' E' hP hQ'
    have : ∃ b, bs[i]? = some b ∧ v = .bool b := by
      have hP' : (bs.map Value.bool)[i]? = some v := by simpa using hP
      rw [List.getElem?_map] at hP'
      cases hb : bs[i]? with
      | none => rw [hb] at hP'; cases hP'
      | some b => rw [hb] at hP'; exact ⟨b, rfl, (Option.some.inj hP').symm⟩
    obtain ⟨b, hb, rfl⟩ := this
    refine wpAny_truthy_bool ?_
    have : bs.getD i false = b := by rw [List.getD_eq_getElem?_getD, hb]; rfl
    have hQ2 : Q' (bs.getD i false) s' := hQ'
    rw [this] at hQ2; exact hQ2
  · have : (bs.map Value.bool).toArray.size = bs.length := by simp
    rw [this]
    exact hQ h' tk fun b o e => hk b o (by
      intro hm
      have hb : b = s.heap.objs.size := by simpa using hm
      have hlt := Heap.lt_size e
      rw [hb] at hlt
      exact Nat.lt_irrefl _ hlt) (Heap.get?_push_of_some _ e)
theorem call_any (hc : X.calm = true) : CallR X (.builtin "any") (fun xs H Q => ∃ (p : Addr) (bs : List Bool), xs = [.ref p] ∧ SqL X.K H p (bs.map V.bl) ∧ Q (.bl (bs.any id)) H) := by
  intro pins s σ H xs us Q I rv h
  obtain ⟨p, bs, rfl, hq, q⟩ := h
  obtain ⟨u, rfl, rx⟩ := vals1 rv
  cases rx
  refine call_any_walk (walk_bools (R := id) hc I hq (QQ := fun tr n s' => EP X pins σ Q (.bool ((List.range n).any tr)) s') fun h' tk hk => ?_)
  rw [range_any]
  exact ⟨.bl (bs.any id), H, I.kept hk, rfl, q⟩
theorem call_all (hc : X.calm = true) : CallR X (.builtin "all") (fun xs H Q => ∃ (p : Addr) (bs : List Bool), xs = [.ref p] ∧ SqL X.K H p (bs.map V.bl) ∧ Q (.bl (bs.all id)) H) := by
  intro pins s σ H xs us Q I rv h
  obtain ⟨p, bs, rfl, hq, q⟩ := h
  obtain ⟨u, rfl, rx⟩ := vals1 rv
  cases rx
  refine call_all_walk (walk_bools (R := id) hc I hq (QQ := fun tr n s' => EP X pins σ Q (.bool ((List.range n).all tr)) s') fun h' tk hk => ?_)
  rw [range_all]
  exact ⟨.bl (bs.all id), H, I.kept hk, rfl, q⟩
end

/-! ### a comprehension by what holds of the list so far -/
theorem comp_by {J : It} {l : Addr} {σ0 : St} {H1 : Hp} {g : TG} {tc : TT} {te : TE} {Q : VK} (n : Nat) (hn : n ≤ sizeLine) (Pv : Nat → List V → St → Hp → Prop) (h0 : Pv 0 [] σ0 (upd H1 l (.lst [])))
    (hl : ∀ i ys σ H, Pv i ys σ H → H l = some (.lst ys) ∧ ys.length ≤ i)
    (hs : ∀ i ys σ H, i < n → Pv i ys σ H → J.go i H ∧ ∀ x H', J.yld i H x H' → ∀ (Kt : St → V → Hp → Prop) (Kf : St → Hp → Prop),
      (∀ σ2 y H4, H4 l = some (.lst ys) → Pv (i + 1) (ys ++ [y]) σ2 (upd H4 l (.lst (ys ++ [y]))) → Kt σ2 y H4) → (∀ σ2 H3, Pv (i + 1) ys σ2 H3 → Kf σ2 H3) →
      g x σ H' fun σ2 H2 => tc σ2 H2 fun b H3 => if b = true then te σ2 H3 (Kt σ2) else Kf σ2 H3)
    (hd : ∀ ys σ H, Pv n ys σ H → J.stop n H ∧ Q (.ref l) H) :
    CompW J l σ0 H1 g tc te Q := by
  refine ⟨fun i m σ H => m = n - i ∧ i ≤ n ∧ ∃ ys, Pv i ys σ H, ⟨n, by simp, Nat.zero_le _, [], h0⟩, ?_⟩
  rintro i m σ H ⟨rfl, hi, ys, p⟩
  by_cases hlt : i < n
  · obtain ⟨go, step⟩ := hs i ys σ H hlt p
    refine .inr ⟨go, fun x H' y => ?_⟩
    refine step x H' y (fun σ2 y H4 => ∃ ys, H4 l = some (.lst ys) ∧ ys.length < sizeLine ∧ ∃ m', m' < n - i ∧ (m' = n - (i + 1) ∧ i + 1 ≤ n ∧ ∃ zs, Pv (i + 1) zs σ2 (upd H4 l (.lst (ys ++ [y]))))) (fun σ2 H3 => ∃ m', m' < n - i ∧ (m' = n - (i + 1) ∧ i + 1 ≤ n ∧ ∃ zs, Pv (i + 1) zs σ2 H3)) ?_ ?_
    · intro σ2 y H4 e q
      have := (hl i ys σ H p).2
      exact ⟨ys, e, by omega, n - (i + 1), by omega, rfl, hlt, _, q⟩
    · intro σ2 H3 q
      exact ⟨n - (i + 1), by omega, rfl, hlt, _, q⟩
  · have e : i = n := by omega
    subst e
    exact .inl (hd ys σ H p)
end L2
set_option Elab.async false
set_option linter.all false
set_option maxRecDepth 100000
set_option maxHeartbeats 4000000
namespace L2
open PySem PySem.Spec PyProof.Rows
/-! ### deep data -/
section
variable (K : PySem.W.Frag) (H : Hp)
mutual
def Dn : PyData → V → Prop
  | .none, v => v = .non
  | .bool b, v => v = .bl b
  | .int i, v => v = .int i
  | .str x, v => v = .str x
  | .tuple ds, v => ∃ a xs, v = .ref a ∧ SqT K H a xs ∧ Dns ds xs
  | .list ds, v => ∃ a xs, v = .ref a ∧ SqL K H a xs ∧ Dns ds xs
  | .dict _, _ => False
def Dns : List PyData → List V → Prop
  | [], xs => xs = []
  | d :: ds, xs => ∃ x r, xs = x :: r ∧ Dn d x ∧ Dns ds r
end
end
theorem Same.seqT {K : PySem.W.Frag} {H H' : Hp} {a : Addr} {xs : List V} (e : Same H H') (h : SqT K H a xs) : SqT K H' a xs := by
  rcases h with (h | ⟨o, h⟩) | h
  · exact .inl (.inl (e _ _ h))
  · exact .inl (.inr ⟨o, e _ _ h⟩)
  · exact .inr h
section
variable {K : PySem.W.Frag} {H H' : Hp}
theorem dn_int {i : Int} : Dn K H (.int i) (.int i) := by rw [Dn]
theorem dn_bl {b : Bool} : Dn K H (.bool b) (.bl b) := by rw [Dn]
theorem dn_str {x : Str} : Dn K H (.str x) (.str x) := by rw [Dn]
theorem dn_non : Dn K H .none .non := by rw [Dn]
theorem dn_tup {a : Addr} {xs : List V} {ds : List PyData} (h : SqT K H a xs) (d : Dns K H ds xs) : Dn K H (.tuple ds) (.ref a) := by rw [Dn]; exact ⟨a, xs, rfl, h, d⟩
theorem dn_lst {a : Addr} {xs : List V} {ds : List PyData} (h : SqL K H a xs) (d : Dns K H ds xs) : Dn K H (.list ds) (.ref a) := by rw [Dn]; exact ⟨a, xs, rfl, h, d⟩
theorem dns_nil : Dns K H [] [] := by rw [Dns]
theorem dns_cons {d : PyData} {ds : List PyData} {x : V} {xs : List V} (h1 : Dn K H d x) (h2 : Dns K H ds xs) : Dns K H (d :: ds) (x :: xs) := by rw [Dns]; exact ⟨x, xs, rfl, h1, h2⟩
theorem Dn.int {i : Int} {v : V} (h : Dn K H (.int i) v) : v = .int i := by rw [Dn] at h; exact h
theorem Dn.bl {b : Bool} {v : V} (h : Dn K H (.bool b) v) : v = .bl b := by rw [Dn] at h; exact h
theorem Dn.tup {ds : List PyData} {v : V} (h : Dn K H (.tuple ds) v) : ∃ a xs, v = .ref a ∧ SqT K H a xs ∧ Dns K H ds xs := by rw [Dn] at h; exact h
theorem Dn.lst {ds : List PyData} {v : V} (h : Dn K H (.list ds) v) : ∃ a xs, v = .ref a ∧ SqL K H a xs ∧ Dns K H ds xs := by rw [Dn] at h; exact h
theorem Dns.nil {xs : List V} (h : Dns K H [] xs) : xs = [] := by rw [Dns] at h; exact h
theorem Dns.cons {d : PyData} {ds : List PyData} {xs : List V} (h : Dns K H (d :: ds) xs) : ∃ x r, xs = x :: r ∧ Dn K H d x ∧ Dns K H ds r := by rw [Dns] at h; exact h
mutual
theorem Same.dn (e : Same H H') : ∀ {d : PyData} {v : V}, Dn K H d v → Dn K H' d v
  | .none, _, h => by rw [Dn] at h ⊢; exact h
  | .bool _, _, h => by rw [Dn] at h ⊢; exact h
  | .int _, _, h => by rw [Dn] at h ⊢; exact h
  | .str _, _, h => by rw [Dn] at h ⊢; exact h
  | .dict _, _, h => by rw [Dn] at h; exact h.elim
  | .tuple ds, _, h => by
    rw [Dn] at h ⊢
    obtain ⟨a, xs, e1, h1, h2⟩ := h
    exact ⟨a, xs, e1, e.seqT h1, Same.dns e h2⟩
  | .list ds, _, h => by
    rw [Dn] at h ⊢
    obtain ⟨a, xs, e1, h1, h2⟩ := h
    exact ⟨a, xs, e1, e.seq h1, Same.dns e h2⟩
theorem Same.dns (e : Same H H') : ∀ {ds : List PyData} {xs : List V}, Dns K H ds xs → Dns K H' ds xs
  | [], _, h => by rw [Dns] at h ⊢; exact h
  | d :: ds, _, h => by
    rw [Dns] at h ⊢
    obtain ⟨x, r, e1, h1, h2⟩ := h
    exact ⟨x, r, e1, Same.dn e h1, Same.dns e h2⟩
end
theorem Dns.length : ∀ {ds : List PyData} {xs : List V}, Dns K H ds xs → xs.length = ds.length
  | [], _, h => by rw [h.nil]; rfl
  | d :: ds, _, h => by
    obtain ⟨x, r, rfl, _, h2⟩ := h.cons
    rw [List.length_cons, List.length_cons, Dns.length h2]
theorem Dns.get : ∀ {ds : List PyData} {xs : List V} {i : Nat} {d : PyData}, Dns K H ds xs → ds[i]? = some d → ∃ x, xs[i]? = some x ∧ Dn K H d x
  | [], _, _, _, _, e => by simp at e
  | d :: ds, _, 0, d', h, e => by
    obtain ⟨x, r, rfl, h1, _⟩ := h.cons
    simp at e; subst e
    exact ⟨x, rfl, h1⟩
  | d :: ds, _, i + 1, d', h, e => by
    obtain ⟨x, r, rfl, _, h2⟩ := h.cons
    obtain ⟨y, h3, h4⟩ := Dns.get (i := i) h2 (by simpa using e)
    exact ⟨y, by simpa using h3, h4⟩
theorem Dns.get' : ∀ {ds : List PyData} {xs : List V} {i : Nat} {x : V}, Dns K H ds xs → xs[i]? = some x → ∃ d, ds[i]? = some d ∧ Dn K H d x := fun {ds xs i x} h e => by
  have hl := h.length
  have hi : i < xs.length := (List.getElem?_eq_some_iff.mp e).1
  obtain ⟨y, h1, h2⟩ := h.get (i := i) (d := ds[i]'(by omega)) (by simp [show i < ds.length by omega])
  rw [e] at h1; cases h1
  exact ⟨_, by simp [show i < ds.length by omega], h2⟩
theorem Dns.append : ∀ {ds es : List PyData} {xs ys : List V}, Dns K H ds xs → Dns K H es ys → Dns K H (ds ++ es) (xs ++ ys)
  | [], _, _, _, h, g => by rw [h.nil]; exact g
  | d :: ds, es, _, ys, h, g => by
    obtain ⟨x, r, rfl, h1, h2⟩ := h.cons
    exact dns_cons h1 (Dns.append h2 g)
theorem Dns.snoc {d : PyData} {x : V} {ds : List PyData} {xs : List V} (h : Dns K H ds xs) (hx : Dn K H d x) : Dns K H (ds ++ [d]) (xs ++ [x]) := h.append (dns_cons hx dns_nil)
theorem Dns.take : ∀ (n : Nat) {ds : List PyData} {xs : List V}, Dns K H ds xs → Dns K H (ds.take n) (xs.take n)
  | 0, _, _, _ => by simp only [List.take_zero]; exact dns_nil
  | _ + 1, [], _, h => by rw [h.nil]; exact dns_nil
  | n + 1, d :: ds, _, h => by
    obtain ⟨x, r, rfl, h1, h2⟩ := h.cons
    exact dns_cons h1 (Dns.take n h2)
theorem Dns.drop : ∀ (n : Nat) {ds : List PyData} {xs : List V}, Dns K H ds xs → Dns K H (ds.drop n) (xs.drop n)
  | 0, _, _, h => h
  | _ + 1, [], _, h => by rw [h.nil]; exact dns_nil
  | n + 1, d :: ds, _, h => by
    obtain ⟨x, r, rfl, h1, h2⟩ := h.cons
    exact Dns.drop n h2
theorem Dns.reverse : ∀ {ds : List PyData} {xs : List V}, Dns K H ds xs → Dns K H ds.reverse xs.reverse
  | [], _, h => by rw [h.nil]; exact dns_nil
  | d :: ds, _, h => by
    obtain ⟨x, r, rfl, h1, h2⟩ := h.cons
    rw [List.reverse_cons, List.reverse_cons]
    exact (Dns.reverse h2).snoc h1
theorem Dns.set {d : PyData} {x : V} (hx : Dn K H d x) : ∀ (i : Nat) {ds : List PyData} {xs : List V}, Dns K H ds xs → Dns K H (ds.set i d) (xs.set i x)
  | _, [], _, h => by rw [h.nil]; exact dns_nil
  | 0, d' :: ds, _, h => by
    obtain ⟨y, r, rfl, h1, h2⟩ := h.cons
    exact dns_cons hx h2
  | i + 1, d' :: ds, _, h => by
    obtain ⟨y, r, rfl, h1, h2⟩ := h.cons
    exact dns_cons h1 (Dns.set hx i h2)
theorem dns_ints : ∀ (ns : List Int), Dns K H (ns.map PyData.int) (ns.map V.int)
  | [] => dns_nil
  | _ :: r => dns_cons dn_int (dns_ints r)
theorem dns_bools : ∀ (ns : List Bool), Dns K H (ns.map PyData.bool) (ns.map V.bl)
  | [] => dns_nil
  | _ :: r => dns_cons dn_bl (dns_bools r)
theorem Dns.ints : ∀ {ns : List Int} {xs : List V}, Dns K H (ns.map PyData.int) xs → xs = ns.map V.int
  | [], _, h => h.nil
  | n :: r, _, h => by
    obtain ⟨x, q, rfl, h1, h2⟩ := Dns.cons h
    rw [h1.int, Dns.ints h2]; rfl
theorem Dns.bools : ∀ {ns : List Bool} {xs : List V}, Dns K H (ns.map PyData.bool) xs → xs = ns.map V.bl
  | [], _, h => h.nil
  | n :: r, _, h => by
    obtain ⟨x, q, rfl, h1, h2⟩ := Dns.cons h
    rw [h1.bl, Dns.bools h2]; rfl
end
section
variable {X : Cx} {pins : List (Addr × Obj)} {s : Shared} {σ : St} {H : Hp}
mutual
theorem dn_reads (I : Inv X pins σ H s) : ∀ {d : PyData} {v : V} {u : Value}, Dn X.K H d v → RelV v u → ∃ as, Reads s.heap u d as
  | .none, _, _, h, r => by rw [Dn] at h; subst h; cases r; exact ⟨_, .none⟩
  | .bool b, _, _, h, r => by rw [Dn] at h; subst h; cases r; exact ⟨_, .bool b⟩
  | .int i, _, _, h, r => by rw [Dn] at h; subst h; obtain ⟨t, rfl⟩ := r; exact ⟨_, .int i t⟩
  | .str i, _, _, h, r => by rw [Dn] at h; subst h; obtain ⟨t, rfl⟩ := r; exact ⟨_, .str i t⟩
  | .dict _, _, _, h, _ => by rw [Dn] at h; exact h.elim
  | .tuple ds, _, _, h, r => by
    rw [Dn] at h
    obtain ⟨a, xs, rfl, h1, h2⟩ := h
    cases r
    obtain ⟨us, rx, p, _⟩ := I.tuple h1
    obtain ⟨as, q⟩ := dns_reads I h2 rx
    obtain ⟨o, ho, hc, n, hd⟩ := p
    exact ⟨_, .tuple ho hc hd (by simpa using q)⟩
  | .list ds, _, _, h, r => by
    rw [Dn] at h
    obtain ⟨a, xs, rfl, h1, h2⟩ := h
    cases r
    obtain ⟨us, rx, p, _⟩ := I.list h1
    obtain ⟨as, q⟩ := dns_reads I h2 rx
    obtain ⟨o, ho, hc, n, hd⟩ := p.isList
    exact ⟨_, .list ho hc hd (by simpa using q)⟩
theorem dns_reads (I : Inv X pins σ H s) : ∀ {ds : List PyData} {xs : List V} {us : List Value}, Dns X.K H ds xs → Vals xs us → ∃ as, ReadsAll s.heap us ds as
  | [], _, _, h, r => by rw [Dns] at h; subst h; cases r; exact ⟨_, .nil⟩
  | d :: ds, _, _, h, r => by
    rw [Dns] at h
    obtain ⟨x, q, rfl, h1, h2⟩ := h
    cases r with
    | cons r1 r2 =>
      obtain ⟨as, p1⟩ := dn_reads I h1 r1
      obtain ⟨bs, p2⟩ := dns_reads I h2 r2
      exact ⟨_, .cons p1 p2⟩
end
def rEqD (K : PySem.W.Frag) (neg : Bool) : R2 := fun x y H Q => ∃ d e, Dn K H d x ∧ Dn K H e y ∧ SeqAt.shaped d = true ∧ SeqAt.shaped e = true ∧ Q (.bl (if neg then !PyData.eqv d e else PyData.eqv d e)) H
theorem op_eqD (hu : X.A.units + 64 < cLine) : OpR X (compareOp .Eq) (rEqD X.K false) := by
  intro pins s σ H x y v u Q I rx ry h
  obtain ⟨d, e, h1, h2, s1, s2, q⟩ := h
  obtain ⟨as, r1⟩ := dn_reads I h1 rx
  obtain ⟨bs, r2⟩ := dn_reads I h2 ry
  exact eq_dataH r1 r2 s1 s2 hu ⟨.bl (PyData.eqv d e), H, I, rfl, q⟩
theorem op_neD (hu : X.A.units + 64 < cLine) : OpR X (compareOp .NotEq) (rEqD X.K true) := by
  intro pins s σ H x y v u Q I rx ry h
  obtain ⟨d, e, h1, h2, s1, s2, q⟩ := h
  obtain ⟨as, r1⟩ := dn_reads I h1 rx
  obtain ⟨bs, r2⟩ := dn_reads I h2 ry
  exact ne_dataH r1 r2 s1 s2 hu ⟨.bl (!PyData.eqv d e), H, I, rfl, q⟩
/-- x in a tuple of data -/
def rInD (K : PySem.W.Frag) (neg : Bool) : R2 := fun x y H Q => ∃ d ds, Dn K H d x ∧ Dn K H (.tuple ds) y ∧ SeqAt.shaped d = true ∧ SeqAt.shaped (.tuple ds) = true ∧ Q (.bl (if neg then !(ds.any fun y => PyData.eqv y d) else ds.any fun y => PyData.eqv y d)) H
end

end L2
set_option Elab.async false
set_option linter.all false
set_option maxRecDepth 100000
set_option maxHeartbeats 4000000
namespace L2
open PySem PySem.Spec PyProof.Rows
/-! ### many written ints -/
def intsOf : List Expr → Option (List Int)
  | [] => some []
  | .Constant (.int i) _ _ :: r => (intsOf r).map (i :: ·)
  | _ => none
def tInts (ns : List Int) : TA := fun _ H Q => Q (ns.map V.int) H
theorem pa_ints {X : Cx} : ∀ {es : List Expr} {ns : List Int}, intsOf es = some ns → PA X es (tInts ns)
  | [], ns, h => by
    cases h
    exact pa_nil
  | .Constant (.int i) k p :: r, ns, h => by
    unfold intsOf at h
    cases e : intsOf r with
    | none => rw [e] at h; cases h
    | some ms =>
      rw [e] at h; cases h
      have ih := pa_ints (X := X) (es := r) (ns := ms) e
      have q := pa_cons (X := X) (e := .Constant (.int i) k p) (es := r) pe_int ih
      intro pos pins s σ H Q I hq
      exact q pos pins s σ H Q I hq
end L2
namespace L2
open PySem PySem.Spec PyProof.Rows
def tTupI (ns : List Int) : TE := fun _ H Q => ns.length ≤ sizeLine ∧ ∀ p, H p = none → Q (.ref p) (upd H p (.tup (ns.map V.int)))
theorem pe_tupI {X : Cx} {es : List Expr} {k : Nat} {pos : Pos} {ns : List Int} (h : intsOf es = some ns) : PE X (.Tuple es k pos) (tTupI ns) := by
  intro pins s σ H Q I hq
  refine pe_tup (pa_ints h) pins s σ H Q I ?_
  show (ns.map V.int).length ≤ sizeLine ∧ _
  rw [List.length_map]; exact hq
end L2
set_option Elab.async false
set_option linter.all false
set_option maxRecDepth 100000
set_option maxHeartbeats 4000000
namespace L2
open PySem PySem.Spec PyProof.Rows Hull SortM
/-! ### spots as data -/
def spotD (p : P) : PyData := .tuple [.int p.1, .int p.2]
section
variable {X : Cx} {pins : List (Addr × Obj)} {s : Shared} {σ : St} {H : Hp}
theorem dn_spot {K : PySem.W.Frag} {a : Addr} {p : P} (h : SqT K H a [.int p.1, .int p.2]) : Dn K H (spotD p) (.ref a) := dn_tup h (dns_cons dn_int (dns_cons dn_int dns_nil))
theorem Dn.spot {K : PySem.W.Frag} {v : V} {p : P} (h : Dn K H (spotD p) v) : ∃ a, v = .ref a ∧ SqT K H a [.int p.1, .int p.2] := by
  obtain ⟨a, xs, rfl, h1, h2⟩ := Dn.tup h
  obtain ⟨x, r, rfl, hx, h2⟩ := h2.cons
  obtain ⟨y, r, rfl, hy, h2⟩ := h2.cons
  rw [h2.nil] at h1
  rw [hx.int, hy.int] at h1
  exact ⟨a, rfl, h1⟩
theorem spot_at (I : Inv X pins σ H s) {v : V} {u : Value} {p : P} (h : Dn X.K H (spotD p) v) (r : RelV v u) : SpotAt s.heap u p := by
  obtain ⟨a, rfl, h1⟩ := h.spot
  cases r
  obtain ⟨its, rv, ⟨o, ho, hc, n, hd⟩, _⟩ := I.tuple h1
  cases rv with
  | cons r1 rv =>
    cases rv with
    | cons r2 rv =>
      cases rv
      obtain ⟨t, rfl⟩ := r1
      obtain ⟨t', rfl⟩ := r2
      exact ⟨a, o, t, t', n, rfl, ho, hc, hd⟩
theorem spots_at (I : Inv X pins σ H s) : ∀ {ps : List P} {xs : List V} {us : List Value}, Dns X.K H (ps.map spotD) xs → Vals xs us → Spots s.heap us ps
  | [], _, _, h, r => by
    rw [Dns.nil h] at r; cases r; exact .nil
  | p :: ps, _, _, h, r => by
    obtain ⟨x, q, rfl, h1, h2⟩ := Dns.cons h
    cases r with
    | cons r1 r2 => exact .cons (spot_at I h1 r1) (spots_at I h2 r2)
end
/-! ### by places -/
def vIx (xs : List V) (ix : List Nat) : List V := ix.map fun i => xs.getD i .non
theorem vals_ix {xs : List V} {us : List Value} (r : Vals xs us) : ∀ {ix : List Nat}, (∀ i ∈ ix, i < us.length) → Vals (vIx xs ix) (valIx us ix)
  | [], _ => .nil
  | i :: ix, h => by
    have hi : i < us.length := h i (.head _)
    have hx : i < xs.length := by rw [r.length]; exact hi
    obtain ⟨u, h1, h2⟩ := r.get (i := i) (x := xs[i]) (by simp [hx])
    refine .cons ?_ (vals_ix r fun j hj => h j (.tail _ hj))
    have e1 : xs.getD i .non = xs[i] := by simp [hx]
    have e2 : us.getD i .none = u := by rw [List.getD_eq_getElem?_getD, h1]; rfl
    show RelV (xs.getD i .non) (us.getD i .none)
    rw [e1, e2]; exact h2
theorem dns_ix {K : PySem.W.Frag} {H : Hp} {ps : List P} {xs : List V} (h : Dns K H (ps.map spotD) xs) : ∀ {ix : List Nat}, (∀ i ∈ ix, i < ps.length) → Dns K H ((atIx ps ix).map spotD) (vIx xs ix)
  | [], _ => dns_nil
  | i :: ix, g => by
    have hi : i < ps.length := g i (.head _)
    obtain ⟨x, h1, h2⟩ := h.get (i := i) (d := spotD ps[i]) (by simp [hi])
    refine dns_cons ?_ (dns_ix h fun j hj => g j (.tail _ hj))
    have e1 : ps.getD i (0, 0) = ps[i] := by simp [hi]
    have e2 : xs.getD i .non = x := by rw [List.getD_eq_getElem?_getD, h1]; rfl
    show Dn K H (spotD (ps.getD i (0, 0))) (xs.getD i .non)
    rw [e1, e2]; exact h2
theorem mem_ix {ps : List P} {ix : List Nat} (h : ix.Perm (List.range ps.length)) (a : P) : a ∈ atIx ps ix ↔ a ∈ ps := by
  unfold atIx
  constructor
  · intro m
    obtain ⟨i, hi, rfl⟩ := List.mem_map.mp m
    have hi' : i < ps.length := List.mem_range.mp (h.mem_iff.mp hi)
    have e1 : ps.getD i (0, 0) = ps[i] := by simp [hi']
    rw [e1]; exact List.getElem_mem hi'
  · intro m
    obtain ⟨i, hi, rfl⟩ := List.mem_iff_getElem.mp m
    refine List.mem_map.mpr ⟨i, h.mem_iff.mpr (List.mem_range.mpr hi), ?_⟩
    simp [hi]

/-! ### sorted -/
section
variable {prog : Program} {w : World} {A : Around} {E : Value → Shared → Prop} {s : Shared}
theorem sorted_spots {u : Value} {Q : Value → Shared → Prop}
    (hcol : wpAny (model prog w) A.in1 (collect u) (fun vs s1 => ∃ (ps : List P) (h1 : Heap) (tk : Nat), s1 = { s with heap := h1, toks := tk } ∧ (∀ b o, s.heap.get? b = some o → h1.get? b = some o) ∧ s.heap.objs.size ≤ h1.objs.size ∧ Spots h1 vs ps ∧ ps.Nodup ∧ vs.length < 64 ∧
      ∀ (ix : List Nat) (h' : Heap) (a : Addr) (c : Nat), ix.Perm (List.range vs.length) → (atIx ps ix).Pairwise lt → (∀ b o, s.heap.get? b = some o → h'.get? b = some o) → s.heap.objs.size ≤ a → h'.get? a = some (seqObj "list" (valIx vs ix).toArray c) →
        Q (.ref a) { s with heap := h', toks := tk }) E s) :
    wpAny (model prog w) A (call (.builtin "sorted") [u]) Q E s := by
  refine Calls.call_function_entry kind_sorted plain_sorted entry_sorted (args_sorted1 _) ?_
  unfold Builtin.«sorted»
  refine wpAny_bind (m := checkCount "sorted" 1 1 _) (wpAny_pure ?_)
  refine wpAny_bind (wpAny_mono hcol (fun vs s1 hv => ?_) fun _ _ x => x)
  obtain ⟨ps, h1, tk, rfl, kp, hlt, S, nd, h64, q⟩ := hv
  refine wpAny_bind (wpAny_newList ?_ (by rw [sizeLine_eq]; omega))
  have hoL : (h1.push (seqObj "list" vs.toArray 0)).get? h1.objs.size = some (seqObj "list" vs.toArray 0) := Heap.get?_push_size _ rfl
  show wpAny _ _ _ _ _ { s with heap := h1.push (seqObj "list" vs.toArray 0), toks := tk }
  refine wpAny_bind (wpAny_holding (wpAny_call_entry slot_list_sort ⟨_, hoL, rfl⟩ entry_list_sort
    (list_sort_spots (s := { s with heap := h1.push (seqObj "list" vs.toArray 0), toks := tk }) hoL (S.kept fun b o _ e => Heap.get?_push_of_some _ e) nd h64 fun ix a1 a2 => ⟨_, rfl, ?_⟩) (args_list_sort _)))
  refine wpAny_pure ⟨_, rfl, ?_⟩
  obtain ⟨e1, ho1⟩ : ∃ e1, ((h1.push (seqObj "list" vs.toArray 0)).update h1.objs.size (Obj.mapSeq fun _ => (#[] : Array Value))).get? h1.objs.size = some (seqObj "list" #[] e1) := ⟨_, get?_update_seq hoL (fun _ => #[])⟩
  obtain ⟨c, hc⟩ : ∃ c, (sortedHeap (h1.push (seqObj "list" vs.toArray 0)) h1.objs.size vs (valIx vs ix).toArray).get? h1.objs.size = some (seqObj "list" (valIx vs ix).toArray c) :=
    ⟨_, get?_update_seq (Heap.get?_push_of_some _ (Heap.get?_push_of_some _ ho1)) fun _ => (valIx vs ix).toArray⟩
  refine q ix _ _ c a1 a2 (fun b o e => ?_) hlt hc
  have hb : b ≠ h1.objs.size := Nat.ne_of_lt (Heap.lt_size (kp b o e))
  unfold sortedHeap
  rw [Heap.get?_update_ne _ _ _ _ hb]
  refine Heap.get?_push_of_some _ (Heap.get?_push_of_some _ ?_)
  rw [Heap.get?_update_ne _ _ _ _ hb]
  exact Heap.get?_push_of_some _ (kp b o e)
end
section
variable {X : Cx}
/-- sorted of a list of spots, none twice -/
def rSortL (K : PySem.W.Frag) : List V → Hp → VK → Prop := fun xs H Q => ∃ (p : Addr) (ys : List V) (ps : List P), xs = [.ref p] ∧ SqL K H p ys ∧ Dns K H (ps.map spotD) ys ∧ ps.Nodup ∧ ps.length < 64 ∧
  ∀ (zs : List V) (qs : List P) (l : Addr), H l = none → Dns K H (qs.map spotD) zs → qs.Pairwise lt → (∀ a, a ∈ qs ↔ a ∈ ps) → qs.length = ps.length → Q (.ref l) (upd H l (.lst zs))
theorem call_sortL : CallR X (.builtin "sorted") (rSortL X.K) := by
  intro pins s σ H xs us Q I r h
  obtain ⟨p, ys, ps, rfl, hq, hd, nd, h64, q⟩ := h
  obtain ⟨u, rfl, rx⟩ := vals1 r
  cases rx
  obtain ⟨its, rv, pl, hz⟩ := I.list hq
  have S := spots_at I hd rv
  have hl := S.length
  refine sorted_spots (collect_list pl.isList ⟨ps, _, s.toks, rfl, ?_, by rw [Heap.size_update, size_push']; exact Nat.le_succ _, ?_, nd, by omega, ?_⟩ (by rw [sizeLine_eq]; omega))
  · intro b o e
    rw [Heap.get?_update_ne _ _ _ _ (Nat.ne_of_lt (Heap.lt_size e))]
    exact Heap.get?_push_of_some _ e
  · refine S.kept fun b o _ e => ?_
    rw [Heap.get?_update_ne _ _ _ _ (Nat.ne_of_lt (Heap.lt_size e))]
    exact Heap.get?_push_of_some _ e
  · intro ix h' a c p1 p2 kp ha ho
    have hix : ∀ i ∈ ix, i < its.length := fun i hi => List.mem_range.mp (p1.mem_iff.mp hi)
    have hix' : ∀ i ∈ ix, i < ps.length := fun i hi => by rw [← hl]; exact hix i hi
    have hlen : ix.length = its.length := by rw [p1.length_eq, List.length_range]
    refine ⟨.ref a, _, I.laid (t' := s.toks) (o := .lst (vIx ys ix)) kp ha ⟨?_, _, c, vals_ix rv hix, ho⟩, rfl, q _ (atIx ps ix) a (I.hok.fresh ha) (dns_ix hd hix') p2 (mem_ix (by rw [← hl]; exact p1)) ?_⟩
    · unfold vIx; rw [List.length_map, sizeLine_eq]; omega
    · unfold atIx; rw [List.length_map]; omega
end
end L2
set_option Elab.async false
set_option linter.all false
set_option maxRecDepth 100000
set_option maxHeartbeats 4000000
namespace L2
open PySem PySem.Spec PyProof.Rows Hull SortM SetX
/-- the set object alone: what it holds, by its entries -/
def SetB (prog : Program) (w : World) (es : Array (Int × Value)) (t : SetTable) (L : List VP) : Prop :=
  es.toList = L.map (ent prog w) ∧ (∃ Z, SetM.TOk t es.toList Z) ∧ t.plain = true ∧ t.led = led w ∧ (L.map (·.2)).Nodup ∧ (t.mask = 7 → L.length ≤ 4)
/-- a set of spots, its entries those of L -/
def setO (prog : Program) (w : World) (a : Addr) (L : List VP) : HO := .ext fun h => ∃ es ep t, h.get? a = some (setObj es ep t) ∧ SetB prog w es t L
/-- the values of a set's entries, and the spots -/
def Ent (K : PySem.W.Frag) (H : Hp) (L : List VP) : Prop := ∀ z ∈ L, ∃ v, RelV v z.1 ∧ Dn K H (spotD z.2) v
theorem Ent.same {K : PySem.W.Frag} {H H' : Hp} {L : List VP} (e : Same H H') (h : Ent K H L) : Ent K H' L := fun z hz => let ⟨v, a, b⟩ := h z hz; ⟨v, a, e.dn b⟩
theorem Ent.vals {K : PySem.W.Frag} {H : Hp} : ∀ {L : List VP}, Ent K H L → ∃ vs, Vals vs (L.map (·.1)) ∧ Dns K H ((L.map (·.2)).map spotD) vs
  | [], _ => ⟨[], .nil, dns_nil⟩
  | z :: L, h => by
    obtain ⟨v, r, d⟩ := h z (.head _)
    obtain ⟨vs, rs, ds⟩ := Ent.vals (L := L) fun y hy => h y (.tail _ hy)
    exact ⟨v :: vs, .cons r rs, dns_cons d ds⟩
theorem spots_of {h : Heap} : ∀ {L : List VP}, (∀ z ∈ L, SpotAt h z.1 z.2) → Spots h (L.map (·.1)) (L.map (·.2))
  | [], _ => .nil
  | z :: L, h => .cons (h z (.head _)) (spots_of fun y hy => h y (.tail _ hy))
section
variable {X : Cx}
/-- set of a list of spots: a new set of just these -/
def rSetSp (X : Cx) : List V → Hp → VK → Prop := fun xs H Q => ∃ (p : Addr) (ys : List V) (ps : List P), xs = [.ref p] ∧ SqL X.K H p ys ∧ Dns X.K H (ps.map spotD) ys ∧ ps.length ≤ 12 ∧
  ∀ (L : List VP) (a : Addr), H a = none → Ent X.K H L → (∀ r, r ∈ L.map (·.2) ↔ r ∈ ps) → L.length ≤ ps.length → Q (.ref a) (upd H a (setO X.prog X.w a L))
theorem call_setSp (hc : X.calm = true) (hu : X.A.units + 64 < cLine) : CallR X (.type "set") (rSetSp X) := by
  intro pins s σ H xs us Q I r h
  obtain ⟨p, ys, ps, rfl, hq, hd, h12, q⟩ := h
  obtain ⟨u, rfl, rx⟩ := vals1 r
  cases rx
  obtain ⟨its, rv, pl, hz⟩ := I.list hq
  have S := spots_at I hd rv
  have hl := S.length
  refine call_set_spots (I.ok.hd hc) (by omega) pl.isList S (by omega) fun h' tk L SS hm hlen he kp => ?_
  obtain ⟨es, ep, t, ho, B⟩ := SS
  refine ⟨.ref s.heap.objs.size, _, I.laid (t' := tk) (o := setO X.prog X.w s.heap.objs.size L) (fun b o e => kp b o (Heap.lt_size e) e) (Nat.le_refl _) ?_, rfl, q L _ I.fresh (fun z hz => ?_) hm hlen⟩
  · refine ⟨⟨es, ep, t, ho, B.el, B.tok, B.pln, B.ld, B.nd, B.few⟩, ⟨_, ho⟩, fun h1 h2 hφ k => ?_⟩
    obtain ⟨es, ep, t, ho, b⟩ := hφ
    exact ⟨es, ep, t, k _ ho, b⟩
  · obtain ⟨j, hj, rfl⟩ := he z hz
    have hjp : j < ps.length := by omega
    have e1 : ps.getD j (0, 0) = ps[j] := by simp [hjp]
    obtain ⟨x, h1, h2⟩ := hd.get (i := j) (d := spotD ps[j]) (by simp [hjp])
    obtain ⟨u, h3, h4⟩ := rv.get h1
    have e2 : its.getD j .none = u := by rw [List.getD_eq_getElem?_getD, h3]; rfl
    refine ⟨x, ?_, ?_⟩
    · show RelV x (its.getD j .none)
      rw [e2]; exact h4
    · show Dn X.K H (spotD (ps.getD j (0, 0))) x
      rw [e1]; exact h2
/-- sorted of a set of spots -/
def rSortSp (X : Cx) : List V → Hp → VK → Prop := fun xs H Q => ∃ (a : Addr) (L : List VP), xs = [.ref a] ∧ H a = some (setO X.prog X.w a L) ∧ Ent X.K H L ∧ L.length ≤ 12 ∧
  ∀ (zs : List V) (qs : List P) (l : Addr), H l = none → Dns X.K H (qs.map spotD) zs → qs.Pairwise lt → (∀ r, r ∈ qs ↔ r ∈ L.map (·.2)) → qs.length = L.length → Q (.ref l) (upd H l (.lst zs))
theorem call_sortSp (hc : X.calm = true) : CallR X (.builtin "sorted") (rSortSp X) := by
  intro pins s σ H xs us Q I r h
  obtain ⟨a, L, rfl, ha, he, h12, q⟩ := h
  obtain ⟨u, rfl, rx⟩ := vals1 r
  cases rx
  obtain ⟨⟨es, ep, t, ho, b1, b2, b3, b4, b5, b6⟩, _, _⟩ := I.hok a _ ha
  have B : SBody X.prog X.w s.heap es t L := ⟨b1, b2, b3, b4, fun z hz => let ⟨v, r, d⟩ := he z hz; spot_at I d r, b5, b6⟩
  refine sorted_spots (collect_set (I.ok.hd hc) ho B h12 fun h' tk L' kp hsz pm => ?_)
  have he' : Ent X.K H L' := fun z hz => he z (pm.mem_iff.mp hz)
  obtain ⟨vs, rs, ds⟩ := he'.vals
  have hlv : (L'.map (·.1)).length = L.length := by rw [List.length_map, pm.length_eq]
  refine ⟨L'.map (·.2), h', tk, rfl, kp, hsz, spots_of fun z hz => (B.sp z (pm.mem_iff.mp hz)).kept fun b o _ e => kp b o e, (pm.map _).nodup_iff.mpr b5, by omega, fun ix h'' l c p1 p2 kp2 hla hol => ?_⟩
  have hix : ∀ i ∈ ix, i < (L'.map (·.1)).length := fun i hi => List.mem_range.mp (p1.mem_iff.mp hi)
  have hix' : ∀ i ∈ ix, i < (L'.map (·.2)).length := fun i hi => by have := hix i hi; simpa using this
  have hlen : ix.length = L.length := by rw [p1.length_eq, List.length_range, hlv]
  refine ⟨.ref l, _, I.laid (t' := tk) (o := .lst (vIx vs ix)) kp2 hla ⟨?_, _, c, vals_ix rs hix, hol⟩, rfl, q _ (atIx (L'.map (·.2)) ix) l (I.hok.fresh hla) (dns_ix ds hix') p2 (fun r => ?_) ?_⟩
  · unfold vIx; rw [List.length_map, sizeLine_eq]; omega
  · rw [mem_ix (by have : (L'.map (·.2)).length = (L'.map (·.1)).length := by simp
                   rw [this]; exact p1), (pm.map (·.2)).mem_iff]
  · unfold atIx; rw [List.length_map]; exact hlen
end
end L2
set_option Elab.async false
set_option linter.all false
set_option maxRecDepth 100000
set_option maxHeartbeats 4000000
namespace L2
open PySem PySem.Spec PyProof.Rows Hull SortM SetX
section
variable {X : Cx}
/-! ### spots in order -/
def rLeSp (K : PySem.W.Frag) : R2 := fun x y H Q => ∃ p q, Dn K H (spotD p) x ∧ Dn K H (spotD q) y ∧ Q (.bl (!ltb q p)) H
theorem op_leSp (hu : X.A.units + 64 < cLine) : OpR X (compareOp .LtE) (rLeSp X.K) := by
  intro pins s σ H x y v u Q I rx ry h
  obtain ⟨p, q, h1, h2, k⟩ := h
  exact SpotC.spots_le (by omega) (spot_at I h1 rx) (spot_at I h2 ry) ⟨.bl (!ltb q p), H, I, rfl, k⟩
def rMinSp (K : PySem.W.Frag) : List V → Hp → VK → Prop := fun xs H Q => ∃ x y p q, xs = [x, y] ∧ Dn K H (spotD p) x ∧ Dn K H (spotD q) y ∧ Q (if ltb q p = true then y else x) H
theorem call_minSp (hc : X.calm = true) (hu : X.A.units + 64 < cLine) : CallR X (.builtin "min") (rMinSp X.K) := by
  intro pins s σ H xs us Q I r h
  obtain ⟨x, y, p, q, rfl, h1, h2, k⟩ := h
  obtain ⟨u, u', rfl, rx, ry⟩ := vals2 r
  refine SpotC.min_spots (I.ok.hd hc) (by show X.A.units + 1 < cLine; omega) (spot_at I h1 rx) (spot_at I h2 ry) fun h' tk kp => ?_
  refine ⟨if ltb q p = true then y else x, H, I.kept kp, ?_, k⟩
  split
  · exact ry
  · exact rx
def rMaxSp (K : PySem.W.Frag) : List V → Hp → VK → Prop := fun xs H Q => ∃ x y p q, xs = [x, y] ∧ Dn K H (spotD p) x ∧ Dn K H (spotD q) y ∧ Q (if ltb p q = true then y else x) H
theorem call_maxSp (hc : X.calm = true) (hu : X.A.units + 64 < cLine) : CallR X (.builtin "max") (rMaxSp X.K) := by
  intro pins s σ H xs us Q I r h
  obtain ⟨x, y, p, q, rfl, h1, h2, k⟩ := h
  obtain ⟨u, u', rfl, rx, ry⟩ := vals2 r
  refine SpotC.max_spots (I.ok.hd hc) (by show X.A.units + 1 < cLine; omega) (spot_at I h1 rx) (spot_at I h2 ry) fun h' tk kp => ?_
  refine ⟨if ltb p q = true then y else x, H, I.kept kp, ?_, k⟩
  split
  · exact ry
  · exact rx
/-! ### min, max of a list of ints -/
theorem best_lt (bt : Nat → Nat → Bool) : ∀ n, argBest bt n ≤ n
  | 0 => Nat.le_refl _
  | n + 1 => by
    unfold argBest
    split
    · exact Nat.le_refl _
    · exact Nat.le_succ_of_le (best_lt bt n)
theorem best_min (val : Nat → Int) : ∀ n j, j ≤ n → val (argBest (fun i j => decide (val i < val j)) n) ≤ val j
  | 0, j, h => by have : j = 0 := by omega
                  subst this; exact Int.le_refl _
  | n + 1, j, h => by
    unfold argBest
    have ih := best_min val n
    by_cases hc : val (n + 1) < val (argBest (fun i j => decide (val i < val j)) n)
    · rw [if_pos (decide_eq_true hc)]
      rcases Nat.eq_or_lt_of_le h with e | e
      · subst e; exact Int.le_refl _
      · have := ih j (by omega); omega
    · rw [if_neg (by simpa using hc)]
      rcases Nat.eq_or_lt_of_le h with e | e
      · subst e; omega
      · exact ih j (by omega)
theorem best_max (val : Nat → Int) : ∀ n j, j ≤ n → val j ≤ val (argBest (fun i j => decide (val i > val j)) n)
  | 0, j, h => by have : j = 0 := by omega
                  subst this; exact Int.le_refl _
  | n + 1, j, h => by
    unfold argBest
    have ih := best_max val n
    by_cases hc : val (n + 1) > val (argBest (fun i j => decide (val i > val j)) n)
    · rw [if_pos (decide_eq_true hc)]
      rcases Nat.eq_or_lt_of_le h with e | e
      · subst e; exact Int.le_refl _
      · have := ih j (by omega); omega
    · rw [if_neg (by simpa using hc)]
      rcases Nat.eq_or_lt_of_le h with e | e
      · subst e; omega
      · exact ih j (by omega)
theorem ints_at {ns : List Int} {its : List Value} (r : Vals (ns.map V.int) its) (i : Nat) (v : Value) (h : its.toArray[i]? = some v) : ∃ t, v = .int (ns.getD i 0) t := by
  have hi : i < its.length := by
    have h' : its[i]? = some v := by simpa using h
    exact (List.getElem?_eq_some_iff.mp h').1
  have hl : ns.length = its.length := by have := r.length; simpa using this
  have hn : i < ns.length := by omega
  obtain ⟨u, h1, h2⟩ := r.get (i := i) (x := V.int ns[i]) (by simp [hn])
  have h' : its[i]? = some v := by simpa using h
  rw [h'] at h1; cases h1
  obtain ⟨t, e⟩ := h2
  exact ⟨t, by rw [e]; simp [hn]⟩
def rMinL (K : PySem.W.Frag) : List V → Hp → VK → Prop := fun xs H Q => ∃ (p : Addr) (ns : List Int), xs = [.ref p] ∧ SqL K H p (ns.map V.int) ∧ ns ≠ [] ∧ ∀ m, m ∈ ns → (∀ n ∈ ns, m ≤ n) → Q (.int m) H
theorem call_minL (hc : X.calm = true) : CallR X (.builtin "min") (rMinL X.K) := by
  intro pins s σ H xs us Q I r h
  obtain ⟨p, ns, rfl, hq, hne, q⟩ := h
  obtain ⟨u, rfl, rx⟩ := vals1 r
  cases rx
  obtain ⟨its, rv, pl, hz⟩ := I.list hq
  have hl := pl.isList
  have hlen : ns.length = its.length := by have := rv.length; simpa using this
  have hpos : 0 < ns.length := List.length_pos_iff.mpr hne
  have hax : p < s.heap.objs.size := by obtain ⟨_, e, _⟩ := hl; exact Heap.lt_size e
  refine call_min_walk (wpAny_pyIter_list hl ?_)
  refine ⟨s.heap.objs.size, [s.heap.objs.size, p], [s.heap.objs.size], its.toArray.size, (fun i v => its.toArray[i]? = some v), _, _, rfl,
    Walks.list (prog := X.prog) (w := X.w) (A := X.A.in1) (I.ok.hd hc) s.heap.objs.size p (Nat.ne_of_lt hax) _, ⟨⟨_, Heap.get?_push_size _ rfl, rfl, rfl⟩, hl.push _⟩, ?_, by simp; omega, CmpOf.ints_lt (fun i => ns.getD i 0) (fun i v hv => ints_at rv i v hv), fun v h' tk hP hk => ?_⟩
  · intro b hb
    show b < (s.heap.push _).objs.size
    rw [Heap.size_push]
    simp only [List.mem_cons, List.mem_singleton, List.not_mem_nil, or_false] at hb
    rcases hb with rfl | rfl
    · exact Nat.lt_succ_self _
    · exact Nat.lt_succ_of_lt hax
  · obtain ⟨t, rfl⟩ := ints_at rv _ v hP
    have hsz : its.toArray.size - 1 = ns.length - 1 := by simp [hlen]
    rw [hsz] at hP ⊢
    have hb := best_lt (fun i j => decide (ns.getD i 0 < ns.getD j 0)) (ns.length - 1)
    have hm := best_min (fun i => ns.getD i 0) (ns.length - 1)
    generalize argBest (fun i j => decide (ns.getD i 0 < ns.getD j 0)) (ns.length - 1) = k at *
    have hk' : k < ns.length := by omega
    refine ⟨.int (ns.getD k 0), H, I.kept fun b o e => hk b o ?_ (Heap.get?_push_of_some _ e), ⟨t, rfl⟩, q _ ?_ fun n hn => ?_⟩
    · have := Heap.lt_size e
      simp only [List.mem_cons, List.mem_singleton, List.not_mem_nil, or_false]
      exact Nat.ne_of_lt this
    · have : ns.getD k 0 = ns[k] := by simp [hk']
      rw [this]; exact List.getElem_mem hk'
    · obtain ⟨j, hj, rfl⟩ := List.mem_iff_getElem.mp hn
      have := hm j (by omega)
      have e2 : ns.getD j 0 = ns[j] := by simp [hj]
      rw [e2] at this; exact this
def rMaxL (K : PySem.W.Frag) : List V → Hp → VK → Prop := fun xs H Q => ∃ (p : Addr) (ns : List Int), xs = [.ref p] ∧ SqL K H p (ns.map V.int) ∧ ns ≠ [] ∧ ∀ m, m ∈ ns → (∀ n ∈ ns, n ≤ m) → Q (.int m) H
theorem call_maxL (hc : X.calm = true) : CallR X (.builtin "max") (rMaxL X.K) := by
  intro pins s σ H xs us Q I r h
  obtain ⟨p, ns, rfl, hq, hne, q⟩ := h
  obtain ⟨u, rfl, rx⟩ := vals1 r
  cases rx
  obtain ⟨its, rv, pl, hz⟩ := I.list hq
  have hl := pl.isList
  have hlen : ns.length = its.length := by have := rv.length; simpa using this
  have hpos : 0 < ns.length := List.length_pos_iff.mpr hne
  have hax : p < s.heap.objs.size := by obtain ⟨_, e, _⟩ := hl; exact Heap.lt_size e
  refine call_max_walk (wpAny_pyIter_list hl ?_)
  refine ⟨s.heap.objs.size, [s.heap.objs.size, p], [s.heap.objs.size], its.toArray.size, (fun i v => its.toArray[i]? = some v), _, _, rfl,
    Walks.list (prog := X.prog) (w := X.w) (A := X.A.in1) (I.ok.hd hc) s.heap.objs.size p (Nat.ne_of_lt hax) _, ⟨⟨_, Heap.get?_push_size _ rfl, rfl, rfl⟩, hl.push _⟩, ?_, by simp; omega, CmpOf.ints_gt (fun i => ns.getD i 0) (fun i v hv => ints_at rv i v hv), fun v h' tk hP hk => ?_⟩
  · intro b hb
    show b < (s.heap.push _).objs.size
    rw [Heap.size_push]
    simp only [List.mem_cons, List.mem_singleton, List.not_mem_nil, or_false] at hb
    rcases hb with rfl | rfl
    · exact Nat.lt_succ_self _
    · exact Nat.lt_succ_of_lt hax
  · obtain ⟨t, rfl⟩ := ints_at rv _ v hP
    have hsz : its.toArray.size - 1 = ns.length - 1 := by simp [hlen]
    rw [hsz] at hP ⊢
    have hb := best_lt (fun i j => decide (ns.getD i 0 > ns.getD j 0)) (ns.length - 1)
    have hm := best_max (fun i => ns.getD i 0) (ns.length - 1)
    generalize argBest (fun i j => decide (ns.getD i 0 > ns.getD j 0)) (ns.length - 1) = k at *
    have hk' : k < ns.length := by omega
    refine ⟨.int (ns.getD k 0), H, I.kept fun b o e => hk b o ?_ (Heap.get?_push_of_some _ e), ⟨t, rfl⟩, q _ ?_ fun n hn => ?_⟩
    · have := Heap.lt_size e
      simp only [List.mem_cons, List.mem_singleton, List.not_mem_nil, or_false]
      exact Nat.ne_of_lt this
    · have : ns.getD k 0 = ns[k] := by simp [hk']
      rw [this]; exact List.getElem_mem hk'
    · obtain ⟨j, hj, rfl⟩ := List.mem_iff_getElem.mp hn
      have := hm j (by omega)
      have e2 : ns.getD j 0 = ns[j] := by simp [hj]
      rw [e2] at this; exact this
end
end L2
set_option Elab.async false
set_option linter.all false
set_option maxRecDepth 100000
set_option maxHeartbeats 4000000
namespace L2
open PySem PySem.Spec PyProof.Rows Hull SortM SetX
/-! ### spots as data: equal, fit to be compared -/
theorem spot_eqv (p q : P) : PyData.eqv (spotD p) (spotD q) = decide (p = q) := by
  unfold spotD
  rw [PyData.eqv, PyData.eqvAll, PyData.eqvAll, PyData.eqvAll, PyData.eqv, PyData.eqv]
  by_cases h : p = q
  · rw [h]; simp
  · rw [decide_eq_false h]
    have : ¬ (p.1 = q.1 ∧ p.2 = q.2) := fun e => h (Prod.ext e.1 e.2)
    rw [Bool.and_true, ← Bool.not_eq_true, Bool.and_eq_true]
    simpa using this
theorem spots_eqvAll : ∀ ps qs : List P, PyData.eqvAll (ps.map spotD) (qs.map spotD) = decide (ps = qs)
  | [], [] => rfl
  | [], _ :: _ => by simp [PyData.eqvAll]
  | _ :: _, [] => by simp [PyData.eqvAll]
  | p :: ps, q :: qs => by
    rw [List.map_cons, List.map_cons, PyData.eqvAll, spots_eqvAll ps qs, spot_eqv]
    by_cases h : p = q <;> by_cases g : ps = qs <;> simp [h, g]
theorem spots_eqv (ps qs : List P) : PyData.eqv (.list (ps.map spotD)) (.list (qs.map spotD)) = decide (ps = qs) := by rw [PyData.eqv, spots_eqvAll]
theorem spot_can (p : P) : (spotD p).canLay0 = true ∧ (spotD p).depth ≤ 2 := by
  unfold spotD
  constructor
  · simp [PyData.canLay0, PyData.canLayAll0]
  · simp [PyData.depth, PyData.depthAll]
theorem spots_can : ∀ ps : List P, PyData.canLayAll0 (ps.map spotD) = true ∧ PyData.depthAll (ps.map spotD) ≤ 2
  | [] => ⟨rfl, Nat.zero_le _⟩
  | p :: ps => by
    obtain ⟨h1, h2⟩ := spots_can ps
    obtain ⟨g1, g2⟩ := spot_can p
    rw [List.map_cons]
    constructor
    · simp [PyData.canLayAll0, h1, g1]
    · rw [PyData.depthAll]; omega
theorem spot_shaped (p : P) : SeqAt.shaped (spotD p) = true := by
  obtain ⟨g1, g2⟩ := spot_can p
  unfold SeqAt.shaped
  rw [g1, decide_eq_true (by omega)]; rfl
theorem spots_shaped (ps : List P) : SeqAt.shaped (.list (ps.map spotD)) = true := by
  obtain ⟨h1, h2⟩ := spots_can ps
  unfold SeqAt.shaped
  have : (PyData.list (ps.map spotD)).depth ≤ 64 := by rw [PyData.depth]; omega
  rw [decide_eq_true this, PyData.canLay0, h1]; rfl
section
variable {X : Cx}
def rNeSp (K : PySem.W.Frag) : R2 := fun x y H Q => ∃ p q, Dn K H (spotD p) x ∧ Dn K H (spotD q) y ∧ Q (.bl (!decide (p = q))) H
theorem op_neSp (hu : X.A.units + 64 < cLine) : OpR X (compareOp .NotEq) (rNeSp X.K) := by
  intro pins s σ H x y v u Q I rx ry h
  obtain ⟨p, q, h1, h2, k⟩ := h
  refine op_neD hu pins s σ H x y v u Q I rx ry ⟨_, _, h1, h2, spot_shaped p, spot_shaped q, ?_⟩
  rw [spot_eqv]; exact k
def rNeSps (K : PySem.W.Frag) : R2 := fun x y H Q => ∃ a b xs ys ps qs, x = .ref a ∧ y = .ref b ∧ SqL K H a xs ∧ SqL K H b ys ∧ Dns K H (List.map spotD ps) xs ∧ Dns K H (List.map spotD qs) ys ∧ Q (.bl (!decide (ps = qs))) H
theorem op_neSps (hu : X.A.units + 64 < cLine) : OpR X (compareOp .NotEq) (rNeSps X.K) := by
  intro pins s σ H x y v u Q I rx ry h
  obtain ⟨a, b, xs, ys, ps, qs, rfl, rfl, h1, h2, d1, d2, k⟩ := h
  refine op_neD hu pins s σ H _ _ v u Q I rx ry ⟨_, _, dn_lst h1 d1, dn_lst h2 d2, spots_shaped ps, spots_shaped qs, ?_⟩
  rw [spots_eqv]; exact k
/-- a spot not in a tuple of spots -/
def rNotInSp (K : PySem.W.Frag) : R2 := fun x y H Q => ∃ p a ys qs, Dn K H (spotD p) x ∧ y = .ref a ∧ SqT K H a ys ∧ Dns K H (List.map spotD qs) ys ∧ Q (.bl (!decide (p ∈ qs))) H
theorem any_spots (p : P) : ∀ qs : List P, ((qs.map spotD).any fun y => PyData.eqv y (spotD p)) = decide (p ∈ qs)
  | [] => by simp
  | q :: qs => by
    rw [List.map_cons, List.any_cons, any_spots p qs, spot_eqv]
    by_cases h : q = p
    · subst h; simp
    · have : ¬ p = q := fun e => h e.symm
      simp [h, this]
theorem op_notInSp (hu : X.A.units + 64 < cLine) : OpR X (compareOp .NotIn) (rNotInSp X.K) := by
  intro pins s σ H x y v u Q I rx ry h
  obtain ⟨p, a, ys, qs, h1, rfl, h2, d2, k⟩ := h
  obtain ⟨as, r1⟩ := dn_reads I h1 rx
  obtain ⟨bs, r2⟩ := dn_reads I (dn_tup h2 d2) ry
  obtain ⟨c1, c2⟩ := spots_can qs
  obtain ⟨g1, g2⟩ := spot_can p
  refine SeqAt.notIn_tuple_reads r2 r1 c1 g1 ?_ ?_
  · have : min (PyData.depthAll (qs.map spotD)) (spotD p).depth ≤ 2 := Nat.le_trans (Nat.min_le_right _ _) g2
    omega
  · rw [any_spots]
    exact ⟨.bl (!decide (p ∈ qs)), H, I, rfl, k⟩
/-- x, y, z = a, b, c -/
def tPar3 (i j k : Nat) (ta : TA) : TS := fun D σ H => ta σ H fun vs H1 => ∃ u v w, vs = [u, v, w] ∧ D.nx (((σ.set k (some w)).set j (some v)).set i (some u)) H1
theorem ps_par3 {i j k : Nat} {x y z : Str} {a b c : Expr} {ta : TA} {px py pz pt pos : Pos} {kt k2 pt2} (hc : X.calm = true) (hN : X.N.Nodup) (hi : X.N[i]? = some x) (hj : X.N[j]? = some y) (hk : X.N[k]? = some z)
    (hx : X.env.scope.names.lookup x = some .local) (hy : X.env.scope.names.lookup y = some .local) (hz : X.env.scope.names.lookup z = some .local) (ha : PA X [a, b, c] ta)
    (hw : swappedStores [.Tuple [.Name x px, .Name y py, .Name z pz] kt pt] (.Tuple [a, b, c] k2 pt2) X.env = pure (some [x, y, z]))
    (hs : swapsWithSole [.Tuple [.Name x px, .Name y py, .Name z pz] kt pt] (.Tuple [a, b, c] k2 pt2) pos.line X.env = pure false := by rfl) :
    PS X (.Assign [.Tuple [.Name x px, .Name y py, .Name z pz] kt pt] (.Tuple [a, b, c] k2 pt2) pos) (tPar3 i j k ta) := by
  intro pins s σ H D I h
  rw [exec_Assign_arm]
  refine wpAny_bind (wpAny_standAt ?_)
  rw [hs]
  refine wpAny_bind (wpAny_pure ?_)
  rw [if_neg (by decide)]
  refine wpAny_bind (Tuple_ (thn (ha _ pins s σ H _ I h) fun us s1 ⟨vs, H1, I1, r1, q1⟩ => ?_))
  obtain ⟨v, w, v3, e1, q1⟩ := q1
  subst e1
  obtain ⟨u1, u2, u3, rfl, rv, rw', r3⟩ : ∃ u1 u2 u3, us = [u1, u2, u3] ∧ RelV v u1 ∧ RelV w u2 ∧ RelV v3 u3 := by
    cases r1 with
    | cons p q =>
      cases q with
      | cons p' q' =>
        cases q' with
        | cons p'' q'' =>
          cases q''
          exact ⟨_, _, _, rfl, p, p', p''⟩
  refine wpAny_newObj_type ?_ (by show 3 ≤ sizeLine; decide)
  have I2 : Inv X pins σ H1 { s1 with heap := s1.heap.push { cls := .type "tuple", data := .seq [u1, u2, u3].toArray } } := I1.kept (t' := s1.toks) fun b o e => Heap.get?_push_of_some _ e
  rw [hw]
  refine wpAny_bind (wpAny_pure ?_)
  show wpAny (model X.prog X.w) X.A (do rule "assign.swapped-stores"; let items ← unpackItems (.ref s1.heap.objs.size) 3 none; assignInOrder [fun v => bindName X.env z v, fun v => bindName X.env y v, fun v => bindName X.env x v] items.reverse; pure Flow.next) _ _ _
  refine wpAny_bind (wpAny_rule (wpAny_bind (unpackItems_tuple (items := #[u1, u2, u3]) (I.ok.hd hc) (IsTup.new s1.heap _) fun h' hx' => ?_)))
  have I3 := I2.kept (h' := h') (t' := s1.toks) fun b o e => hx' b o (Nat.ne_of_lt (Heap.lt_size e)) e
  show wpAny _ _ (assignInOrder [fun v => bindName X.env z v, fun v => bindName X.env y v, fun v => bindName X.env x v] [u3, u2, u1] >>= fun _ => pure Flow.next) _ _ _
  refine wpAny_bind (assignInOrder_cons (wpAny_bindName (store_ok I3 hN hk (.inl hz) r3 (fun s2 I4 => ?_) (.inr hz))))
  refine assignInOrder_cons (wpAny_bindName (store_ok I4 hN hj (.inl hy) rw' (fun s2 I5 => ?_) (.inr hy)))
  refine assignInOrder_cons (wpAny_bindName (store_ok I5 hN hi (.inl hx) rv (fun s3 I6 => assignInOrder_nil (wpAny_pure ?_)) (.inr hx)))
  exact ⟨_, H1, I6, q1⟩
end
end L2
set_option Elab.async false
set_option linter.all false
set_option maxRecDepth 100000
set_option maxHeartbeats 4000000
namespace L2
open PySem PySem.Spec PyProof.Rows Hull SortM SetX
/-- a walker from the end of the list at l, n items, laid in this frame's time -/
def revO (X : Cx) (a l : Addr) (n : Nat) : HO := .ext fun h => h.get? a = some (RevX.revObj l ((n : Int) - 1)) ∧ X.s₀.heap.objs.size ≤ a
def del (H : Hp) (a : Addr) : Hp := fun b => if b = a then none else H b
theorem del_ne {H : Hp} {a b : Addr} (h : b ≠ a) : del H a b = H b := by unfold del; rw [if_neg h]
theorem del_same {H : Hp} {a : Addr} : del H a a = none := by unfold del; rw [if_pos rfl]
theorem del_upd {H : Hp} {a : Addr} {o : HO} (h : H a = none) : del (upd H a o) a = H := by
  funext b; unfold del upd
  by_cases e : b = a
  · rw [if_pos e, e, h]
  · rw [if_neg e, if_neg e]
theorem Vals.rev : ∀ {xs : List V} {us : List Value}, Vals xs us → Vals xs.reverse us.reverse
  | _, _, .nil => .nil
  | _, _, .cons r t => by
    rw [List.reverse_cons, List.reverse_cons]
    exact (Vals.rev t).append (.cons r .nil)
section
variable {X : Cx} {pins : List (Addr × Obj)} {σ : St} {H : Hp} {s : Shared}
theorem Inv.forget {a : Addr} {φ : Heap → Prop} (I : Inv X pins σ H s) (h : H a = some (.ext φ)) : Inv X pins σ (del H a) s := by
  have no : ∀ b u, H b = some u → u ≠ .ext φ → b ≠ a := fun b u e d z => by subst z; rw [h] at e; cases e; exact d rfl
  refine I.un (t' := s.toks) (h' := s.heap) ⟨fun b o e _ _ _ => e, fun b o e _ _ _ => ⟨o.slots, e⟩, fun b o e n _ => ?_, fun b o e _ => ⟨o, e⟩, fun b xs e => ?_, fun b o u e => ?_, fun b ps e => ?_⟩ fun b u e => ?_
  · have : b ≠ a := fun z => by subst z; rw [h] at n; cases n
    rw [del_ne this]; exact n
  · rw [del_ne (no b _ e (fun q => by cases q))]; exact e
  · rw [del_ne (no b _ e (fun q => by cases q))]; exact e
  · exact ⟨#[], by rw [del_ne (no b _ e (fun q => by cases q)), Array.append_empty]; exact e⟩
  · have hb : b ≠ a := fun z => by subst z; rw [del_same] at e; cases e
    rw [del_ne hb] at e
    exact (I.hok b u e).stay (fun c v _ q => q) (fun c q => by rw [del_ne (no c _ q (fun z => by cases z))]; exact q) fun c xs q => by rw [del_ne (no c _ q (fun z => by cases z))]; exact q
def rRev (X : Cx) : List V → Hp → VK → Prop := fun xs H Q => ∃ (l : Addr) (ys : List V), xs = [.ref l] ∧ H l = some (.lst ys) ∧ ∀ a, H a = none → Q (.ref a) (upd H a (revO X a l ys.length))
theorem call_rev : CallR X (.type "reversed") (rRev X) := by
  intro pins s σ H xs us Q I r h
  obtain ⟨l, ys, rfl, hH, q⟩ := h
  obtain ⟨u, rfl, rx⟩ := vals1 r
  cases rx
  obtain ⟨z, its, n, rv, hl, e⟩ := I.lstM hH
  refine RevX.call_rev e ?_
  have hsz : ((its.toArray.size : Int) - 1) = ((ys.length : Nat) : Int) - 1 := by rw [List.size_toArray, hl]
  rw [hsz]
  refine ⟨.ref s.heap.objs.size, _, I.laid (t' := s.toks) (o := revO X s.heap.objs.size l ys.length) (fun b o e => Heap.get?_push_of_some _ e) (Nat.le_refl _) ?_, rfl, q _ I.fresh⟩
  exact ⟨⟨Heap.get?_push_size _ rfl, I.sz⟩, ⟨_, Heap.get?_push_size _ rfl⟩, fun h1 h2 hφ k => ⟨k _ hφ.1, hφ.2⟩⟩
/-- list of such a walker: the list from its end; the walker is spent -/
def rListRev (X : Cx) : List V → Hp → VK → Prop := fun xs H Q => ∃ (a l : Addr) (ys : List V), xs = [.ref a] ∧ H a = some (revO X a l ys.length) ∧ H l = some (.lst ys) ∧
  ∀ p, H p = none → Q (.ref p) (upd (del H a) p (.lst ys.reverse))
theorem call_listRev (hc : X.calm = true) : CallR X (.type "list") (rListRev X) := by
  intro pins s σ H xs us Q I r h
  obtain ⟨a, l, ys, rfl, hA, hH, q⟩ := h
  obtain ⟨u, rfl, rx⟩ := vals1 r
  cases rx
  obtain ⟨z, its, n, rv, hl, e⟩ := I.lstM hH
  obtain ⟨⟨ha, hs0⟩, _, _⟩ := I.hok a _ hA
  have hne : l ≠ a := by rintro rfl; rw [hA] at hH; cases hH
  have hsz : ((ys.length : Nat) : Int) - 1 = ((its.toArray.size : Nat) : Int) - 1 := by rw [List.size_toArray, hl]
  rw [hsz] at ha
  have halt := Heap.lt_size ha
  refine RevX.list_rev (items := its.toArray) (I.ok.hd hc) ⟨_, ha, rfl, rfl⟩ ⟨_, e, rfl, n, rfl⟩ hne (by rw [List.size_toArray]; omega) fun h' tk c' kp ho => ?_
  have I1 := I.forget hA
  have hp : del H a s.heap.objs.size = none := by rw [del_ne (Nat.ne_of_gt halt)]; exact I.fresh
  have hna : ∀ b u, del H a b = some u → b ≠ a := fun b u e z => by rw [z, del_same] at e; cases e
  have hnp : ∀ b u, del H a b = some u → b ≠ s.heap.objs.size := fun b u e z => by rw [z, hp] at e; cases e
  have hL : X.env.locals ≠ a := fun z => by have := I.free; rw [z, hA] at this; cases this
  have I2 : Inv X pins σ (upd (del H a) s.heap.objs.size (.lst ys.reverse)) { s with heap := h', gens := s.gens, drawn := s.drawn, toks := tk } := by
    refine I1.step (ch := [a]) (fun b hb => ?_) (fun b o _ _ hb e _ => kp b o (by simpa using hb) e) (fun b o _ _ hb e _ => ⟨o.slots, kp b o (by simpa using hb) e⟩) (fun b o hb e n => ?_) (fun b o hb e => ⟨o, kp b o (by simpa using hb) e⟩)
      (fun b xs e => ?_) (fun b o u e => ?_) (fun b ps e => ?_) (fun m hm => ?_) (fun b u e => ?_) I.bare
    · have hb' : b = a := by simpa using hb
      subst hb'
      exact ⟨.inr hs0, fun z => hL z.symm, fun x c ec z => (by have := I.freeC x c ec; rw [z, hA] at this; cases this), fun p hp z => (by have := (I.pin p hp).2.1; rw [z, hA] at this; cases this)⟩
    · rw [upd_ne (Nat.ne_of_lt (Heap.lt_size e))]; exact n
    · rw [upd_ne (hnp b _ e)]; exact e
    · rw [upd_ne (hnp b _ e)]; exact e
    · exact ⟨#[], by rw [upd_ne (hnp b _ e), Array.append_empty]; exact e⟩
    · exact hm.at' fun o e => kp _ o hL e
    · by_cases hb : b = s.heap.objs.size
      · subst hb
        rw [upd_same] at e; cases e
        exact ⟨by rw [List.length_reverse]; exact z, its.reverse, c', Vals.rev rv, by rw [ho]; simp⟩
      · rw [upd_ne hb] at e
        refine (I1.hok b u e).stay (fun c v hc' q' => kp c v ?_ q') (fun c q' => ?_) fun c xs q' => ?_
        · rcases hc' with rfl | hc'
          · exact hna _ _ e
          · exact hna _ _ hc'
        · rw [upd_ne (hnp c _ q')]; exact q'
        · rw [upd_ne (hnp c _ q')]; exact q'
  exact ⟨.ref s.heap.objs.size, _, I2, rfl, q _ I.fresh⟩
end
end L2
set_option Elab.async false
set_option linter.all false
set_option maxRecDepth 100000
set_option maxHeartbeats 4000000
namespace L2
open PySem PySem.Spec PyProof.Rows
section
variable {X : Cx}
/-- isinstance of a tuple or a list that is read -/
def rIsSeq (K : PySem.W.Frag) : List V → Hp → VK → Prop := fun xs H Q => ∃ (a : Addr) (ys : List V) (T : String) (b : Bool), xs = [.ref a, .ty T] ∧
  ((SqT K H a ys ∧ PySem.W.kitOne K (.type "tuple") (.type T) = some b) ∨ (SqL K H a ys ∧ PySem.W.kitOne K (.type "list") (.type T) = some b)) ∧ Q (.bl b) H
theorem call_isSeq : CallR X (.builtin "isinstance") (rIsSeq X.K) := by
  intro pins s σ H xs us Q I rv h
  obtain ⟨a, ys, T, b, rfl, ty, q⟩ := h
  obtain ⟨u, u', rfl, rx, rt⟩ := vals2 rv
  cases rt
  cases rx
  rcases ty with ⟨h1, e⟩ | ⟨h1, e⟩
  · obtain ⟨_, _, ⟨o, h2, h3, _⟩, _⟩ := I.tuple h1
    exact PySem.W.kia_one PySem.W.kitx_tuple I.kIn ⟨o, h2, h3⟩ e (fun z => nomatch z) fun tk => ⟨.bl b, H, I.tok tk, rfl, q⟩
  · obtain ⟨_, _, p, _⟩ := I.list h1
    obtain ⟨o, h2, h3, _⟩ := p.isList
    exact PySem.W.kia_one PySem.W.kitx_list I.kIn ⟨o, h2, h3⟩ e (fun z => nomatch z) fun tk => ⟨.bl b, H, I.tok tk, rfl, q⟩
end
end L2
set_option linter.all false
namespace Pick
open Hull
def cross (p q : P) : Int := p.1 * q.2 - p.2 * q.1
def gc (p q : P) : Int := (Int.gcd (q.1 - p.1) (q.2 - p.2) : Nat)
def pathSum (f : P → P → Int) : List P → Int
  | a :: b :: r => f a b + pathSum f (b :: r)
  | _ => 0
def pathAll (f : P → P → Prop) : List P → Prop
  | a :: b :: r => f a b ∧ pathAll f (b :: r)
  | _ => True
def sumI (f : Int → Int) (a : Int) : Nat → Int
  | 0 => 0
  | n + 1 => sumI f a n + f (a + n)
theorem sumI_add (f : Int → Int) (a : Int) (n : Nat) : ∀ m : Nat, sumI f a (n + m) = sumI f a n + sumI f (a + n) m
  | 0 => by simp [sumI]
  | m + 1 => by
    show sumI f a (n + m) + f (a + ((n + m : Nat) : Int)) = _
    rw [sumI_add f a n m]
    show _ = sumI f a n + (sumI f (a + n) m + f (a + n + m))
    rw [show a + ((n + m : Nat) : Int) = a + n + m by omega]; omega
theorem sumI_congr {f g : Int → Int} {a : Int} : ∀ {n : Nat}, (∀ i : Nat, i < n → f (a + i) = g (a + i)) → sumI f a n = sumI g a n
  | 0, _ => rfl
  | n + 1, h => by
    show sumI f a n + f (a + n) = sumI g a n + g (a + n)
    rw [sumI_congr fun i hi => h i (by omega), h n (by omega)]
theorem sumI_lin (f g : Int → Int) (a : Int) : ∀ n : Nat, sumI (fun x => f x + g x) a n = sumI f a n + sumI g a n
  | 0 => rfl
  | n + 1 => by
    show sumI (fun x => f x + g x) a n + (f (a + n) + g (a + n)) = sumI f a n + f (a + n) + (sumI g a n + g (a + n))
    rw [sumI_lin f g a n]; omega
theorem sumI_const (c a : Int) : ∀ n : Nat, sumI (fun _ => c) a n = n * c
  | 0 => by simp [sumI]
  | n + 1 => by
    show sumI (fun _ => c) a n + c = _
    rw [sumI_const c a n]
    rw [show ((n + 1 : Nat) : Int) = (n : Int) + 1 by omega]; grind
/-- from behind -/
theorem sumI_rev (f : Int → Int) (a : Int) : ∀ n : Nat, sumI (fun x => f (-x)) (-(a + n - 1)) n = sumI f a n
  | 0 => rfl
  | n + 1 => by
    have h1 := sumI_add (fun x => f (-x)) (-(a + ((n + 1 : Nat) : Int) - 1)) 1 n
    rw [show (n + 1 : Nat) = 1 + n by omega] at *
    rw [h1]
    have h2 := sumI_rev f a n
    rw [show -(a + ((1 + n : Nat) : Int) - 1) + ((1 : Nat) : Int) = -(a + n - 1) by omega, h2]
    rw [show (1 + n : Nat) = n + 1 by omega]
    show (0 + f (-(-(a + ((n + 1 : Nat) : Int) - 1) + ((0 : Nat) : Int)))) + _ = sumI f a n + f (a + n)
    rw [show -(-(a + ((n + 1 : Nat) : Int) - 1) + ((0 : Nat) : Int)) = a + n by omega]; omega
/-! ### rounding up -/
def cdiv (a w : Int) : Int := -((-a) / w)
theorem cdiv_le {a w y : Int} (hw : 0 < w) : cdiv a w ≤ y ↔ a ≤ w * y := by
  unfold cdiv
  have h := Int.le_ediv_iff_mul_le (a := -y) (b := -a) hw
  constructor
  · intro g
    have := h.mp (by omega)
    rw [Int.neg_mul, Int.mul_comm] at this
    omega
  · intro g
    have := h.mpr (by rw [Int.neg_mul, Int.mul_comm]; omega)
    omega
def ceilAt (p q : P) (x : Int) : Int := p.2 + cdiv ((q.2 - p.2) * (x - p.1)) (q.1 - p.1)
theorem ceil_le {p q : P} {x y : Int} (h : p.1 < q.1) : ceilAt p q x ≤ y ↔ 0 ≤ turn p q (x, y) := by
  unfold ceilAt
  have := cdiv_le (a := (q.2 - p.2) * (x - p.1)) (w := q.1 - p.1) (y := y - p.2) (by omega)
  unfold turn
  dsimp only
  constructor
  · intro g
    have := this.mp (by omega)
    omega
  · intro g
    have := this.mpr (by omega)
    omega
theorem ceil_first {p q : P} (h : p.1 < q.1) : ceilAt p q p.1 = p.2 := by
  unfold ceilAt cdiv
  simp
theorem ceil_last {p q : P} (h : p.1 < q.1) : ceilAt p q q.1 = q.2 := by
  unfold ceilAt cdiv
  have : (-((q.2 - p.2) * (q.1 - p.1))) / (q.1 - p.1) = -(q.2 - p.2) := by
    rw [← Int.neg_mul]; exact Int.mul_ediv_cancel _ (by omega)
  rw [this]; omega
def csum (w : Nat) (h : Int) : Int := sumI (fun i => cdiv (h * i) w) 0 w
theorem csum_ok : ∀ w : Fin 18, ∀ k : Fin 37, 2 * csum (w.1 + 1) ((k.1 : Int) - 18) = ((k.1 : Int) - 18) * (w.1 + 1) - ((k.1 : Int) - 18) + (w.1 + 1) - (Int.gcd (w.1 + 1) ((k.1 : Int) - 18) : Nat) := by decide +kernel
theorem csum_eq {w : Nat} {h : Int} (w1 : 1 ≤ w) (w2 : w ≤ 18) (h1 : -18 ≤ h) (h2 : h ≤ 18) : 2 * csum w h = h * w - h + w - (Int.gcd w h : Nat) := by
  have := csum_ok ⟨w - 1, by omega⟩ ⟨(h + 18).toNat, by omega⟩
  simp only at this
  rw [show w - 1 + 1 = w by omega, show (((h + 18).toNat : Nat) : Int) - 18 = h by omega, show (((w - 1 : Nat) : Int) + 1) = (w : Int) by omega] at this
  exact this
end Pick
set_option linter.all false
namespace Pick
open Hull
def psi (v : P) : Int := v.1 + v.2 - v.1 * v.2
def ew (p q : P) : Int := cross p q + gc p q
/-- one side, its columns -/
theorem edge_sum {p q : P} (h : p.1 < q.1) (w2 : q.1 - p.1 ≤ 18) (h1 : -18 ≤ q.2 - p.2) (h2 : q.2 - p.2 ≤ 18) :
    2 * sumI (fun x => 1 - ceilAt p q x) p.1 (q.1 - p.1).toNat = ew p q + psi q - psi p := by
  obtain ⟨w, hw⟩ : ∃ w : Nat, q.1 - p.1 = (w : Int) := ⟨(q.1 - p.1).toNat, by omega⟩
  rw [hw, Int.toNat_natCast]
  have c := csum_eq (w := w) (h := q.2 - p.2) (by omega) (by omega) h1 h2
  have key : ∀ n : Nat, sumI (fun x => 1 - ceilAt p q x) p.1 n = (n : Int) * (1 - p.2) - sumI (fun i => cdiv ((q.2 - p.2) * i) w) 0 n := by
    intro n
    induction n with
    | zero => simp [sumI]
    | succ n ih =>
      show sumI (fun x => 1 - ceilAt p q x) p.1 n + (1 - ceilAt p q (p.1 + n)) = _ - (sumI (fun i => cdiv ((q.2 - p.2) * i) w) 0 n + cdiv ((q.2 - p.2) * (0 + n)) w)
      rw [ih]
      have : ceilAt p q (p.1 + n) = p.2 + cdiv ((q.2 - p.2) * (0 + n)) w := by
        unfold ceilAt
        rw [hw, show p.1 + (n : Int) - p.1 = 0 + n by omega]
      rw [this, show ((n + 1 : Nat) : Int) = (n : Int) + 1 by omega]
      grind
  rw [key]
  have c' : 2 * sumI (fun i => cdiv ((q.2 - p.2) * i) w) 0 w = (q.2 - p.2) * w - (q.2 - p.2) + w - gc p q := by
    have e : gc p q = ((Int.gcd (w : Int) (q.2 - p.2) : Nat) : Int) := by unfold gc; rw [hw]
    rw [e]; exact c
  unfold ew psi cross
  have eq : q.1 = p.1 + w := by omega
  rw [eq]
  grind
def cl : List P → Int → Int
  | p :: q :: r, x => if p.1 = q.1 then p.2 else if x < q.1 then ceilAt p q x else cl (q :: r) x
  | [p], _ => p.2
  | [], _ => 0
def lastP : P → List P → P
  | p, [] => p
  | _, q :: r => lastP q r
/-- rising to the right, upright only at the end; small -/
def Asc : P → List P → Prop
  | _, [] => True
  | p, q :: r => (p.1 < q.1 ∨ (p.1 = q.1 ∧ p.2 ≤ q.2 ∧ (lastP q r).1 = q.1)) ∧ (q.1 - p.1 ≤ 18 ∧ -18 ≤ q.2 - p.2 ∧ q.2 - p.2 ≤ 18) ∧ Asc q r
theorem Asc.le : ∀ {p : P} {r : List P}, Asc p r → p.1 ≤ (lastP p r).1
  | _, [], _ => Int.le_refl _
  | p, q :: r, h => by
    have := Asc.le h.2.2
    show p.1 ≤ (lastP q r).1
    rcases h.1 with g | g <;> omega
theorem cl_first : ∀ {p : P} {r : List P}, Asc p r → cl (p :: r) p.1 = p.2
  | _, [], _ => rfl
  | p, q :: r, h => by
    unfold cl
    rcases h.1 with g | g
    · rw [if_neg (by omega), if_pos g, ceil_first g]
    · rw [if_pos g.1]
theorem gc_up {p q : P} (h : p.1 = q.1) (g : p.2 ≤ q.2) : gc p q = q.2 - p.2 := by
  unfold gc
  rw [show q.1 - p.1 = 0 by omega, Int.gcd_zero_left]
  omega
theorem low : ∀ {p : P} {r : List P}, Asc p r →
    2 * sumI (fun x => 1 - cl (p :: r) x) p.1 ((lastP p r).1 - p.1 + 1).toNat = pathSum ew (p :: r) + psi (lastP p r) - psi p - 2 * (lastP p r).2 + 2
  | p, [], _ => by
    show 2 * sumI _ p.1 (p.1 - p.1 + 1).toNat = 0 + psi p - psi p - 2 * p.2 + 2
    rw [show (p.1 - p.1 + 1).toNat = 1 by omega]
    show 2 * (0 + (1 - p.2)) = _
    omega
  | p, q :: r, h => by
    have ih := low h.2.2
    have hle := Asc.le h.2.2
    show 2 * sumI _ p.1 ((lastP q r).1 - p.1 + 1).toNat = ew p q + pathSum ew (q :: r) + psi (lastP q r) - psi p - 2 * (lastP q r).2 + 2
    rcases h.1 with g | ⟨g1, g2, g3⟩
    · obtain ⟨w, hw⟩ : ∃ w : Nat, w = (q.1 - p.1).toNat := ⟨_, rfl⟩
      obtain ⟨m, hm⟩ : ∃ m : Nat, m = ((lastP q r).1 - q.1 + 1).toNat := ⟨_, rfl⟩
      rw [show ((lastP q r).1 - p.1 + 1).toNat = w + m by omega, sumI_add]
      rw [show p.1 + (w : Int) = q.1 by omega]
      rw [← hm] at ih
      have e1 := edge_sum g h.2.1.1 h.2.1.2.1 h.2.1.2.2
      rw [← hw] at e1
      have e2 : sumI (fun x => 1 - cl (p :: q :: r) x) p.1 w = sumI (fun x => 1 - ceilAt p q x) p.1 w := sumI_congr fun i hi => by
        show 1 - cl (p :: q :: r) (p.1 + i) = 1 - ceilAt p q (p.1 + i)
        rw [cl, if_neg (by omega), if_pos (by omega)]
      have e3 : sumI (fun x => 1 - cl (p :: q :: r) x) q.1 m = sumI (fun x => 1 - cl (q :: r) x) q.1 m := sumI_congr fun i hi => by
        show 1 - cl (p :: q :: r) (q.1 + i) = 1 - cl (q :: r) (q.1 + i)
        rw [cl, if_neg (by omega), if_neg (by omega)]
      rw [e2, e3]
      omega
    · rw [show ((lastP q r).1 - p.1 + 1).toNat = 1 by omega]
      rw [show ((lastP q r).1 - q.1 + 1).toNat = 1 by omega] at ih
      have i1 : sumI (fun x => 1 - cl (q :: r) x) q.1 1 = 1 - q.2 := by
        show 0 + (1 - cl (q :: r) (q.1 + ((0 : Nat) : Int))) = _
        rw [show q.1 + ((0 : Nat) : Int) = q.1 by omega, cl_first h.2.2]; omega
      have i2 : sumI (fun x => 1 - cl (p :: q :: r) x) p.1 1 = 1 - p.2 := by
        show 0 + (1 - cl (p :: q :: r) (p.1 + ((0 : Nat) : Int))) = _
        rw [cl, if_pos g1]; omega
      rw [i1] at ih
      rw [i2]
      have e : ew p q + psi q - psi p = 2 * (q.2 - p.2) := by
        unfold ew psi cross
        rw [gc_up g1 g2, ← g1]
        grind
      omega
/-! ### columns -/
def On2 (path : List P) (a b : P) : Prop := ∃ l r, path = l ++ a :: b :: r
theorem On2.cons {path : List P} {a b c : P} (h : On2 path a b) : On2 (c :: path) a b := by
  obtain ⟨l, r, rfl⟩ := h
  exact ⟨c :: l, r, rfl⟩
theorem col : ∀ {p : P} {r : List P} {x : Int}, Asc p r → p.1 < (lastP p r).1 → p.1 ≤ x → x ≤ (lastP p r).1 → ∃ a b, On2 (p :: r) a b ∧ a.1 < b.1 ∧ a.1 ≤ x ∧ x ≤ b.1 ∧ cl (p :: r) x = ceilAt a b x
  | p, [], x, _, h, _, _ => absurd h (Int.lt_irrefl _)
  | p, q :: r, x, h, h1, h2, h3 => by
    have h1' : p.1 < (lastP q r).1 := h1
    have h3' : x ≤ (lastP q r).1 := h3
    have hle := Asc.le h.2.2
    rcases h.1 with g | g
    · by_cases hx : x < q.1
      · exact ⟨p, q, ⟨[], r, rfl⟩, g, h2, by omega, by rw [cl, if_neg (by omega), if_pos hx]⟩
      · have e : cl (p :: q :: r) x = cl (q :: r) x := by rw [cl, if_neg (by omega), if_neg hx]
        by_cases hq : q.1 < (lastP q r).1
        · obtain ⟨a, b, o, i1, i2, i3, i4⟩ := col h.2.2 hq (by omega) h3'
          exact ⟨a, b, o.cons, i1, i2, i3, by rw [e, i4]⟩
        · have ex : x = q.1 := by omega
          subst ex
          exact ⟨p, q, ⟨[], r, rfl⟩, g, by omega, Int.le_refl _, by rw [e, cl_first h.2.2, ceil_last g]⟩
    · omega
theorem pathAll_on {f : P → P → Prop} : ∀ {path : List P}, pathAll f path ↔ ∀ a b, On2 path a b → f a b
  | [] => ⟨fun _ a b ⟨l, r, e⟩ => by cases l <;> simp at e, fun _ => trivial⟩
  | [p] => ⟨fun _ a b ⟨l, r, e⟩ => by
      cases l with
      | nil => simp at e
      | cons x l => cases l <;> simp at e, fun _ => trivial⟩
  | p :: q :: r => by
    constructor
    · rintro ⟨h1, h2⟩ a b ⟨l, r', e⟩
      cases l with
      | nil => cases e; exact h1
      | cons x l =>
        injection e with e1 e2
        exact pathAll_on.mp h2 a b ⟨l, r', e2⟩
    · intro h
      exact ⟨h p q ⟨[], r, rfl⟩, pathAll_on.mpr fun a b o => h a b o.cons⟩
/-- along a segment -/
theorem along (a b p q z : P) : (q.1 - p.1) * turn a b z = (q.1 - z.1) * turn a b p + (z.1 - p.1) * turn a b q + (b.1 - a.1) * turn p q z := by
  unfold turn; grind
theorem col_ok {row : List P} {p : P} {r : List P} (h : Asc p r) (hr : ∀ a b, On2 (p :: r) a b → (a.1 ≤ b.1) ∧ a ∈ row ∧ b ∈ row ∧ ∀ x ∈ row, 0 ≤ turn a b x) (hlt : p.1 < (lastP p r).1) {x : Int} (h2 : p.1 ≤ x) (h3 : x ≤ (lastP p r).1) (y : Int) :
    pathAll (fun a b => 0 ≤ turn a b (x, y)) (p :: r) ↔ cl (p :: r) x ≤ y := by
  obtain ⟨a, b, o, i1, i2, i3, i4⟩ := col h hlt h2 h3
  obtain ⟨_, ha, hb, _⟩ := hr a b o
  rw [i4, ceil_le i1, pathAll_on]
  constructor
  · intro g; exact g a b o
  · intro g c d o'
    obtain ⟨k1, _, _, k2⟩ := hr c d o'
    have e := along c d a b (x, y)
    dsimp only at e
    have t1 := Int.mul_nonneg (show 0 ≤ b.1 - x by omega) (k2 a ha)
    have t2 := Int.mul_nonneg (show 0 ≤ x - a.1 by omega) (k2 b hb)
    have t3 := Int.mul_nonneg (show 0 ≤ d.1 - c.1 by omega) g
    have t4 : 0 ≤ (b.1 - a.1) * turn c d (x, y) := by omega
    exact Int.not_lt.mp fun hn => by have := Int.mul_neg_of_pos_of_neg (show 0 < b.1 - a.1 by omega) hn; omega
end Pick
set_option linter.all false
namespace Pick
open Hull
theorem On2.left {path : List P} {a b : P} (h : On2 path a b) : a ∈ path := by
  obtain ⟨l, r, rfl⟩ := h; simp
theorem On2.right {path : List P} {a b : P} (h : On2 path a b) : b ∈ path := by
  obtain ⟨l, r, rfl⟩ := h; simp
/-- how many of a run of whole numbers lie from c to d -/
theorem run_count (ylo : Int) : ∀ (n : Nat) (c d : Int) (f : Int → Int), (∀ y, ylo ≤ y → y < ylo + n → f y = if c ≤ y ∧ y ≤ d then 1 else 0) → ylo ≤ c → d < ylo + n → c ≤ d + 1 → sumI f ylo n = d - c + 1
  | 0, c, d, f, _, h1, h2, h3 => by show 0 = d - c + 1; omega
  | n + 1, c, d, f, hf, h1, h2, h3 => by
    show sumI f ylo n + f (ylo + n) = _
    have e := hf (ylo + n) (by omega) (by omega)
    by_cases hd : d = ylo + n
    · by_cases hc : c ≤ d
      · rw [e, if_pos ⟨by omega, by omega⟩, run_count ylo n c (d - 1) f (fun y y1 y2 => ?_) h1 (by omega) (by omega)]
        · omega
        · rw [hf y y1 (by omega)]
          by_cases hy : c ≤ y
          · rw [if_pos ⟨hy, by omega⟩, if_pos ⟨hy, by omega⟩]
          · rw [if_neg (fun g => hy g.1), if_neg (fun g => hy g.1)]
      · have hz : sumI f ylo n = 0 := by
          have := sumI_congr (f := f) (g := fun _ => 0) (a := ylo) (n := n) fun i hi => by
            rw [hf (ylo + i) (by omega) (by omega), if_neg (by omega)]
          rw [this, sumI_const]; omega
        rw [e, if_neg (by omega), hz]; omega
    · rw [e, if_neg (by omega), run_count ylo n c d f (fun y y1 y2 => hf y y1 (by omega)) h1 (by omega) h3]; omega
theorem ceil_ge {a b : P} {x m : Int} (h : a.1 < b.1) (h1 : a.1 ≤ x) (h2 : x ≤ b.1) (ha : m ≤ a.2) (hb : m ≤ b.2) : m ≤ ceilAt a b x := by
  apply Int.not_lt.mp
  intro hn
  have t := (ceil_le (x := x) (y := ceilAt a b x) h).mp (Int.le_refl _)
  have e : turn a b (x, ceilAt a b x) = (b.1 - x) * (ceilAt a b x - a.2) + (x - a.1) * (ceilAt a b x - b.2) := by unfold turn; dsimp only; grind
  rw [e] at t
  have t1 := Int.mul_nonneg (show 0 ≤ b.1 - x by omega) (show 0 ≤ a.2 - ceilAt a b x by omega)
  have t2 := Int.mul_nonneg (show 0 ≤ x - a.1 by omega) (show 0 ≤ b.2 - ceilAt a b x by omega)
  rw [show ceilAt a b x - a.2 = -(a.2 - ceilAt a b x) by omega, show ceilAt a b x - b.2 = -(b.2 - ceilAt a b x) by omega, Int.mul_neg, Int.mul_neg] at t
  by_cases hx : x = b.1
  · have := Int.mul_pos (show 0 < x - a.1 by omega) (show 0 < b.2 - ceilAt a b x by omega)
    omega
  · have := Int.mul_pos (show 0 < b.1 - x by omega) (show 0 < a.2 - ceilAt a b x by omega)
    omega
/-- a path along which all the row is to the left -/
structure Side (row : List P) (p : P) (r : List P) : Prop where
  asc : Asc p r
  on : ∀ a b, On2 (p :: r) a b → (a.1 ≤ b.1) ∧ a ∈ row ∧ b ∈ row ∧ ∀ x ∈ row, 0 ≤ turn a b x
theorem pathSum_ng (f : P → P → Int) (hf : ∀ a b, f (ng a) (ng b) = f a b) : ∀ l : List P, pathSum f (l.map ng) = pathSum f l
  | [] => rfl
  | [_] => rfl
  | a :: b :: r => by
    show f (ng a) (ng b) + pathSum f ((b :: r).map ng) = _
    rw [hf, pathSum_ng f hf (b :: r)]; rfl
theorem ew_ng (a b : P) : ew (ng a) (ng b) = ew a b := by
  unfold ew cross gc ng
  dsimp only
  rw [show -b.1 - -a.1 = -(b.1 - a.1) by omega, show -b.2 - -a.2 = -(b.2 - a.2) by omega, Int.gcd_neg, Int.neg_gcd, Int.neg_mul_neg, Int.neg_mul_neg]
theorem pathAll_ng (x y : Int) : ∀ l : List P, pathAll (fun a b => 0 ≤ turn a b (-x, -y)) (l.map ng) ↔ pathAll (fun a b => 0 ≤ turn a b (x, y)) l
  | [] => Iff.rfl
  | [_] => Iff.rfl
  | a :: b :: r => by
    have e : turn (ng a) (ng b) (-x, -y) = turn a b (x, y) := turn_ng a b (x, y)
    show (0 ≤ turn (ng a) (ng b) (-x, -y) ∧ pathAll _ ((b :: r).map ng)) ↔ (_ ∧ _)
    rw [e, pathAll_ng x y (b :: r)]
/-- the count, of a lower path from u to v and an upper one (turned round) from -v to -u -/
theorem pick {row : List P} {u v : P} {r s : List P} (hu : u.1 < v.1) (A : Side row u r) (B : Side (row.map ng) (ng v) s) (lu : lastP u r = v) (lv : lastP (ng v) s = ng u)
    {ylo : Int} {n : Nat} (hy : ∀ x ∈ u :: r, ylo ≤ x.2 ∧ x.2 < ylo + n) (hy' : ∀ x, ng x ∈ ng v :: s → ylo ≤ x.2 ∧ x.2 < ylo + n) (F : Int → Int → Int)
    (hF : ∀ x y, F x y = 1 ↔ (pathAll (fun a b => 0 ≤ turn a b (x, y)) (u :: r) ∧ pathAll (fun a b => 0 ≤ turn a b (-x, -y)) (ng v :: s))) (hF0 : ∀ x y, F x y = 1 ∨ F x y = 0) :
    2 * sumI (fun x => sumI (F x) ylo n) u.1 (v.1 - u.1 + 1).toNat = pathSum ew (u :: r) + pathSum ew (ng v :: s) + 2 := by
  have colA : ∀ x y, u.1 ≤ x → x ≤ v.1 → (pathAll (fun a b => 0 ≤ turn a b (x, y)) (u :: r) ↔ cl (u :: r) x ≤ y) := fun x y h1 h2 => col_ok A.asc A.on (by rw [lu]; exact hu) h1 (by rw [lu]; exact h2) y
  have colB : ∀ x y, u.1 ≤ x → x ≤ v.1 → (pathAll (fun a b => 0 ≤ turn a b (-x, -y)) (ng v :: s) ↔ y ≤ -cl (ng v :: s) (-x)) := fun x y h1 h2 => by
    rw [col_ok (x := -x) B.asc B.on (by rw [lv]; show -v.1 < -u.1; omega) (show -v.1 ≤ -x by omega) (by rw [lv]; show -x ≤ -u.1; omega) (-y)]
    omega
  have each : ∀ x, u.1 ≤ x → x ≤ v.1 → sumI (F x) ylo n = (1 - cl (u :: r) x) + ((1 - cl (ng v :: s) (-x)) + -1) := fun x h1 h2 => by
    obtain ⟨a, b, o, i1, i2, i3, i4⟩ := col A.asc (by rw [lu]; exact hu) h1 (by rw [lu]; exact h2)
    obtain ⟨c, d, o', j1, j2, j3, j4⟩ := col (x := -x) B.asc (by rw [lv]; show -v.1 < -u.1; omega) (show -v.1 ≤ -x by omega) (by rw [lv]; show -x ≤ -u.1; omega)
    obtain ⟨_, ma, mb, ka⟩ := A.on a b o
    obtain ⟨_, mc, md, kc⟩ := B.on c d o'
    obtain ⟨c', mc', rfl⟩ := List.mem_map.mp mc
    obtain ⟨d', md', rfl⟩ := List.mem_map.mp md
    have b1 := ceil_ge (m := ylo) i1 i2 i3 (hy a o.left).1 (hy b o.right).1
    have b2 := ceil_ge (m := -(ylo + n - 1)) j1 j2 j3 (by have := (hy' c' o'.left).2; show _ ≤ -c'.2; omega) (by have := (hy' d' o'.right).2; show _ ≤ -d'.2; omega)
    rw [← i4] at b1
    rw [← j4] at b2
    have b3 : cl (u :: r) x ≤ -cl (ng v :: s) (-x) + 1 := by
      apply Int.not_lt.mp
      intro hn
      have g1 : ¬ 0 ≤ turn a b (x, cl (u :: r) x - 1) := fun g => by
        have := (ceil_le (x := x) (y := cl (u :: r) x - 1) i1).mpr g
        omega
      have g2 : ¬ 0 ≤ turn (ng c') (ng d') (-x, -(cl (u :: r) x - 1)) := fun g => by
        have := (ceil_le (x := -x) (y := -(cl (u :: r) x - 1)) j1).mpr g
        omega
      have g3 : turn (ng c') (ng d') (-x, -(cl (u :: r) x - 1)) = turn c' d' (x, cl (u :: r) x - 1) := turn_ng c' d' (x, cl (u :: r) x - 1)
      rw [g3] at g2
      have e := along a b d' c' (x, cl (u :: r) x - 1)
      dsimp only at e
      have j1' : -c'.1 < -d'.1 := j1
      have j2' : -c'.1 ≤ -x := j2
      have j3' : -x ≤ -d'.1 := j3
      have t1 := Int.mul_nonneg (show 0 ≤ c'.1 - x by omega) (ka d' md')
      have t2 := Int.mul_nonneg (show 0 ≤ x - d'.1 by omega) (ka c' mc')
      have t3 : 0 < (b.1 - a.1) * turn d' c' (x, cl (u :: r) x - 1) := Int.mul_pos (by omega) (by rw [turn_swap]; omega)
      have t4 := Int.mul_pos (show 0 < c'.1 - d'.1 by omega) (show 0 < -turn a b (x, cl (u :: r) x - 1) by omega)
      rw [Int.mul_neg] at t4
      omega
    rw [run_count ylo n (cl (u :: r) x) (-cl (ng v :: s) (-x)) (F x) (fun y _ _ => ?_) b1 (by omega) b3]
    · omega
    · by_cases hc : cl (u :: r) x ≤ y ∧ y ≤ -cl (ng v :: s) (-x)
      · rw [if_pos hc]
        exact (hF x y).mpr ⟨(colA x y h1 h2).mpr hc.1, (colB x y h1 h2).mpr hc.2⟩
      · rw [if_neg hc]
        rcases hF0 x y with g | g
        · obtain ⟨k1, k2⟩ := (hF x y).mp g
          exact absurd ⟨(colA x y h1 h2).mp k1, (colB x y h1 h2).mp k2⟩ hc
        · exact g
  obtain ⟨m, hm⟩ : ∃ m : Nat, m = (v.1 - u.1 + 1).toNat := ⟨_, rfl⟩
  rw [← hm, sumI_congr (g := fun x => (1 - cl (u :: r) x) + ((fun z => 1 - cl (ng v :: s) z) (-x) + -1)) fun i hi => each _ (by omega) (by omega)]
  rw [sumI_lin (fun x => 1 - cl (u :: r) x), sumI_lin (fun x => (fun z => 1 - cl (ng v :: s) z) (-x)), sumI_const]
  have l1 := low A.asc
  have l2 := low B.asc
  rw [lu, ← hm] at l1
  rw [lv] at l2
  have em : ((ng u).1 - (ng v).1 + 1).toNat = m := by show (-u.1 - -v.1 + 1).toNat = m; omega
  rw [em] at l2
  have rv := sumI_rev (fun z => 1 - cl (ng v :: s) z) (ng v).1 m
  rw [show -((ng v).1 + (m : Int) - 1) = u.1 by show -(-v.1 + (m : Int) - 1) = u.1; omega] at rv
  rw [rv]
  have p1 : psi (ng u) = -u.1 - u.2 - u.1 * u.2 := by unfold psi ng; dsimp only; rw [Int.neg_mul_neg]; omega
  have p2 : psi (ng v) = -v.1 - v.2 - v.1 * v.2 := by unfold psi ng; dsimp only; rw [Int.neg_mul_neg]; omega
  have p3 : (ng u).2 = -u.2 := rfl
  rw [p1, p2, p3] at l2
  unfold psi at l1
  have hm' : (m : Int) = v.1 - u.1 + 1 := by omega
  rw [hm']
  omega
end Pick
set_option linter.all false
namespace Pick
open Hull
theorem last_mem : ∀ (p : P) (r : List P), lastP p r ∈ p :: r
  | p, [] => List.mem_singleton.mpr rfl
  | p, q :: r => List.mem_cons_of_mem _ (last_mem q r)
theorem lastP_eq : ∀ (p : P) (l : List P) (z : P), lastP p (l ++ [z]) = z
  | p, [], z => rfl
  | p, q :: l, z => lastP_eq q l z
def Sm (row : List P) : Prop := ∀ x ∈ row, (-9 ≤ x.1 ∧ x.1 ≤ 9) ∧ -9 ≤ x.2 ∧ x.2 ≤ 9
theorem asc_of {row : List P} (hb : Sm row) : ∀ {r : List P} {p : P}, (p :: r).Pairwise lt → (∀ x ∈ p :: r, x ∈ row) → (∀ a b, On2 (p :: r) a b → ∀ x ∈ row, 0 ≤ turn a b x) → Asc p r
  | [], p, _, _, _ => trivial
  | q :: r, p, hs, hm, he => by
    have ih := asc_of hb (List.pairwise_cons.mp hs).2 (fun x hx => hm x (List.mem_cons_of_mem _ hx)) fun a b o => he a b o.cons
    have hpq : lt p q := (List.pairwise_cons.mp hs).1 q (by simp)
    have bp := hb p (hm p (by simp))
    have bq := hb q (hm q (by simp))
    refine ⟨?_, ⟨by omega, by omega, by omega⟩, ih⟩
    rcases hpq with g | ⟨g1, g2⟩
    · exact .inl g
    · refine .inr ⟨g1, by omega, ?_⟩
      have h1 := ih.le
      have h2 := he p q ⟨[], r, rfl⟩ (lastP q r) (hm _ (List.mem_cons_of_mem _ (last_mem q r)))
      unfold turn at h2
      rw [g1, Int.sub_self, Int.zero_mul] at h2
      have h3 : (q.2 - p.2) * ((lastP q r).1 - q.1) ≤ 0 := by omega
      apply Int.le_antisymm _ h1
      apply Int.not_lt.mp
      intro hn
      have := Int.mul_pos (show 0 < q.2 - p.2 by omega) (show 0 < (lastP q r).1 - q.1 by omega)
      omega
theorem on_lt : ∀ {p : P} {r : List P}, (p :: r).Pairwise lt → ∀ a b, On2 (p :: r) a b → lt a b := by
  rintro p r h a b ⟨l, r', e⟩
  rw [e] at h
  have := (List.pairwise_append.mp h).2.1
  exact (List.pairwise_cons.mp this).1 b (by simp)
theorem side_of {row : List P} (hb : Sm row) {r : List P} {p : P} (hs : (p :: r).Pairwise lt) (hm : ∀ x ∈ p :: r, x ∈ row) (he : ∀ a b, On2 (p :: r) a b → ∀ x ∈ row, 0 ≤ turn a b x) : Side row p r :=
  ⟨asc_of hb hs hm he, fun a b o => ⟨by have := on_lt hs a b o; unfold lt at this; omega, hm a o.left, hm b o.right, he a b o⟩⟩
theorem on_rev {st : List P} {a b : P} (h : On2 st.reverse a b) : ∃ l r, st = l ++ b :: a :: r := by
  obtain ⟨l, r, e⟩ := h
  refine ⟨r.reverse, l.reverse, ?_⟩
  have := congrArg List.reverse e
  simpa using this
theorem on_ng {l : List P} {a b : P} (h : On2 (l.map ng) a b) : ∃ a' b', a = ng a' ∧ b = ng b' ∧ On2 l a' b' := by
  obtain ⟨x, y, e⟩ := h
  obtain ⟨l1, l2, rfl, e1, e2⟩ := List.map_eq_append_iff.mp e
  obtain ⟨a', l3, rfl, e3, e4⟩ := List.map_eq_cons_iff.mp e2
  obtain ⟨b', l4, rfl, e5, e6⟩ := List.map_eq_cons_iff.mp e4
  exact ⟨a', b', e3.symm, e5.symm, l1, l4, rfl⟩
theorem pathSum_app (f : P → P → Int) : ∀ (l : List P) (z : P) (m : List P), pathSum f (l ++ z :: m) = pathSum f (l ++ [z]) + pathSum f (z :: m)
  | [], z, m => by show _ = 0 + _; simp
  | [a], z, m => by show f a z + pathSum f (z :: m) = f a z + 0 + _; omega
  | a :: b :: l, z, m => by
    show f a b + pathSum f ((b :: l) ++ z :: m) = f a b + pathSum f ((b :: l) ++ [z]) + _
    rw [pathSum_app f (b :: l) z m]; omega
theorem pathAll_app (f : P → P → Prop) : ∀ (l : List P) (z : P) (m : List P), pathAll f (l ++ z :: m) ↔ pathAll f (l ++ [z]) ∧ pathAll f (z :: m)
  | [], z, m => by simp [pathAll]
  | [a], z, m => by show (f a z ∧ pathAll f (z :: m)) ↔ (f a z ∧ True) ∧ _; simp
  | a :: b :: l, z, m => by
    show (f a b ∧ pathAll f ((b :: l) ++ z :: m)) ↔ (f a b ∧ pathAll f ((b :: l) ++ [z])) ∧ _
    rw [pathAll_app f (b :: l) z m, and_assoc]
/-- round the corners -/
def ring (h : List P) : List P := h ++ h.take 1
theorem hull_count {row : List P} (hrow : row.Pairwise lt) (hb : Sm row) (h2 : 2 ≤ row.length) {xlo ylo : Int} {m n : Nat}
    (hx : ∀ x ∈ hull row, xlo ≤ x.1 ∧ x.1 < xlo + m) (hx1 : ∃ x ∈ hull row, x.1 = xlo) (hx2 : ∃ x ∈ hull row, x.1 = xlo + m - 1)
    (hy : ∀ x ∈ hull row, ylo ≤ x.2 ∧ x.2 < ylo + n) (hy1 : ∃ x ∈ hull row, x.2 = ylo) (hy2 : ∃ x ∈ hull row, x.2 = ylo + n - 1) (F : Int → Int → Int)
    (hF : ∀ x y, F x y = 1 ↔ pathAll (fun a b => 0 ≤ turn a b (x, y)) (ring (hull row))) (hF0 : ∀ x y, F x y = 1 ∨ F x y = 0) :
    2 * sumI (fun x => sumI (F x) ylo n) xlo m = pathSum ew (ring (hull row)) + 2 := by
  obtain ⟨z, y, l, u, e, f, ln, un, ⟨l', el⟩, ⟨u', eu⟩, hz, hy', mz, my, hyz⟩ := tops hrow h2
  have c := chain_ok hrow
  have d := chainU_ok hrow
  have hh := hull_eq hrow h2
  rw [e, f] at hh
  simp only [List.tail_cons] at hh
  have t1 : (hull row).take 1 = [y] := by rw [hh, el]; simp
  have hu : ∀ s, s ∈ hull row ↔ s ∈ chainR row ∨ s ∈ chainR row.reverse := fun s => hull_mem hrow h2
  have zh : z ∈ hull row := (hu z).mpr (.inl (by rw [e]; simp))
  have yh : y ∈ hull row := (hu y).mpr (.inr (by rw [f]; simp))
  have sub : ∀ s ∈ hull row, s ∈ row := fun s hs => (hull_held hrow hs).1
  have exlo : xlo = y.1 := by
    obtain ⟨a, ha, rfl⟩ := hx1
    have := (hx y yh).1
    have := hy' a (sub a ha)
    unfold lt at this
    rcases this with g | g
    · rw [g]
    · omega
  have exhi : xlo + m - 1 = z.1 := by
    obtain ⟨a, ha, e⟩ := hx2
    have := (hx z zh).2
    have := hz a (sub a ha)
    unfold lt at this
    rcases this with g | g
    · rw [← e, g]
    · omega
  have yz : lt y z := by
    rcases hy' z mz with g | g
    · exact absurd g.symm hyz
    · exact g
  -- the lower path and the upper one
  have lo : (chainR row).reverse = y :: (l'.reverse ++ [z]) := by rw [e, el]; simp
  have up : (chainR row.reverse).reverse = z :: (u'.reverse ++ [y]) := by rw [f, eu]; simp
  have er : ring (hull row) = (y :: l'.reverse) ++ z :: (u'.reverse ++ [y]) := by
    unfold ring
    rw [t1, hh, el, eu]; simp
  rw [er] at hF ⊢
  rw [pathSum_app]
  by_cases hlt : y.1 < z.1
  · have A : Side row y (l'.reverse ++ [z]) := by
      refine side_of hb ?_ ?_ ?_
      · rw [← lo, List.pairwise_reverse]; exact c.dec
      · intro x hx; rw [← lo] at hx; exact c.sub x (List.mem_reverse.mp hx)
      · intro a b o x hx
        rw [← lo] at o
        obtain ⟨l1, r1, e1⟩ := on_rev o
        have := c.edges
        rw [e1] at this
        exact EdgesOk.at this x hx
    have B : Side (row.map ng) (ng z) ((u'.reverse ++ [y]).map ng) := by
      have hp : ng z :: (u'.reverse ++ [y]).map ng = ((chainR row.reverse).reverse).map ng := by rw [up]; rfl
      refine side_of ?_ ?_ ?_ ?_
      · intro x hx
        obtain ⟨x', h', rfl⟩ := List.mem_map.mp hx
        have := hb x' h'
        unfold ng; dsimp only; omega
      · rw [hp, List.pairwise_map, List.pairwise_reverse]
        exact d.inc.imp fun g => lt_ng.mpr g
      · intro x hx
        rw [hp] at hx
        obtain ⟨x', h', rfl⟩ := List.mem_map.mp hx
        exact List.mem_map_of_mem (d.sub x' (List.mem_reverse.mp h'))
      · intro a b o x hx
        rw [hp] at o
        obtain ⟨a', b', rfl, rfl, o'⟩ := on_ng o
        obtain ⟨l1, r1, e1⟩ := on_rev o'
        obtain ⟨x', h', rfl⟩ := List.mem_map.mp hx
        have := d.edges
        rw [e1] at this
        rw [turn_ng]
        exact EdgesOk.at this x' h'
    have key := pick (F := F) hlt A B (lastP_eq _ _ _) (by rw [List.map_append]; exact lastP_eq _ _ _) (ylo := ylo) (n := n)
      (fun x hx' => hy x ((hu x).mpr (.inl (by rw [← List.mem_reverse, lo]; exact hx'))))
      (fun x hx' => by
        have : ng x ∈ (z :: (u'.reverse ++ [y])).map ng := hx'
        obtain ⟨x', h', e'⟩ := List.mem_map.mp this
        rw [ng_inj e'] at h'
        exact hy x ((hu x).mpr (.inr (by rw [← List.mem_reverse, up]; exact h'))))
      (fun x y' => by
        rw [hF, pathAll_app]
        have := pathAll_ng x y' (z :: (u'.reverse ++ [y]))
        rw [show (z :: (u'.reverse ++ [y])).map ng = ng z :: (u'.reverse ++ [y]).map ng from rfl] at this
        rw [this]; rfl) hF0
    have e3 : pathSum ew (ng z :: (u'.reverse ++ [y]).map ng) = pathSum ew (z :: (u'.reverse ++ [y])) := pathSum_ng ew ew_ng (z :: (u'.reverse ++ [y]))
    rw [e3] at key
    rw [← exlo, show (z.1 - xlo + 1).toNat = m by omega] at key
    exact key
  · have ex : y.1 = z.1 := by unfold lt at yz; omega
    have yz2 : y.2 < z.2 := by unfold lt at yz; omega
    have all1 : ∀ x ∈ row, x.1 = z.1 := fun x hx => by
      have a1 := hz x hx
      have a2 := hy' x hx
      unfold lt at a1 a2
      rcases a1 with g | g
      · rw [g]
      · rcases a2 with k | k
        · rw [k]; exact ex
        · omega
    have flat : ∀ a b c, a ∈ row → b ∈ row → c ∈ row → turn a b c = 0 := fun a b c ha hb' hc => by
      unfold turn; rw [all1 a ha, all1 b hb', all1 c hc]; simp
    have three : ∀ st : List P, Conv st → (∀ x ∈ st, x ∈ row) → st.length ≤ 2 := fun st hc hs => by
      match st, hc, hs with
      | [], _, _ => simp
      | [_], _, _ => simp
      | [_, _], _, _ => simp
      | a :: b :: c' :: r, hc, hs =>
        have := flat c' b a (hs _ (by simp)) (hs _ (by simp)) (hs _ (by simp))
        have := hc.1
        omega
    have l0 : l' = [] := by
      have := three _ c.conv c.sub
      rw [e, el] at this
      simp only [List.length_cons, List.length_append, List.length_nil] at this
      exact List.eq_nil_of_length_eq_zero (by omega)
    have u0 : u' = [] := by
      have := three _ d.conv d.sub
      rw [f, eu] at this
      simp only [List.length_cons, List.length_append, List.length_nil] at this
      exact List.eq_nil_of_length_eq_zero (by omega)
    subst l0 u0
    have m1 : m = 1 := by omega
    subst m1
    have hul : hull row = [y, z] := by rw [hh, el, eu]; rfl
    have b1 := (hy y yh)
    have b2 := (hy z zh)
    have c1 : ylo = y.2 := by
      obtain ⟨a, ha, q⟩ := hy1
      rw [hul] at ha
      rcases List.mem_cons.mp ha with g | g
      · rw [← q, g]
      · rw [List.mem_singleton.mp g] at q; omega
    have c2 : ylo + n - 1 = z.2 := by
      obtain ⟨a, ha, q⟩ := hy2
      rw [hul] at ha
      rcases List.mem_cons.mp ha with g | g
      · rw [g] at q; omega
      · rw [List.mem_singleton.mp g] at q; omega
    have cnt : sumI (F xlo) ylo n = n := by
      have : sumI (F xlo) ylo n = sumI (fun _ => 1) ylo n := sumI_congr fun i hi => by
        refine (hF xlo (ylo + i)).mpr ⟨?_, ?_, trivial⟩
        · show 0 ≤ turn y z (xlo, ylo + i)
          unfold turn; dsimp only; rw [exlo, ex]; simp
        · show 0 ≤ turn z y (xlo, ylo + i)
          unfold turn; dsimp only; rw [exlo, ex]; simp
      rw [this, sumI_const]; omega
    show 2 * (0 + sumI (F (xlo + ((0 : Nat) : Int))) ylo n) = (ew y z + 0) + (ew z y + 0) + 2
    rw [show xlo + ((0 : Nat) : Int) = xlo by omega, cnt]
    have g1 : gc y z = z.2 - y.2 := gc_up ex (by omega)
    have g2 : gc z y = z.2 - y.2 := by
      unfold gc at g1 ⊢
      rw [show y.1 - z.1 = -(z.1 - y.1) by omega, show y.2 - z.2 = -(z.2 - y.2) by omega, Int.gcd_neg, Int.neg_gcd, g1]
    unfold ew cross
    rw [g1, g2, ex, Int.mul_comm z.1, Int.mul_comm z.1]
    omega
end Pick
set_option linter.all false
namespace Pick
open Hull
def ab (a : Int) : Int := if a < 0 then -a else a
theorem ab_neg (a : Int) : ab (-a) = ab a := by unfold ab; split <;> split <;> omega
theorem ab_nn (a : Int) : 0 ≤ ab a := by unfold ab; split <;> omega
def far (p q : P) : Int := ab (q.1 - p.1) + ab (q.2 - p.2)
def nextStep (s f x : P) : P := if f = s ∨ turn s f x < 0 then x else if turn s f x = 0 ∧ far s f < far s x then x else f
def nextOf (row : List P) (s : P) : P := row.foldl (nextStep s) s
theorem turn_sw (s f c : P) : turn s f c = - turn s c f := by unfold turn; grind
theorem next_stay {row : List P} {s c : P} (hs : c ≠ s) (he : Edge row s c) (hf : ∀ x ∈ row, turn s c x = 0 → x = c ∨ far s x < far s c) : ∀ l : List P, (∀ x ∈ l, x ∈ row) → l.foldl (nextStep s) c = c
  | [], _ => rfl
  | x :: l, h => by
    have hx := h x (by simp)
    have : nextStep s c x = c := by
      unfold nextStep
      rw [if_neg (by have := he x hx; rintro (g | g); exact hs g; omega)]
      split
      · rename_i g
        rcases hf x hx g.1 with k | k
        · exact k
        · omega
      · rfl
    show l.foldl (nextStep s) (nextStep s c x) = c
    rw [this]
    exact next_stay hs he hf l fun y hy => h y (by simp [hy])
theorem next_at {row : List P} {s c : P} (hc : c ∈ row) (hs : c ≠ s) (he : Edge row s c) (hf : ∀ x ∈ row, turn s c x = 0 → x = c ∨ far s x < far s c) : ∀ (l : List P) (f : P), (∀ x ∈ l, x ∈ row) → c ∈ l → (f = s ∨ f ∈ row) → l.foldl (nextStep s) f = c
  | [], _, _, h, _ => absurd h (by simp)
  | x :: l, f, h, hm, hfr => by
    show l.foldl (nextStep s) (nextStep s f x) = c
    have hl : ∀ y ∈ l, y ∈ row := fun y hy => h y (by simp [hy])
    by_cases ex : c = x
    · subst ex
      have : nextStep s f c = c := by
        unfold nextStep
        split
        · rfl
        · rename_i g
          have g1 : f ≠ s := fun k => g (.inl k)
          have hfr' : f ∈ row := hfr.resolve_left g1
          have g2 : turn s f c = 0 := by
            have := turn_sw s f c
            have := he f hfr'
            have : ¬ turn s f c < 0 := fun k => g (.inr k)
            omega
          have g3 : turn s c f = 0 := by have := turn_sw s f c; omega
          split
          · rfl
          · rename_i k
            rcases hf f hfr' g3 with e | e
            · exact e
            · exact absurd ⟨g2, e⟩ k
      rw [this]
      exact next_stay hs he hf l hl
    · refine next_at hc hs he hf l _ hl ((List.mem_cons.mp hm).resolve_left ex) ?_
      unfold nextStep
      split
      · exact .inr (h x (by simp))
      · split
        · exact .inr (h x (by simp))
        · exact hfr
/-- nearer on a line -/
theorem seg_far {A B a b : Int} (e : A * b = B * a) (h1 : pos (a, b)) (h2 : pos (A - a, B - b)) : ab a + ab b < ab A + ab B := by
  unfold pos at h1 h2
  dsimp only at h1 h2
  by_cases hA : A = 0
  · have ha : a = 0 := by omega
    subst hA ha
    unfold ab; split <;> split <;> split <;> omega
  · have hA' : 0 < A := by omega
    have ha : 0 ≤ a := by omega
    have hle : a ≤ A := by omega
    have hb : ab b ≤ ab B := by
      apply Int.not_lt.mp
      intro hn
      have k1 : ab b * A = ab B * a := by
        unfold ab
        by_cases b0 : b < 0
        · have : B * a < 0 := by rw [← e]; exact Int.mul_neg_of_pos_of_neg hA' b0
          have : B < 0 := by
            apply Int.not_le.mp; intro k
            have := Int.mul_nonneg k ha; omega
          rw [if_pos b0, if_pos this, Int.neg_mul, Int.neg_mul, ← e, Int.mul_comm]
        · have : 0 ≤ B * a := by rw [← e]; exact Int.mul_nonneg (by omega) (by omega)
          by_cases B0 : B < 0
          · have : a = 0 := by
              apply Int.le_antisymm _ ha
              apply Int.not_lt.mp; intro k
              have := Int.mul_neg_of_neg_of_pos B0 k; omega
            subst this
            have : b = 0 := by
              have : A * b = 0 := by rw [e]; simp
              rcases Int.mul_eq_zero.mp this with k | k
              · omega
              · exact k
            subst this
            simp
          · rw [if_neg b0, if_neg B0, ← e, Int.mul_comm]
      have k2 : ab B * a ≤ ab B * A := Int.mul_le_mul_of_nonneg_left hle (ab_nn B)
      have k3 : ab B * A < ab b * A := Int.mul_lt_mul_of_pos_right hn hA'
      omega
    by_cases hlt : a < A
    · have : ab a = a := by unfold ab; rw [if_neg (by omega)]
      have : ab A = A := by unfold ab; rw [if_neg (by omega)]
      omega
    · have ea : a = A := by omega
      subst ea
      have : b = B := by
        have : a * (b - B) = 0 := by rw [Int.mul_sub, e, Int.mul_comm]; omega
        rcases Int.mul_eq_zero.mp this with k | k <;> omega
      omega
section
variable {row : List P} (hrow : row.Pairwise lt)
include hrow
theorem far_ok {s c x : P} (hs : s ∈ hull row) (hc : c ∈ hull row) (sc : c ≠ s) (hx : x ∈ row) (t : turn s c x = 0) : x = c ∨ far s x < far s c := by
  obtain ⟨ms, ns⟩ := hull_held hrow hs
  obtain ⟨mc, nc⟩ := hull_held hrow hc
  by_cases xc : x = c
  · exact .inl xc
  refine .inr ?_
  have e : (c.1 - s.1) * (x.2 - s.2) = (c.2 - s.2) * (x.1 - s.1) := by unfold turn at t; omega
  by_cases xs : x = s
  · subst xs
    unfold far
    have : c.1 ≠ x.1 ∨ c.2 ≠ x.2 := by
      by_cases h : c.1 = x.1
      · exact .inr fun h' => sc (Prod.ext h h')
      · exact .inl h
    have a0 : ab (x.1 - x.1) = 0 := by unfold ab; simp
    have a1 : ab (x.2 - x.2) = 0 := by unfold ab; simp
    rw [a0, a1]
    unfold ab; split <;> split <;> omega
  have z1 : turn x c s = 0 := by rw [← turn_rot, turn_swap] at *; have := turn_rot s c x; have := turn_swap s c x; have := turn_sw s c x; unfold turn at *; grind
  have z2 : turn c x s = 0 := by rw [turn_swap]; omega
  have z3 : turn s x c = 0 := by rw [turn_sw]; omega
  have z4 : turn x s c = 0 := by rw [turn_swap]; omega
  rcases lt_tri s c with g | g | g
  · have h1 : lt s x := by
      rcases lt_tri s x with k | k | k
      · exact k
      · exact absurd k.symm xs
      · exact absurd (.inl ⟨x, hx, c, mc, z1, k, g⟩) ns
    have h2 : lt x c := by
      rcases lt_tri x c with k | k | k
      · exact k
      · exact absurd k xc
      · exact absurd (.inl ⟨s, ms, x, hx, z3, g, k⟩) nc
    refine seg_far e ?_ ?_
    · unfold lt at h1; unfold pos; dsimp only; omega
    · unfold lt at h2; unfold pos; dsimp only; omega
  · exact absurd g.symm sc
  · have h1 : lt x s := by
      rcases lt_tri x s with k | k | k
      · exact k
      · exact absurd k xs
      · exact absurd (.inl ⟨c, mc, x, hx, z2, g, k⟩) ns
    have h2 : lt c x := by
      rcases lt_tri c x with k | k | k
      · exact k
      · exact absurd k.symm xc
      · exact absurd (.inl ⟨x, hx, s, ms, z4, k, g⟩) nc
    have := seg_far (A := -(c.1 - s.1)) (B := -(c.2 - s.2)) (a := -(x.1 - s.1)) (b := -(x.2 - s.2)) (by rw [Int.neg_mul_neg, Int.neg_mul_neg, e]) (by unfold lt at h1; unfold pos; dsimp only; omega) (by unfold lt at h2; unfold pos; dsimp only; omega)
    rw [ab_neg, ab_neg, ab_neg, ab_neg] at this
    exact this
theorem ring_ne {i : Nat} {p q : P} (h2 : 2 ≤ (hull row).length) (hp : (ring (hull row))[i]? = some p) (hq : (ring (hull row))[i + 1]? = some q) : p ∈ hull row ∧ q ∈ hull row ∧ q ≠ p ∧ (i + 1 < (hull row).length → (hull row)[i + 1]? = some q) ∧ (hull row)[i]? = some p := by
  have nd := hull_nodup hrow
  generalize hull row = h at *
  have lr : (ring h).length = h.length + 1 := by unfold ring; simp; omega
  have hi : i + 1 < h.length + 1 := by rw [← lr]; exact (List.getElem?_eq_some_iff.mp hq).1
  have e1 : h[i]? = some p := by
    unfold ring at hp; rw [List.getElem?_append_left (by omega)] at hp; exact hp
  have mp := List.mem_of_getElem? e1
  by_cases hl : i + 1 < h.length
  · have e2 : h[i + 1]? = some q := by
      unfold ring at hq; rw [List.getElem?_append_left hl] at hq; exact hq
    refine ⟨mp, List.mem_of_getElem? e2, fun e => ?_, fun _ => e2, e1⟩
    subst e
    have := (List.getElem?_inj hl nd).mp (e2.trans e1.symm)
    omega
  · have e2 : h[0]? = some q := by
      unfold ring at hq
      rw [List.getElem?_append_right (by omega), show i + 1 - h.length = 0 by omega] at hq
      rw [List.getElem?_take] at hq
      simpa using hq
    refine ⟨mp, List.mem_of_getElem? e2, fun e => ?_, fun g => absurd g hl, e1⟩
    subst e
    have := (List.getElem?_inj (by omega) nd).mp (e2.trans e1.symm)
    omega
theorem hull_two (h2 : 2 ≤ row.length) : 2 ≤ (hull row).length := by
  obtain ⟨z, y, l, u, e, f, ln, un, ⟨l', el⟩, ⟨u', eu⟩, _⟩ := tops hrow h2
  rw [hull_eq hrow h2, e, f, el, eu]; simp; omega
theorem next_hull (h2 : 2 ≤ row.length) {i : Nat} {p q : P} (hp : (ring (hull row))[i]? = some p) (hq : (ring (hull row))[i + 1]? = some q) : nextOf row p = q := by
  obtain ⟨mp, mq, ne, _⟩ := ring_ne hrow (hull_two hrow h2) hp hq
  exact next_at (hull_held hrow mq).1 ne (hull_next hrow h2 i p q hp hq) (fun x hx t => far_ok hrow mp mq ne hx t) row p (fun _ h => h) (hull_held hrow mq).1 (.inl rfl)
end
/-! ### sums round -/
theorem fan (a : P) : ∀ (b : P) (t : List P), pathSum cross (b :: t ++ [a]) = pathSum (turn a) (b :: t) - cross a b
  | b, [] => by show cross b a + 0 = 0 - cross a b; unfold cross; grind
  | b, c :: t => by
    show cross b c + pathSum cross (c :: t ++ [a]) = turn a b c + pathSum (turn a) (c :: t) - cross a b
    rw [fan a c t]
    have : turn a b c = cross a b + cross b c - cross a c := by unfold turn cross; grind
    omega
theorem fan_ring (a b : P) (t : List P) : pathSum cross (ring (a :: b :: t)) = pathSum (turn a) (b :: t) := by
  show cross a b + pathSum cross (b :: t ++ [a]) = _
  rw [fan]; omega
theorem sum_take (f : P → P → Int) : ∀ (l : List P) (j : Nat) (b c : P), l[j]? = some b → l[j + 1]? = some c → pathSum f (l.take (j + 2)) = pathSum f (l.take (j + 1)) + f b c
  | [], j, b, c, h, _ => by simp at h
  | [x], 0, b, c, _, h => by simp at h
  | x :: y :: l, 0, b, c, h1, h2 => by
    simp at h1 h2; subst h1 h2
    show f x y + pathSum f [y] = 0 + f x y
    show f x y + 0 = _
    omega
  | [x], j + 1, b, c, h, _ => by simp at h
  | x :: y :: l, j + 1, b, c, h1, h2 => by
    have ih := sum_take f (y :: l) j b c h1 h2
    show f x y + pathSum f ((y :: l).take (j + 2)) = f x y + pathSum f ((y :: l).take (j + 1)) + f b c
    rw [ih]; omega
theorem ring_sum (f : P → P → Int) (h : List P) (a z : P) (ha : h[0]? = some a) (hz : h.getLast? = some z) : pathSum f (ring h) = f z a + pathSum f h := by
  obtain ⟨l, rfl⟩ := List.getLast?_eq_some_iff.mp hz
  have : (l ++ [z]).take 1 = [a] := by
    cases l with
    | nil => simp at ha ⊢; exact ha
    | cons x l => simp at ha ⊢; exact ha
  unfold ring
  rw [this, List.append_assoc, show [z] ++ [a] = z :: [a] from rfl, pathSum_app]
  show _ + (f z a + 0) = _
  omega
theorem zip_sum (f : P → P → Int) : ∀ (h : List P) (a : P), (List.zipWith f h (h.drop 1 ++ [a])).sum = pathSum f (h ++ [a])
  | [], a => rfl
  | [x], a => by simp [pathSum]
  | x :: y :: h, a => by
    have := zip_sum f (y :: h) a
    show f x y + (List.zipWith f (y :: h) ((y :: h).drop 1 ++ [a])).sum = f x y + pathSum f (y :: h ++ [a])
    rw [this]
theorem zip_ring (f : P → P → Int) (h : List P) : (List.zipWith f h (h.drop 1 ++ h.take 1)).sum = pathSum f (ring h) := by
  cases h with
  | nil => rfl
  | cons a h => exact zip_sum f (a :: h) a
theorem ew_sum : ∀ l : List P, pathSum ew l = pathSum cross l + pathSum gc l
  | [] => rfl
  | [_] => rfl
  | a :: b :: l => by
    show cross a b + gc a b + pathSum ew (b :: l) = cross a b + pathSum cross (b :: l) + (gc a b + pathSum gc (b :: l))
    rw [ew_sum (b :: l)]; omega
end Pick
namespace Pick
open Hull
theorem zip_take (g : P → P → Int) : ∀ {ps L : List P} {i : Nat} {p q : P}, ps[i]? = some p → L[i]? = some q → List.zipWith g (ps.take (i + 1)) L = List.zipWith g (ps.take i) L ++ [g p q]
  | [], _, _, _, _, h, _ => by simp at h
  | _ :: _, [], _, _, _, _, h => by simp at h
  | a :: ps, b :: L, 0, p, q, h1, h2 => by
    simp at h1 h2; subst h1 h2; simp
  | a :: ps, b :: L, i + 1, p, q, h1, h2 => by
    have := zip_take g (ps := ps) (L := L) (i := i) (p := p) (q := q) (by simpa using h1) (by simpa using h2)
    simp [this]
end Pick
namespace Pick
open Hull
theorem ring_lt {h : List P} {i : Nat} (hi : i < h.length) : (ring h)[i]? = h[i]? := by unfold ring; rw [List.getElem?_append_left hi]
theorem ring_at {h : List P} (h0 : 0 < h.length) : (ring h)[h.length]? = h[0]? := by
  unfold ring; rw [List.getElem?_append_right (Nat.le_refl _), Nat.sub_self, List.getElem?_take]; simp
/-- what gift wrapping finds next -/
theorem wrap_next {row : List P} (hrow : row.Pairwise lt) {p0 : P} (h0 : (hull row)[0]? = some p0) {i : Nat} (hi : i < (hull row).length) :
    (i + 1 < (hull row).length → (hull row)[i + 1]? = some (nextOf row (hull row)[i]) ∧ nextOf row (hull row)[i] ≠ p0) ∧ (¬ i + 1 < (hull row).length → nextOf row (hull row)[i] = p0) := by
  have nd := hull_nodup hrow
  have hc : (hull row)[i]? = some (hull row)[i] := List.getElem?_eq_getElem hi
  by_cases h2 : 2 ≤ row.length
  · have a1 : (ring (hull row))[i]? = some (hull row)[i] := by rw [ring_lt hi]; exact hc
    constructor
    · intro g
      have a2 : (ring (hull row))[i + 1]? = some (hull row)[i + 1] := by rw [ring_lt g]; exact List.getElem?_eq_getElem g
      have e := next_hull hrow h2 a1 a2
      rw [e]
      refine ⟨List.getElem?_eq_getElem g, fun z => ?_⟩
      have := (List.getElem?_inj g nd).mp ((List.getElem?_eq_getElem g).trans (by rw [z, h0]))
      omega
    · intro g
      have en : i + 1 = (hull row).length := by omega
      have a2 : (ring (hull row))[i + 1]? = some p0 := by rw [en, ring_at (by omega)]; exact h0
      exact next_hull hrow h2 a1 a2
  · have e1 : row.length = 1 := by
      match row, h2, hi with
      | [], _, hi => simp [hull, chainR] at hi
      | [_], _, _ => rfl
      | _ :: _ :: _, h2, _ => exact absurd (by simp) h2
    have eh : hull row = row := by unfold hull; rw [if_pos e1]
    match row, e1 with
    | [a], _ =>
      constructor
      · intro g; rw [eh] at g; simp at g
      · intro _
        have ea : p0 = a := by rw [eh] at h0; simpa using h0.symm
        have : (hull [a])[i] = a := by
          have hm := List.getElem_mem hi
          generalize (hull [a])[i] = z at hm
          rw [eh] at hm
          exact List.mem_singleton.mp hm
        rw [this, ea]
        show nextStep a a a = a
        unfold nextStep; rw [if_pos (.inl rfl)]
end Pick
set_option Elab.async false
set_option linter.all false
set_option maxRecDepth 100000
set_option maxHeartbeats 4000000
namespace K1a
open PySem L2 Hull SortM
seal L2.PE L2.PT L2.PW L2.PA L2.PS L2.PSs L2.PG L2.PGs L2.PF L2.PI L2.PO
def top (i : Nat) : Stmt := PySem.Challenge.pw_herdline_k01_corners.main.body.getD i (.Pass ⟨0, 0, 0, 0⟩)
abbrev s_is_number : Stmt := top 6
abbrev s_is_pair : Stmt := top 7
abbrev s_is_herd : Stmt := top 8
abbrev s_check_herd : Stmt := top 9
abbrev s_leftness : Stmt := top 11
abbrev s_left_chain : Stmt := top 12
abbrev s_corners : Stmt := top 13
abbrev s__law_cell_at : Stmt := top 15
abbrev s__law_draw : Stmt := top 16
abbrev s__law_spot : Stmt := top 17
abbrev s__law_herd : Stmt := top 18
abbrev s__law_turn : Stmt := top 19
abbrev s__law_on : Stmt := top 20
abbrev s__law_held : Stmt := top 21
abbrev s_law : Stmt := top 22
theorem sc_is_number : FnScope ["value"] ["value"] (defScope s_is_number) := ⟨rfl, rfl, rfl, by decide +kernel, rfl, by decide +kernel, by decide +kernel⟩
theorem sc_is_pair : FnScope ["value"] ["value"] (defScope s_is_pair) := ⟨rfl, rfl, rfl, by decide +kernel, rfl, by decide +kernel, by decide +kernel⟩
theorem sc_is_herd : FnScope ["value"] ["value"] (defScope s_is_herd) := ⟨rfl, rfl, rfl, by decide +kernel, rfl, by decide +kernel, by decide +kernel⟩
theorem sc_check_herd : FnScope ["herd"] ["herd"] (defScope s_check_herd) := ⟨rfl, rfl, rfl, by decide +kernel, rfl, by decide +kernel, by decide +kernel⟩
theorem sc_leftness : FnScope ["start", "end", "spot", "along", "across"] ["start", "end", "spot"] (defScope s_leftness) := ⟨rfl, rfl, rfl, by decide +kernel, rfl, by decide +kernel, by decide +kernel⟩
theorem sc_left_chain : FnScope ["row", "chain", "spot"] ["row"] (defScope s_left_chain) := ⟨rfl, rfl, rfl, by decide +kernel, rfl, by decide +kernel, by decide +kernel⟩
theorem sc_corners : FnScope ["herd", "row", "below", "above"] ["herd"] (defScope s_corners) := ⟨rfl, rfl, rfl, by decide +kernel, rfl, by decide +kernel, by decide +kernel⟩
theorem sc__law_cell_at : FnScope ["_law_script", "_law_k"] ["_law_script", "_law_k"] (defScope s__law_cell_at) := ⟨rfl, rfl, rfl, by decide +kernel, rfl, by decide +kernel, by decide +kernel⟩
theorem sc__law_draw : FnScope ["_law_cell", "_law_k", "_law_many", "_law_primes"] ["_law_cell", "_law_k", "_law_many"] (defScope s__law_draw) := ⟨rfl, rfl, rfl, by decide +kernel, rfl, by decide +kernel, by decide +kernel⟩
theorem sc__law_spot : FnScope ["_law_cell", "_law_most", "_law_line", "_law_one", "_law_other"] ["_law_cell", "_law_most", "_law_line"] (defScope s__law_spot) := ⟨rfl, rfl, rfl, by decide +kernel, rfl, by decide +kernel, by decide +kernel⟩
theorem sc__law_herd : FnScope ["_law_cell", "_law_most_spots", "_law_many", "_law_most", "_law_line", "_law_found", "_law_k"] ["_law_cell", "_law_most_spots"] (defScope s__law_herd) := ⟨rfl, rfl, rfl, by decide +kernel, rfl, by decide +kernel, by decide +kernel⟩
theorem sc__law_turn : FnScope ["_law_one", "_law_two", "_law_three", "_law_ahead"] ["_law_one", "_law_two", "_law_three"] (defScope s__law_turn) := ⟨rfl, rfl, rfl, by decide +kernel, rfl, by decide +kernel, by decide +kernel⟩
theorem sc__law_on : FnScope ["_law_one", "_law_two", "_law_spot_here"] ["_law_one", "_law_two", "_law_spot_here"] (defScope s__law_on) := ⟨rfl, rfl, rfl, by decide +kernel, rfl, by decide +kernel, by decide +kernel⟩
theorem sc__law_held : FnScope ["_law_others", "_law_spot_here", "_law_k", "_law_n", "_law_m", "_law_one", "_law_two", "_law_three", "_law_turns"] ["_law_others", "_law_spot_here"] (defScope s__law_held) := ⟨rfl, rfl, rfl, by decide +kernel, rfl, by decide +kernel, by decide +kernel⟩
theorem sc_law : FnScope ["_law_script", "_law_herd_here", "_law_each", "_law_due", "_law_handed", "_law_again", "_law_found", "_law_k", "_law_other"] ["_law_script"] (defScope s_law) := ⟨rfl, rfl, rfl, by decide +kernel, rfl, by decide +kernel, by decide +kernel⟩
structure Bl (mg : Str → Option Value) : Prop where
  len : mg "len" = none
  all : mg "all" = none
  isinstance : mg "isinstance" = none
  tuple : mg "tuple" = none
  list : mg "list" = none
  bool : mg "bool" = none
  int : mg "int" = none
  set : mg "set" = none
  range : mg "range" = none
  reversed : mg "reversed" = none
  sorted : mg "sorted" = none
  min : mg "min" = none
  max : mg "max" = none
  g_BOUND : ∃ t, mg "BOUND" = some (.int 1000 t)
  g_MOST_SPOTS : ∃ t, mg "MOST_SPOTS" = some (.int 8 t)
/-- a spot of a herd -/
def Bd (p : P) : Prop := (-1000 ≤ p.1 ∧ p.1 ≤ 1000) ∧ -1000 ≤ p.2 ∧ p.2 ≤ 1000
def Sp (K : PySem.W.Frag) (H : Hp) (v : V) (p : P) : Prop := Dn K H (spotD p) v ∧ Bd p
theorem Sp.same {K : PySem.W.Frag} {H H' : Hp} {v : V} {p : P} (e : Same H H') (h : Sp K H v p) : Sp K H' v p := ⟨e.dn h.1, h.2⟩
theorem same_new {H : Hp} {p : Addr} (h : H p = none) (o : HO) : Same H (upd H p o) := fun b u q => by rw [upd_ne (ne_of_none q h)]; exact q
/-! ### the promises -/
def sp_cell (K : PySem.W.Frag) : L2.Sp := fun vs H Q _ => ∃ (a : Addr) (ns : List Int) (k : Nat), vs = [.ref a, .int k] ∧ SqL K H a (ns.map V.int) ∧ ∀ c : Int, Q (.int c) H
def sp_draw : L2.Sp := fun vs H Q _ => ∃ c k m : Int, vs = [.int c, .int k, .int m] ∧ 0 < m ∧ ∀ (r : Int) H', 0 ≤ r → r < m → Same H H' → Q (.int r) H'
def sp_spot (K : PySem.W.Frag) : L2.Sp := fun vs H Q _ => ∃ c m l : Int, vs = [.int c, .int m, .int l] ∧ 1 ≤ m ∧ m ≤ 1000 ∧ ∀ v H' p, Same H H' → Sp K H' v p → Q v H'
def sp_on (K : PySem.W.Frag) : L2.Sp := fun vs H Q _ => ∃ x y z a b c, vs = [x, y, z] ∧ Sp K H x a ∧ Sp K H y b ∧ Sp K H z c ∧ ∀ H' r, Same H H' → (r = true ↔ On a b c) → Q (.bl r) H'
def sp_chain (K : PySem.W.Frag) : L2.Sp := fun vs H Q _ => ∃ (r : Addr) (xs : List V) (row : List P), vs = [.ref r] ∧ SqL K H r xs ∧ Dns K H (row.map spotD) xs ∧ (∀ p ∈ row, Bd p) ∧ row.length ≤ 8 ∧
  ∀ l zs, H l = none → Dns K H ((chainR row).reverse.map spotD) zs → Q (.ref l) (upd H l (.lst zs))
def sp_held (K : PySem.W.Frag) : L2.Sp := fun vs H Q _ => ∃ (o : Addr) (x : V) (ys : List V) (os : List P) (s : P), vs = [.ref o, x] ∧ SqL K H o ys ∧ Dns K H (os.map spotD) ys ∧ (∀ p ∈ os, Bd p) ∧ os.length ≤ 8 ∧ Sp K H x s ∧
  ∀ H' r, Same H H' → (r = true ↔ HeldIx os s) → Q (.bl r) H'
def sp_herd (K : PySem.W.Frag) : L2.Sp := fun vs H Q _ => ∃ c : Int, vs = [.int c, .int 8] ∧ ∀ l ys ps H', Same H H' → H l = none → H' l = some (.lst ys) → Dns K H' (List.map spotD ps) ys → (∀ p ∈ ps, Bd p) → 1 ≤ ps.length → ps.length ≤ 8 → Q (.ref l) H'
def sp_num : L2.Sp := fun vs H Q _ => ∃ i : Int, vs = [.int i] ∧ Q (.bl true) H
def sp_pair (K : PySem.W.Frag) : L2.Sp := fun vs H Q _ => ∃ x p, vs = [x] ∧ Sp K H x p ∧ ∀ H', Same H H' → Q (.bl true) H'
def sp_isherd (K : PySem.W.Frag) : L2.Sp := fun vs H Q _ => ∃ (o : Addr) (ys : List V) (ps : List P), vs = [.ref o] ∧ SqL K H o ys ∧ Dns K H (ps.map spotD) ys ∧ (∀ p ∈ ps, Bd p) ∧ 1 ≤ ps.length ∧ ps.length ≤ 8 ∧ ∀ H', Same H H' → Q (.bl true) H'
def sp_check (K : PySem.W.Frag) : L2.Sp := fun vs H Q _ => ∃ (o : Addr) (ys : List V) (ps : List P), vs = [.ref o] ∧ SqL K H o ys ∧ Dns K H (ps.map spotD) ys ∧ (∀ p ∈ ps, Bd p) ∧ 1 ≤ ps.length ∧ ps.length ≤ 8 ∧ ∀ H', Same H H' → Q .non H'
def sp_corners (K : PySem.W.Frag) : L2.Sp := fun vs H Q _ => ∃ (o : Addr) (ys : List V) (ps : List P), vs = [.ref o] ∧ SqL K H o ys ∧ Dns K H (ps.map spotD) ys ∧ (∀ p ∈ ps, Bd p) ∧ 1 ≤ ps.length ∧ ps.length ≤ 8 ∧
  ∀ l zs row H', Same H H' → H l = none → H' l = some (.lst zs) → row.Pairwise lt → (∀ p, p ∈ row ↔ p ∈ ps) → Dns K H' ((hull row).map spotD) zs → Q (.ref l) H'
def sp_left (K : PySem.W.Frag) : L2.Sp := fun vs H Q _ => ∃ x y z a b c, vs = [x, y, z] ∧ Sp K H x a ∧ Sp K H y b ∧ Sp K H z c ∧ Q (.int (turn a b c)) H
def sp_turn (K : PySem.W.Frag) : L2.Sp := fun vs H Q _ => ∃ x y z a b c, vs = [x, y, z] ∧ Sp K H x a ∧ Sp K H y b ∧ Sp K H z c ∧ ∀ H', Same H H' → Q (.int (turn a b c)) H'
section
variable {P : Program} {w : World} {K : PySem.W.Frag} {mg : Str → Option Value} {base : Heap} {f : Addr} {fd : FuncData}
theorem ok_left (F : Fun K "leftness" "leftness" s_leftness f fd) : FnOk P w K mg base CX0 1 f fd ["start", "end", "spot"] (sp_left K) := by
  refine F.ok sc_leftness (fun vs H Q E h => ?_) (fun cdv A outer s H vs Q E hr h => ?_)
  · obtain ⟨x, y, z, a, b, c, rfl, _⟩ := h
    rfl
  obtain ⟨x, y, z, a, b, c, rfl, ⟨ha, ha1, ha2⟩, ⟨hb, hb1, hb2⟩, ⟨hc, hc1, hc2⟩, q⟩ := h
  obtain ⟨x, rfl, ta⟩ := ha.spot
  obtain ⟨y, rfl, tb⟩ := hb.spot
  obtain ⟨z, rfl, tc⟩ := hc.spot
  refine ⟨_, (pss_cons (ps_set (i := 3) sc_leftness.nd rfl (Or.inl rfl) (pe_op op_mul (pe_op op_sub (pe_ix ix_tup (pv 1) pe_int (fun _ _ => rfl)) (pe_ix ix_tup (pv 0) pe_int (fun _ _ => rfl))) (pe_op op_sub (pe_ix ix_tup (pv 2) pe_int (fun _ _ => rfl)) (pe_ix ix_tup (pv 0) pe_int (fun _ _ => rfl)))))
    (pss_cons (ps_set (i := 4) sc_leftness.nd rfl (Or.inl rfl) (pe_op op_mul (pe_op op_sub (pe_ix ix_tup (pv 1) pe_int (fun _ _ => rfl)) (pe_ix ix_tup (pv 0) pe_int (fun _ _ => rfl))) (pe_op op_sub (pe_ix ix_tup (pv 2) pe_int (fun _ _ => rfl)) (pe_ix ix_tup (pv 0) pe_int (fun _ _ => rfl)))))
    (pss_one (ps_ret (pe_op op_sub (pv 3) (pv 4)))))), ?_⟩
  refine ⟨_, rfl, y, _, _, _, rfl, rfl, tb, rfl, _, rfl, x, _, _, _, rfl, rfl, ta, rfl, _, _, rfl, rfl, _, rfl, z, _, _, _, rfl, rfl, tc, rfl, _, rfl, x, _, _, _, rfl, rfl, ta, rfl, _, _, rfl, rfl, _, _, rfl, rfl, .inr ⟨by omega, by omega⟩, ?_⟩
  refine ⟨_, rfl, y, _, _, _, rfl, rfl, tb, rfl, _, rfl, x, _, _, _, rfl, rfl, ta, rfl, _, _, rfl, rfl, _, rfl, z, _, _, _, rfl, rfl, tc, rfl, _, rfl, x, _, _, _, rfl, rfl, ta, rfl, _, _, rfl, rfl, _, _, rfl, rfl, .inr ⟨by omega, by omega⟩, ?_⟩
  exact ⟨_, rfl, _, rfl, _, _, rfl, rfl, q⟩
theorem ok_turn (F : Fun K "_law_turn" "_law_turn" s__law_turn f fd) : FnOk P w K mg base CX0 1 f fd ["_law_one", "_law_two", "_law_three"] (sp_turn K) := by
  refine F.ok sc__law_turn (fun vs H Q E h => ?_) (fun cdv A outer s H vs Q E hr h => ?_)
  · obtain ⟨x, y, z, a, b, c, rfl, _⟩ := h
    rfl
  obtain ⟨x, y, z, a, b, c, rfl, ⟨ha, ha1, ha2⟩, ⟨hb, hb1, hb2⟩, ⟨hc, hc1, hc2⟩, q⟩ := h
  obtain ⟨x, rfl, ta⟩ := ha.spot
  obtain ⟨y, rfl, tb⟩ := hb.spot
  obtain ⟨z, rfl, tc⟩ := hc.spot
  refine ⟨_, (pss_cons (ps_set (i := 3) sc__law_turn.nd rfl (Or.inl rfl) (pe_tup (pa_cons (pe_op op_sub (pe_ix ix_tup (pv 1) pe_int (fun _ _ => rfl)) (pe_ix ix_tup (pv 0) pe_int (fun _ _ => rfl))) (pa_cons (pe_op op_sub (pe_ix ix_tup (pv 1) pe_int (fun _ _ => rfl)) (pe_ix ix_tup (pv 0) pe_int (fun _ _ => rfl))) pa_nil))))
    (pss_one (ps_ret (pe_op op_sub (pe_op op_mul (pe_ix ix_tup (pv 3) pe_int (fun _ _ => rfl)) (pe_op op_sub (pe_ix ix_tup (pv 2) pe_int (fun _ _ => rfl)) (pe_ix ix_tup (pv 0) pe_int (fun _ _ => rfl)))) (pe_op op_mul (pe_ix ix_tup (pv 3) pe_int (fun _ _ => rfl)) (pe_op op_sub (pe_ix ix_tup (pv 2) pe_int (fun _ _ => rfl)) (pe_ix ix_tup (pv 0) pe_int (fun _ _ => rfl)))))))), ?_⟩
  refine ⟨_, rfl, y, _, _, _, rfl, rfl, tb, rfl, _, rfl, x, _, _, _, rfl, rfl, ta, rfl, _, _, rfl, rfl, _, rfl, y, _, _, _, rfl, rfl, tb, rfl, _, rfl, x, _, _, _, rfl, rfl, ta, rfl, _, _, rfl, rfl, (by show 2 ≤ sizeLine; decide), fun t ht => ?_⟩
  have e := same_new ht (HO.tup [V.int (b.1 - a.1), V.int (b.2 - a.2)])
  have ha' := e.seqT ta
  have hb' := e.seqT tb
  have hc' := e.seqT tc
  refine ⟨_, rfl, t, _, _, _, rfl, rfl, SqT.of upd_same, rfl, _, rfl, z, _, _, _, rfl, rfl, hc', rfl, _, rfl, x, _, _, _, rfl, rfl, ha', rfl, _, _, rfl, rfl, _, _, rfl, rfl, .inr ⟨by omega, by omega⟩, ?_⟩
  refine ⟨_, rfl, t, _, _, _, rfl, rfl, SqT.of upd_same, rfl, _, rfl, z, _, _, _, rfl, rfl, hc', rfl, _, rfl, x, _, _, _, rfl, rfl, ha', rfl, _, _, rfl, rfl, _, _, rfl, rfl, .inr ⟨by omega, by omega⟩, ?_⟩
  exact ⟨_, _, rfl, rfl, q _ e⟩
theorem ok_cell (B : Bl mg) (F : Fun K "_law_cell_at" "_law_cell_at" s__law_cell_at f fd) : FnOk P w K mg base CX0 1 f fd ["_law_script", "_law_k"] (sp_cell K) := by
  refine F.ok sc__law_cell_at (fun vs H Q E h => ?_) (fun cdv A outer s H vs Q E hr h => ?_)
  · obtain ⟨a, ns, k, rfl, _⟩ := h
    rfl
  obtain ⟨a, ns, k, rfl, hS, q⟩ := h
  refine ⟨_, (pss_cons (ps_if (pt_cmpR op_lt (pv 1) (pe_callB call_len_seq (by rfl) B.len PySem.L3.boot_len (pa_cons (pv 0) pa_nil)) (nomark _)) (pss_one (ps_ret (pe_ix ix_list (pv 0) (pv 1) (fun _ _ => rfl)))) pss_nil)
    (pss_one (ps_ret pe_int))), ?_⟩
  refine ⟨_, rfl, _, rfl, a, _, rfl, .inl hS, _, _, rfl, rfl, _, rfl, ite2 (fun c => ?_) (fun c => ?_)⟩
  · have c' : (k : Int) < (((ns.map V.int).length : Nat) : Int) := of_decide_eq_true c
    have hk : k < ns.length := by rw [List.length_map] at c'; omega
    exact ⟨_, rfl, _, rfl, a, _, _, _, rfl, rfl, hS, atI_nat (v := .int ns[k]) (by rw [List.getElem?_map, List.getElem?_eq_getElem hk]; rfl), q _⟩
  · exact q _
def primes : List Int := [1000003, 1000033, 1000037, 1000039, 1000081, 1000099, 1000117, 1000121, 1000133, 1000151, 1000159, 1000171, 1000183, 1000187, 1000193, 1000199]
theorem prime_at (k : Int) : ∃ p, atI (primes.map V.int) (k % 16) = some (.int p) ∧ 0 < p := by
  have h0 := Int.emod_nonneg k (show (16 : Int) ≠ 0 by decide)
  have h1 := Int.emod_lt_of_pos k (show (0 : Int) < 16 by decide)
  obtain ⟨n, hn⟩ : ∃ n : Nat, k % 16 = (n : Int) := ⟨(k % 16).toNat, by omega⟩
  rw [hn]
  have hn16 : n < 16 := by omega
  have all : ∀ i : _root_.Fin 16, ∃ p, primes[i.1]? = some p ∧ 0 < p := by decide +kernel
  obtain ⟨p, e, hp⟩ := all ⟨n, hn16⟩
  refine ⟨p, atI_nat ?_, hp⟩
  rw [List.getElem?_map, e]; rfl
theorem ok_draw (F : Fun K "_law_draw" "_law_draw" s__law_draw f fd) : FnOk P w K mg base CX0 1 f fd ["_law_cell", "_law_k", "_law_many"] sp_draw := by
  refine F.ok sc__law_draw (fun vs H Q E h => ?_) (fun cdv A outer s H vs Q E hr h => ?_)
  · obtain ⟨c, k, m, rfl, _⟩ := h
    rfl
  obtain ⟨c, k, m, rfl, hm, q⟩ := h
  obtain ⟨p, hp, hp0⟩ := prime_at k
  refine ⟨_, (pss_cons (ps_set (i := 3) sc__law_draw.nd rfl (Or.inl rfl) (pe_tup (pa_ints (by rfl))))
    (pss_one (ps_ret (pe_op op_mod (pe_op op_mod (pe_op op_add (pe_op op_mul (pv 0) pe_int) (pe_op op_mul (pv 1) pe_int)) (pe_ix ix_tup (pv 3) (pe_op op_mod (pv 1) pe_int) (fun _ _ => rfl))) (pv 2))))), ?_⟩
  refine ⟨(by show 16 ≤ sizeLine; decide), fun t ht => ?_⟩
  refine ⟨_, rfl, _, _, rfl, rfl, .inr ⟨by omega, by omega⟩, _, rfl, _, _, rfl, rfl, .inr ⟨by omega, by omega⟩, _, _, rfl, rfl, ?_⟩
  refine ⟨_, rfl, _, rfl, _, _, rfl, rfl, by omega, t, _, _, _, rfl, rfl, SqT.of upd_same, hp, _, _, rfl, rfl, hp0, _, rfl, _, _, rfl, rfl, hm, ?_⟩
  exact q _ _ (Int.emod_nonneg _ (by omega)) (Int.emod_lt_of_pos _ hm) (same_new ht _)
theorem ok_spot (C__law_draw : Cal P w K mg base 1 "_law_draw" sp_draw) (F : Fun K "_law_spot" "_law_spot" s__law_spot f fd) : FnOk P w K mg base CX0 2 f fd ["_law_cell", "_law_most", "_law_line"] (sp_spot K) := by
  refine F.ok sc__law_spot (fun vs H Q E h => ?_) (fun cdv A outer s H vs Q E hr h => ?_)
  · obtain ⟨c, m, l, rfl, _⟩ := h
    rfl
  obtain ⟨c, m, l, rfl, m1, m2, q⟩ := h
  refine ⟨_, (pss_cons (ps_set (i := 3) sc__law_spot.nd rfl (Or.inl rfl) (pe_op op_sub (pe_c C__law_draw (hr.mono (by decide)) (by rfl) (pa_cons (pv 0) (pa_cons pe_int (pa_cons (pe_op op_add (pe_op op_mul pe_int (pv 1)) pe_int) pa_nil)))) (pv 1)))
    (pss_cons (ps_set (i := 4) sc__law_spot.nd rfl (Or.inl rfl) (pe_op op_sub (pe_c C__law_draw (hr.mono (by decide)) (by rfl) (pa_cons (pe_op op_fdiv (pv 0) pe_int) (pa_cons pe_int (pa_cons (pe_op op_add (pe_op op_mul pe_int (pv 1)) pe_int) pa_nil)))) (pv 1)))
    (pss_cons (ps_if (pt_cmpR op_eq (pv 2) pe_int (nomark _)) (pss_one (ps_ret (pe_tup (pa_cons (pv 3) (pa_cons (pe_un un_neg (pv 3)) pa_nil))))) pss_nil)
    (pss_cons (ps_if (pt_cmpR op_eq (pv 2) pe_int (nomark _)) (pss_one (ps_ret (pe_tup (pa_cons (pe_op op_mod (pv 3) pe_int) (pa_cons (pe_op op_add (pe_op op_mul (pe_op op_mod (pv 3) pe_int) pe_int) pe_int) pa_nil))))) pss_nil)
    (pss_one (ps_ret (pe_tup (pa_cons (pv 3) (pa_cons (pv 4) pa_nil))))))))), ?_⟩
  refine ⟨_, rfl, _, rfl, _, _, rfl, rfl, .inr ⟨by omega, by omega⟩, _, _, rfl, rfl, c, 1, 2 * m + 1, rfl, by omega, fun r H1 r0 r1 e1 => ?_⟩
  refine ⟨_, rfl, _, _, rfl, rfl, ?_⟩
  refine ⟨_, rfl, _, _, rfl, rfl, ⟨by decide, by decide⟩, _, rfl, _, _, rfl, rfl, .inr ⟨by omega, by omega⟩, _, _, rfl, rfl, c / 3, 2, 2 * m + 1, rfl, by omega, fun r2 H2 p0 p1 e2 => ?_⟩
  refine ⟨_, rfl, _, _, rfl, rfl, ?_⟩
  refine ⟨_, rfl, rfl, _, rfl, ite2 (fun _ => ?_) (fun _ => ?_)⟩
  · refine ⟨_, rfl, _, rfl, _, rfl, (by show 2 ≤ sizeLine; decide), fun t ht => ?_⟩
    exact q _ _ (r - m, -(r - m)) ((e1.trans e2).trans (same_new ht _)) ⟨dn_spot (SqT.of upd_same), ⟨by show -1000 ≤ r - m; omega, by show r - m ≤ 1000; omega⟩, by show -1000 ≤ -(r - m); omega, by show -(r - m) ≤ 1000; omega⟩
  · refine ⟨_, rfl, rfl, _, rfl, ite2 (fun _ => ?_) (fun _ => ?_)⟩
    · have h0 := Int.emod_nonneg (r - m) (show (3 : Int) ≠ 0 by decide)
      have h1 := Int.emod_lt_of_pos (r - m) (show (0 : Int) < 3 by decide)
      refine ⟨_, rfl, _, _, rfl, rfl, (show (0 : Int) < 3 by decide), _, rfl, _, _, rfl, rfl, (show (0 : Int) < 3 by decide), _, _, rfl, rfl, .inr ⟨by omega, by omega⟩, _, _, rfl, rfl, (by show 2 ≤ sizeLine; decide), fun t ht => ?_⟩
      exact q _ _ ((r - m) % 3, (r - m) % 3 * 2 + 1) ((e1.trans e2).trans (same_new ht _)) ⟨dn_spot (SqT.of upd_same), ⟨by show -1000 ≤ (r - m) % 3; omega, by show (r - m) % 3 ≤ 1000; omega⟩, by show -1000 ≤ (r - m) % 3 * 2 + 1; omega, by show (r - m) % 3 * 2 + 1 ≤ 1000; omega⟩
    · refine ⟨_, rfl, _, rfl, (by show 2 ≤ sizeLine; decide), fun t ht => ?_⟩
      exact q _ _ (r - m, r2 - m) ((e1.trans e2).trans (same_new ht _)) ⟨dn_spot (SqT.of upd_same), ⟨by show -1000 ≤ r - m; omega, by show r - m ≤ 1000; omega⟩, by show -1000 ≤ r2 - m; omega, by show r2 - m ≤ 1000; omega⟩
theorem ok_on (B : Bl mg) (C__law_turn : Cal P w K mg base 1 "_law_turn" (sp_turn K)) (F : Fun K "_law_on" "_law_on" s__law_on f fd) : FnOk P w K mg base CX0 2 f fd ["_law_one", "_law_two", "_law_spot_here"] (sp_on K) := by
  refine F.ok sc__law_on (fun vs H Q E h => ?_) (fun cdv A outer s H vs Q E hr h => ?_)
  · obtain ⟨x, y, z, a, b, c, rfl, _⟩ := h
    rfl
  obtain ⟨x, y, z, a, b, c, rfl, ha, hb, hc, q⟩ := h
  have hu := hr.units
  refine ⟨_, (pss_cons (ps_if (pt_cmpR op_ne (pe_c C__law_turn (hr.mono (by decide)) (by rfl) (pa_cons (pv 0) (pa_cons (pv 1) (pa_cons (pv 2) pa_nil)))) pe_int (nomark _)) (pss_one (ps_ret pe_bl)) pss_nil)
    (pss_one (ps_ret (pe_chain (op_leSp hu) (op_leSp hu) (pe_callB (call_minSp rfl hu) (by rfl) B.min PySem.L3.boot_min (pa_cons (pv 0) (pa_cons (pv 1) pa_nil))) (pv 2) (pe_callB (call_maxSp rfl hu) (by rfl) B.max PySem.L3.boot_max (pa_cons (pv 0) (pa_cons (pv 1) pa_nil))))))), ?_⟩
  refine ⟨_, rfl, _, rfl, _, rfl, x, y, z, a, b, c, rfl, ha, hb, hc, fun H1 e1 => ?_⟩
  have da := e1.dn ha.1
  have db := e1.dn hb.1
  have dc := e1.dn hc.1
  refine ⟨rfl, _, rfl, ite2 (fun c0 => ?_) (fun c0 => ?_)⟩
  · refine q _ false e1 ⟨fun z => (by cases z), fun o => ?_⟩
    have h0 : turn a b c ≠ 0 := by simpa using c0
    exact absurd o.1 h0
  · have h0 : turn a b c = 0 := by simpa using c0
    refine ⟨_, rfl, _, rfl, x, y, a, b, rfl, da, db, _, rfl, mn a b, c, ?_, dc, _, rfl, ite2 (fun c1 => ?_) (fun c1 => ?_)⟩
    · unfold mn
      by_cases hl : lt b a
      · rw [if_pos hl, if_pos (show ltb _ _ = true from decide_eq_true hl)]; exact db
      · rw [if_neg hl, if_neg (by unfold ltb; simpa using hl)]; exact da
    · have h1 : le (mn a b) c := by unfold le; simpa [ltb] using c1
      refine ⟨_, rfl, _, rfl, x, y, a, b, rfl, da, db, c, mx a b, dc, ?_, q _ _ e1 ⟨fun z => ?_, fun o => ?_⟩⟩
      · unfold mx
        by_cases hl : lt a b
        · rw [if_pos hl, if_pos (show ltb _ _ = true from decide_eq_true hl)]; exact db
        · rw [if_neg hl, if_neg (by unfold ltb; simpa using hl)]; exact da
      · exact ⟨h0, h1, by unfold le; simpa [ltb] using z⟩
      · have := o.2.2; unfold le at this; simpa [ltb] using this
    · refine q _ false e1 ⟨fun z => (by cases z), fun o => ?_⟩
      have := o.2.1; unfold le at this
      exact absurd (by simpa [ltb] using this) c1
theorem Dns.split {K : PySem.W.Frag} {H : Hp} : ∀ {ds es : List PyData} {zs : List V}, Dns K H (ds ++ es) zs → ∃ ys ws, zs = ys ++ ws ∧ Dns K H ds ys ∧ Dns K H es ws
  | [], es, zs, h => ⟨[], zs, rfl, dns_nil, h⟩
  | d :: ds, es, zs, h => by
    obtain ⟨x, r, rfl, h1, h2⟩ := L2.Dns.cons h
    obtain ⟨ys, ws, rfl, h3, h4⟩ := Dns.split h2
    exact ⟨x :: ys, ws, rfl, dns_cons h1 h3, h4⟩
theorem fold_mem : ∀ (row st : List Hull.P) (p : Hull.P), p ∈ row.foldl push st → p ∈ st ∨ p ∈ row
  | [], st, p, h => .inl h
  | t :: row, st, p, h => by
    rcases fold_mem row (push st t) p h with g | g
    · unfold push at g
      rcases List.mem_cons.mp g with e | e
      · exact .inr (e ▸ List.mem_cons_self)
      · obtain ⟨l, hl⟩ := pops_suffix t st
        exact .inl (by rw [hl]; exact List.mem_append_right _ e)
    · exact .inr (List.mem_cons_of_mem _ g)
theorem fold_len : ∀ (row st : List Hull.P), (row.foldl push st).length ≤ st.length + row.length
  | [], st => Nat.le_refl _
  | t :: row, st => by
    have h1 := fold_len row (push st t)
    have h2 : (push st t).length ≤ st.length + 1 := by
      obtain ⟨l, hl⟩ := pops_suffix t st
      have := congrArg List.length hl
      rw [List.length_append] at this
      show (pops t st).length + 1 ≤ _
      omega
    show (row.foldl push (push st t)).length ≤ st.length + (row.length + 1)
    omega
theorem atI_last2 {α : Type} (xs : List α) (u v : α) : atI (xs ++ [u] ++ [v]) (-2) = some u := by
  have hl : (xs ++ [u] ++ [v]).length = xs.length + 2 := by simp
  have e : ixN (xs ++ [u] ++ [v]).length (-2) = some xs.length := by
    unfold ixN
    rw [hl]
    rw [if_neg (by omega), if_pos (by omega)]
    congr 1; omega
  unfold atI
  rw [e]
  simp
theorem ok_chain (B : Bl mg) (C_leftness : Cal P w K mg base 1 "leftness" (sp_left K)) (F : Fun K "left_chain" "left_chain" s_left_chain f fd) : FnOk P w K mg base CX0 2 f fd ["row"] (sp_chain K) := by
  refine F.ok sc_left_chain (fun vs H Q E h => ?_) (fun cdv A outer s H vs Q E hr h => ?_)
  · obtain ⟨r, xs, row, rfl, _⟩ := h
    rfl
  obtain ⟨r, xs, row, rfl, hr1, hd, hb, h8, q⟩ := h
  refine ⟨_, (pss_cons (ps_set (i := 1) sc_left_chain.nd rfl (Or.inl rfl) (pe_lst pa_nil))
    (pss_cons (ps_for PassesOwn.never rfl (pi_list (pv 0)) (pg_name (i := 2) sc_left_chain.nd rfl (Or.inl rfl)) (pss_cons (ps_while PassesOwn.never (PW.pt (pw_and (pt_cmpR op_gt (pe_callB call_len_seq (by rfl) B.len PySem.L3.boot_len (pa_cons (pv 1) pa_nil)) pe_int (nomark _)) (pw_and1 (pt_cmpR op_le (pe_c C_leftness (hr.mono (by decide)) (by rfl) (pa_cons (pe_ix ix_list (pv 1) (pe_un un_neg pe_int) (fun _ _ => rfl)) (pa_cons (pe_ix ix_list (pv 1) (pe_un un_neg pe_int) (fun _ _ => rfl)) (pa_cons (pv 2) pa_nil)))) pe_int (nomark _))))) (pss_one (ps_expr (pe_bm0 PySem.F.plainAttrs_list PySem.F.slot_list_pop PySem.F.type_list_pop mt_pop (pv 1)))))
    (pss_one (ps_expr (pe_bm PySem.F.plainAttrs_list PySem.F.slot_list_append PySem.F.type_list_append mt_append (pv 1) (pa_cons (pv 2) pa_nil))))))
    (pss_one (ps_ret (pv 1))))), ?_⟩
  refine ⟨Nat.zero_le _, fun l hl => ?_⟩
  have hrl : SqL K (upd H l (.lst [])) r xs := (same_new hl _).seq hr1
  refine ⟨_, rfl, r, rfl, ⟨xs, hrl⟩, ?_⟩
  refine for_list (xs := xs) (fun i σ' H' => ∃ zs o, σ' = [some (.ref r), some (.ref l), o] ∧ H' = upd H l (.lst zs) ∧ Dns K H (((row.take i).foldl push []).reverse.map spotD) zs) ⟨[], _, rfl, rfl, dns_nil⟩ (fun i σ' H' _ p => ?_) ?_ ?_
  · obtain ⟨zs, o, rfl, rfl, _⟩ := p
    exact (same_new hl _).seq hr1
  · rintro i x σ' H' hx ⟨zs0, o, rfl, rfl, dz0⟩
    obtain ⟨d, hd1, hd2⟩ := hd.get' hx
    rw [List.getElem?_map] at hd1
    obtain ⟨t, ht, rfl⟩ := Option.map_eq_some_iff.mp hd1
    have htr : t ∈ row := List.mem_of_getElem? ht
    have hi : i < row.length := (List.getElem?_eq_some_iff.mp ht).1
    refine ⟨fun m σ' H' => ∃ zs st, σ' = [some (.ref r), some (.ref l), some x] ∧ H' = upd H l (.lst zs) ∧ Dns K H (st.reverse.map spotD) zs ∧ pops t st = pops t ((row.take i).foldl push []) ∧ (∀ p ∈ st, p ∈ row) ∧ st.length ≤ 8 ∧ m = st.length,
      ⟨_, zs0, (row.take i).foldl push [], rfl, rfl, dz0, rfl, fun p hp => ?_, ?_, rfl⟩, ?_⟩
    · rcases fold_mem _ _ p hp with g | g
      · cases g
      · exact List.mem_of_mem_take g
    · have h1 := fold_len (row.take i) []
      rw [List.length_take] at h1
      simp only [List.length_nil] at h1
      omega
    · rintro m σ' H' ⟨zs, st, rfl, rfl, dz, hpp, hmem, hs8, rfl⟩
      have hlen : zs.length = st.length := by have := dz.length; simpa using this
      -- the end of the while: t is put on top
      have fin : pops t st = st → zs.length < sizeLine ∧ ∃ zs' o', [some (V.ref r), some (V.ref l), some x] = [some (.ref r), some (.ref l), o'] ∧ upd (upd H l (.lst zs)) l (.lst (zs ++ [x])) = upd H l (.lst zs') ∧ Dns K H (((row.take (i + 1)).foldl push []).reverse.map spotD) zs' := fun e => by
        refine ⟨by rw [sizeLine_eq]; omega, zs ++ [x], _, rfl, upd_upd, ?_⟩
        have e1 : (row.take (i + 1)).foldl push [] = t :: st := by
          rw [List.take_add_one, ht, List.foldl_append]
          show t :: pops t ((row.take i).foldl push []) = _
          rw [← hpp, e]
        rw [e1, List.reverse_cons, List.map_append]
        exact dz.append (dns_cons hd2 dns_nil)
      refine ⟨_, rfl, l, zs, rfl, .inl (SqL.of upd_same), _, _, rfl, rfl, _, rfl, ite2 (fun c0 => ?_) (fun c0 => ?_)⟩
      · have c1 : (1 : Int) < ((zs.length : Nat) : Int) := of_decide_eq_true c0
        obtain ⟨b, a, r', rfl⟩ : ∃ b a r', st = b :: a :: r' := by
          match st, hlen with
          | [], hlen => rw [hlen] at c1; simp at c1
          | [_], hlen => rw [hlen] at c1; simp at c1
          | b :: a :: r', _ => exact ⟨b, a, r', rfl⟩
        have er : (b :: a :: r').reverse.map spotD = (r'.reverse.map spotD ++ [spotD a]) ++ [spotD b] := by simp
        rw [er] at dz
        obtain ⟨ys, wb, rfl, d1, d2⟩ := Dns.split dz
        obtain ⟨vb, w1, rfl, db, d3⟩ := L2.Dns.cons d2
        obtain rfl := d3.nil
        obtain ⟨ys', wa, rfl, d4, d5⟩ := Dns.split d1
        obtain ⟨va, w2, rfl, da, d6⟩ := L2.Dns.cons d5
        obtain rfl := d6.nil
        have sm := same_new hl (HO.lst (ys' ++ [va] ++ [vb]))
        refine ⟨_, rfl, _, rfl, l, _, _, va, rfl, rfl, SqL.of upd_same, atI_last2 ys' va vb, _, rfl, _, rfl, l, _, _, vb, rfl, rfl, SqL.of upd_same, atI_last (ys' ++ [va]) vb, _, rfl, va, vb, x, a, b, t, rfl, ⟨sm.dn da, hb a (hmem a (by simp))⟩, ⟨sm.dn db, hb b (hmem b (by simp))⟩, ⟨sm.dn hd2, hb t htr⟩, _, _, rfl, rfl, _, rfl, ite2 (fun c2 => ?_) (fun c2 => ?_)⟩
        · have c3 : turn a b t ≤ 0 := of_decide_eq_true c2
          refine ⟨fun σ' H' => σ' = [some (.ref r), some (.ref l), some x] ∧ H' = upd H l (.lst (ys' ++ [va])), ?_, ?_⟩
          · rintro σ'' H'' ⟨rfl, rfl⟩
            refine ⟨(a :: r').length, by simp, ys' ++ [va], a :: r', rfl, rfl, ?_, ?_, fun p hp => hmem p (List.mem_cons_of_mem _ hp), by simp at hs8 ⊢; omega, rfl⟩
            · have : (a :: r').reverse.map spotD = r'.reverse.map spotD ++ [spotD a] := by simp
              rw [this]; exact d4.append (dns_cons da dns_nil)
            · rw [← hpp]
              conv => rhs; unfold pops
              rw [if_pos c3]
          · refine ⟨_, rfl, .inl ⟨rfl, _, SqL.of upd_same⟩, l, _, vb, rfl, rfl, upd_same, by simp, ?_⟩
            exact ⟨rfl, by rw [upd_upd, List.dropLast_concat]⟩
        · have c3 : ¬ turn a b t ≤ 0 := of_decide_eq_false (Bool.eq_false_iff.mpr c2)
          obtain ⟨z1, z2⟩ := fin (by unfold pops; rw [if_neg c3])
          exact ⟨_, rfl, .inl ⟨rfl, _, SqL.of upd_same⟩, _, rfl, l, _, x, rfl, rfl, upd_same, z1, z2⟩
      · have c1 : ¬ (1 : Int) < ((zs.length : Nat) : Int) := of_decide_eq_false (Bool.eq_false_iff.mpr c0)
        obtain ⟨z1, z2⟩ := fin (by
          match st, hlen with
          | [], _ => rfl
          | [_], _ => rfl
          | b :: a :: r', hlen => rw [hlen] at c1; simp at c1; omega)
        exact ⟨_, rfl, .inl ⟨rfl, _, SqL.of upd_same⟩, _, rfl, l, _, x, rfl, rfl, upd_same, z1, z2⟩
  · rintro σ' H' ⟨zs, o, rfl, rfl, dz⟩
    have hxl : xs.length = row.length := by have := hd.length; simpa using this
    rw [hxl, List.take_length] at dz
    exact ⟨_, rfl, q l zs hl dz⟩
def Hit (os : List Hull.P) (s : Hull.P) (k n : Nat) : Prop := ∃ a b, os[k]? = some a ∧ os[n]? = some b ∧ (On a b s ∨ ∃ (m : Nat) (c : Hull.P), n < m ∧ os[m]? = some c ∧ Tri a b c s)
theorem ok_held (B : Bl mg) (C__law_turn : Cal P w K mg base 1 "_law_turn" (sp_turn K)) (C__law_on : Cal P w K mg base 2 "_law_on" (sp_on K)) (F : Fun K "_law_held" "_law_held" s__law_held f fd) : FnOk P w K mg base CX0 3 f fd ["_law_others", "_law_spot_here"] (sp_held K) := by
  refine F.ok sc__law_held (fun vs H Q E h => ?_) (fun cdv A outer s H vs Q E hr h => ?_)
  · obtain ⟨o, x, ys, os, sp, rfl, _⟩ := h
    rfl
  obtain ⟨o, x, ys, os, sp, rfl, ho, hd, hb, h8, hx, q⟩ := h
  have hlen : ys.length = os.length := by have := hd.length; simpa using this
  refine ⟨_, (pss_cons (ps_for PassesOwn.never rfl (pi_range1 (by rfl) B.range (pa_cons (pe_callB call_len_seq (by rfl) B.len PySem.L3.boot_len (pa_cons (pv 0) pa_nil)) pa_nil)) (pg_name (i := 2) sc__law_held.nd rfl (Or.inl rfl)) (pss_one (ps_for PassesOwn.never rfl (pi_range2 (by rfl) B.range (pa_cons (pe_op op_add (pv 2) pe_int) (pa_cons (pe_callB call_len_seq (by rfl) B.len PySem.L3.boot_len (pa_cons (pv 0) pa_nil)) pa_nil))) (pg_name (i := 3) sc__law_held.nd rfl (Or.inl rfl)) (pss_cons (ps_if (pt_val (pe_c C__law_on (hr.mono (by decide)) (by rfl) (pa_cons (pe_ix ix_list (pv 0) (pv 2) (fun _ _ => rfl)) (pa_cons (pe_ix ix_list (pv 0) (pv 3) (fun _ _ => rfl)) (pa_cons (pv 1) pa_nil))))) (pss_one (ps_ret pe_bl)) pss_nil)
    (pss_one (ps_for PassesOwn.never rfl (pi_range2 (by rfl) B.range (pa_cons (pe_op op_add (pv 3) pe_int) (pa_cons (pe_callB call_len_seq (by rfl) B.len PySem.L3.boot_len (pa_cons (pv 0) pa_nil)) pa_nil))) (pg_name (i := 4) sc__law_held.nd rfl (Or.inl rfl)) (pss_cons (ps_par3 (i := 5) (j := 6) (k := 7) rfl sc__law_held.nd rfl rfl rfl rfl rfl rfl (pa_cons (pe_ix ix_list (pv 0) (pv 2) (fun _ _ => rfl)) (pa_cons (pe_ix ix_list (pv 0) (pv 3) (fun _ _ => rfl)) (pa_cons (pe_ix ix_list (pv 0) (pv 4) (fun _ _ => rfl)) pa_nil))) (by with_unfolding_all rfl))
    (pss_cons (ps_set (i := 8) sc__law_held.nd rfl (Or.inl rfl) (pe_lst (pa_cons (pe_c C__law_turn (hr.mono (by decide)) (by rfl) (pa_cons (pv 5) (pa_cons (pv 6) (pa_cons (pv 1) pa_nil)))) (pa_cons (pe_c C__law_turn (hr.mono (by decide)) (by rfl) (pa_cons (pv 6) (pa_cons (pv 7) (pa_cons (pv 1) pa_nil)))) (pa_cons (pe_c C__law_turn (hr.mono (by decide)) (by rfl) (pa_cons (pv 7) (pa_cons (pv 5) (pa_cons (pv 1) pa_nil)))) pa_nil)))))
    (pss_one (ps_if (PW.pt (pw_or (pt_cmpR op_gt (pe_callB (call_minL rfl) (by rfl) B.min PySem.L3.boot_min (pa_cons (pv 8) pa_nil)) pe_int (nomark _)) (pw_or1 (pt_cmpR op_lt (pe_callB (call_maxL rfl) (by rfl) B.max PySem.L3.boot_max (pa_cons (pv 8) pa_nil)) pe_int (nomark _))))) (pss_one (ps_ret pe_bl)) pss_nil))))))))))
    (pss_one (ps_ret pe_bl))), ?_⟩
  refine ⟨_, rfl, o, ys, rfl, .inl ho, _, rfl, by omega, by omega, ?_⟩
  refine for_range (fun i σ' H' => ∃ c2 c3 c4 c5 c6 c7 c8, σ' = [some (.ref o), some x, c2, c3, c4, c5, c6, c7, c8] ∧ Same H H' ∧ ∀ k n, k < i → k < n → ¬ Hit os sp k n) ⟨_, _, _, _, _, _, _, rfl, Same.refl _, fun k n h => absurd h (Nat.not_lt_zero _)⟩ ?_ ?_
  · rintro k σ' H' hk ⟨c2, c3, c4, c5, c6, c7, c8, rfl, e1, no⟩
    have at_ : ∀ {H2 : Hp} (i : Nat) (_ : Same H H2) (_ : i < os.length), ∃ v, atI ys (i : Int) = some v ∧ Sp K H2 v os[i] := fun i e hi => by
      obtain ⟨v, h1, h2⟩ := hd.get (i := i) (d := spotD os[i]) (by simp [hi])
      exact ⟨v, atI_nat h1, e.dn h2, hb _ (List.getElem_mem hi)⟩
    have hk' : k < os.length := by omega
    refine ⟨_, rfl, _, _, rfl, rfl, _, rfl, o, ys, rfl, .inl (e1.seq ho), _, _, rfl, ⟨by omega, by omega, by omega, by omega⟩, ?_⟩
    refine for_range (fun j σ' H' => ∃ c3 c4 c5 c6 c7 c8, σ' = [some (.ref o), some x, some (.int (0 + k)), c3, c4, c5, c6, c7, c8] ∧ Same H H' ∧ ∀ n, k < n → n < k + 1 + j → ¬ Hit os sp k n) ⟨_, _, _, _, _, _, rfl, e1, fun n h g => absurd h (by omega)⟩ ?_ ?_
    · rintro j σ' H2 hj ⟨c3, c4, c5, c6, c7, c8, rfl, e2, no2⟩
      obtain ⟨n, hn⟩ : ∃ n : Nat, n = k + 1 + j := ⟨_, rfl⟩
      have en : (0 + (k : Int) + 1 + (j : Int)) = (n : Int) := by omega
      have ek : (0 + (k : Int)) = (k : Int) := by omega
      have hn' : n < os.length := by omega
      rw [en, ek]
      obtain ⟨va, ta, sa⟩ := at_ k e2 hk'
      obtain ⟨vb, tb, sb⟩ := at_ n e2 hn'
      refine ⟨_, rfl, _, rfl, o, ys, _, va, rfl, rfl, e2.seq ho, ta, _, rfl, _, rfl, o, ys, _, vb, rfl, rfl, e2.seq ho, tb, _, rfl, va, vb, x, _, _, sp, rfl, sa, sb, hx.same e2, fun H3 r e3 ir => ?_⟩
      have e23 := e2.trans e3
      refine ⟨_, rfl, ite2 (fun c => ?_) (fun c => ?_)⟩
      · refine q _ true e23 ⟨fun _ => ⟨k, n, _, _, by omega, List.getElem?_eq_getElem hk', List.getElem?_eq_getElem hn', .inl (ir.mp c)⟩, fun _ => rfl⟩
      · refine ⟨_, rfl, _, _, rfl, rfl, _, rfl, o, ys, rfl, .inl (e23.seq ho), _, _, rfl, ⟨by omega, by omega, by omega, by omega⟩, ?_⟩
        refine for_range (fun i σ' H' => ∃ c4 c5 c6 c7 c8, σ' = [some (.ref o), some x, some (.int k), some (.int n), c4, c5, c6, c7, c8] ∧ Same H H' ∧ ∀ m c, n < m → m < n + 1 + i → os[m]? = some c → ¬ Tri os[k] os[n] c sp) ⟨_, _, _, _, _, rfl, e23, fun m c h g => absurd h (by omega)⟩ ?_ ?_
        · rintro i σ' H4 hi ⟨c4, c5, c6, c7, c8, rfl, e4, no3⟩
          obtain ⟨m, hm⟩ : ∃ m : Nat, m = n + 1 + i := ⟨_, rfl⟩
          have em : ((n : Int) + 1 + (i : Int)) = (m : Int) := by omega
          have hm' : m < os.length := by omega
          rw [em]
          obtain ⟨va, ta, sa⟩ := at_ k e4 hk'
          obtain ⟨vb, tb, sb⟩ := at_ n e4 hn'
          obtain ⟨vc, tc, sc⟩ := at_ m e4 hm'
          refine ⟨_, rfl, _, rfl, o, ys, _, va, rfl, rfl, e4.seq ho, ta, _, rfl, _, rfl, o, ys, _, vb, rfl, rfl, e4.seq ho, tb, _, rfl, _, rfl, o, ys, _, vc, rfl, rfl, e4.seq ho, tc, va, vb, vc, rfl, ?_⟩
          refine ⟨_, rfl, _, rfl, _, rfl, va, vb, x, _, _, sp, rfl, sa, sb, hx.same e4, fun H5 e5 => ?_⟩
          refine ⟨_, rfl, _, rfl, _, rfl, vb, vc, x, _, _, sp, rfl, sb.same e5, sc.same e5, hx.same (e4.trans e5), fun H6 e6 => ?_⟩
          refine ⟨_, rfl, _, rfl, _, rfl, vc, va, x, _, _, sp, rfl, sc.same (e5.trans e6), sa.same (e5.trans e6), hx.same (e4.trans (e5.trans e6)), fun H7 e7 => ?_⟩
          refine ⟨(by show 3 ≤ sizeLine; decide), fun p hp => ?_⟩
          have e8 : ∀ o, Same H (upd H7 p o) := fun o => (e4.trans (e5.trans (e6.trans e7))).trans (same_new hp o)
          refine ⟨_, rfl, p, [turn os[k] os[n] sp, turn os[n] os[m] sp, turn os[m] os[k] sp], rfl, SqL.of upd_same, by simp, fun mn hmn hle => ?_⟩
          have hit : ∀ H', Same H H' → Tri os[k] os[n] os[m] sp → Q (.bl true) H' := fun H' e t => q _ true e ⟨fun _ => ⟨k, n, _, _, by omega, List.getElem?_eq_getElem hk', List.getElem?_eq_getElem hn', .inr ⟨m, _, by omega, List.getElem?_eq_getElem hm', t⟩⟩, fun _ => rfl⟩
          refine ⟨_, _, rfl, rfl, _, rfl, ite2 (fun c1 => ?_) (fun c1 => ?_)⟩
          · have g0 : 0 < mn := of_decide_eq_true c1
            refine ite2 (fun _ => ?_) (fun h => absurd rfl h)
            have a1 := hle _ (by simp : turn os[k] os[n] sp ∈ _)
            have a2 := hle _ (by simp : turn os[n] os[m] sp ∈ _)
            have a3 := hle _ (by simp : turn os[m] os[k] sp ∈ _)
            exact hit _ (e8 _) (.inl ⟨by omega, by omega, by omega⟩)
          · have g0 : ¬ 0 < mn := of_decide_eq_false (Bool.eq_false_iff.mpr c1)
            refine ⟨_, rfl, p, [turn os[k] os[n] sp, turn os[n] os[m] sp, turn os[m] os[k] sp], rfl, SqL.of upd_same, by simp, fun mx hmx hge => ?_⟩
            have b1 := hge _ (by simp : turn os[k] os[n] sp ∈ _)
            have b2 := hge _ (by simp : turn os[n] os[m] sp ∈ _)
            have b3 := hge _ (by simp : turn os[m] os[k] sp ∈ _)
            refine ⟨_, _, rfl, rfl, _, rfl, ite2 (fun c2 => ?_) (fun c2 => ?_)⟩
            · have g1 : mx < 0 := of_decide_eq_true c2
              exact hit _ (e8 _) (.inr ⟨by omega, by omega, by omega⟩)
            · have g1 : ¬ mx < 0 := of_decide_eq_false (Bool.eq_false_iff.mpr c2)
              refine ⟨_, _, _, _, _, rfl, e8 _, fun m' c h1 h2 hc => ?_⟩
              rcases Nat.lt_or_ge m' (n + 1 + i) with g | g
              · exact no3 m' c h1 g hc
              · have : m' = m := by omega
                subst this
                rw [List.getElem?_eq_getElem hm'] at hc
                cases hc
                simp only [List.mem_cons, List.mem_singleton, List.not_mem_nil, or_false] at hmn hmx
                rintro (⟨t1, t2, t3⟩ | ⟨t1, t2, t3⟩)
                · rcases hmn with e | e | e <;> omega
                · rcases hmx with e | e | e <;> omega
        · rintro σ' H4 ⟨c4, c5, c6, c7, c8, rfl, e4, no3⟩
          refine ⟨_, _, _, _, _, _, rfl, e4, fun n' h1 h2 => ?_⟩
          rcases Nat.lt_or_ge n' (k + 1 + j) with g | g
          · exact no2 n' h1 g
          · have : n' = n := by omega
            subst this
            rintro ⟨a, b, ha, hb', t⟩
            rw [List.getElem?_eq_getElem hk'] at ha
            rw [List.getElem?_eq_getElem hn'] at hb'
            cases ha; cases hb'
            rcases t with t | ⟨m, c, h3, h4, t⟩
            · exact c (ir.mpr t)
            · exact no3 m c h3 (by have := (List.getElem?_eq_some_iff.mp h4).1; omega) h4 t
    · rintro σ' H2 ⟨c3, c4, c5, c6, c7, c8, rfl, e2, no2⟩
      refine ⟨_, _, _, _, _, _, _, rfl, e2, fun k' n h1 h2 => ?_⟩
      rcases Nat.lt_or_ge k' k with g | g
      · exact no k' n g h2
      · have : k' = k := by omega
        subst this
        intro hh
        obtain ⟨a, b, ha, hb', t⟩ := hh
        exact no2 n h2 (by have := (List.getElem?_eq_some_iff.mp hb').1; omega) ⟨a, b, ha, hb', t⟩
  · rintro σ' H2 ⟨c2, c3, c4, c5, c6, c7, c8, rfl, e2, no⟩
    refine q _ false e2 ⟨fun z => (by cases z), fun hh => ?_⟩
    obtain ⟨k, n, a, b, h1, h2, h3, t⟩ := hh
    exact absurd ⟨a, b, h2, h3, t⟩ (no k n (by have := (List.getElem?_eq_some_iff.mp h2).1; omega) h1)
theorem most_at (r : Int) (h0 : 0 ≤ r) (h1 : r < 4) : ∃ b : Int, atI [V.int 2, V.int 4, V.int 9, V.int 1000] r = some (.int b) ∧ 1 ≤ b ∧ b ≤ 1000 := by
  obtain ⟨n, rfl⟩ : ∃ n : Nat, r = (n : Int) := ⟨r.toNat, by omega⟩
  have hn : n < 4 := by omega
  match n, hn with
  | 0, _ => exact ⟨2, rfl, by decide, by decide⟩
  | 1, _ => exact ⟨4, rfl, by decide, by decide⟩
  | 2, _ => exact ⟨9, rfl, by decide, by decide⟩
  | 3, _ => exact ⟨1000, rfl, by decide, by decide⟩
theorem line_at (r : Int) (h0 : 0 ≤ r) (h1 : r < 6) : ∃ b : Int, atI [V.int 0, V.int 0, V.int 0, V.int 0, V.int 1, V.int 2] r = some (.int b) := by
  obtain ⟨n, rfl⟩ : ∃ n : Nat, r = (n : Int) := ⟨r.toNat, by omega⟩
  have hn : n < 6 := by omega
  match n, hn with
  | 0, _ => exact ⟨0, rfl⟩
  | 1, _ => exact ⟨0, rfl⟩
  | 2, _ => exact ⟨0, rfl⟩
  | 3, _ => exact ⟨0, rfl⟩
  | 4, _ => exact ⟨1, rfl⟩
  | 5, _ => exact ⟨2, rfl⟩
theorem spot_upd {H : Hp} {l : Addr} {zs : List V} {o : HO} (hl : H l = some (.lst zs)) {p : Hull.P} {v : V} (h : Dn K H (spotD p) v) : Dn K (upd H l o) (spotD p) v := by
  obtain ⟨a, rfl, h1⟩ := h.spot
  refine dn_spot ?_
  rcases h1 with (h1 | ⟨ob, h1⟩) | h1
  · exact .inl (.inl (by rw [upd_ne (by rintro rfl; rw [hl] at h1; cases h1)]; exact h1))
  · exact .inl (.inr ⟨ob, by rw [upd_ne (by rintro rfl; rw [hl] at h1; cases h1)]; exact h1⟩)
  · exact .inr h1
theorem spots_upd {H : Hp} {l : Addr} {zs : List V} {o : HO} (hl : H l = some (.lst zs)) : ∀ {ps : List Hull.P} {ys : List V}, Dns K H (ps.map spotD) ys → Dns K (upd H l o) (ps.map spotD) ys
  | [], _, h => by rw [L2.Dns.nil h]; exact dns_nil
  | p :: ps, _, h => by
    obtain ⟨x, r, rfl, h1, h2⟩ := L2.Dns.cons h
    exact dns_cons (spot_upd hl h1) (spots_upd hl h2)
theorem same_upd {H H' : Hp} {l : Addr} {o : HO} (h : H l = none) (e : Same H H') : Same H (upd H' l o) := fun b u q => by
  rw [upd_ne (ne_of_none q h)]; exact e b u q
theorem ok_herd (B : Bl mg) (C__law_draw : Cal P w K mg base 1 "_law_draw" sp_draw) (C__law_spot : Cal P w K mg base 2 "_law_spot" (sp_spot K)) (F : Fun K "_law_herd" "_law_herd" s__law_herd f fd) : FnOk P w K mg base CX0 3 f fd ["_law_cell", "_law_most_spots"] (sp_herd K) := by
  refine F.ok sc__law_herd (fun vs H Q E h => ?_) (fun cdv A outer s H vs Q E hr h => ?_)
  · obtain ⟨c, rfl, _⟩ := h
    rfl
  obtain ⟨c, rfl, q⟩ := h
  refine ⟨_, (pss_cons (ps_set (i := 2) sc__law_herd.nd rfl (Or.inl rfl) (pe_op op_add pe_int (pe_c C__law_draw (hr.mono (by decide)) (by rfl) (pa_cons (pv 0) (pa_cons pe_int (pa_cons (pv 1) pa_nil))))))
    (pss_cons (ps_set (i := 3) sc__law_herd.nd rfl (Or.inl rfl) (pe_ix ix_tup (pe_tup (pa_ints (by rfl))) (pe_c C__law_draw (hr.mono (by decide)) (by rfl) (pa_cons (pv 0) (pa_cons pe_int (pa_cons pe_int pa_nil)))) (fun _ _ => rfl)))
    (pss_cons (ps_set (i := 4) sc__law_herd.nd rfl (Or.inl rfl) (pe_ix ix_tup (pe_tup (pa_ints (by rfl))) (pe_c C__law_draw (hr.mono (by decide)) (by rfl) (pa_cons (pv 0) (pa_cons pe_int (pa_cons pe_int pa_nil)))) (fun _ _ => rfl)))
    (pss_cons (ps_set (i := 5) sc__law_herd.nd rfl (Or.inl rfl) (pe_lst pa_nil))
    (pss_cons (ps_for PassesOwn.never rfl (pi_range1 (by rfl) B.range (pa_cons (pv 2) pa_nil)) (pg_name (i := 6) sc__law_herd.nd rfl (Or.inl rfl)) (pss_one (ps_expr (pe_bm PySem.F.plainAttrs_list PySem.F.slot_list_append PySem.F.type_list_append mt_append (pv 5) (pa_cons (pe_c C__law_spot (hr.mono (by decide)) (by rfl) (pa_cons (pe_op op_mul (pe_op op_add (pv 0) (pe_op op_mul pe_int (pv 6))) (pe_op op_add (pv 6) pe_int)) (pa_cons (pv 3) (pa_cons (pv 4) pa_nil)))) pa_nil)))))
    (pss_cons (ps_if (PW.pt (pw_and (pt_cmpR op_gt (pv 2) pe_int (nomark _)) (pw_and1 (pt_cmpR op_eq (pe_c C__law_draw (hr.mono (by decide)) (by rfl) (pa_cons (pv 0) (pa_cons pe_int (pa_cons pe_int pa_nil)))) pe_int (nomark _))))) (pss_one (ps_asg (pe_ix ix_list (pv 5) pe_int (fun _ _ => rfl)) (pg_sub (pv 5) (pe_op op_sub (pv 2) pe_int) set_list))) pss_nil)
    (pss_one (ps_ret (pv 5))))))))), ?_⟩
  refine ⟨_, rfl, _, rfl, c, 3, 8, rfl, by decide, fun r H1 r0 r1 e1 => ?_⟩
  refine ⟨_, _, rfl, rfl, ?_⟩
  refine ⟨(by show 4 ≤ sizeLine; decide), fun t1 ht1 => ?_⟩
  refine ⟨_, rfl, c, 4, 4, rfl, by decide, fun r2 H2 p0 p1 e2 => ?_⟩
  obtain ⟨m, hm, m1, m2⟩ := most_at r2 p0 p1
  refine ⟨t1, _, _, _, rfl, rfl, SqT.of (e2 _ _ upd_same), hm, ?_⟩
  refine ⟨(by show 6 ≤ sizeLine; decide), fun t2 ht2 => ?_⟩
  refine ⟨_, rfl, c, 5, 6, rfl, by decide, fun r3 H3 s0 s1 e3 => ?_⟩
  obtain ⟨ln, hln⟩ := line_at r3 s0 s1
  refine ⟨t2, _, _, _, rfl, rfl, SqT.of (e3 _ _ upd_same), hln, ?_⟩
  have g3 : Same H H3 := (e1.trans (same_new ht1 _)).trans (e2.trans ((same_new ht2 _).trans e3))
  refine ⟨Nat.zero_le _, fun l hl => ?_⟩
  have hl0 : H l = none := g3.free hl
  refine ⟨_, rfl, _, rfl, by omega, by omega, ?_⟩
  refine for_range (fun i σ' H' => ∃ ck ys ps, σ' = [some (.int c), some (.int 8), some (.int (1 + r)), some (.int m), some (.int ln), some (.ref l), ck] ∧ Same H H' ∧ H' l = some (.lst ys) ∧ Dns K H' (List.map spotD ps) ys ∧ (∀ p ∈ ps, Bd p) ∧ ps.length = i)
    ⟨_, [], [], rfl, g3.trans (same_new hl _), upd_same, dns_nil, (fun _ h => absurd h (List.not_mem_nil)), rfl⟩ ?_ ?_
  · rintro i σ' H4 hi ⟨ck, ys, ps, rfl, e4, h4, d4, b4, l4⟩
    refine ⟨_, rfl, .inl ⟨rfl, _, SqL.of h4⟩, _, rfl, _, rfl, _, _, rfl, rfl, .inl ⟨by omega, by omega⟩, _, _, rfl, rfl, _, rfl, _, _, rfl, rfl, _, _, rfl, rfl, .inr ⟨by omega, by omega⟩, _, rfl, _, rfl, _, m, ln, rfl, m1, m2, fun v H5 p e5 sp5 => ?_⟩
    have h5 := e5 _ _ h4
    have hz : ys.length = i := by have := d4.length; rw [List.length_map] at this; omega
    refine ⟨l, ys, v, rfl, rfl, h5, by rw [sizeLine_eq]; omega, ?_⟩
    refine ⟨_, ys ++ [v], ps ++ [p], rfl, same_upd hl0 (e4.trans e5), upd_same, ?_, fun p' hp' => ?_, by rw [List.length_append, l4]; rfl⟩
    · rw [List.map_append]
      exact (spots_upd h5 (e5.dns d4)).append (dns_cons (spot_upd h5 sp5.1) dns_nil)
    · rcases List.mem_append.mp hp' with g | g
      · exact b4 p' g
      · rw [List.mem_singleton.mp g]; exact sp5.2
  · rintro σ' H4 ⟨ck, ys, ps, rfl, e4, h4, d4, b4, l4⟩
    have lps : ps.length = (1 + r).toNat := l4
    have hz : ys.length = ps.length := by have := d4.length; rwa [List.length_map] at this
    have out : ∀ H', Same H H' → ∀ zs rs, H' l = some (.lst zs) → Dns K H' (List.map spotD rs) zs → (∀ p ∈ rs, Bd p) → rs.length = ps.length → Q (.ref l) H' := fun H' e zs rs h d b g => q l zs rs H' e hl0 h d b (by omega) (by omega)
    refine ⟨_, rfl, _, _, rfl, rfl, _, rfl, ite2 (fun c0 => ?_) (fun c0 => ?_)⟩
    · have c1 : (2 : Int) < 1 + r := of_decide_eq_true c0
      refine ⟨_, rfl, c, 6, 4, rfl, by decide, fun r6 H5 u0 u1 e5 => ?_⟩
      refine ⟨rfl, _, rfl, ite2 (fun _ => ?_) (fun _ => ?_)⟩
      · have h5 := e5 _ _ h4
        have hp0 : 0 < ps.length := by omega
        obtain ⟨v0, a1, a2⟩ := d4.get (i := 0) (d := spotD ps[0]) (by simp [hp0])
        have hj : ixN ys.length (1 + r - 1) = some (1 + r - 1).toNat := by
          unfold ixN; rw [if_pos (by omega), if_pos (by omega)]
        refine ⟨_, rfl, l, ys, 0, v0, rfl, rfl, SqL.of h5, atI_nat (j := 0) a1, ?_⟩
        refine ⟨_, rfl, _, rfl, _, _, rfl, rfl, l, ys, _, _, rfl, rfl, h5, hj, ?_⟩
        refine ⟨_, rfl, out _ (same_upd hl0 (e4.trans e5)) _ (ps.set (1 + r - 1).toNat ps[0]) upd_same ?_ (fun p hp => ?_) (by simp)⟩
        · have := (spots_upd (o := HO.lst (ys.set (1 + r - 1).toNat v0)) h5 (e5.dns d4)).set (spot_upd h5 (e5.dn a2)) (1 + r - 1).toNat
          rw [← List.map_set] at this
          exact this
        · rcases List.mem_or_eq_of_mem_set hp with g | g
          · exact b4 p g
          · rw [g]; exact b4 _ (List.getElem_mem hp0)
      · exact ⟨_, rfl, out _ (e4.trans e5) _ _ (e5 _ _ h4) (e5.dns d4) b4 rfl⟩
    · refine ite2 (fun h => by cases h) (fun _ => ?_)
      exact ⟨_, rfl, out _ e4 _ _ h4 d4 b4 rfl⟩
theorem ok_num (B : Bl mg) (F : Fun K "is_number" "is_number" s_is_number f fd) : FnOk P w K mg base CX0 1 f fd ["value"] sp_num := by
  refine F.ok sc_is_number (fun vs H Q E h => ?_) (fun cdv A outer s H vs Q E hr h => ?_)
  · obtain ⟨i, rfl, _⟩ := h
    rfl
  obtain ⟨i, rfl, q⟩ := h
  refine ⟨_, (pss_one (ps_ret (pe_and (pe_callB call_isinstance (by rfl) B.isinstance PySem.L3.boot_isinstance (pa_cons (pv 0) (pa_cons (pe_bltn (v := .ty "int") (by rfl) B.int PySem.L3.boot_int rfl) pa_nil))) (pe_one (pe_not (pe_callB call_isinstance (by rfl) B.isinstance PySem.L3.boot_isinstance (pa_cons (pv 0) (pa_cons (pe_bltn (v := .ty "bool") (by rfl) B.bool PySem.L3.boot_bool rfl) pa_nil)))))))), ?_⟩
  refine ⟨_, rfl, _, "int", _, true, rfl, .int i, rfl, ?_⟩
  refine ⟨true, rfl, ?_⟩
  refine ite2 (fun _ => ?_) (fun h => absurd rfl h)
  exact ⟨_, rfl, _, "bool", _, false, rfl, .int i, rfl, _, rfl, q⟩
theorem ok_check (C_is_herd : Cal P w K mg base 3 "is_herd" (sp_isherd K)) (F : Fun K "check_herd" "check_herd" s_check_herd f fd) : FnOk P w K mg base CX0 4 f fd ["herd"] (sp_check K) := by
  refine F.ok sc_check_herd (fun vs H Q E h => ?_) (fun cdv A outer s H vs Q E hr h => ?_)
  · obtain ⟨o, ys, ps, rfl, _⟩ := h
    rfl
  obtain ⟨o, ys, ps, rfl, h1, h2, h3, h4, h5, q⟩ := h
  refine ⟨_, (pss_one (ps_if (pt_not (pt_val (pe_c C_is_herd (hr.mono (by decide)) (by rfl) (pa_cons (pv 0) pa_nil)))) (pss_one ps_never) pss_nil)), ?_⟩
  refine ⟨_, rfl, o, ys, ps, rfl, h1, h2, h3, h4, h5, fun H' e => ?_⟩
  exact ⟨_, rfl, ite2 (fun c => by cases c) fun _ => q _ e⟩
theorem ok_pair (B : Bl mg) (C_is_number : Cal P w K mg base 1 "is_number" sp_num) (F : Fun K "is_pair" "is_pair" s_is_pair f fd) : FnOk P w K mg base CX0 2 f fd ["value"] (sp_pair K) := by
  refine F.ok sc_is_pair (fun vs H Q E h => ?_) (fun cdv A outer s H vs Q E hr h => ?_)
  · obtain ⟨x, p, rfl, _⟩ := h
    rfl
  obtain ⟨x, p, rfl, ⟨hx, ⟨b1, b2⟩, b3, b4⟩, q⟩ := h
  obtain ⟨t, rfl, ht⟩ := hx.spot
  refine ⟨_, (pss_cons (ps_if (PW.pt (pw_or (pt_not (pt_val (pe_callB call_isSeq (by rfl) B.isinstance PySem.L3.boot_isinstance (pa_cons (pv 0) (pa_cons (pe_bltn (v := .ty "tuple") (by rfl) B.tuple PySem.L3.boot_tuple rfl) pa_nil))))) (pw_or1 (pt_cmpR op_ne (pe_callB call_len_seq (by rfl) B.len PySem.L3.boot_len (pa_cons (pv 0) pa_nil)) pe_int (nomark _))))) (pss_one (ps_ret pe_bl)) pss_nil)
    (pss_one (ps_ret (pe_callB (call_all rfl) (by rfl) B.all PySem.L3.boot_all (pa_cons (pe_comp (Nc := ["part"]) (fi := [none]) (comp_sc rfl rfl rfl) rfl (comp_from_go rfl) (pi_tup (pv 0)) (fun _ _ _ _ => ⟨(pg_name (i := 0) (show (["part"] : List Str).Nodup by decide +kernel) rfl (Or.inl rfl)), pf_nil, (pe_and (pe_c C_is_number (hr.mono (by decide)) (by rfl) (pa_cons (pv 0) pa_nil)) (pe_one (pe_chain op_le op_le (pe_un un_neg (pe_glob (v := .int 1000) (by rfl) B.g_BOUND.choose_spec ⟨_, rfl⟩)) (pv 0) (pe_glob (v := .int 1000) (by rfl) B.g_BOUND.choose_spec ⟨_, rfl⟩))))⟩)) pa_nil))))), ?_⟩
  refine ⟨_, rfl, t, _, "tuple", true, rfl, .inl ⟨ht, rfl⟩, _, rfl, ?_⟩
  refine iteF ⟨_, rfl, t, _, rfl, .inr ht, rfl, _, rfl, ?_⟩
  refine iteF ?_
  refine ⟨_, rfl, t, rfl, ⟨_, ht⟩, fun _ _ _ _ l hl => ?_⟩
  refine comp_by 2 (by show 2 ≤ sizeLine; decide) (fun i ys σ' Hc => Same H Hc ∧ Hc l = some (.lst ys) ∧ ys = List.replicate i (V.bl true) ∧ σ'.length = 1) ?_ (fun i ys σ' Hc ⟨_, e, y, _⟩ => ⟨e, by rw [y]; simp⟩) ?_ ?_
  · exact ⟨same_new hl _, upd_same, rfl, rfl⟩
  · rintro i ys σ' Hc hi ⟨e, el, rfl, hσ⟩
    have ht' := e.seqT ht
    refine ⟨⟨_, if i = 0 then .int p.1 else .int p.2, ht', by match i, hi with | 0, _ => rfl | 1, _ => rfl⟩, fun x H' y Kt Kf k1 _ => ?_⟩
    obtain ⟨rfl, hx⟩ := y
    have hx' := hx _ ht'
    obtain ⟨z, rfl, z1, z2⟩ : ∃ z : Int, x = .int z ∧ -1000 ≤ z ∧ z ≤ 1000 := by
      match i, hi, hx' with
      | 0, _, h => exact ⟨p.1, (Option.some.inj h).symm, b1, b2⟩
      | 1, _, h => exact ⟨p.2, (Option.some.inj h).symm, b3, b4⟩
    match σ', hσ with
    | [o], _ =>
      simp only [gName, tYes, ↓reduceIte]
      refine ⟨_, rfl, z, rfl, true, rfl, iteT ?_⟩
      refine ⟨_, rfl, _, rfl, _, _, rfl, rfl, _, rfl, ite2 (fun _ => ?_) (fun h => absurd (decide_eq_true (show (-1000 : Int) ≤ z by omega)) h)⟩
      refine ⟨_, _, rfl, rfl, ?_⟩
      have hz : decide (z ≤ 1000) = true := decide_eq_true z2
      show Kt _ (.bl (decide (z ≤ 1000))) _
      rw [hz]
      refine k1 _ _ _ el ⟨fun b o h => ?_, upd_same, by rw [List.replicate_succ'], rfl⟩
      rw [upd_ne (ne_of_none h hl)]; exact e _ _ h
  · rintro ys σ' Hc ⟨e, el, rfl, _⟩
    exact ⟨⟨_, e.seqT ht, Nat.le_refl _⟩, l, [true, true], rfl, SqL.of el, q _ e⟩
theorem ok_isherd (B : Bl mg) (C_is_pair : Cal P w K mg base 2 "is_pair" (sp_pair K)) (F : Fun K "is_herd" "is_herd" s_is_herd f fd) : FnOk P w K mg base CX0 3 f fd ["value"] (sp_isherd K) := by
  refine F.ok sc_is_herd (fun vs H Q E h => ?_) (fun cdv A outer s H vs Q E hr h => ?_)
  · obtain ⟨o, ys, ps, rfl, _⟩ := h
    rfl
  obtain ⟨o, ys, ps, rfl, ho, hd, hb, l1, l2, q⟩ := h
  have hz : ys.length = ps.length := by have := hd.length; rwa [List.length_map] at this
  refine ⟨_, (pss_cons (ps_if (PW.pt (pw_or (pt_not (pt_val (pe_callB call_isSeq (by rfl) B.isinstance PySem.L3.boot_isinstance (pa_cons (pv 0) (pa_cons (pe_bltn (v := .ty "list") (by rfl) B.list PySem.L3.boot_list rfl) pa_nil))))) (pw_or1 (pt_not (pt_chain op_le op_le pe_int (pe_callB call_len_seq (by rfl) B.len PySem.L3.boot_len (pa_cons (pv 0) pa_nil)) (pe_glob (v := .int 8) (by rfl) B.g_MOST_SPOTS.choose_spec ⟨_, rfl⟩)))))) (pss_one (ps_ret pe_bl)) pss_nil)
    (pss_one (ps_ret (pe_callB (call_all rfl) (by rfl) B.all PySem.L3.boot_all (pa_cons (pe_comp (Nc := ["spot"]) (fi := [none]) (comp_sc rfl rfl rfl) rfl (comp_from_go rfl) (pi_list (pv 0)) (fun _ _ _ _ => ⟨(pg_name (i := 0) (show (["spot"] : List Str).Nodup by decide +kernel) rfl (Or.inl rfl)), pf_nil, (pe_c C_is_pair (hr.mono (by decide)) (by rfl) (pa_cons (pv 0) pa_nil))⟩)) pa_nil))))), ?_⟩
  refine ⟨_, rfl, o, _, "list", true, rfl, .inr ⟨ho, rfl⟩, _, rfl, ?_⟩
  refine iteF ?_
  refine ⟨_, rfl, o, ys, rfl, .inl ho, _, _, rfl, rfl, _, rfl, ite2 (fun _ => ?_) (fun h => absurd (decide_eq_true (show (1 : Int) ≤ (ys.length : Nat) by omega)) h)⟩
  refine ⟨_, _, rfl, rfl, _, rfl, ?_⟩
  have h8 : decide (((ys.length : Nat) : Int) ≤ 8) = true := decide_eq_true (by omega)
  refine ite2 (fun h => ?_) (fun _ => ?_)
  · exfalso
    have h' : (!decide (((ys.length : Nat) : Int) ≤ 8)) = true := h
    rw [h8] at h'; cases h'
  refine ⟨_, rfl, o, rfl, ⟨_, ho⟩, fun _ _ _ _ l hl => ?_⟩
  refine comp_by ys.length (by rw [sizeLine_eq]; omega) (fun i zs σ' Hc => Same H Hc ∧ Hc l = some (.lst zs) ∧ zs = List.replicate i (V.bl true) ∧ σ'.length = 1) ?_ (fun i zs σ' Hc ⟨_, e, y, _⟩ => ⟨e, by rw [y]; simp⟩) ?_ ?_
  · exact ⟨same_new hl _, upd_same, rfl, rfl⟩
  · rintro i zs σ' Hc hi ⟨e, el, rfl, hσ⟩
    refine ⟨⟨_, ys[i], e.seq ho, by simp [hi]⟩, fun x H' y Kt Kf k1 _ => ?_⟩
    obtain ⟨rfl, hx⟩ := y
    have hx' := hx _ (e.seq ho)
    obtain ⟨d, hd1, hd2⟩ := hd.get' hx'
    rw [List.getElem?_map] at hd1
    obtain ⟨p, hp, rfl⟩ := Option.map_eq_some_iff.mp hd1
    match σ', hσ with
    | [c], _ =>
      simp only [gName, tYes, ↓reduceIte]
      refine ⟨_, rfl, x, p, rfl, ⟨e.dn hd2, hb p (List.mem_of_getElem? hp)⟩, fun H2 e2 => ?_⟩
      refine k1 _ _ _ (e2 _ _ el) ⟨fun b o h => ?_, upd_same, by rw [List.replicate_succ'], rfl⟩
      rw [upd_ne (ne_of_none h hl)]; exact e2 _ _ (e _ _ h)
  · rintro zs σ' Hc ⟨e, el, rfl, _⟩
    refine ⟨⟨_, e.seq ho, Nat.le_refl _⟩, l, List.replicate ys.length true, rfl, SqL.of (by rw [List.map_replicate]; exact el), ?_⟩
    have : (List.replicate ys.length true).all id = true := by simp
    rw [this]; exact q _ e
theorem ok_corners (B : Bl mg) (C_check_herd : Cal P w K mg base 4 "check_herd" (sp_check K)) (C_left_chain : Cal P w K mg base 2 "left_chain" (sp_chain K)) (F : Fun K "corners" "corners" s_corners f fd) : FnOk P w K mg base CX0 5 f fd ["herd"] (sp_corners K) := by
  refine F.ok sc_corners (fun vs H Q E h => ?_) (fun cdv A outer s H vs Q E hr h => ?_)
  · obtain ⟨o, ys, ps, rfl, _⟩ := h
    rfl
  obtain ⟨o, ys, ps, rfl, ho, hd, hb, l1, l2, q⟩ := h
  have hz : ys.length = ps.length := by have := hd.length; rwa [List.length_map] at this
  have hu := hr.units
  refine ⟨_, (pss_cons (ps_expr (pe_c C_check_herd (hr.mono (by decide)) (by rfl) (pa_cons (pv 0) pa_nil)))
    (pss_cons (ps_set (i := 1) sc_corners.nd rfl (Or.inl rfl) (pe_callB (call_sortSp rfl) (by rfl) B.sorted PySem.L3.boot_sorted (pa_cons (pe_callTy (call_setSp rfl hu) (by rfl) B.set PySem.L3.boot_set (pa_cons (pe_comp (Nc := ["spot"]) (fi := [none]) (comp_sc rfl rfl rfl) rfl (comp_from_go rfl) (pi_list (pv 0)) (fun _ _ _ _ => ⟨(pg_name (i := 0) (show (["spot"] : List Str).Nodup by decide +kernel) rfl (Or.inl rfl)), pf_nil, (pe_tup (pa_cons (pe_ix ix_tup (pv 0) pe_int (fun _ _ => rfl)) (pa_cons (pe_ix ix_tup (pv 0) pe_int (fun _ _ => rfl)) pa_nil)))⟩)) pa_nil)) pa_nil)))
    (pss_cons (ps_if (pt_cmpR op_eq (pe_callB call_len_seq (by rfl) B.len PySem.L3.boot_len (pa_cons (pv 1) pa_nil)) pe_int (nomark _)) (pss_one (ps_ret (pv 1))) pss_nil)
    (pss_cons (ps_set (i := 2) sc_corners.nd rfl (Or.inl rfl) (pe_c C_left_chain (hr.mono (by decide)) (by rfl) (pa_cons (pv 1) pa_nil)))
    (pss_cons (ps_set (i := 3) sc_corners.nd rfl (Or.inl rfl) (pe_c C_left_chain (hr.mono (by decide)) (by rfl) (pa_cons (pe_callTy (call_listRev rfl) (by rfl) B.list PySem.L3.boot_list (pa_cons (pe_callTy call_rev (by rfl) B.reversed PySem.L3.boot_reversed (pa_cons (pv 1) pa_nil)) pa_nil)) pa_nil)))
    (pss_one (ps_ret (pe_op op_cat (pe_slice sl_list (pv 2) po_none (po_some (pe_un un_neg pe_int))) (pe_slice sl_list (pv 3) po_none (po_some (pe_un un_neg pe_int))))))))))), ?_⟩
  refine ⟨_, rfl, o, ys, ps, rfl, ho, hd, hb, l1, l2, fun H1 e1 => ?_⟩
  refine ⟨_, rfl, o, rfl, ⟨_, e1.seq ho⟩, fun _ _ _ _ l hl => ?_⟩
  refine comp_by ys.length (by rw [sizeLine_eq]; omega) (fun i zs σ' Hc => Same H1 Hc ∧ Hc l = some (.lst zs) ∧ Dns K Hc ((ps.take i).map spotD) zs ∧ zs.length = i ∧ σ'.length = 1) ?_ (fun i zs σ' Hc ⟨_, e, _, y, _⟩ => ⟨e, by rw [y]; exact Nat.le_refl _⟩) ?_ ?_
  · exact ⟨same_new hl _, upd_same, dns_nil, rfl, rfl⟩
  · rintro i zs σ' Hc hi ⟨e, el, dz, lz, hσ⟩
    have eo := (e1.trans e).seq ho
    refine ⟨⟨_, ys[i], eo, by simp [hi]⟩, fun x H' y Kt Kf k1 _ => ?_⟩
    obtain ⟨rfl, hx⟩ := y
    have hx' := hx _ eo
    obtain ⟨d, hd1, hd2⟩ := hd.get' hx'
    rw [List.getElem?_map] at hd1
    obtain ⟨p, hp, rfl⟩ := Option.map_eq_some_iff.mp hd1
    obtain ⟨t, rfl, ht⟩ := ((e1.trans e).dn hd2).spot
    match σ', hσ with
    | [c], _ =>
      simp only [gName, tYes, ↓reduceIte]
      refine ⟨_, rfl, t, _, _, _, rfl, rfl, ht, rfl, _, rfl, t, _, _, _, rfl, rfl, ht, rfl, (by show 2 ≤ sizeLine; decide), fun u hu' => ?_⟩
      have eu := same_new hu' (HO.tup [V.int p.1, V.int p.2])
      refine k1 _ _ _ (eu _ _ el) ⟨same_upd hl (e.trans eu), upd_same, ?_, by rw [List.length_append, lz]; rfl, rfl⟩
      rw [List.take_add_one, hp, List.map_append]
      exact (spots_upd (eu _ _ el) (eu.dns dz)).append (dns_cons (spot_upd (eu _ _ el) (dn_spot (SqT.of upd_same))) dns_nil)
  · rintro zs σ' H2 ⟨e2, el, dz, lz, _⟩
    rw [hz, List.take_length] at dz
    refine ⟨⟨_, (e1.trans e2).seq ho, Nat.le_refl _⟩, ?_⟩
    refine ⟨l, zs, ps, rfl, SqL.of el, dz, by omega, fun L a ha he hm hlL => ?_⟩
    refine ⟨a, L, rfl, upd_same, he.same (same_new ha _), by omega, fun rs row r hr' dr sr mr lr => ?_⟩
    have h3 : upd (upd H2 a (setO P w a L)) r (.lst rs) r = some (.lst rs) := upd_same
    have e3 : Same H (upd (upd H2 a (setO P w a L)) r (.lst rs)) := (e1.trans e2).trans ((same_new ha _).trans (same_new hr' _))
    have d3 : Dns K (upd (upd H2 a (setO P w a L)) r (.lst rs)) (row.map spotD) rs := (same_new hr' _).dns dr
    have hr0 : H r = none := ((e1.trans e2).trans (same_new ha _)).free hr'
    show gName 1 (V.ref r) _ (upd (upd H2 a (setO P w a L)) r (.lst rs)) _
    generalize upd (upd H2 a (setO P w a L)) r (.lst rs) = H3 at *
    have lrs : rs.length = row.length := by have := d3.length; rwa [List.length_map] at this
    have mem : ∀ p, p ∈ row ↔ p ∈ ps := fun p => (mr p).trans (hm p)
    have brow : ∀ p ∈ row, Bd p := fun p hp => hb p ((mem p).mp hp)
    refine ⟨_, rfl, r, rs, rfl, .inl (SqL.of h3), rfl, _, rfl, ite2 (fun c0 => ?_) (fun c0 => ?_)⟩
    · have c1 : row.length = 1 := by
        have : ((rs.length : Nat) : Int) = 1 := by simpa using c0
        omega
      refine ⟨_, rfl, q r rs row H3 e3 hr0 h3 sr mem ?_⟩
      unfold hull; rw [if_pos c1]; exact d3
    · have c1 : row.length ≠ 1 := by
        have : ¬ ((rs.length : Nat) : Int) = 1 := by simpa using c0
        omega
      refine ⟨_, rfl, r, rs, row, rfl, SqL.of h3, d3, brow, by omega, fun b zb hb0 db => ?_⟩
      have e4 := same_new hb0 (HO.lst zb)
      refine ⟨_, rfl, r, rs, rfl, e4 _ _ h3, fun a2 ha2 => ?_⟩
      refine ⟨a2, r, rs, rfl, upd_same, (same_new ha2 _) _ _ (e4 _ _ h3), fun p hp => ?_⟩
      rw [del_upd ha2]
      have hp' : upd H3 b (.lst zb) p = none := (same_new ha2 _).free hp
      have e5 := same_new hp' (HO.lst rs.reverse)
      refine ⟨p, rs.reverse, row.reverse, rfl, SqL.of upd_same, ?_, fun x hx => brow x (List.mem_reverse.mp hx), by rw [List.length_reverse]; omega, fun c zc hc0 dc => ?_⟩
      · rw [List.map_reverse]; exact (e5.dns (e4.dns d3)).reverse
      have e6 := same_new hc0 (HO.lst zc)
      have hb6 : upd (upd (upd H3 b (.lst zb)) p (.lst rs.reverse)) c (.lst zc) b = some (.lst zb) := e6 _ _ (e5 _ _ upd_same)
      have s6 : Same H3 (upd (upd (upd H3 b (.lst zb)) p (.lst rs.reverse)) c (.lst zc)) := e4.trans (e5.trans e6)
      have hcut : ∀ zs : List V, cutV zs none (some (-1)) = zs.dropLast := fun zs => by
        unfold cutV HT.sIx
        rw [List.dropLast_eq_take]
        simp
        congr 1
        omega
      have lb : zb.length ≤ 8 := by
        have h1 := db.length
        have h2 := fold_len row []
        have h3' : (chainR row).length = (row.foldl push []).length := rfl
        simp only [List.length_map, List.length_reverse, List.length_nil] at h1 h2
        omega
      have lc : zc.length ≤ 8 := by
        have h1 := dc.length
        have h2 := fold_len row.reverse []
        have h3' : (chainR row.reverse).length = (row.reverse.foldl push []).length := rfl
        simp only [List.length_map, List.length_reverse, List.length_nil] at h1 h2
        omega
      have dl : ∀ {H' : Hp} {qs : List Hull.P} {zs : List V}, Dns K H' (qs.map spotD) zs → Dns K H' (qs.dropLast.map spotD) zs.dropLast := fun {H' qs zs} d => by
        have hq : zs.length = qs.length := by have := d.length; rwa [List.length_map] at this
        have := d.take (qs.length - 1)
        rw [List.dropLast_eq_take, List.dropLast_eq_take, hq, List.map_take]
        exact this
      refine ⟨_, rfl, _, rfl, _, rfl, b, zb, rfl, SqL.of hb6, fun s1 hs1 => ?_⟩
      have e7 := same_new hs1 (HO.lst (cutV zb none (some (-1))))
      refine ⟨_, rfl, _, rfl, _, rfl, c, zc, rfl, SqL.of (e7 _ _ upd_same), fun s2 hs2 => ?_⟩
      have e8 := same_new hs2 (HO.lst (cutV zc none (some (-1))))
      refine ⟨s1, s2, _, _, rfl, rfl, e8 _ _ upd_same, upd_same, ?_, fun l hl2 => ?_⟩
      · rw [hcut, hcut, List.length_dropLast, List.length_dropLast, sizeLine_eq]; omega
      · have e9 := same_new hl2 (HO.lst (cutV zb none (some (-1)) ++ cutV zc none (some (-1))))
        refine q l _ row _ (e3.trans (s6.trans (e7.trans (e8.trans e9)))) ((e3.trans (s6.trans (e7.trans e8))).free hl2) upd_same sr mem ?_
        have fin := ((s6.trans (e7.trans (e8.trans e9))).dns (dl db)).append ((e6.trans (e7.trans (e8.trans e9))).dns (dl dc))
        have eh : (hull row).map spotD = (chainR row).reverse.dropLast.map spotD ++ (chainR row.reverse).reverse.dropLast.map spotD := by unfold hull; rw [if_neg c1, List.map_append]
        rw [eh]
        have ez : cutV zb none (some (-1)) ++ cutV zc none (some (-1)) = zb.dropLast ++ zc.dropLast := by rw [hcut, hcut]
        rw [← ez] at fin
        exact fin
theorem sorted_len : ∀ {row ps : List Hull.P}, row.Nodup → (∀ p ∈ row, p ∈ ps) → row.length ≤ ps.length
  | [], _, _, _ => Nat.zero_le _
  | a :: row, ps, nd, h => by
    have ha : a ∈ ps := h a (by simp)
    have ih := sorted_len (row := row) (ps := ps.erase a) (List.nodup_cons.mp nd).2 fun p hp => (List.mem_erase_of_ne (fun e => (List.nodup_cons.mp nd).1 (by rw [← e]; exact hp))).mpr (h p (by simp [hp]))
    rw [List.length_erase_of_mem ha] at ih
    have := List.length_pos_of_mem ha
    show row.length + 1 ≤ _
    omega
theorem prev_at {K : PySem.W.Frag} {H : Hp} {h : List Hull.P} {zs : List V} (hd : Dns K H (h.map spotD) zs) (k : Nat) (hk : k < h.length) : ∃ u pu j, atI zs (0 + (k : Int) - 1) = some u ∧ Dn K H (spotD pu) u ∧ pu ∈ h ∧ (Pick.ring h)[j]? = some pu ∧ (Pick.ring h)[j + 1]? = some h[k] := by
  have hz : zs.length = h.length := by have := hd.length; rwa [List.length_map] at this
  have at_ : ∀ (i : Nat) (_ : i < h.length), ∃ v, zs[i]? = some v ∧ Dn K H (spotD h[i]) v := fun i hi => hd.get (i := i) (d := spotD h[i]) (by simp [hi])
  cases k with
  | zero =>
    obtain ⟨u, h1, h2⟩ := at_ (h.length - 1) (by omega)
    refine ⟨u, h[h.length - 1], h.length - 1, ?_, h2, List.getElem_mem _, ?_, ?_⟩
    · unfold atI ixN
      rw [if_neg (by omega), if_pos (by omega)]
      have : (0 + ((0 : Nat) : Int) - 1 + ((zs.length : Nat) : Int)).toNat = h.length - 1 := by omega
      rw [this]; exact h1
    · rw [Pick.ring_lt (by omega)]; exact List.getElem?_eq_getElem _
    · rw [show h.length - 1 + 1 = h.length by omega, Pick.ring_at hk]; exact List.getElem?_eq_getElem _
  | succ k =>
    obtain ⟨u, h1, h2⟩ := at_ k (by omega)
    refine ⟨u, h[k], k, ?_, h2, List.getElem_mem _, ?_, ?_⟩
    · have : (0 + ((k + 1 : Nat) : Int) - 1) = (k : Int) := by omega
      rw [this]; exact atI_nat h1
    · rw [Pick.ring_lt (by omega)]; exact List.getElem?_eq_getElem _
    · rw [Pick.ring_lt hk]; exact List.getElem?_eq_getElem _
theorem due_fd (row : List Hull.P) : ∃ fd : Hull.P → Bool, (∀ s, fd s = true ↔ ¬ HeldIx (others row s) s) ∧ due row = row.filter fd := by
  classical
  exact ⟨fun s => decide (¬ HeldIx (others row s) s), fun s => decide_eq_true_iff, by unfold due; congr 1⟩
def sp_law (K : PySem.W.Frag) : L2.Sp := fun vs H Q _ => ∃ (a : Addr) (ns : List Int), vs = [.ref a] ∧ SqL K H a (ns.map V.int) ∧ ns.length ≤ 63 ∧ ∀ H', Q (.bl true) H'
theorem ok_law (B : Bl mg) (C_corners : Cal P w K mg base 5 "corners" (sp_corners K)) (C__law_cell_at : Cal P w K mg base 1 "_law_cell_at" (sp_cell K)) (C__law_herd : Cal P w K mg base 3 "_law_herd" (sp_herd K))
    (C__law_turn : Cal P w K mg base 1 "_law_turn" (sp_turn K)) (C__law_held : Cal P w K mg base 3 "_law_held" (sp_held K)) (F : Fun K "law" "law" s_law f fd) : FnOk P w K mg base CX0 6 f fd ["_law_script"] (sp_law K) := by
  refine F.ok sc_law (fun vs H Q E h => ?_) (fun cdv A outer s H vs Q E hr h => ?_)
  · obtain ⟨a, ns, rfl, _⟩ := h
    rfl
  obtain ⟨sa, ns, rfl, hS, hlen, q⟩ := h
  have hu := hr.units
  refine ⟨_, (pss_cons (ps_set (i := 1) sc_law.nd rfl (Or.inl rfl) (pe_c C__law_herd (hr.mono (by decide)) (by rfl) (pa_cons (pe_op op_add (pe_c C__law_cell_at (hr.mono (by decide)) (by rfl) (pa_cons (pv 0) (pa_cons pe_int pa_nil))) (pe_op op_mul pe_int (pe_c C__law_cell_at (hr.mono (by decide)) (by rfl) (pa_cons (pv 0) (pa_cons pe_int pa_nil))))) (pa_cons pe_int pa_nil))))
    (pss_cons (ps_set (i := 2) sc_law.nd rfl (Or.inr rfl) (pe_callB (call_sortSp rfl) (by rfl) B.sorted PySem.L3.boot_sorted (pa_cons (pe_callTy (call_setSp rfl hu) (by rfl) B.set PySem.L3.boot_set (pa_cons (pv 1) pa_nil)) pa_nil)))
    (pss_cons (ps_setComp (i := 3) (Nc := ["_law_spot_here", "_law_each"]) (fi := [none, some 2]) (comp_sc rfl rfl rfl) rfl (comp_from_go rfl) sc_law.nd rfl rfl (pi_list (pv 2)) (fun _ _ _ _ => ⟨(pg_name (i := 0) (show (["_law_spot_here", "_law_each"] : List Str).Nodup by decide +kernel) rfl (Or.inr rfl)), (pf_one (pt_not (pt_val (pe_c C__law_held (hr.mono (by decide)) (by rfl) (pa_cons (pe_comp (Nc := ["_law_other", "_law_spot_here"]) (fi := [none, some 0]) (comp_sc rfl rfl rfl) rfl (comp_from_go rfl) (pi_list (pv 1)) (fun _ _ _ _ => ⟨(pg_name (i := 0) (show (["_law_other", "_law_spot_here"] : List Str).Nodup by decide +kernel) rfl (Or.inl rfl)), (pf_one (pt_cmpR (op_neSp hu) (pv 0) (pv 1) (nomark _))), (pv 0)⟩)) (pa_cons (pv 0) pa_nil)))))), (pv 0)⟩) rfl)
    (pss_cons (ps_set (i := 4) sc_law.nd rfl (Or.inl rfl) (pe_callTy call_list_of (by rfl) B.list PySem.L3.boot_list (pa_cons (pv 1) pa_nil)))
    (pss_cons (ps_for PassesOwn.never rfl (pi_range1 (by rfl) B.range (pa_cons pe_int pa_nil)) (pg_name (i := 5) sc_law.nd rfl (Or.inl rfl)) (pss_cons (ps_set (i := 6) sc_law.nd rfl (Or.inl rfl) (pe_c C_corners (hr.mono (by decide)) (by rfl) (pa_cons (pv 4) pa_nil)))
    (pss_cons (ps_if (PW.pt (pw_or (pt_not (pt_val (pe_callB call_isSeq (by rfl) B.isinstance PySem.L3.boot_isinstance (pa_cons (pv 6) (pa_cons (pe_bltn (v := .ty "list") (by rfl) B.list PySem.L3.boot_list rfl) pa_nil))))) (pw_or (pt_cmpR (op_neSps hu) (pe_callB call_sortL (by rfl) B.sorted PySem.L3.boot_sorted (pa_cons (pv 6) pa_nil)) (pv 3) (nomark _)) (pw_or (pt_cmpR (op_neSp hu) (pe_ix ix_list (pv 6) pe_int (fun _ _ => rfl)) (pe_ix ix_list (pv 3) pe_int (fun _ _ => rfl)) (nomark _)) (pw_or1 (pt_cmpR (op_neSps hu) (pv 4) (pv 1) (nomark _))))))) (pss_one (ps_ret pe_bl)) pss_nil)
    (pss_cons (ps_if (pt_not (pt_val (pe_callB (call_all rfl) (by rfl) B.all PySem.L3.boot_all (pa_cons (pe_comp (Nc := ["_law_spot_here"]) (fi := [none]) (comp_sc rfl rfl rfl) rfl (comp_from_go rfl) (pi_list (pv 6)) (fun _ _ _ _ => ⟨(pg_name (i := 0) (show (["_law_spot_here"] : List Str).Nodup by decide +kernel) rfl (Or.inl rfl)), pf_nil, (pe_callB call_isSeq (by rfl) B.isinstance PySem.L3.boot_isinstance (pa_cons (pv 0) (pa_cons (pe_bltn (v := .ty "tuple") (by rfl) B.tuple PySem.L3.boot_tuple rfl) pa_nil)))⟩)) pa_nil)))) (pss_one (ps_ret pe_bl)) pss_nil)
    (pss_cons (ps_for PassesOwn.never rfl (pi_range1 (by rfl) B.range (pa_cons (pe_callB call_len_seq (by rfl) B.len PySem.L3.boot_len (pa_cons (pv 6) pa_nil)) pa_nil)) (pg_name (i := 7) sc_law.nd rfl (Or.inl rfl)) (pss_one (ps_for PassesOwn.never rfl (pi_list (pv 6)) (pg_name (i := 8) sc_law.nd rfl (Or.inl rfl)) (pss_one (ps_if (PW.pt (pw_and (pt_cmpR (op_notInSp hu) (pv 8) (pe_tup (pa_cons (pe_ix ix_list (pv 6) (pe_op op_sub (pv 7) pe_int) (fun _ _ => rfl)) (pa_cons (pe_ix ix_list (pv 6) (pv 7) (fun _ _ => rfl)) pa_nil))) (by with_unfolding_all rfl)) (pw_and1 (pt_cmpR op_le (pe_c C__law_turn (hr.mono (by decide)) (by rfl) (pa_cons (pe_ix ix_list (pv 6) (pe_op op_sub (pv 7) pe_int) (fun _ _ => rfl)) (pa_cons (pe_ix ix_list (pv 6) (pv 7) (fun _ _ => rfl)) (pa_cons (pv 8) pa_nil)))) pe_int (nomark _))))) (pss_one (ps_ret pe_bl)) pss_nil)))))
    (pss_one (ps_expr (pe_bm0 PySem.F.plainAttrs_list PySem.F.slot_list_clear PySem.F.type_list_clear mt_clear (pv 6)))))))))
    (pss_one (ps_ret pe_bl))))))), ?_⟩
  refine ⟨_, rfl, sa, ns, 0, rfl, hS, fun c0 => ?_⟩
  refine ⟨_, rfl, sa, ns, 1, rfl, hS, fun c1 => ?_⟩
  refine ⟨_, _, rfl, rfl, .inl ⟨by decide, by decide⟩, _, _, rfl, rfl, ?_⟩
  refine ⟨_, rfl, fun lh ys ps H1 e1 hl0 hlh hd hb n1 n8 => ?_⟩
  have lys : ys.length = ps.length := by have := hd.length; rwa [List.length_map] at this
  -- each
  refine ⟨_, rfl, lh, ys, ps, rfl, SqL.of hlh, hd, by omega, fun L a ha he hm hlL => ?_⟩
  refine ⟨a, L, rfl, upd_same, he.same (same_new ha _), by omega, fun rs row r hr' dr sr mr lr => ?_⟩
  have e2 : Same H1 (upd (upd H1 a (setO P w a L)) r (.lst rs)) := (same_new ha _).trans (same_new hr' _)
  have hr2 : upd (upd H1 a (setO P w a L)) r (.lst rs) r = some (.lst rs) := upd_same
  have dr2 : Dns K (upd (upd H1 a (setO P w a L)) r (.lst rs)) (row.map spotD) rs := (same_new hr' _).dns dr
  show gName 2 (V.ref r) _ (upd (upd H1 a (setO P w a L)) r (.lst rs)) _
  generalize upd (upd H1 a (setO P w a L)) r (.lst rs) = H2 at *
  have mem : ∀ p, p ∈ row ↔ p ∈ ps := fun p => (mr p).trans (hm p)
  have brow : ∀ p ∈ row, Bd p := fun p hp => hb p ((mem p).mp hp)
  have lrs : rs.length = row.length := by have := dr2.length; rwa [List.length_map] at this
  have lrow : row.length ≤ 8 := by omega
  obtain ⟨fd, hfd, hdue⟩ := due_fd row
  -- due
  refine ⟨_, rfl, r, rfl, ⟨_, SqL.of hr2⟩, fun _ _ _ _ ld hld => ?_⟩
  clear he hm hlL mr lr dr hr'
  refine comp_by rs.length (by rw [sizeLine_eq]; omega) (fun i zs σ' Hc => Same H2 Hc ∧ Hc ld = some (.lst zs) ∧ Dns K Hc (((row.take i).filter fd).map spotD) zs ∧ zs.length ≤ i ∧ ∃ o, σ' = [o, some (.ref r)]) ?_ (fun i zs σ' Hc ⟨_, e, _, y, _⟩ => ⟨e, y⟩) ?_ ?_
  · exact ⟨same_new hld _, upd_same, dns_nil, Nat.le_refl _, _, rfl⟩
  · rintro i zs σ' Hc hi ⟨e, el, dz, lz, o, rfl⟩
    have hip : i < row.length := by omega
    have hp : row[i]? = some row[i] := List.getElem?_eq_getElem hip
    obtain ⟨v, v1, v2⟩ := dr2.get (i := i) (d := spotD row[i]) (by simp [hip])
    refine ⟨⟨_, v, e.seq (SqL.of hr2), v1⟩, fun v' H' y' Kt Kf k1 k2 => ?_⟩
    obtain ⟨rfl, hv⟩ := y'
    have hv' := hv _ (e.seq (SqL.of hr2))
    rw [v1] at hv'; cases hv'
    simp only [gName]
    -- the others
    refine ⟨_, rfl, r, rfl, ⟨_, e.seq (SqL.of hr2)⟩, fun _ _ _ _ lo hlo => ?_⟩
    refine comp_by rs.length (by rw [sizeLine_eq]; omega) (fun j us σ' Hd => Same H' Hd ∧ Hd lo = some (.lst us) ∧ Dns K Hd (((row.take j).filter fun x => decide (x ≠ row[i])).map spotD) us ∧ us.length ≤ j ∧ ∃ o, σ' = [o, some v]) ?_ (fun i zs σ' Hc ⟨_, e, _, y, _⟩ => ⟨e, y⟩) ?_ ?_
    · exact ⟨same_new hlo _, upd_same, dns_nil, Nat.le_refl _, _, rfl⟩
    · rintro j us σ' Hd hj ⟨e', el', dz', lz', o', rfl⟩
      have hjp : j < row.length := by omega
      have hpj : row[j]? = some row[j] := List.getElem?_eq_getElem hjp
      obtain ⟨u, u1, u2⟩ := dr2.get (i := j) (d := spotD row[j]) (by simp [hjp])
      refine ⟨⟨_, u, (e.trans e').seq (SqL.of hr2), u1⟩, fun u' H'' y' Kt Kf j1 j2 => ?_⟩
      obtain ⟨rfl, hu'⟩ := y'
      have hu2 := hu' _ ((e.trans e').seq (SqL.of hr2))
      rw [u1] at hu2; cases hu2
      simp only [gName]
      refine ⟨_, rfl, _, rfl, row[j], row[i], (e.trans e').dn u2, (e.trans e').dn v2, _, rfl, ite2 (fun c => ?_) (fun c => ?_)⟩
      · have c' : row[j] ≠ row[i] := by simpa using c
        refine ⟨_, rfl, j1 _ _ _ el' ⟨same_upd hlo e', upd_same, ?_, by rw [List.length_append]; show us.length + 1 ≤ _; omega, _, rfl⟩⟩
        rw [List.take_add_one, hpj, List.filter_append, List.map_append]
        have : (Option.some row[j]).toList.filter (fun x => decide (x ≠ row[i])) = [row[j]] := by simp [c']
        rw [this]
        exact (spots_upd el' dz').append (dns_cons (spot_upd el' ((e.trans e').dn u2)) dns_nil)
      · have c' : row[j] = row[i] := by simpa using c
        refine j2 _ _ ⟨e', el', ?_, by omega, _, rfl⟩
        rw [List.take_add_one, hpj, List.filter_append]
        have : (Option.some row[j]).toList.filter (fun x => decide (x ≠ row[i])) = [] := by simp [c']
        rw [this, List.append_nil]; exact dz'
    · rintro us σ' Hd ⟨e', el', dz', lz', _⟩
      rw [lrs, List.take_length] at dz'
      refine ⟨⟨_, (e.trans e').seq (SqL.of hr2), Nat.le_refl _⟩, ?_⟩
      refine ⟨_, rfl, lo, v, us, others row row[i], row[i], rfl, SqL.of el', dz', fun p hp' => brow p (mem_others.mp hp').1, ?_, ⟨(e.trans e').dn v2, brow _ (List.getElem_mem hip)⟩, fun H3 b e3 ib => ?_⟩
      · have : (others row row[i]).length ≤ row.length := List.length_filter_le _ _
        omega
      have e0 := e'.trans e3
      refine ⟨_, rfl, ite2 (fun c => ?_) (fun c => ?_)⟩
      · have c' : b = false := by simpa using c
        have c2 : fd row[i] = true := (hfd _).mpr fun z => by rw [ib.mpr z] at c'; cases c'
        refine ⟨_, rfl, k1 _ _ _ (e0 _ _ el) ⟨same_upd hld (e.trans e0), upd_same, ?_, by rw [List.length_append]; show zs.length + 1 ≤ _; omega, _, rfl⟩⟩
        rw [List.take_add_one, hp, List.filter_append, List.map_append]
        have : (Option.some row[i]).toList.filter fd = [row[i]] := by simp [c2]
        rw [this]
        exact (spots_upd (e0 _ _ el) (e0.dns dz)).append (dns_cons (spot_upd (e0 _ _ el) ((e.trans e0).dn v2)) dns_nil)
      · have c' : b = true := by simpa using c
        have c2 : ¬ fd row[i] = true := fun z => (hfd _).mp z (ib.mp c')
        refine k2 _ _ ⟨e.trans e0, e0 _ _ el, ?_, by omega, _, rfl⟩
        rw [List.take_add_one, hp, List.filter_append]
        have : (Option.some row[i]).toList.filter fd = [] := by simp [c2]
        rw [this, List.append_nil]; exact e0.dns dz
  rintro dv σ' H3 ⟨e3, el3, dz3, _, _⟩
  rw [lrs, List.take_length, ← hdue] at dz3
  refine ⟨⟨_, e3.seq (SqL.of hr2), Nat.le_refl _⟩, ?_⟩
  -- handed
  refine ⟨_, rfl, lh, ys, rfl, .inl ((e2.trans e3).seq (SqL.of hlh)), fun l4 hl4 => ?_⟩
  have e4 := same_new hl4 (HO.lst ys)
  have hl4' : upd H3 l4 (.lst ys) l4 = some (.lst ys) := upd_same
  have hlh4 : upd H3 l4 (.lst ys) lh = some (.lst ys) := e4 _ _ ((e2.trans e3) _ _ hlh)
  have hd4 : Dns K (upd H3 l4 (.lst ys)) (ps.map spotD) ys := (e2.trans (e3.trans e4)).dns hd
  have hld4 : upd H3 l4 (.lst ys) ld = some (.lst dv) := e4 _ _ el3
  have dz4 : Dns K (upd H3 l4 (.lst ys)) ((due row).map spotD) dv := e4.dns dz3
  show gName 4 (V.ref l4) _ (upd H3 l4 (.lst ys)) _
  generalize upd H3 l4 (.lst ys) = H4 at *
  have hpos : 1 ≤ row.length := by
    match row, ps, n1, mem with
    | [], p :: ps, _, mem => exact absurd ((mem p).mpr (by simp)) (by simp)
    | a :: _, _, _, _ => simp
  have nd := hull_nodup sr
  have hsub : ∀ p ∈ hull row, p ∈ row := fun p hp => (hull_held sr hp).1
  have hle : (hull row).length ≤ row.length := by
    by_cases h2 : 2 ≤ row.length
    · exact sorted_len nd hsub
    · have : row.length = 1 := by omega
      unfold hull; rw [if_pos this]; exact Nat.le_refl _
  obtain ⟨p0, hp0⟩ : ∃ p0, row[0]? = some p0 := ⟨row[0], List.getElem?_eq_getElem (by omega)⟩
  have hh0 : (hull row)[0]? = some p0 := by rw [← List.head?_eq_getElem?, hull_head sr, List.head?_eq_getElem?, hp0]
  have hd0 : (due row)[0]? = some p0 := by rw [← List.head?_eq_getElem?, due_head sr, List.head?_eq_getElem?, hh0]
  obtain ⟨w0, hw0, dw0⟩ := dz4.get (i := 0) (d := spotD p0) (by rw [List.getElem?_map, hd0]; rfl)
  refine ⟨2, rfl, by decide, by decide, for_range (n := 2) (fun i σ' H' => ∃ c5 c6 c7 c8, σ' = [some (.ref sa), some (.ref lh), some (.ref r), some (.ref ld), some (.ref l4), c5, c6, c7, c8] ∧ Same H4 H') ⟨_, _, _, _, rfl, Same.refl _⟩ ?_ ?_⟩
  · rintro i σ' H' hi ⟨c5, c6, c7, c8, rfl, e⟩
    refine ⟨_, rfl, l4, ys, ps, rfl, e.seq (SqL.of hl4'), e.dns hd4, hb, n1, n8, fun lf zf row' H5 e5 hlf0 hlf sr' mem' df => ?_⟩
    obtain rfl : row' = row := sorted_eq sr' sr fun p => (mem' p).trans (mem p).symm
    have e45 := e.trans e5
    have lzf : zf.length = (hull row').length := by have := df.length; rwa [List.length_map] at this
    -- a list
    refine ⟨_, rfl, lf, _, "list", true, rfl, .inr ⟨SqL.of hlf, rfl⟩, _, rfl, ?_⟩
    refine iteF ?_
    -- sorted
    refine ⟨_, rfl, lf, zf, hull row', rfl, SqL.of hlf, df, nd, by omega, fun us qs l6 hl6 du su mu lu => ?_⟩
    obtain rfl := due_of sr su mu
    have e6 := same_new hl6 (HO.lst us)
    have e46 := e45.trans e6
    refine ⟨_, rfl, l6, ld, us, dv, _, _, rfl, rfl, SqL.of upd_same, e46.seq (SqL.of hld4), e6.dns du, e46.dns dz4, _, rfl, ?_⟩
    rw [decide_eq_true (rfl : due row' = due row')]
    refine iteF ?_
    -- the first
    obtain ⟨v0, hv0, dv0⟩ := df.get (i := 0) (d := spotD p0) (by rw [List.getElem?_map, hh0]; rfl)
    refine ⟨_, rfl, lf, zf, 0, v0, rfl, rfl, e6.seq (SqL.of hlf), atI_nat (j := 0) hv0, _, rfl, ld, dv, 0, w0, rfl, rfl, e46.seq (SqL.of hld4), atI_nat (j := 0) hw0, p0, p0, e6.dn dv0, e46.dn dw0, _, rfl, ?_⟩
    rw [decide_eq_true (rfl : p0 = p0)]
    refine iteF ?_
    -- the herd stays
    refine ⟨_, rfl, _, rfl, l4, lh, ys, ys, ps, ps, rfl, rfl, e46.seq (SqL.of hl4'), e46.seq (SqL.of hlh4), e46.dns hd4, e46.dns hd4, _, rfl, ?_⟩
    rw [decide_eq_true (rfl : ps = ps)]
    refine iteF ?_
    -- tuples all
    have hlf6 : upd H5 l6 (.lst us) lf = some (.lst zf) := e6 _ _ hlf
    have df6 : Dns K (upd H5 l6 (.lst us)) ((hull row').map spotD) zf := e6.dns df
    have hlf0' : H4 lf = none := e.free hlf0
    clear e6 du
    generalize upd H5 l6 (.lst us) = H6 at *
    refine ⟨_, rfl, lf, rfl, ⟨_, SqL.of hlf6⟩, fun _ _ _ _ lb hlb => ?_⟩
    refine comp_by zf.length (by rw [sizeLine_eq]; omega) (fun i zs σ' Hc => Same H6 Hc ∧ Hc lb = some (.lst zs) ∧ zs = List.replicate i (V.bl true) ∧ σ'.length = 1) ?_ (fun i zs σ' Hc ⟨_, e, y, _⟩ => ⟨e, by rw [y]; simp⟩) ?_ ?_
    · exact ⟨same_new hlb _, upd_same, rfl, rfl⟩
    · rintro j zs σ' Hc hj ⟨e', el', rfl, hσ⟩
      refine ⟨⟨_, zf[j], e'.seq (SqL.of hlf6), by simp [hj]⟩, fun x H' y Kt Kf k1 _ => ?_⟩
      obtain ⟨rfl, hx⟩ := y
      have hx' := hx _ (e'.seq (SqL.of hlf6))
      obtain ⟨d, hd1, hd2⟩ := df6.get' hx'
      rw [List.getElem?_map] at hd1
      obtain ⟨p, hp, rfl⟩ := Option.map_eq_some_iff.mp hd1
      obtain ⟨t, rfl, ht⟩ := (e'.dn hd2).spot
      match σ', hσ with
      | [c], _ =>
        simp only [gName, tYes, ↓reduceIte]
        refine ⟨_, rfl, t, _, "tuple", true, rfl, .inl ⟨ht, rfl⟩, ?_⟩
        exact k1 _ _ _ el' ⟨same_upd hlb e', upd_same, by rw [List.replicate_succ'], rfl⟩
    · rintro zs σ' H7 ⟨e7, el7, rfl, _⟩
      refine ⟨⟨_, e7.seq (SqL.of hlf6), Nat.le_refl _⟩, lb, List.replicate zf.length true, rfl, SqL.of (by rw [List.map_replicate]; exact el7), _, rfl, ?_⟩
      have hall : (List.replicate zf.length true).all id = true := by simp
      rw [hall]
      refine iteF ?_
      -- the turns
      have e47 := e46.trans e7
      have hlf7 := e7 _ _ hlf6
      have df7 := e7.dns df6
      refine ⟨_, rfl, lf, zf, rfl, .inl (SqL.of hlf7), _, rfl, by omega, by omega, ?_⟩
      refine for_range (fun k σ' H' => ∃ c7 c8, σ' = [some (.ref sa), some (.ref lh), some (.ref r), some (.ref ld), some (.ref l4), some (.int (0 + i)), some (.ref lf), c7, c8] ∧ Same H7 H') ⟨_, _, rfl, Same.refl _⟩ ?_ ?_
      · rintro k σ' H8 hk ⟨c7, c8, rfl, e8⟩
        have hk' : k < (hull row').length := by omega
        refine ⟨_, rfl, lf, rfl, ⟨_, e8.seq (SqL.of hlf7)⟩, ?_⟩
        refine for_list (xs := zf) (fun j σ' H' => ∃ c8, σ' = [some (.ref sa), some (.ref lh), some (.ref r), some (.ref ld), some (.ref l4), some (.int (0 + i)), some (.ref lf), some (.int (0 + k)), c8] ∧ Same H7 H') ⟨_, rfl, e8⟩ (fun j σ' H' _ h => ?_) ?_ ?_
        · obtain ⟨c8, rfl, e'⟩ := h
          exact e'.seq (SqL.of hlf7)
        · rintro j x σ' H9 hx ⟨c8', rfl, e9⟩
          obtain ⟨d, hd1, hd2⟩ := df7.get' hx
          rw [List.getElem?_map] at hd1
          obtain ⟨po, hpo, rfl⟩ := Option.map_eq_some_iff.mp hd1
          have mpo := List.mem_of_getElem? hpo
          obtain ⟨u, pu, jj, hu1, hu2, hu3, hu4, hu5⟩ := prev_at df7 k hk'
          obtain ⟨v, hv1, hv2⟩ := df7.get (i := k) (d := spotD (hull row')[k]) (by simp [hk'])
          have hv1' : atI zf (0 + (k : Int)) = some v := by rw [Int.zero_add]; exact atI_nat hv1
          have s9 : SqL K H9 lf zf := e9.seq (SqL.of hlf7)
          refine ⟨_, rfl, _, rfl, _, rfl, _, _, rfl, rfl, lf, zf, _, u, rfl, rfl, s9, hu1, _, rfl, _, rfl, lf, zf, _, v, rfl, rfl, s9, hv1', (by show 2 ≤ sizeLine; decide), fun t ht => ?_⟩
          have e10 := same_new ht (HO.tup [u, v])
          have e79 := e9.trans e10
          refine ⟨po, t, [u, v], [pu, (hull row')[k]], e79.dn hd2, rfl, SqT.of upd_same, dns_cons (e79.dn hu2) (dns_cons (e79.dn hv2) dns_nil), _, rfl, ite2 (fun c => ?_) (fun c => ?_)⟩
          · have c' : ¬ (po = pu ∨ po = (hull row')[k]) := by simpa using c
            have h2 : 2 ≤ row'.length := by
              apply Classical.byContradiction
              intro hn
              have e1 : row'.length = 1 := by omega
              match row', e1, hk', mpo, c' with
              | [a], _, hk', mpo, c' =>
                have mk := List.getElem_mem hk'
                have eh : hull [a] = [a] := rfl
                generalize (hull [a])[k] = z at *
                rw [eh] at mpo mk
                exact c' (.inr ((List.mem_singleton.mp mpo).trans (List.mem_singleton.mp mk).symm))
            have hl2 := Pick.hull_two sr h2
            obtain ⟨m1, m2, m3, _⟩ := Pick.ring_ne sr hl2 hu4 hu5
            have ed := hull_next sr h2 jj pu _ hu4 hu5
            have st := edge_strict sr m1 m2 mpo ed (Ne.symm m3) (fun z => c' (.inl z)) (fun z => c' (.inr z))
            have sq : SqL K _ lf zf := e79.seq (SqL.of hlf7)
            have bd : ∀ p ∈ hull row', Bd p := fun p hp => brow p (hsub p hp)
            refine ⟨_, rfl, _, rfl, _, _, rfl, rfl, lf, zf, _, u, rfl, rfl, sq, hu1, _, rfl, _, rfl, lf, zf, _, v, rfl, rfl, sq, hv1', _, rfl, u, v, x, pu, _, po, rfl, ⟨e79.dn hu2, bd _ m1⟩, ⟨e79.dn hv2, bd _ m2⟩, ⟨e79.dn hd2, bd _ mpo⟩, fun H11 e11 => ?_⟩
            refine ⟨_, _, rfl, rfl, _, rfl, ite2 (fun c1 => ?_) (fun c1 => ?_)⟩
            · have : turn pu (hull row')[k] po ≤ 0 := of_decide_eq_true c1
              omega
            · exact ⟨_, rfl, e79.trans e11⟩
          · exact ite2 (fun h => by cases h) fun _ => ⟨_, rfl, e79⟩
        · rintro σ' H9 ⟨c8', rfl, e9⟩
          exact ⟨_, _, rfl, e9⟩
      · rintro σ' H8 ⟨c7', c8', rfl, e8⟩
        refine ⟨_, rfl, .inl ⟨rfl, _, SqL.of (e8 _ _ hlf7)⟩, lf, zf, rfl, rfl, e8 _ _ hlf7, ?_⟩
        exact ⟨_, _, _, _, rfl, same_upd hlf0' (e47.trans e8)⟩
  · rintro σ' H' ⟨c5, c6, c7, c8, rfl, e⟩
    exact q _
end
theorem all_mk {l : PySem.W.OpenLaw} {w : World} {K : PySem.W.Frag} {h : Heap} {mg : Str → Option Value} {fa f1 f2 f3 f4 f5 f6 f7 f8 f9 f10 f11 f12 f13 f14 f15 : Addr} (X : K.In h) (G : h.Ns mainGlobals mg) (hfa : mg "law" = some (.ref fa))
    {od1 an1 od2 an2 od3 an3 od4 an4 od5 an5 od6 an6 od7 an7 od8 an8 od9 an9 od10 an10 od11 an11 od12 an12 od13 an13 od14 an14 od15 an15 : Option Addr} {sl1 sl2 sl3 sl4 sl5 sl6 sl7 sl8 sl9 sl10 sl11 sl12 sl13 sl14 sl15 : Array (Option Value)} {oc1 kV1 dc1 pm1 cd1 ct1 oc2 kV2 dc2 pm2 cd2 ct2 oc3 kV3 dc3 pm3 cd3 ct3 oc4 kV4 dc4 pm4 cd4 ct4 oc5 kV5 dc5 pm5 cd5 ct5 oc6 kV6 dc6 pm6 cd6 ct6 oc7 kV7 dc7 pm7 cd7 ct7 oc8 kV8 dc8 pm8 cd8 ct8 oc9 kV9 dc9 pm9 cd9 ct9 oc10 kV10 dc10 pm10 cd10 ct10 oc11 kV11 dc11 pm11 cd11 ct11 oc12 kV12 dc12 pm12 cd12 ct12 oc13 kV13 dc13 pm13 cd13 ct13 oc14 kV14 dc14 pm14 cd14 ct14 oc15 kV15 dc15 pm15 cd15 ct15 : Value}
    {tk_BOUND : Tok} (y_BOUND : PySem.W.nsIn K mainGlobals "BOUND" = some (some (.int 1000 tk_BOUND)))
    {tk_MOST_SPOTS : Tok} (y_MOST_SPOTS : PySem.W.nsIn K mainGlobals "MOST_SPOTS" = some (some (.int 8 tk_MOST_SPOTS)))
    (a1 : PySem.W.nsIn K mainGlobals "is_number" = some (some (.ref f1))) (l1 : K.lookup f1 = some ⟨oc1, od1, .func (PySem.W.fnOf "is_number" "is_number" (defArgs s_is_number) (defBody s_is_number) (defScope s_is_number) .none kV1 dc1 pm1 an1 cd1 ct1), sl1⟩) (c1 : PySem.W.codeIn K cd1 "is_number" = true) (k1 : PySem.W.keepIn K (.ref f1) = true)
    (a2 : PySem.W.nsIn K mainGlobals "is_pair" = some (some (.ref f2))) (l2 : K.lookup f2 = some ⟨oc2, od2, .func (PySem.W.fnOf "is_pair" "is_pair" (defArgs s_is_pair) (defBody s_is_pair) (defScope s_is_pair) .none kV2 dc2 pm2 an2 cd2 ct2), sl2⟩) (c2 : PySem.W.codeIn K cd2 "is_pair" = true) (k2 : PySem.W.keepIn K (.ref f2) = true)
    (a3 : PySem.W.nsIn K mainGlobals "is_herd" = some (some (.ref f3))) (l3 : K.lookup f3 = some ⟨oc3, od3, .func (PySem.W.fnOf "is_herd" "is_herd" (defArgs s_is_herd) (defBody s_is_herd) (defScope s_is_herd) .none kV3 dc3 pm3 an3 cd3 ct3), sl3⟩) (c3 : PySem.W.codeIn K cd3 "is_herd" = true) (k3 : PySem.W.keepIn K (.ref f3) = true)
    (a4 : PySem.W.nsIn K mainGlobals "check_herd" = some (some (.ref f4))) (l4 : K.lookup f4 = some ⟨oc4, od4, .func (PySem.W.fnOf "check_herd" "check_herd" (defArgs s_check_herd) (defBody s_check_herd) (defScope s_check_herd) .none kV4 dc4 pm4 an4 cd4 ct4), sl4⟩) (c4 : PySem.W.codeIn K cd4 "check_herd" = true) (k4 : PySem.W.keepIn K (.ref f4) = true)
    (a5 : PySem.W.nsIn K mainGlobals "leftness" = some (some (.ref f5))) (l5 : K.lookup f5 = some ⟨oc5, od5, .func (PySem.W.fnOf "leftness" "leftness" (defArgs s_leftness) (defBody s_leftness) (defScope s_leftness) .none kV5 dc5 pm5 an5 cd5 ct5), sl5⟩) (c5 : PySem.W.codeIn K cd5 "leftness" = true) (k5 : PySem.W.keepIn K (.ref f5) = true)
    (a6 : PySem.W.nsIn K mainGlobals "left_chain" = some (some (.ref f6))) (l6 : K.lookup f6 = some ⟨oc6, od6, .func (PySem.W.fnOf "left_chain" "left_chain" (defArgs s_left_chain) (defBody s_left_chain) (defScope s_left_chain) .none kV6 dc6 pm6 an6 cd6 ct6), sl6⟩) (c6 : PySem.W.codeIn K cd6 "left_chain" = true) (k6 : PySem.W.keepIn K (.ref f6) = true)
    (a7 : PySem.W.nsIn K mainGlobals "corners" = some (some (.ref f7))) (l7 : K.lookup f7 = some ⟨oc7, od7, .func (PySem.W.fnOf "corners" "corners" (defArgs s_corners) (defBody s_corners) (defScope s_corners) .none kV7 dc7 pm7 an7 cd7 ct7), sl7⟩) (c7 : PySem.W.codeIn K cd7 "corners" = true) (k7 : PySem.W.keepIn K (.ref f7) = true)
    (a8 : PySem.W.nsIn K mainGlobals "_law_cell_at" = some (some (.ref f8))) (l8 : K.lookup f8 = some ⟨oc8, od8, .func (PySem.W.fnOf "_law_cell_at" "_law_cell_at" (defArgs s__law_cell_at) (defBody s__law_cell_at) (defScope s__law_cell_at) .none kV8 dc8 pm8 an8 cd8 ct8), sl8⟩) (c8 : PySem.W.codeIn K cd8 "_law_cell_at" = true) (k8 : PySem.W.keepIn K (.ref f8) = true)
    (a9 : PySem.W.nsIn K mainGlobals "_law_draw" = some (some (.ref f9))) (l9 : K.lookup f9 = some ⟨oc9, od9, .func (PySem.W.fnOf "_law_draw" "_law_draw" (defArgs s__law_draw) (defBody s__law_draw) (defScope s__law_draw) .none kV9 dc9 pm9 an9 cd9 ct9), sl9⟩) (c9 : PySem.W.codeIn K cd9 "_law_draw" = true) (k9 : PySem.W.keepIn K (.ref f9) = true)
    (a10 : PySem.W.nsIn K mainGlobals "_law_spot" = some (some (.ref f10))) (l10 : K.lookup f10 = some ⟨oc10, od10, .func (PySem.W.fnOf "_law_spot" "_law_spot" (defArgs s__law_spot) (defBody s__law_spot) (defScope s__law_spot) .none kV10 dc10 pm10 an10 cd10 ct10), sl10⟩) (c10 : PySem.W.codeIn K cd10 "_law_spot" = true) (k10 : PySem.W.keepIn K (.ref f10) = true)
    (a11 : PySem.W.nsIn K mainGlobals "_law_herd" = some (some (.ref f11))) (l11 : K.lookup f11 = some ⟨oc11, od11, .func (PySem.W.fnOf "_law_herd" "_law_herd" (defArgs s__law_herd) (defBody s__law_herd) (defScope s__law_herd) .none kV11 dc11 pm11 an11 cd11 ct11), sl11⟩) (c11 : PySem.W.codeIn K cd11 "_law_herd" = true) (k11 : PySem.W.keepIn K (.ref f11) = true)
    (a12 : PySem.W.nsIn K mainGlobals "_law_turn" = some (some (.ref f12))) (l12 : K.lookup f12 = some ⟨oc12, od12, .func (PySem.W.fnOf "_law_turn" "_law_turn" (defArgs s__law_turn) (defBody s__law_turn) (defScope s__law_turn) .none kV12 dc12 pm12 an12 cd12 ct12), sl12⟩) (c12 : PySem.W.codeIn K cd12 "_law_turn" = true) (k12 : PySem.W.keepIn K (.ref f12) = true)
    (a13 : PySem.W.nsIn K mainGlobals "_law_on" = some (some (.ref f13))) (l13 : K.lookup f13 = some ⟨oc13, od13, .func (PySem.W.fnOf "_law_on" "_law_on" (defArgs s__law_on) (defBody s__law_on) (defScope s__law_on) .none kV13 dc13 pm13 an13 cd13 ct13), sl13⟩) (c13 : PySem.W.codeIn K cd13 "_law_on" = true) (k13 : PySem.W.keepIn K (.ref f13) = true)
    (a14 : PySem.W.nsIn K mainGlobals "_law_held" = some (some (.ref f14))) (l14 : K.lookup f14 = some ⟨oc14, od14, .func (PySem.W.fnOf "_law_held" "_law_held" (defArgs s__law_held) (defBody s__law_held) (defScope s__law_held) .none kV14 dc14 pm14 an14 cd14 ct14), sl14⟩) (c14 : PySem.W.codeIn K cd14 "_law_held" = true) (k14 : PySem.W.keepIn K (.ref f14) = true)
    (a15 : PySem.W.nsIn K mainGlobals "law" = some (some (.ref f15))) (l15 : K.lookup f15 = some ⟨oc15, od15, .func (PySem.W.fnOf "law" "law" (defArgs s_law) (defBody s_law) (defScope s_law) .none kV15 dc15 pm15 an15 cd15 ct15), sl15⟩) (c15 : PySem.W.codeIn K cd15 "law" = true) (k15 : PySem.W.keepIn K (.ref f15) = true)
    (z_len : PySem.W.nsIn K mainGlobals "len" = some none) (z_all : PySem.W.nsIn K mainGlobals "all" = some none) (z_isinstance : PySem.W.nsIn K mainGlobals "isinstance" = some none) (z_tuple : PySem.W.nsIn K mainGlobals "tuple" = some none) (z_list : PySem.W.nsIn K mainGlobals "list" = some none) (z_bool : PySem.W.nsIn K mainGlobals "bool" = some none) (z_int : PySem.W.nsIn K mainGlobals "int" = some none) (z_set : PySem.W.nsIn K mainGlobals "set" = some none) (z_range : PySem.W.nsIn K mainGlobals "range" = some none) (z_reversed : PySem.W.nsIn K mainGlobals "reversed" = some none) (z_sorted : PySem.W.nsIn K mainGlobals "sorted" = some none) (z_min : PySem.W.nsIn K mainGlobals "min" = some none) (z_max : PySem.W.nsIn K mainGlobals "max" = some none) :
    ∃ fd : FuncData, (∀ (s : Shared) (v : Value), BindsTo s fd ⟨[v], []⟩ [("_law_script", v)]) ∧ ∀ base : Heap, K.In base → base.Ns mainGlobals mg → FnOk l.prog w K mg base CX0 6 fa fd ["_law_script"] (sp_law K) := by
  have e := hfa.symm.trans (PySem.W.mg_of X G a15)
  cases e
  have F1 := fun_mk (st := s_is_number) l1 c1 k1
  have b1 := F1.binds (ps := ["value"]) fun _ _ _ _ _ _ us hl => match us, hl with | [_], _ => rfl
  have F2 := fun_mk (st := s_is_pair) l2 c2 k2
  have b2 := F2.binds (ps := ["value"]) fun _ _ _ _ _ _ us hl => match us, hl with | [_], _ => rfl
  have F3 := fun_mk (st := s_is_herd) l3 c3 k3
  have b3 := F3.binds (ps := ["value"]) fun _ _ _ _ _ _ us hl => match us, hl with | [_], _ => rfl
  have F4 := fun_mk (st := s_check_herd) l4 c4 k4
  have b4 := F4.binds (ps := ["herd"]) fun _ _ _ _ _ _ us hl => match us, hl with | [_], _ => rfl
  have F5 := fun_mk (st := s_leftness) l5 c5 k5
  have b5 := F5.binds (ps := ["start", "end", "spot"]) fun _ _ _ _ _ _ us hl => match us, hl with | [_, _, _], _ => rfl
  have F6 := fun_mk (st := s_left_chain) l6 c6 k6
  have b6 := F6.binds (ps := ["row"]) fun _ _ _ _ _ _ us hl => match us, hl with | [_], _ => rfl
  have F7 := fun_mk (st := s_corners) l7 c7 k7
  have b7 := F7.binds (ps := ["herd"]) fun _ _ _ _ _ _ us hl => match us, hl with | [_], _ => rfl
  have F8 := fun_mk (st := s__law_cell_at) l8 c8 k8
  have b8 := F8.binds (ps := ["_law_script", "_law_k"]) fun _ _ _ _ _ _ us hl => match us, hl with | [_, _], _ => rfl
  have F9 := fun_mk (st := s__law_draw) l9 c9 k9
  have b9 := F9.binds (ps := ["_law_cell", "_law_k", "_law_many"]) fun _ _ _ _ _ _ us hl => match us, hl with | [_, _, _], _ => rfl
  have F10 := fun_mk (st := s__law_spot) l10 c10 k10
  have b10 := F10.binds (ps := ["_law_cell", "_law_most", "_law_line"]) fun _ _ _ _ _ _ us hl => match us, hl with | [_, _, _], _ => rfl
  have F11 := fun_mk (st := s__law_herd) l11 c11 k11
  have b11 := F11.binds (ps := ["_law_cell", "_law_most_spots"]) fun _ _ _ _ _ _ us hl => match us, hl with | [_, _], _ => rfl
  have F12 := fun_mk (st := s__law_turn) l12 c12 k12
  have b12 := F12.binds (ps := ["_law_one", "_law_two", "_law_three"]) fun _ _ _ _ _ _ us hl => match us, hl with | [_, _, _], _ => rfl
  have F13 := fun_mk (st := s__law_on) l13 c13 k13
  have b13 := F13.binds (ps := ["_law_one", "_law_two", "_law_spot_here"]) fun _ _ _ _ _ _ us hl => match us, hl with | [_, _, _], _ => rfl
  have F14 := fun_mk (st := s__law_held) l14 c14 k14
  have b14 := F14.binds (ps := ["_law_others", "_law_spot_here"]) fun _ _ _ _ _ _ us hl => match us, hl with | [_, _], _ => rfl
  have F15 := fun_mk (st := s_law) l15 c15 k15
  have b15 := F15.binds (ps := ["_law_script"]) fun _ _ _ _ _ _ us hl => match us, hl with | [_], _ => rfl
  have B : Bl mg := ⟨PySem.W.mg_none_of X G z_len, PySem.W.mg_none_of X G z_all, PySem.W.mg_none_of X G z_isinstance, PySem.W.mg_none_of X G z_tuple, PySem.W.mg_none_of X G z_list, PySem.W.mg_none_of X G z_bool, PySem.W.mg_none_of X G z_int, PySem.W.mg_none_of X G z_set, PySem.W.mg_none_of X G z_range, PySem.W.mg_none_of X G z_reversed, PySem.W.mg_none_of X G z_sorted, PySem.W.mg_none_of X G z_min, PySem.W.mg_none_of X G z_max, ⟨_, PySem.W.mg_of X G y_BOUND⟩, ⟨_, PySem.W.mg_of X G y_MOST_SPOTS⟩⟩
  refine ⟨PySem.W.fnOf "law" "law" (defArgs s_law) (defBody s_law) (defScope s_law) .none kV15 dc15 pm15 an15 cd15 ct15, fun s v => .of_eq rfl, fun base _ _ => ?_⟩
  have C_is_number := cal_mk (ok_num (P := l.prog) (w := w) (base := base) B F1) b1 k1 (PySem.W.mg_of X G a1)
  have C_is_pair := cal_mk (ok_pair (P := l.prog) (w := w) (base := base) B C_is_number F2) b2 k2 (PySem.W.mg_of X G a2)
  have C_is_herd := cal_mk (ok_isherd (P := l.prog) (w := w) (base := base) B C_is_pair F3) b3 k3 (PySem.W.mg_of X G a3)
  have C_check_herd := cal_mk (ok_check (P := l.prog) (w := w) (base := base) C_is_herd F4) b4 k4 (PySem.W.mg_of X G a4)
  have C_leftness := cal_mk (ok_left (P := l.prog) (w := w) (base := base)  F5) b5 k5 (PySem.W.mg_of X G a5)
  have C_left_chain := cal_mk (ok_chain (P := l.prog) (w := w) (base := base) B C_leftness F6) b6 k6 (PySem.W.mg_of X G a6)
  have C_corners := cal_mk (ok_corners (P := l.prog) (w := w) (base := base) B C_check_herd C_left_chain F7) b7 k7 (PySem.W.mg_of X G a7)
  have C__law_cell_at := cal_mk (ok_cell (P := l.prog) (w := w) (base := base) B F8) b8 k8 (PySem.W.mg_of X G a8)
  have C__law_draw := cal_mk (ok_draw (P := l.prog) (w := w) (base := base)  F9) b9 k9 (PySem.W.mg_of X G a9)
  have C__law_spot := cal_mk (ok_spot (P := l.prog) (w := w) (base := base) C__law_draw F10) b10 k10 (PySem.W.mg_of X G a10)
  have C__law_herd := cal_mk (ok_herd (P := l.prog) (w := w) (base := base) B C__law_draw C__law_spot F11) b11 k11 (PySem.W.mg_of X G a11)
  have C__law_turn := cal_mk (ok_turn (P := l.prog) (w := w) (base := base)  F12) b12 k12 (PySem.W.mg_of X G a12)
  have C__law_on := cal_mk (ok_on (P := l.prog) (w := w) (base := base) B C__law_turn F13) b13 k13 (PySem.W.mg_of X G a13)
  have C__law_held := cal_mk (ok_held (P := l.prog) (w := w) (base := base) B C__law_turn C__law_on F14) b14 k14 (PySem.W.mg_of X G a14)
  exact ok_law B C_corners C__law_cell_at C__law_herd C__law_turn C__law_held F15
theorem walk {l : PySem.W.OpenLaw} {q : Program} {loose : List Str} {XP : (Str → Option Value) → Heap → Prop} {YP : World → Heap → Prop} {d : DefRec} {K : Params → PySem.W.Frag} (hn : l.most = some 63) (hdf : d.params.defaults = [])
    (hY : ∀ (w : World) (h : Heap), YP w h → (K w.params).In h)
    (F : ∀ (w : World) (mg : Str → Option Value) (fa : Addr) (h : Heap), (K w.params).In h → h.Ns mainGlobals mg → mg d.name = some (.ref fa) →
      ∃ fd : FuncData, (∀ (s : Shared) (u : Value), BindsTo s fd ⟨[u], []⟩ [("_law_script", u)]) ∧ ∀ base : Heap, (K w.params).In base → base.Ns mainGlobals mg → FnOk l.prog w (K w.params) mg base CX0 6 fa fd ["_law_script"] (sp_law (K w.params))) :
    PySem.W.WalkO q loose XP YP l.row.toRowW d [] (fun f vs => PySem.call f vs) :=
  L2.walk_of (n := 63) (k := 6) (x := "_law_script") (CX := fun _ => CX0) (sp := fun w => sp_law (K w.params)) hn (by decide) hdf ⟨rfl, by decide, by decide⟩ hY F (fun _ _ a ns hl _ hS => ⟨a, ns, rfl, hS, hl, fun _ => rfl⟩) fun _ _ _ _ _ z => z
end K1a
open PySem PySem.W PyProof.Rows
set_option maxRecDepth 100000 in
set_option maxHeartbeats 0 in
theorem PySem.Challenge.cw_herdline_k01_corners_holds : PySem.Challenge.rw_herdline_k01_corners.Holds := by
  w_on; o_law; k_head; (case hw => w_witness2)
  k_fill
  refine K1a.walk (l := PySem.Challenge.rw_herdline_k01_corners) rfl rfl (fun w h Y => PySem.W.kIn_of Y) ?F
  case F =>
    intro w mg fa h KX G hmg
    refine' K1a.all_mk KX G hmg ?y_BOUND ?y_MOST_SPOTS ?a1 ?l1 ?c1 ?k1 ?a2 ?l2 ?c2 ?k2 ?a3 ?l3 ?c3 ?k3 ?a4 ?l4 ?c4 ?k4 ?a5 ?l5 ?c5 ?k5 ?a6 ?l6 ?c6 ?k6 ?a7 ?l7 ?c7 ?k7 ?a8 ?l8 ?c8 ?k8 ?a9 ?l9 ?c9 ?k9 ?a10 ?l10 ?c10 ?k10 ?a11 ?l11 ?c11 ?k11 ?a12 ?l12 ?c12 ?k12 ?a13 ?l13 ?c13 ?k13 ?a14 ?l14 ?c14 ?k14 ?a15 ?l15 ?c15 ?k15 ?z_len ?z_all ?z_isinstance ?z_tuple ?z_list ?z_bool ?z_int ?z_set ?z_range ?z_reversed ?z_sorted ?z_min ?z_max
    (case y_BOUND => k_is)
    (case y_MOST_SPOTS => k_is)
    (case a1 => k_is)
    (case l1 => k_is)
    (case c1 => k_is)
    (case k1 => k_is)
    (case a2 => k_is)
    (case l2 => k_is)
    (case c2 => k_is)
    (case k2 => k_is)
    (case a3 => k_is)
    (case l3 => k_is)
    (case c3 => k_is)
    (case k3 => k_is)
    (case a4 => k_is)
    (case l4 => k_is)
    (case c4 => k_is)
    (case k4 => k_is)
    (case a5 => k_is)
    (case l5 => k_is)
    (case c5 => k_is)
    (case k5 => k_is)
    (case a6 => k_is)
    (case l6 => k_is)
    (case c6 => k_is)
    (case k6 => k_is)
    (case a7 => k_is)
    (case l7 => k_is)
    (case c7 => k_is)
    (case k7 => k_is)
    (case a8 => k_is)
    (case l8 => k_is)
    (case c8 => k_is)
    (case k8 => k_is)
    (case a9 => k_is)
    (case l9 => k_is)
    (case c9 => k_is)
    (case k9 => k_is)
    (case a10 => k_is)
    (case l10 => k_is)
    (case c10 => k_is)
    (case k10 => k_is)
    (case a11 => k_is)
    (case l11 => k_is)
    (case c11 => k_is)
    (case k11 => k_is)
    (case a12 => k_is)
    (case l12 => k_is)
    (case c12 => k_is)
    (case k12 => k_is)
    (case a13 => k_is)
    (case l13 => k_is)
    (case c13 => k_is)
    (case k13 => k_is)
    (case a14 => k_is)
    (case l14 => k_is)
    (case c14 => k_is)
    (case k14 => k_is)
    (case a15 => k_is)
    (case l15 => k_is)
    (case c15 => k_is)
    (case k15 => k_is)
    (case z_len => k_is)
    (case z_all => k_is)
    (case z_isinstance => k_is)
    (case z_tuple => k_is)
    (case z_list => k_is)
    (case z_bool => k_is)
    (case z_int => k_is)
    (case z_set => k_is)
    (case z_range => k_is)
    (case z_reversed => k_is)
    (case z_sorted => k_is)
    (case z_min => k_is)
    (case z_max => k_is)
