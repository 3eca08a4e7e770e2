import PyProof.Rows.All
import Wide.All
import OpenK.AllK
import Wide.FinOn
import Lean
import PyProof.EqAt
import PyProof.EqKinds
import PyProof.TupleCall
import PySem.SetOps
import PyProof.ZipIter
import PyProof.CollectWalk
import PyProof.Rows.ZipGen
import PySem.Challenge.RW_herdline_k05_land_and_spots
set_option Elab.async false
set_option linter.all false
set_option maxRecDepth 100000
namespace L2
open PySem PySem.Spec PyProof.Rows

abbrev Key := Sum Int Str
def keyIs : Key → Value → Bool
  | .inl k, v => Value.isInt k v
  | .inr x, v => Value.isStrOf x v
def keyH (w : World) : Key → Int
  | .inl k => hashInt k
  | .inr x => hashStr w x
theorem keyIs_shape : ∀ {k : Key} {v : Value}, keyIs k v = true → (∃ i t, k = Sum.inl i ∧ v = Value.int i t) ∨ (∃ x t, k = Sum.inr x ∧ v = Value.str x t)
  | .inl i, v, h => by
    obtain ⟨t, e⟩ := Value.isInt_shape (k := i) (v := v) h
    exact .inl ⟨i, t, rfl, e⟩
  | .inr x, v, h => by
    obtain ⟨t, e⟩ := Value.isStrOf_shape (x := x) (v := v) h
    exact .inr ⟨x, t, rfl, e⟩
theorem key_ll (a b : Int) : decide ((Sum.inl a : Key) = Sum.inl b) = (a == b) := by
  by_cases e : a = b
  · subst e; simp
  · have h : ¬ (Sum.inl a : Key) = Sum.inl b := fun q => e (Sum.inl.inj q)
    rw [decide_eq_false h]
    exact (beq_eq_false_iff_ne.mpr e).symm
theorem key_rr (a b : Str) : decide ((Sum.inr a : Key) = Sum.inr b) = decide (a = b) := by
  by_cases e : a = b
  · subst e; simp
  · have h : ¬ (Sum.inr a : Key) = Sum.inr b := fun q => e (Sum.inr.inj q)
    rw [decide_eq_false h, decide_eq_false e]
theorem key_lr (a : Int) (b : Str) : decide ((Sum.inl a : Key) = Sum.inr b) = false := decide_eq_false (fun q => nomatch q)
theorem key_rl (a : Str) (b : Int) : decide ((Sum.inr a : Key) = Sum.inl b) = false := decide_eq_false (fun q => nomatch q)

def mixKind (prog : Program) (w : World) : PySem.KeyKind prog w Key where
  is := keyIs
  hash := keyH w
  inj := fun v a b ha hb => by
    rcases keyIs_shape ha with ⟨i, t, rfl, rfl⟩ | ⟨x, t, rfl, rfl⟩
    · rcases keyIs_shape hb with ⟨j, u, rfl, e⟩ | ⟨y, u, rfl, e⟩
      · injection e with e1 _; rw [e1]
      · exact nomatch e
    · rcases keyIs_shape hb with ⟨j, u, rfl, e⟩ | ⟨y, u, rfl, e⟩
      · exact nomatch e
      · injection e with e1 _; rw [e1]
  byValue := fun k v h => by
    rcases keyIs_shape h with ⟨i, t, rfl, rfl⟩ | ⟨x, t, rfl, rfl⟩ <;> rfl
  pyHash := fun hv h => by
    rcases keyIs_shape hv with ⟨i, t, rfl, rfl⟩ | ⟨x, t, rfl, rfl⟩
    · exact wpAny_pyHash_int h
    · exact wpAny_pyHash_str h
  eqBool := fun hu hv h => by
    rcases keyIs_shape hu with ⟨i, t, rfl, rfl⟩ | ⟨x, t, rfl, rfl⟩
    · rcases keyIs_shape hv with ⟨j, u, rfl, rfl⟩ | ⟨y, u, rfl, rfl⟩
      · rw [key_ll] at h; exact wpAny_eqBool_int h
      · rw [key_lr] at h; exact SeqAt.EqAt.int_str i t y u _ _ _ _ h
    · rcases keyIs_shape hv with ⟨j, u, rfl, rfl⟩ | ⟨y, u, rfl, rfl⟩
      · rw [key_rl] at h; exact SeqAt.EqAt.str_int x t j u _ _ _ _ h
      · rw [key_rr] at h; exact wpAny_eqBool_str h
  «strs» := fun k x t v h => by
    rcases keyIs_shape h with ⟨i, u, rfl, e⟩ | ⟨y, u, rfl, e⟩
    · exact nomatch e
    · injection e with e1 _
      subst e1
      cases v <;> rfl

end L2

namespace L2
open PySem PySem.Spec PyProof.Rows

inductive V where
  | non | bl (b : Bool) | int (i : Int) | str (x : Str) | byt (b : Array UInt8) | flt (b : UInt64) | ref (a : Addr) | ty (n : String)
  deriving DecidableEq

def RelV : V → Value → Prop
  | .non, u => u = Value.none
  | .bl b, u => u = Value.bool b
  | .int i, u => ∃ t, u = Value.int i t
  | .str x, u => ∃ t, u = Value.str x t
  | .byt b, u => ∃ t, u = Value.bytes b t
  | .flt b, u => ∃ t, u = Value.float b t
  | .ref a, u => u = Value.ref a
  | .ty n, u => u = Value.type n

abbrev Vals : List V → List Value → Prop := Paired RelV
theorem Vals.length {xs : List V} {us : List Value} (r : Vals xs us) : xs.length = us.length := Paired.length r
theorem Vals.get : ∀ {xs : List V} {us : List Value} {i : Nat} {x : V}, Vals xs us → xs[i]? = some x → ∃ u, us[i]? = some u ∧ RelV x u
  | _, _, _, _, .nil, e => by simp at e
  | _, _, 0, _, .cons r _, e => by simp at e; subst e; exact ⟨_, rfl, r⟩
  | _, _, i + 1, x, .cons _ t, e => by
    obtain ⟨u, h1, h2⟩ := Vals.get (i := i) (x := x) t (by simpa using e)
    exact ⟨u, by simpa using h1, h2⟩
theorem Vals.set {x : V} {u : Value} (r : RelV x u) : ∀ {xs : List V} {us : List Value} (i : Nat), Vals xs us → Vals (xs.set i x) (us.set i u)
  | _, _, _, .nil => .nil
  | _, _, 0, .cons _ t => .cons r t
  | _, _, i + 1, .cons q t => .cons q (Vals.set r i t)
theorem Vals.append : ∀ {xs ys : List V} {us ws : List Value}, Vals xs us → Vals ys ws → Vals (xs ++ ys) (us ++ ws)
  | _, _, _, _, .nil, s => s
  | _, _, _, _, .cons r t, s => .cons r (Vals.append t s)
theorem Vals.take : ∀ {xs : List V} {us : List Value} (n : Nat), Vals xs us → Vals (xs.take n) (us.take n)
  | _, _, 0, _ => .nil
  | _, _, _ + 1, .nil => .nil
  | _, _, n + 1, .cons r t => .cons r (Vals.take n t)
theorem Vals.drop : ∀ {xs : List V} {us : List Value} (n : Nat), Vals xs us → Vals (xs.drop n) (us.drop n)
  | _, _, 0, r => r
  | _, _, _ + 1, .nil => .nil
  | _, _, n + 1, .cons _ t => Vals.drop n t
def RelO : Option V → Option Value → Prop
  | some v, some u => RelV v u
  | none, none => True
  | _, _ => False
def KV {κ : Type} : List (κ × V) → List (κ × Value) → Prop := Paired fun (p : κ × V) (q : κ × Value) => p.1 = q.1 ∧ RelV p.2 q.2

def kV : Key → V
  | .inl i => .int i
  | .inr x => .str x

inductive HO where
  /-- a list -/
  | lst (xs : List V)
  /-- a tuple (never changes) -/
  | tup (xs : List V)
  /-- a dict whose keys are ints and texts; one whose keys are tuples of ints and texts (the empty one is both) -/
  | dK (kvs : List (Key × V)) | dT (kvs : List (List Key × V))
  /-- a set of ints: its members, its size -/
  | set (S : Int → Bool) (n : Nat)
  /-- an instance of the class at C, its dict at dx, its attributes -/
  | ins (C dx : Addr) (fs : List (Str × V))
  /-- the dict of the instance at x -/
  | own (x : Addr)
  /-- the dict of an exception -/
  | xd (fs : List (Str × V))
  /-- a bound method, f of x -/
  | met (f x : Addr)
  /-- a range object lo, lo + 1, .. below hi -/
  | rng (lo hi : Int)
  /-- a thing that is known to the object (the script; a dict while a loop walks it): read, never written while it is so -/
  | frz (o : Obj) (u : HO)
  /-- a code object's table -/
  | tbl (ps : Array Value)
  /-- any other thing, by what is true of its one object (a def of one's own: SetO a S n := HO.ext fun h => ..) -/
  | ext (φ : Heap → Prop)

abbrev Hp := Addr → Option HO
def upd (H : Hp) (a : Addr) (o : HO) : Hp := fun b => if b = a then some o else H b
theorem upd_same {H : Hp} {a : Addr} {o : HO} : upd H a o a = some o := by unfold upd; rw [if_pos rfl]
theorem upd_ne {H : Hp} {a b : Addr} {o : HO} (h : b ≠ a) : upd H a o b = H b := by unfold upd; rw [if_neg h]
theorem upd_upd {H : Hp} {a : Addr} {o u : HO} : upd (upd H a o) a u = upd H a u := by
  funext b; unfold upd; split <;> rfl
theorem ne_of_none {H : Hp} {a b : Addr} {o : HO} (h : H a = some o) (h' : H b = none) : a ≠ b := by
  intro e; subst e; rw [h] at h'; cases h'

section
variable (P : Program) (w : World)
def ObjOk (H : Hp) (h : Heap) (a : Addr) : HO → Prop
  | .lst xs => xs.length ≤ sizeLine ∧ ∃ (its : List Value) (n : Nat), Vals xs its ∧ h.get? a = some { cls := .type "list", data := .seq its.toArray n }
  | .tup xs => xs.length ≤ sizeLine ∧ ∃ its : List Value, Vals xs its ∧ IsTup h a its.toArray
  | .dK kvs => kvs.length ≤ sizeLine ∧ (a == sysModules) = false ∧ ∃ vs, KV kvs vs ∧ h.DictOf (mixKind P w) a vs
  | .dT kvs => kvs.length ≤ sizeLine ∧ (a == sysModules) = false ∧ ∃ xs : List (List Key × Addr × Value),
      Paired (fun (p : List Key × V) (q : List Key × Addr × Value) => p.1 = q.1 ∧ H q.2.1 = some (.tup (p.1.map kV)) ∧ RelV p.2 q.2.2) kvs xs ∧
      ∃ o es ep, h.get? a = some o ∧ o.ExactDict ∧ o.data = .dict es ep ∧ es.toList = xs.map (entryOfKey (tupleKind (mixKind P w))) ∧ (xs.map (·.1)).Nodup
  | .set S n => h.SetOf (intKind P w) a S n
  | .ins C dx fs => H dx = some (.own a) ∧ fs.length ≤ 1000 ∧ dx ≠ a ∧ h.get? a = some (PySem.W.instObj C dx) ∧
      ∃ mA, h.Ns1 dx mA ∧ (∀ f, RelO (fs.lookup f) (mA f)) ∧ PySem.Within mA (fs.map (·.1))
  | .own _ => ∃ o, h.get? a = some o
  | .xd fs => ∃ mA, h.Ns1 a mA ∧ ∀ f, RelO (fs.lookup f) (mA f)
  | .rng lo hi => ∃ t u v, h.get? a = some { cls := .type "range", data := .fields #[.int lo t, .int hi u, .int 1 v] }
  | .frz o u => h.get? a = some o ∧ ObjOk H h a u
  | .tbl ps => h.get? a = some { cls := .none, data := .fields ps }
  | .met f x => h.get? a = some (PySem.W.methodObj (.ref f) (.ref x))
  | .ext φ => φ h ∧ (∃ o, h.get? a = some o) ∧ ∀ h1 h2 : Heap, φ h1 → (∀ o, h1.get? a = some o → h2.get? a = some o) → φ h2
def HOk (H : Hp) (h : Heap) : Prop := ∀ a o, H a = some o → ObjOk P w H h a o
end

section
variable {P : Program} {w : World} {H H' : Hp} {h h' : Heap} {a : Addr} {o : HO}
theorem ObjOk.lt (x : ObjOk P w H h a o) : a < h.objs.size := by
  cases o with
  | lst xs => obtain ⟨_, _, _, _, e⟩ := x; exact Heap.lt_size e
  | tup xs => obtain ⟨_, _, _, p⟩ := x; exact p.lt
  | dK kvs => obtain ⟨_, _, _, _, o, _, _, e, _⟩ := x; exact Heap.lt_size e
  | dT kvs => obtain ⟨_, _, _, _, o, _, _, e, _⟩ := x; exact Heap.lt_size e
  | set S n => obtain ⟨o, _, _, _, e, _⟩ := x; exact Heap.lt_size e
  | ins C dx fs => obtain ⟨_, _, _, e, _⟩ := x; exact Heap.lt_size e
  | own y => obtain ⟨_, e⟩ := x; exact Heap.lt_size e
  | xd fs => obtain ⟨_, ⟨_, _, _, e, _⟩, _⟩ := x; exact Heap.lt_size e
  | rng lo hi => obtain ⟨_, _, _, e⟩ := x; exact Heap.lt_size e
  | frz ob u => obtain ⟨e, _⟩ := x; exact Heap.lt_size e
  | tbl ps => exact Heap.lt_size (show h.get? a = some _ from x)
  | met f y => exact Heap.lt_size (show h.get? a = some _ from x)
  | ext φ => obtain ⟨_, ⟨_, e⟩, _⟩ := x; exact Heap.lt_size e
theorem Paired.mapP {α β : Type} {F G : α → β → Prop} : ∀ {l₁ : List α} {l₂ : List β}, Paired F l₁ l₂ → (∀ a b, F a b → G a b) → Paired G l₁ l₂
  | _, _, .nil, _ => .nil
  | _, _, .cons r t, f => .cons (f _ _ r) (Paired.mapP t f)
theorem ObjOk.stay (x : ObjOk P w H h a o) (k : ∀ b u, (b = a ∨ H b = some (.own a)) → h.get? b = some u → h'.get? b = some u)
    (ho : ∀ b, H b = some (.own a) → H' b = some (.own a)) (ht : ∀ b xs, H b = some (.tup xs) → H' b = some (.tup xs)) : ObjOk P w H' h' a o := by
  induction o with
  | lst xs => obtain ⟨z, its, n, r, e⟩ := x; exact ⟨z, its, n, r, k _ _ (.inl rfl) e⟩
  | tup xs => obtain ⟨z, its, r, ob, e, c⟩ := x; exact ⟨z, its, r, ob, k _ _ (.inl rfl) e, c⟩
  | dK kvs => obtain ⟨z, y, vs, r, ob, es, ep, e, c⟩ := x; exact ⟨z, y, vs, r, ob, es, ep, k _ _ (.inl rfl) e, c⟩
  | dT kvs =>
    obtain ⟨z, y, xs, r, ob, es, ep, e, c⟩ := x
    exact ⟨z, y, xs, Paired.mapP r fun p q z => ⟨z.1, ht _ _ z.2.1, z.2.2⟩, ob, es, ep, k _ _ (.inl rfl) e, c⟩
  | set S n => obtain ⟨ob, es, ep, t, e, c⟩ := x; exact ⟨ob, es, ep, t, k _ _ (.inl rfl) e, c⟩
  | ins C dx fs =>
    obtain ⟨d, z, ne, e, mA, ⟨od, es, ep, e2, c⟩, r⟩ := x
    exact ⟨ho _ d, z, ne, k _ _ (.inl rfl) e, mA, ⟨od, es, ep, k _ _ (.inr d) e2, c⟩, r⟩
  | own y => obtain ⟨ob, e⟩ := x; exact ⟨ob, k _ _ (.inl rfl) e⟩
  | xd fs => obtain ⟨mA, ⟨od, es, ep, e, c⟩, r⟩ := x; exact ⟨mA, ⟨od, es, ep, k _ _ (.inl rfl) e, c⟩, r⟩
  | rng lo hi => obtain ⟨t, u, v, e⟩ := x; exact ⟨t, u, v, k _ _ (.inl rfl) e⟩
  | frz ob u ih => obtain ⟨e, q⟩ := x; exact ⟨k _ _ (.inl rfl) e, ih q⟩
  | tbl ps =>
    have e : h.get? a = some { cls := .none, data := .fields ps } := x
    show h'.get? a = some { cls := .none, data := .fields ps }
    exact k a _ (.inl rfl) e
  | met f y =>
    have e : h.get? a = some (PySem.W.methodObj (.ref f) (.ref y)) := x
    show h'.get? a = some (PySem.W.methodObj (.ref f) (.ref y))
    exact k a _ (.inl rfl) e
  | ext φ => obtain ⟨p, ⟨o, e⟩, st⟩ := x; exact ⟨st _ _ p fun o q => k _ _ (.inl rfl) q, ⟨o, k _ _ (.inl rfl) e⟩, st⟩
theorem HOk.lt (x : HOk P w H h) (e : H a = some o) : a < h.objs.size := (x a o e).lt
theorem HOk.fresh (x : HOk P w H h) (e : h.objs.size ≤ a) : H a = none := by
  cases q : H a with
  | none => rfl
  | some u => exact absurd (Nat.lt_of_lt_of_le (x.lt q) e) (Nat.lt_irrefl _)
theorem HOk.kept (x : HOk P w H h) (k : ∀ b u, h.get? b = some u → h'.get? b = some u) : HOk P w H h' := fun a o e =>
  (x a o e).stay (fun b u _ q => k b u q) (fun _ q => q) fun _ _ q => q
theorem HOk.laid (x : HOk P w H h) (k : ∀ b u, h.get? b = some u → h'.get? b = some u) (hp : h.objs.size ≤ a) (new : ObjOk P w (upd H a o) h' a o) : HOk P w (upd H a o) h' := fun b u e => by
  have hn := x.fresh hp
  by_cases hb : b = a
  · subst hb; rw [upd_same] at e; cases e; exact new
  · rw [upd_ne hb] at e
    exact (x b u e).stay (fun c v _ q => k c v q) (fun c q => by rw [upd_ne (ne_of_none q hn)]; exact q) fun c xs q => by rw [upd_ne (ne_of_none q hn)]; exact q
end

def Rd (H : Hp) (a : Addr) (u : HO) : Prop := H a = some u ∨ ∃ o, H a = some (.frz o u)
theorem Rd.of {H : Hp} {a : Addr} {u : HO} (h : H a = some u) : Rd H a u := .inl h
theorem Rd.ok {P : Program} {w : World} {H : Hp} {h : Heap} {a : Addr} {u : HO} (r : Rd H a u) (x : HOk P w H h) : ObjOk P w H h a u := by
  rcases r with r | ⟨o, r⟩
  · exact x a u r
  · obtain ⟨_, q⟩ := x a _ r
    exact q
def Mut : Option HO → Prop
  | some (.lst _) => True
  | some (.dK _) => True
  | some (.dT _) => True
  | some (.set _ _) => True
  | some (.ins _ _ _) => True
  | some (.ext _) => True
  | _ => False
section
variable {P : Program} {w : World} {H : Hp} {h h' : Heap} {x e : Addr} {o' : HO}
theorem HOk.write (ok : HOk P w H h) (mu : Mut (H x)) (he : e = x ∨ H e = some (.own x)) (k : ∀ b u, b ≠ e → h.get? b = some u → h'.get? b = some u) (heo : ∃ u, h'.get? e = some u)
    (new : ObjOk P w (upd H x o') h' x o') : HOk P w (upd H x o') h' := fun b u q => by
  have nown : ∀ c y, H c = some (.own y) → c ≠ x := fun c y r z => by subst z; rw [r] at mu; exact mu
  have ntup : ∀ c xs, H c = some (.tup xs) → c ≠ x := fun c xs r z => by subst z; rw [r] at mu; exact mu
  by_cases hb : b = x
  · subst hb; rw [upd_same] at q; cases q; exact new
  · rw [upd_ne hb] at q
    by_cases hbe : b = e
    · have q' : H b = some (.own x) := by
        rcases he with z | z
        · exact absurd (hbe.trans z) hb
        · rw [hbe]; exact z
      rw [q] at q'; cases q'
      obtain ⟨v, hv⟩ := heo
      exact ⟨v, by rw [hbe]; exact hv⟩
    · refine (ok b u q).stay (fun c v hc r => k c v ?_ r) (fun c r => by rw [upd_ne (nown c b r)]; exact r) fun c xs r => by rw [upd_ne (ntup c xs r)]; exact r
      rcases hc with rfl | hc
      · exact hbe
      · rintro rfl
        rcases he with z | z
        · exact nown c b hc z
        · rw [hc] at z; cases z; exact hb rfl
end

structure Un (fs ex : List Addr) (H H' : Hp) (h h' : Heap) : Prop where
  keep : ∀ b o, h.get? b = some o → H b = none → b ∉ fs → b ∉ ex → h'.get? b = some o
  slot : ∀ b o, h.get? b = some o → H b = none → b ∈ fs → b ∉ ex → ∃ sl, h'.get? b = some { o with slots := sl }
  free : ∀ b o, h.get? b = some o → H b = none → b ∉ ex → H' b = none
  there : ∀ b o, h.get? b = some o → b ∉ ex → ∃ o', h'.get? b = some o'
  tups : ∀ b xs, H b = some (.tup xs) → H' b = some (.tup xs)
  frzs : ∀ b o u, H b = some (.frz o u) → H' b = some (.frz o u)
  tbls : ∀ b ps, H b = some (.tbl ps) → ∃ more, H' b = some (.tbl (ps ++ more))
section
variable {fs fs' ex ex' : List Addr} {H H1 H2 : Hp} {h h1 h2 h' : Heap} {a x e : Addr} {o : HO}
theorem Un.any (u : Un fs ex H H1 h h1) {b : Addr} {ob : Obj} (q : h.get? b = some ob) (n : H b = none) (hx : b ∉ ex) : ∃ sl, h1.get? b = some { ob with slots := sl } := by
  by_cases hb : b ∈ fs
  · exact u.slot b ob q n hb hx
  · exact ⟨ob.slots, u.keep b ob q n hb hx⟩
theorem Un.trans (a : Un fs ex H H1 h h1) (b : Un fs ex H1 H2 h1 h2) : Un fs ex H H2 h h2 where
  keep := fun c ob q n hc hx => b.keep c ob (a.keep c ob q n hc hx) (a.free c ob q n hx) hc hx
  slot := fun c ob q n hc hx => by
    obtain ⟨sl, e1⟩ := a.slot c ob q n hc hx
    obtain ⟨sl', e2⟩ := b.slot c _ e1 (a.free c ob q n hx) hc hx
    exact ⟨sl', e2⟩
  free := fun c ob q n hx => by
    obtain ⟨o', e1⟩ := a.there c ob q hx
    exact b.free c o' e1 (a.free c ob q n hx) hx
  there := fun c ob q hx => by
    obtain ⟨o', e1⟩ := a.there c ob q hx
    exact b.there c o' e1 hx
  tups := fun c xs q => b.tups c xs (a.tups c xs q)
  frzs := fun c ob xs q => b.frzs c ob xs (a.frzs c ob xs q)
  tbls := fun c ps q => by
    obtain ⟨m1, e1⟩ := a.tbls c ps q
    obtain ⟨m2, e2⟩ := b.tbls c _ e1
    exact ⟨m1 ++ m2, by rw [e2, Array.append_assoc]⟩
theorem Un.kept (k : ∀ b u, h.get? b = some u → h'.get? b = some u) : Un fs ex H H h h' :=
  ⟨fun b ob q _ _ _ => k b ob q, fun b ob q _ _ _ => ⟨ob.slots, k b ob q⟩, fun _ _ _ n _ => n, fun b ob q _ => ⟨ob, k b ob q⟩, fun _ _ q => q, fun _ _ _ q => q, fun _ ps q => ⟨#[], by rw [q]; simp⟩⟩
theorem Un.refl : Un fs ex H H h h := Un.kept fun _ _ q => q
theorem Un.laid (k : ∀ b u, h.get? b = some u → h'.get? b = some u) (hp : h.objs.size ≤ a) (hn : H a = none) : Un fs ex H (upd H a o) h h' where
  keep := fun b u q _ _ _ => k b u q
  slot := fun b u q _ _ _ => ⟨u.slots, k b u q⟩
  free := fun b u q n _ => by rw [upd_ne (Nat.ne_of_lt (Nat.lt_of_lt_of_le (Heap.lt_size q) hp))]; exact n
  there := fun b u q _ => ⟨u, k b u q⟩
  tups := fun b xs q => by rw [upd_ne (ne_of_none q hn)]; exact q
  frzs := fun b u xs q => by rw [upd_ne (ne_of_none q hn)]; exact q
  tbls := fun b ps q => ⟨#[], by rw [upd_ne (ne_of_none q hn), q]; simp⟩
theorem Un.write (mu : Mut (H x)) (he : e = x ∨ H e = some (.own x)) (k : ∀ b u, b ≠ e → h.get? b = some u → h'.get? b = some u) (heo : ∃ u, h'.get? e = some u) : Un fs ex H (upd H x o) h h' := by
  have hx : ∀ b, H b = none → b ≠ x := fun b n z => by subst z; rw [n] at mu; exact mu
  have hb : ∀ b, H b = none → b ≠ e := fun b n z => by
    subst z
    rcases he with r | r
    · exact hx b n r
    · rw [n] at r; cases r
  have hm : ∀ b u, H b = some u → ¬ Mut (some u) → b ≠ x := fun b u q nm z => by subst z; rw [q] at mu; exact nm mu
  refine ⟨fun b u q n _ _ => k b u (hb b n) q, fun b u q n _ _ => ⟨u.slots, k b u (hb b n) q⟩, fun b u q n _ => by rw [upd_ne (hx b n)]; exact n, fun b u q _ => ?_,
    fun b xs q => by rw [upd_ne (hm b _ q fun z => z)]; exact q, fun b u xs q => by rw [upd_ne (hm b _ q fun z => z)]; exact q, fun b ps q => ⟨#[], by rw [upd_ne (hm b _ q fun z => z), q]; simp⟩⟩
  by_cases hbe : b = e
  · subst hbe; exact heo
  · exact ⟨u, k b u hbe q⟩
theorem Un.mono (u : Un fs ex H H1 h h1) (hs : ∀ b ∈ fs, b ∈ fs') (hx : ∀ b ∈ ex, b ∈ ex') : Un fs' ex' H H1 h h1 :=
  ⟨fun b ob q n hb he => u.keep b ob q n (fun z => hb (hs b z)) fun z => he (hx b z), fun _ _ q n _ he => u.any q n fun z => he (hx _ z), fun b ob q n he => u.free b ob q n fun z => he (hx b z), fun b ob q he => u.there b ob q fun z => he (hx b z), u.tups, u.frzs, u.tbls⟩
end

def trk (h : Heap) (H : Hp) : List Addr := (List.range h.objs.size).filter fun a => (H a).isSome
def hidT (h : Heap) (H : Hp) : Heap := PySem.W.hideAll h (trk h H)
theorem hidT_size (h : Heap) (H : Hp) : (hidT h H).objs.size = h.objs.size := PySem.W.hideAll_size _ _
theorem hidT_get {h : Heap} {H : Hp} {b : Addr} {o : Obj} (e : h.get? b = some o) (n : H b = none) : (hidT h H).get? b = some o :=
  PySem.W.hideAll_get _ e fun hm => by
    have q : (H b).isSome = true := (List.mem_filter.mp hm).2
    rw [n] at q; simp at q
theorem of_hidT {h : Heap} {H : Hp} {b : Addr} {o : Obj} (e : (hidT h H).get? b = some o) : h.get? b = some o ∧ H b = none := by
  have e' : h.get? b = some o := PySem.W.of_hideAll (trk h H) e
  refine ⟨e', ?_⟩
  cases q : H b with
  | none => rfl
  | some x =>
    have hm : b ∈ trk h H := List.mem_filter.mpr ⟨List.mem_range.mpr (Heap.lt_size e'), by simp [q]⟩
    have z : (hidT h H).get? b = none := PySem.W.hideAll_none (trk h H) hm
    rw [z] at e; cases e

def allNews (g h : Heap) (L : Addr) : List (Addr × Obj) := (List.range h.objs.size).filterMap fun a => if a = L ∨ (g.get? a).isSome = true then none else (h.get? a).map fun o => (a, o)
def rest (g h : Heap) (L d : Addr) : List (Addr × Obj) := (allNews g h L).filter fun p => decide (p.1 ≠ d)
end L2

namespace L2
open PySem PySem.Spec PyProof.Rows

structure Mod (K : PySem.W.Frag) (mg : Str → Option Value) (base : Heap) : Prop where
  kin : K.In base
  glob : base.Ns mainGlobals mg
  blt : ∃ mb, base.Ns builtinsNs mb ∧ ∀ x : Str, x ≠ "__name__" → mb x = bootBuiltins x
  nolimit : base.NoLimit

structure Cx where
  prog : Program
  w : World
  K : PySem.W.Frag
  mg : Str → Option Value
  base : Heap
  A : Around
  N : List Str
  s₀ : Shared
  H₀ : Hp
  env : Env
  outer : List Env
  stack : List Env
  ex : List Addr
  fn : Str → Bool
  calm : Bool
  pn : List (Addr × Obj)
  xe : Value → Shared → Prop
def frs (l : List Env) : List Addr := l.filterMap (·.frame)
abbrev Cx.fs (X : Cx) : List Addr := frs X.outer

def Vis (sc : Scope) (x : Str) : Prop := sc.names.lookup x = some .local ∨ sc.names.lookup x = some .cell ∨ sc.names.lookup x = some .free
def Loc (sc : Scope) (x : Str) : Prop := sc.names.lookup x = some .local ∨ sc.names.lookup x = some .cell
def Look (env : Env) (h : Heap) (m : Str → Option Value) (x : Str) (u : Value) : Prop :=
  (env.kindOf x = some .local ∧ m x = some u) ∨ ((env.kindOf x = some .cell ∨ env.kindOf x = some .free) ∧ ∃ c, env.cells.lookup x = some c ∧ h.IsCell c (some u))

structure Cx.Ok (X : Cx) : Prop where
  mod : Mod X.K X.mg X.base
  kind : X.env.scope.kind = .function
  glob : X.env.globals = mainGlobals
  blt : X.env.builtins = builtinsNs
  above : X.s₀.heap.objs.size ≤ X.env.locals
  inj : ∀ x y c, X.env.cells.lookup x = some c → X.env.cells.lookup y = some c → x = y
  has : ∀ x, (X.env.kindOf x = some .cell ∨ X.env.kindOf x = some .free) → ∃ c, X.env.cells.lookup x = some c
  cab : ∀ x c, X.fn x = true → X.env.cells.lookup x = some c → X.s₀.heap.objs.size ≤ c
  hd : X.calm = true → X.A.handled = none
  frames : X.A.frames = some X.stack
  stk : X.stack = X.outer ∨ (X.stack = X.env :: X.outer ∧ X.env.frame = some X.env.locals)
  exf : ∀ b ∈ X.ex, b ≠ X.env.locals ∧ ∀ x c, X.env.cells.lookup x = some c → c ≠ b
  bs : ∀ b o, X.base.get? b = some o → X.s₀.heap.get? b = some o ∧ X.H₀ b = none
  bsz : X.base.objs.size ≤ X.s₀.heap.objs.size
  noex : ∀ b o, X.base.get? b = some o → b ∉ X.ex
  exfs : ∀ b ∈ X.ex, b ∉ X.fs
  funs : X.s₀.heap.FunFrames X.base X.outer
  frf : ∀ b ∈ X.fs, X.H₀ b = none

structure Inv (X : Cx) (pins : List (Addr × Obj)) (σ : List (Option V)) (H : Hp) (s : Shared) : Prop where
  ok : X.Ok
  os : s.os = X.s₀.os
  bare : AllBare s.gens
  base : Un X.fs X.ex X.H₀ H X.s₀.heap s.heap
  loc : ∃ m, s.heap.Ns X.env.locals m ∧ ∀ (i : Nat) (x : Str) (v : V), X.N[i]? = some x → σ[i]? = some (some v) → Vis X.env.scope x → ∃ u, RelV v u ∧ Look X.env s.heap m x u
  cell : ∀ x c, X.env.cells.lookup x = some c → ∃ v, s.heap.IsCell c v
  free : H X.env.locals = none
  freeC : ∀ x c, X.env.cells.lookup x = some c → H c = none
  pin : ∀ p ∈ X.pn ++ pins, s.heap.get? p.1 = some p.2 ∧ H p.1 = none ∧ p.1 ≠ X.env.locals ∧ p.1 ∉ X.fs ∧ ∀ v, p.2.data ≠ .cell v
  hok : HOk X.prog X.w H s.heap
  len : σ.length = X.N.length

section
variable {X : Cx} {pins : List (Addr × Obj)} {σ : List (Option V)} {H H' : Hp} {s : Shared} {h' : Heap}

theorem Cx.Ok.nofr (ok : X.Ok) {b : Addr} {o : Obj} (e : X.base.get? b = some o) : b ∉ X.fs := fun hb => by
  have := (ok.funs.mem hb).1
  rw [e] at this; cases this
theorem Inv.bs (I : Inv X pins σ H s) : ∀ b o, X.base.get? b = some o → s.heap.get? b = some o ∧ H b = none := fun b o e =>
  ⟨I.base.keep b o (I.ok.bs b o e).1 (I.ok.bs b o e).2 (I.ok.nofr e) (I.ok.noex b o e), I.base.free b o (I.ok.bs b o e).1 (I.ok.bs b o e).2 (I.ok.noex b o e)⟩
theorem Inv.bk (I : Inv X pins σ H s) : ∀ b o, X.base.get? b = some o → s.heap.get? b = some o := fun b o e => (I.bs b o e).1
theorem Inv.mod (I : Inv X pins σ H s) : Mod X.K X.mg X.base := I.ok.mod
theorem Inv.kIn (I : Inv X pins σ H s) : X.K.In s.heap := I.ok.mod.kin.keeps I.bk
theorem Inv.nolimit (I : Inv X pins σ H s) : s.heap.NoLimit := I.ok.mod.nolimit.keeps I.bk
theorem Inv.fr (I : Inv X pins σ H s) : ∃ m, Fr X.base X.env.locals s.heap m :=
  let ⟨m, hn, _⟩ := I.loc
  ⟨m, hn, I.bk, Nat.le_trans I.ok.bsz I.ok.above⟩
theorem Inv.lt (I : Inv X pins σ H s) : X.env.locals < s.heap.objs.size := let ⟨_, hn, _⟩ := I.loc; hn.lt
theorem Inv.sz (I : Inv X pins σ H s) : X.s₀.heap.objs.size ≤ s.heap.objs.size := Nat.le_trans I.ok.above (Nat.le_of_lt I.lt)
theorem Inv.nofs (I : Inv X pins σ H s) {a : Addr} (h : s.heap.objs.size ≤ a) : a ∉ X.fs := fun hb => by
  obtain ⟨_, o, ho, _⟩ := I.ok.funs.mem hb
  exact absurd (Nat.lt_of_lt_of_le (Heap.lt_size ho) (Nat.le_trans I.sz h)) (Nat.lt_irrefl _)
theorem Inv.cne (I : Inv X pins σ H s) : ∀ x c, X.env.cells.lookup x = some c → c ≠ X.env.locals := fun x c e z => by
  obtain ⟨v, o, ho, hd⟩ := I.cell x c e
  obtain ⟨m, ⟨o', es, ep, ho', hd', _⟩, _⟩ := I.loc
  rw [z, ho'] at ho; cases ho; rw [hd'] at hd; cases hd
theorem Inv.funs (I : Inv X pins σ H s) : s.heap.FunFrames X.base X.outer := by
  have all : ∀ (l : List Env), (∀ b ∈ frs l, b ∈ X.fs) → X.s₀.heap.FunFrames X.base l → s.heap.FunFrames X.base l := by
    intro l
    induction l with
    | nil => intro _ _; trivial
    | cons env r ih =>
      intro hs hl
      obtain ⟨hk, ⟨L, o, hf, hn, ho, hd⟩, hr⟩ := hl
      have hL : L ∈ X.fs := hs L (by unfold frs; rw [List.filterMap_cons, hf]; exact List.mem_cons_self)
      obtain ⟨sl, e⟩ := I.base.slot L o ho (I.ok.frf L hL) hL fun z => I.ok.exfs L z hL
      exact ⟨hk, ⟨L, _, hf, hn, e, hd⟩, ih (fun b hb => hs b (by unfold frs; rw [List.filterMap_cons, hf]; exact List.mem_cons_of_mem _ hb)) hr⟩
  exact all X.outer (fun _ hb => hb) I.ok.funs

theorem Inv.stack (I : Inv X pins σ H s) : s.heap.FunFrames X.base X.stack := by
  rcases I.ok.stk with e | ⟨e, hf⟩
  · rw [e]; exact I.funs
  · rw [e]
    obtain ⟨m, hn, _⟩ := I.loc
    refine .cons (by rw [I.ok.kind]; decide) hf hn ?_ I.funs
    exact Heap.get?_none_of_le (Nat.le_trans I.ok.bsz I.ok.above)
theorem Inv.stkSub (I : Inv X pins σ H s) : ∀ b ∈ frs X.stack, b ∈ X.env.locals :: X.fs := fun b hb => by
  rcases I.ok.stk with e | ⟨e, hf⟩
  · rw [e] at hb; exact List.mem_cons_of_mem _ hb
  · rw [e] at hb
    unfold frs at hb
    rw [List.filterMap_cons, hf] at hb
    exact hb
theorem Inv.stkFree (I : Inv X pins σ H s) : ∀ b ∈ frs X.stack, H b = none := fun b hb => by
  rcases List.mem_cons.mp (I.stkSub b hb) with e | hb
  · rw [e]; exact I.free
  · obtain ⟨_, o, ho, _⟩ := I.ok.funs.mem hb
    exact I.base.free b o ho (I.ok.frf b hb) fun z => I.ok.exfs b z hb

theorem Inv.step {g' : Array GenState} {t' : Nat} {d' : Drawn} {ch : List Addr} (I : Inv X pins σ H s)
    (hch : ∀ b ∈ ch, (b ∈ X.ex ∨ X.s₀.heap.objs.size ≤ b) ∧ b ≠ X.env.locals ∧ (∀ x c, X.env.cells.lookup x = some c → c ≠ b) ∧ ∀ p ∈ X.pn ++ pins, p.1 ≠ b)
    (keep : ∀ b o, b ≠ X.env.locals → b ∉ X.fs → b ∉ ch → s.heap.get? b = some o → H b = none → h'.get? b = some o)
    (slot : ∀ b o, b ≠ X.env.locals → b ∈ X.fs → b ∉ ch → s.heap.get? b = some o → H b = none → ∃ sl, h'.get? b = some { o with slots := sl }) (free : ∀ b o, b ∉ ch → s.heap.get? b = some o → H b = none → H' b = none)
    (there : ∀ b o, b ∉ ch → s.heap.get? b = some o → ∃ o', h'.get? b = some o')
    (tups : ∀ b xs, H b = some (.tup xs) → H' b = some (.tup xs)) (frzs : ∀ b o u, H b = some (.frz o u) → H' b = some (.frz o u)) (tbls : ∀ b ps, H b = some (.tbl ps) → ∃ more, H' b = some (.tbl (ps ++ more)))
    (ns : ∀ m, s.heap.Ns X.env.locals m → h'.Ns X.env.locals m) (hok : HOk X.prog X.w H' h') (hg : AllBare g') :
    Inv X pins σ H' { s with heap := h', gens := g', drawn := d', toks := t' } := by
  have neL : ∀ b o, X.s₀.heap.get? b = some o → b ≠ X.env.locals := fun b o e => Nat.ne_of_lt (Nat.lt_of_lt_of_le (Heap.lt_size e) I.ok.above)
  have neC : ∀ b o, X.s₀.heap.get? b = some o → b ∉ X.ex → b ∉ ch := fun b o e hx hb => by
    rcases (hch b hb).1 with z | z
    · exact hx z
    · exact absurd (Nat.lt_of_lt_of_le (Heap.lt_size e) z) (Nat.lt_irrefl _)
  have cellK : ∀ x c, X.env.cells.lookup x = some c → ∀ v, s.heap.IsCell c v → h'.IsCell c v := fun x c e v ⟨o, ho, hd⟩ => by
    have nch : c ∉ ch := fun z => (hch c z).2.2.1 x c e rfl
    by_cases hc : c ∈ X.fs
    · obtain ⟨sl, q⟩ := slot c o (I.cne x c e) hc nch ho (I.freeC x c e)
      exact ⟨_, q, hd⟩
    · exact ⟨o, keep c o (I.cne x c e) hc nch ho (I.freeC x c e), hd⟩
  refine ⟨I.ok, I.os, hg, ⟨fun b o e n hb hx => ?_, fun b o e n hb hx => ?_, fun b o e n hx => ?_, fun b o e hx => ?_, fun b xs e => tups b xs (I.base.tups b xs e), fun b o xs e => frzs b o xs (I.base.frzs b o xs e), fun b ps e => ?_⟩, ?_, fun x c e => ?_, ?_, fun x c e => ?_, fun p hp => ?_, hok, I.len⟩
  · exact keep b o (neL b o e) hb (neC b o e hx) (I.base.keep b o e n hb hx) (I.base.free b o e n hx)
  · obtain ⟨sl, e1⟩ := I.base.slot b o e n hb hx
    obtain ⟨sl', e2⟩ := slot b _ (neL b o e) hb (neC b o e hx) e1 (I.base.free b o e n hx)
    exact ⟨sl', e2⟩
  · obtain ⟨o', e1⟩ := I.base.there b o e hx
    exact free b o' (neC b o e hx) e1 (I.base.free b o e n hx)
  · obtain ⟨o', e1⟩ := I.base.there b o e hx
    exact there b o' (neC b o e hx) e1
  · obtain ⟨m1, e1⟩ := I.base.tbls b ps e
    obtain ⟨m2, e2⟩ := tbls b _ e1
    exact ⟨m1 ++ m2, by rw [e2, Array.append_assoc]⟩
  · obtain ⟨m, hn, hl⟩ := I.loc
    refine ⟨m, ns m hn, fun i x v e1 e2 e3 => ?_⟩
    obtain ⟨u, r, l⟩ := hl i x v e1 e2 e3
    refine ⟨u, r, ?_⟩
    rcases l with l | ⟨k, c, e, z⟩
    · exact .inl l
    · exact .inr ⟨k, c, e, cellK x c e _ z⟩
  · obtain ⟨v, z⟩ := I.cell x c e
    exact ⟨v, cellK x c e v z⟩
  · obtain ⟨m, ⟨o, _, _, ho, _⟩, _⟩ := I.loc
    exact free _ o (fun z => (hch _ z).2.1 rfl) ho I.free
  · obtain ⟨v, o, ho, hd⟩ := I.cell x c e
    exact free c o (fun z => (hch c z).2.2.1 x c e rfl) ho (I.freeC x c e)
  · obtain ⟨e, n, ne, nf, d⟩ := I.pin p hp
    have nch : p.1 ∉ ch := fun z => (hch p.1 z).2.2.2 p hp rfl
    exact ⟨keep p.1 p.2 ne nf nch e n, free p.1 p.2 nch e n, ne, nf, d⟩
theorem Inv.un {t' : Nat} (I : Inv X pins σ H s) (u : Un X.fs [] H H' s.heap h') (hok : HOk X.prog X.w H' h') : Inv X pins σ H' { s with heap := h', toks := t' } := by
  obtain ⟨m, ⟨o, es, ep, ho, r⟩, _⟩ := id I.loc
  obtain ⟨sl, hL⟩ := u.any ho I.free (by simp)
  exact I.step (g' := s.gens) (d' := s.drawn) (ch := []) (fun _ z => nomatch z) (fun b o _ hb _ e n => u.keep b o e n hb (by simp)) (fun b o _ hb _ e n => u.slot b o e n hb (by simp)) (fun b o _ e n => u.free b o e n (by simp)) (fun b o _ e => u.there b o e (by simp)) u.tups u.frzs u.tbls (fun m' hm => by
    obtain ⟨o', es', ep', ho', r'⟩ := hm
    rw [ho] at ho'; cases ho'
    exact ⟨_, es', ep', hL, r'⟩) hok I.bare
theorem Inv.call {g' : Array GenState} {t' : Nat} {d' : Drawn} {ch : List Addr} (I : Inv X pins σ H s) (u : Un (frs X.stack) ch H H' s.heap h') (hok : HOk X.prog X.w H' h') (hg : AllBare g')
    (hch : ∀ b ∈ ch, (b ∈ X.ex ∨ X.s₀.heap.objs.size ≤ b) ∧ b ≠ X.env.locals ∧ (∀ x c, X.env.cells.lookup x = some c → c ≠ b) ∧ ∀ p ∈ X.pn ++ pins, p.1 ≠ b) :
    Inv X pins σ H' { s with heap := h', gens := g', drawn := d', toks := t' } := by
  obtain ⟨m, ⟨o, es, ep, ho, r⟩, _⟩ := id I.loc
  obtain ⟨sl, hL⟩ := u.any ho I.free fun z => (hch _ z).2.1 rfl
  exact I.step (ch := ch) hch (fun b o hL hb hc e n => u.keep b o e n (fun z => (List.mem_cons.mp (I.stkSub b z)).elim hL hb) hc) (fun b o _ _ hc e n => u.any e n hc) (fun b o hc e n => u.free b o e n hc) (fun b o hc e => u.there b o e hc) u.tups u.frzs u.tbls (fun m' hm => by
    obtain ⟨o', es', ep', ho', r'⟩ := hm
    rw [ho] at ho'; cases ho'
    exact ⟨_, es', ep', hL, r'⟩) hok hg
theorem Inv.turned {t' : Nat} {it : Addr} (I : Inv X pins σ H s) (k : ∀ b o, b ≠ it → s.heap.get? b = some o → h'.get? b = some o) (hn : H it = none) (hL : it ≠ X.env.locals)
    (h1 : it ∈ X.ex ∨ X.s₀.heap.objs.size ≤ it) (h2 : ∀ x c, X.env.cells.lookup x = some c → c ≠ it) (h3 : ∀ p ∈ X.pn ++ pins, p.1 ≠ it) : Inv X pins σ H { s with heap := h', toks := t' } := by
  have nit : ∀ b u, H b = some u → b ≠ it := fun b u e z => by rw [z, hn] at e; cases e
  refine I.step (g' := s.gens) (d' := s.drawn) (ch := [it]) (fun b hb => ?_) (fun b o _ _ hc e _ => k b o (fun z => hc (by simp [z])) e) (fun b o _ _ hc e _ => ⟨o.slots, k b o (fun z => hc (by simp [z])) e⟩) (fun _ _ _ _ n => n)
    (fun b o hc e => ⟨o, k b o (fun z => hc (by simp [z])) e⟩) (fun _ _ e => e) (fun _ _ _ e => e) (fun b ps e => ⟨#[], by rw [e]; simp⟩) (fun m hm => ?_) (fun b u e => ?_) I.bare
  · have e : b = it := by simpa using hb
    subst e
    exact ⟨h1, hL, h2, h3⟩
  · obtain ⟨o, es, ep, ho, r⟩ := hm
    exact ⟨o, es, ep, k _ o (Ne.symm hL) ho, r⟩
  · refine (I.hok b u e).stay (fun c v hc q => k c v ?_ q) (fun _ q => q) fun _ _ q => q
    rcases hc with z | z
    · rw [z]; exact nit b u e
    · exact nit c _ z
theorem Inv.tok (I : Inv X pins σ H s) (t : Nat) : Inv X pins σ H { s with toks := t } := I.un (h' := s.heap) (t' := t) Un.refl I.hok
theorem Inv.kept {t' : Nat} (I : Inv X pins σ H s) (k : ∀ b u, s.heap.get? b = some u → h'.get? b = some u) : Inv X pins σ H { s with heap := h', toks := t' } := I.un (Un.kept k) (I.hok.kept k)
theorem Inv.laid {a : Addr} {o : HO} {t' : Nat} (I : Inv X pins σ H s) (k : ∀ b u, s.heap.get? b = some u → h'.get? b = some u) (hp : s.heap.objs.size ≤ a) (new : ObjOk X.prog X.w (upd H a o) h' a o) :
    Inv X pins σ (upd H a o) { s with heap := h', toks := t' } := I.un (Un.laid k hp (I.hok.fresh hp)) (I.hok.laid k hp new)
theorem Inv.write {x e : Addr} {o : HO} {t' : Nat} (I : Inv X pins σ H s) (mu : Mut (H x)) (he : e = x ∨ H e = some (.own x)) (k : ∀ b u, b ≠ e → s.heap.get? b = some u → h'.get? b = some u) (heo : ∃ u, h'.get? e = some u)
    (new : ObjOk X.prog X.w (upd H x o) h' x o) : Inv X pins σ (upd H x o) { s with heap := h', toks := t' } := I.un (Un.write mu he k heo) (I.hok.write mu he k heo new)
theorem Inv.pins_of {pins' : List (Addr × Obj)} (I : Inv X pins σ H s) (h : ∀ p ∈ pins', s.heap.get? p.1 = some p.2 ∧ H p.1 = none ∧ p.1 ≠ X.env.locals ∧ p.1 ∉ X.fs ∧ ∀ v, p.2.data ≠ .cell v) : Inv X pins' σ H s :=
  ⟨I.ok, I.os, I.bare, I.base, I.loc, I.cell, I.free, I.freeC, fun p hp => (List.mem_append.mp hp).elim (fun z => I.pin p (List.mem_append_left _ z)) (h p), I.hok, I.len⟩

theorem nodup_ix {N : List Str} (hN : N.Nodup) {i j : Nat} {x : Str} (a : N[i]? = some x) (b : N[j]? = some x) : i = j := by
  obtain ⟨h1, e1⟩ := List.getElem?_eq_some_iff.mp a
  obtain ⟨h2, e2⟩ := List.getElem?_eq_some_iff.mp b
  exact (List.getElem_inj hN).mp (e1.trans e2.symm)

theorem store_ok2 {M : Model} {A : Around} {E : Value → Shared → Prop} {i : Nat} {x : Str} {v : V} {u : Value} {Q : Unit → Shared → Prop} (I : Inv X pins σ H s) (hN : X.N.Nodup) (hi : X.N[i]? = some x) (hx : Loc X.env.scope x) (r : RelV v u)
    (h : ∀ s', Inv X pins (σ.set i (some v)) H s' → (∃ a, Heap.SameBut a s.heap s'.heap ∧ (a = X.env.locals ∨ X.env.cells.lookup x = some a)) → Q () s') (hf : X.fn x = true ∨ X.env.scope.names.lookup x = some .local := by first | exact .inl rfl | exact .inr rfl | assumption) : wpAny M A (storeName X.env x u) Q E s := by
  obtain ⟨m, hn, hl⟩ := id I.loc
  have hcls : (X.env.scope.kind == .class || (X.env.scope.kind == .module && X.env.locals != X.env.globals)) = false := by rw [I.ok.kind]; rfl
  have hiσ : i < σ.length := by rw [I.len]; exact (List.getElem?_eq_some_iff.mp hi).1
  have cne := I.cne
  have tracked : ∀ {a : Addr} {h' : Heap}, (∃ o, s.heap.get? a = some o ∧ H a = none) → Heap.SameBut a s.heap h' → HOk X.prog X.w H h' := fun {a h'} ha hs b ob e => by
    obtain ⟨_, _, hfree⟩ := ha
    refine (I.hok b ob e).stay (fun c w' hc q => (hs.2 c ?_).trans q) (fun _ q => q) fun _ _ q => q
    rintro rfl
    rcases hc with rfl | hc
    · rw [hfree] at e; cases e
    · rw [hfree] at hc; cases hc
  rcases hx with hk | hk
  · refine wpAny_storeName_local hk hn (fun h' hn' hs => ?_) hcls
    obtain ⟨oL, _, _, hoL, _⟩ := id hn
    refine h _ ⟨I.ok, I.os, I.bare, ⟨fun b o e n hb hx => ?_, fun b o e n hb hx => ?_, I.base.free, fun b o e hx => ?_, I.base.tups, I.base.frzs, I.base.tbls⟩, ⟨_, hn', fun j y v' e1 e2 e3 => ?_⟩, fun y c e => ?_, I.free, I.freeC, fun p hp => ?_, tracked ⟨oL, hoL, I.free⟩ hs, by simpa using I.len⟩ ⟨_, hs, .inl rfl⟩
    · exact (hs.2 b (Nat.ne_of_lt (Nat.lt_of_lt_of_le (Heap.lt_size e) I.ok.above))).trans (I.base.keep b o e n hb hx)
    · obtain ⟨sl, e1⟩ := I.base.slot b o e n hb hx
      exact ⟨sl, (hs.2 b (Nat.ne_of_lt (Nat.lt_of_lt_of_le (Heap.lt_size e) I.ok.above))).trans e1⟩
    · obtain ⟨o', e1⟩ := I.base.there b o e hx
      exact ⟨o', (hs.2 b (Nat.ne_of_lt (Nat.lt_of_lt_of_le (Heap.lt_size e) I.ok.above))).trans e1⟩
    · by_cases hj : j = i
      · subst hj
        rw [hi] at e1; cases e1
        rw [List.getElem?_set_self hiσ] at e2
        cases e2
        exact ⟨u, r, .inl ⟨hk, by simp⟩⟩
      · rw [List.getElem?_set_ne (Ne.symm hj)] at e2
        obtain ⟨u', r', q⟩ := hl j y v' e1 e2 e3
        refine ⟨u', r', ?_⟩
        rcases q with ⟨k, e⟩ | ⟨k, c, e, z⟩
        · refine .inl ⟨k, ?_⟩
          have : y ≠ x := fun e => hj (nodup_ix hN e1 (e ▸ hi))
          simp [this, e]
        · exact .inr ⟨k, c, e, z.sameBut hs (cne y c e)⟩
    · obtain ⟨w', z⟩ := I.cell y c e
      exact ⟨w', z.sameBut hs (cne y c e)⟩
    · obtain ⟨e, n, ne, nf, d⟩ := I.pin p hp
      exact ⟨(hs.2 p.1 ne).trans e, n, ne, nf, d⟩
  · have hfn : X.fn x = true := by
      rcases hf with z | z
      · exact z
      · rw [z] at hk; cases hk
    obtain ⟨c, hc⟩ := I.ok.has x (.inl hk)
    obtain ⟨w', z⟩ := I.cell x c hc
    refine wpAny_storeName_cell I.ok.kind hk hc z (fun h' hc' hs => ?_)
    obtain ⟨oc, hoc, hocd⟩ := id z
    refine h { s with heap := h' } ⟨I.ok, I.os, I.bare, ⟨fun b o e n hb hx => ?_, fun b o e n hb hx => ?_, I.base.free, fun b o e hx => ?_, I.base.tups, I.base.frzs, I.base.tbls⟩, ⟨m, hn.sameBut hs (Ne.symm (cne x c hc)), fun j y v' e1 e2 e3 => ?_⟩, fun y c' e => ?_, I.free, I.freeC, fun p hp => ?_, tracked ⟨oc, hoc, I.freeC x c hc⟩ hs, by simpa using I.len⟩ ⟨c, hs, .inr hc⟩
    · exact (hs.2 b (Nat.ne_of_lt (Nat.lt_of_lt_of_le (Heap.lt_size e) (I.ok.cab x c hfn hc)))).trans (I.base.keep b o e n hb hx)
    · obtain ⟨sl, e1⟩ := I.base.slot b o e n hb hx
      exact ⟨sl, (hs.2 b (Nat.ne_of_lt (Nat.lt_of_lt_of_le (Heap.lt_size e) (I.ok.cab x c hfn hc)))).trans e1⟩
    · obtain ⟨o', e1⟩ := I.base.there b o e hx
      exact ⟨o', (hs.2 b (Nat.ne_of_lt (Nat.lt_of_lt_of_le (Heap.lt_size e) (I.ok.cab x c hfn hc)))).trans e1⟩
    · by_cases hj : j = i
      · subst hj
        rw [hi] at e1; cases e1
        rw [List.getElem?_set_self hiσ] at e2
        cases e2
        exact ⟨u, r, .inr ⟨.inl hk, c, hc, hc'⟩⟩
      · rw [List.getElem?_set_ne (Ne.symm hj)] at e2
        obtain ⟨u', r', q⟩ := hl j y v' e1 e2 e3
        refine ⟨u', r', ?_⟩
        rcases q with q | ⟨k, c', e, z'⟩
        · exact .inl q
        · refine .inr ⟨k, c', e, z'.sameBut hs ?_⟩
          rintro rfl
          exact hj (nodup_ix hN e1 (I.ok.inj _ _ _ e hc ▸ hi))
    · by_cases hcc : c' = c
      · subst hcc; exact ⟨_, hc'⟩
      · obtain ⟨w2, z2⟩ := I.cell y c' e
        exact ⟨w2, z2.sameBut hs hcc⟩
    · obtain ⟨e, n, ne, nf, d⟩ := I.pin p hp
      refine ⟨(hs.2 p.1 ?_).trans e, n, ne, nf, d⟩
      intro q
      rw [q, hoc] at e
      have q' : oc = p.2 := Option.some.inj e
      exact d w' (by rw [← q']; exact hocd)
theorem store_ok {M : Model} {A : Around} {E : Value → Shared → Prop} {i : Nat} {x : Str} {v : V} {u : Value} {Q : Unit → Shared → Prop} (I : Inv X pins σ H s) (hN : X.N.Nodup) (hi : X.N[i]? = some x) (hx : Loc X.env.scope x) (r : RelV v u)
    (h : ∀ s', Inv X pins (σ.set i (some v)) H s' → Q () s') (hf : X.fn x = true ∨ X.env.scope.names.lookup x = some .local := by first | exact .inl rfl | exact .inr rfl | assumption) : wpAny M A (storeName X.env x u) Q E s :=
  store_ok2 I hN hi hx r (fun s' I' _ => h s' I') hf
theorem Inv.call' {s' : Shared} {ch : List Addr} (I : Inv X pins σ H s) (ho : s'.os = s.os) (u : Un (frs X.stack) ch H H' s.heap s'.heap) (hok : HOk X.prog X.w H' s'.heap) (hg : AllBare s'.gens)
    (hch : ∀ b ∈ ch, (b ∈ X.ex ∨ X.s₀.heap.objs.size ≤ b) ∧ b ≠ X.env.locals ∧ (∀ x c, X.env.cells.lookup x = some c → c ≠ b) ∧ ∀ p ∈ X.pn ++ pins, p.1 ≠ b) : Inv X pins σ H' s' := by
  obtain ⟨h', g', d', t', o'⟩ := s'
  have e : o' = s.os := ho
  subst e
  exact I.call (g' := g') (t' := t') (d' := d') u hok hg hch
end

abbrev XK := Value → Option Addr → Hp → Prop
abbrev St := List (Option V)
abbrev VK := V → Hp → Prop
abbrev TE := St → Hp → VK → Prop
abbrev TT := St → Hp → (Bool → Hp → Prop) → Prop
abbrev TA := St → Hp → (List V → Hp → Prop) → Prop
structure Ends where
  nx : St → Hp → Prop
  rt : VK
  bk : St → Hp → Prop := fun _ _ => False
  ct : St → Hp → Prop := fun _ _ => False
abbrev TS := Ends → St → Hp → Prop

def EP (X : Cx) (pins : List (Addr × Obj)) (σ : St) (Q : VK) (u : Value) (s' : Shared) : Prop := ∃ v H', Inv X pins σ H' s' ∧ RelV v u ∧ Q v H'
def TP (X : Cx) (pins : List (Addr × Obj)) (σ : St) (Q : Bool → Hp → Prop) (b : Bool) (s' : Shared) : Prop := ∃ H', Inv X pins σ H' s' ∧ Q b H'
def AP (X : Cx) (pins : List (Addr × Obj)) (σ : St) (Q : List V → Hp → Prop) (us : List Value) (s' : Shared) : Prop := ∃ vs H', Inv X pins σ H' s' ∧ Vals vs us ∧ Q vs H'
def SP (X : Cx) (pins : List (Addr × Obj)) (D : Ends) (f : Flow) (s' : Shared) : Prop :=
  match f with
  | .next => ∃ σ' H', Inv X pins σ' H' s' ∧ D.nx σ' H'
  | .brk => ∃ σ' H', Inv X pins σ' H' s' ∧ D.bk σ' H'
  | .cont => ∃ σ' H', Inv X pins σ' H' s' ∧ D.ct σ' H'
  | .ret u => ∃ v σ' H', Inv X pins σ' H' s' ∧ RelV v u ∧ D.rt v H'

def PE (X : Cx) (e : Expr) (t : TE) : Prop :=
  ∀ (pins : List (Addr × Obj)) (s : Shared) (σ : St) (H : Hp) (Q : VK), Inv X pins σ H s → t σ H Q → wpAny (model X.prog X.w) X.A (eval e X.env) (EP X pins σ Q) X.xe s
def PT (X : Cx) (e : Expr) (t : TT) : Prop :=
  ∀ (pins : List (Addr × Obj)) (s : Shared) (σ : St) (H : Hp) (Q : Bool → Hp → Prop), Inv X pins σ H s → t σ H Q → wpAny (model X.prog X.w) X.A (isTrue e X.env (eval e X.env)) (TP X pins σ Q) X.xe s
def PW (X : Cx) (e : Expr) (t : TT) : Prop :=
  ∀ (whole : Sem Value) (pins : List (Addr × Obj)) (s : Shared) (σ : St) (H : Hp) (Q : Bool → Hp → Prop), Inv X pins σ H s → t σ H Q → wpAny (model X.prog X.w) X.A (isTrue e X.env whole) (TP X pins σ Q) X.xe s
theorem PW.pt {X : Cx} {e : Expr} {t : TT} (h : PW X e t) : PT X e t := h _
def PA (X : Cx) (es : List Expr) (t : TA) : Prop :=
  ∀ (pos : Pos) (pins : List (Addr × Obj)) (s : Shared) (σ : St) (H : Hp) (Q : List V → Hp → Prop), Inv X pins σ H s → t σ H Q → wpAny (model X.prog X.w) X.A (spliced (backTo pos (starEach es X.env))) (AP X pins σ Q) X.xe s
def PS (X : Cx) (st : Stmt) (t : TS) : Prop :=
  ∀ (pins : List (Addr × Obj)) (s : Shared) (σ : St) (H : Hp) (D : Ends), Inv X pins σ H s → t D σ H → wpAny (model X.prog X.w) X.A (exec st X.env) (SP X pins D) X.xe s
def PSs (X : Cx) (st : List Stmt) (t : TS) : Prop :=
  ∀ (pins : List (Addr × Obj)) (s : Shared) (σ : St) (H : Hp) (D : Ends), Inv X pins σ H s → t D σ H → wpAny (model X.prog X.w) X.A (execs st X.env) (SP X pins D) X.xe s
theorem thn {α : Type} {t : Sem α} {Q Q' : α → Shared → Prop} {M : Model} {A : Around} {E : Value → Shared → Prop} {s : Shared} (h : wpAny M A t Q E s) (hQ : ∀ a s, Q a s → Q' a s) : wpAny M A t Q' E s := wpAny_mono h hQ fun _ _ x => x
end L2

namespace L2
open PySem PySem.Spec PyProof.Rows
section
variable {X : Cx}

theorem bin {a b : Expr} {ta tb : TE} (ha : PE X a ta) (hb : PE X b tb) {pins : List (Addr × Obj)} {s : Shared} {σ : St} {H : Hp} {R : V → V → Hp → Prop} (I : Inv X pins σ H s) (h : ta σ H fun x H1 => tb σ H1 fun y H2 => R x y H2)
    {α : Type} {Q : α → Shared → Prop} {f : Value → Value → Sem α}
    (hf : ∀ v u s2 x y H2, Inv X pins σ H2 s2 → RelV x v → RelV y u → R x y H2 → wpAny (model X.prog X.w) X.A (f v u) Q X.xe s2) :
    wpAny (model X.prog X.w) X.A (eval a X.env) (fun v s₁ => wpAny (model X.prog X.w) X.A (eval b X.env) (fun u s₂ => wpAny (model X.prog X.w) X.A (f v u) Q X.xe s₂) X.xe s₁) X.xe s := by
  refine thn (ha pins s σ H _ I h) fun v s1 ⟨x, H1, I1, r1, q1⟩ => ?_
  refine thn (hb pins s1 σ H1 _ I1 q1) fun u s2 ⟨y, H2, I2, r2, q2⟩ => ?_
  exact hf v u s2 x y H2 I2 r1 r2 q2

def tVar (i : Nat) : TE := fun σ H Q => ∃ v, σ[i]? = some (some v) ∧ Q v H
def tC (v : V) : TE := fun _ H Q => Q v H
theorem pe_var {i : Nat} {x : Str} {pos : Pos} (hN : X.N[i]? = some x) (hv : Vis X.env.scope x) (hd : (x == ("__debug__" : Str)) = false := by decide) (hcd : (x == ("__classdict__" : Str)) = false := by decide) : PE X (.Name x pos) (tVar i) := by
  intro pins s σ H Q I h
  obtain ⟨v, e, h⟩ := h
  obtain ⟨m, hn, hl⟩ := I.loc
  obtain ⟨u, r, l⟩ := hl i x v hN e hv
  have fin : EP X pins σ Q u s := ⟨v, H, I, r, h⟩
  rcases l with ⟨hk, hm⟩ | ⟨hk, c, hc, hcell⟩
  · exact wpAny_Name (wpAny_loadName_local I.ok.kind hk hn hm fin) hd
  · rcases hk with hk | hk
    · exact wpAny_Name (wpAny_loadName_cell I.ok.kind hk hc hcell fin) hd
    · exact wpAny_Name (wpAny_loadName_free I.ok.kind hk hc hcell fin hcd) hd
theorem pe_int {i j pos} : PE X (.Constant (.int i) j pos) (tC (.int i)) := fun _ _ _ H _ I h => wpAny_Constant_int ⟨.int i, H, I.tok _, ⟨_, rfl⟩, h⟩
theorem pe_bl {b j pos} : PE X (.Constant (.bool b) j pos) (tC (.bl b)) := fun _ _ _ H _ I h => Constant_bool ⟨.bl b, H, I, rfl, h⟩
def Gl (X : Cx) (x : Str) : Prop := X.env.kindOf x = some .globalImplicit
theorem ld_glob {E : Value → Shared → Prop} {pins : List (Addr × Obj)} {s : Shared} {σ : St} {H : Hp} {x : Str} {u : Value} {pos : Pos} {Q : Value → Shared → Prop} (I : Inv X pins σ H s) (hg : Gl X x) (hm : X.mg x = some u) (h : Q u s)
    (hd : (x == ("__debug__" : Str)) = false := by decide) : wpAny (model X.prog X.w) X.A (eval (.Name x pos) X.env) Q E s :=
  Calls.Name_function_global I.ok.kind hg (Calls.loadGlobal_global (by rw [I.ok.glob]; exact I.mod.glob.keeps I.bk) hm h) hd
theorem ld_blt {E : Value → Shared → Prop} {pins : List (Addr × Obj)} {s : Shared} {σ : St} {H : Hp} {x : Str} {u : Value} {pos : Pos} {Q : Value → Shared → Prop} (I : Inv X pins σ H s) (hg : Gl X x) (hm : X.mg x = none) (hv : bootBuiltins x = some u) (h : Q u s)
    (hn : x ≠ "__name__" := by decide) (hd : (x == ("__debug__" : Str)) = false := by decide) : wpAny (model X.prog X.w) X.A (eval (.Name x pos) X.env) Q E s := by
  obtain ⟨mb, h1, h2⟩ := I.mod.blt
  exact Calls.Name_function_global I.ok.kind hg (Calls.loadGlobal_builtin (by rw [I.ok.glob]; exact I.mod.glob.keeps I.bk) hm (by rw [I.ok.blt]; exact h1.keeps I.bk) ((h2 x hn).trans hv) h) hd
theorem pe_glob {x : Str} {v : V} {u : Value} {pos : Pos} (hg : Gl X x) (hm : X.mg x = some u) (r : RelV v u) (hd : (x == ("__debug__" : Str)) = false := by decide) : PE X (.Name x pos) (tC v) :=
  fun _ _ _ H _ I h => ld_glob I hg hm ⟨v, H, I, r, h⟩ hd
theorem pe_bltn {x : Str} {v : V} {u : Value} {pos : Pos} (hg : Gl X x) (hm : X.mg x = none) (hv : bootBuiltins x = some u) (r : RelV v u) (hn : x ≠ "__name__" := by decide) (hd : (x == ("__debug__" : Str)) = false := by decide) : PE X (.Name x pos) (tC v) :=
  fun _ _ _ H _ I h => ld_blt I hg hm hv ⟨v, H, I, r, h⟩ hn hd

variable {a b : Expr} {ta tb : TE} {pos : Pos}
def PC (X : Cx) (op : CmpOp) (a b : Expr) (t : TE) : Prop :=
  ∀ (pins : List (Addr × Obj)) (s : Shared) (σ : St) (H : Hp) (Q : VK), Inv X pins σ H s → t σ H Q →
    wpAny (model X.prog X.w) X.A (eval a X.env) (fun v s₁ => wpAny (model X.prog X.w) X.A (eval b X.env) (fun u s₂ => wpAny (model X.prog X.w) X.A (compareOp op v u) (EP X pins σ Q) X.xe s₂) X.xe s₁) X.xe s
theorem nobehind (b : Expr) {op : CmpOp} (h : op ≠ .In) (h2 : op ≠ .NotIn) : behindInMarks op b = false := by
  have e1 : (op == CmpOp.In) = false := by cases op <;> first | rfl | exact absurd rfl h
  have e2 : (op == CmpOp.NotIn) = false := by cases op <;> first | rfl | exact absurd rfl h2
  cases b <;> simp [behindInMarks, e1, e2]
theorem RelV.none_iff {x : V} {v : Value} (r : RelV x v) : (v == Value.none) = decide (x = .non) := by
  cases x with
  | non => cases r; rfl
  | bl _ => cases r; rfl
  | int _ => obtain ⟨t, rfl⟩ := r; rfl
  | str _ => obtain ⟨t, rfl⟩ := r; rfl
  | byt _ => obtain ⟨t, rfl⟩ := r; rfl
  | flt _ => obtain ⟨t, rfl⟩ := r; rfl
  | ref _ => cases r; rfl
  | ty _ => cases r; rfl
def tB (t : TE) : TT := fun σ H Q => t σ H fun x H1 => ∃ c, x = .bl c ∧ Q c H1
theorem pt_cmp {op : CmpOp} {t : TE} (h : PC X op a b t) (h1 : behindInMarks op b = false := by first | exact nobehind _ (by decide) (by decide) | rfl) : PT X (.Compare a [op] [b] pos) (tB t) := by
  intro pins s σ H Q I hw
  refine wpAny_isTrue_Compare1 (thn (h pins s σ H _ I hw) fun v s1 h1 => thn h1 fun u s2 h2 => thn h2 fun c s3 ⟨x, H1, I1, r1, q1⟩ => ?_) h1
  obtain ⟨d, rfl, q⟩ := q1
  cases r1
  exact wpAny_truthy_bool ⟨H1, I1, q⟩
theorem pt_val {e : Expr} {t : TE} (h : PE X e t) (he : ∀ whole, isTrue e X.env whole = (do let v ← whole; standAt e.pos; holding [v] (truthy v)) := by intro _; rfl) : PT X e (tB t) := by
  intro pins s σ H Q I hw
  refine isTrue_plain (thn (h pins s σ H _ I hw) fun v s1 ⟨x, H1, I1, r1, q1⟩ => ?_) (he _)
  obtain ⟨d, rfl, q⟩ := q1
  cases r1
  exact wpAny_truthy_bool ⟨H1, I1, q⟩

variable {tA tB' : TT} {rest : List Expr}
def tAnd (t u : TT) : TT := fun σ H Q => t σ H fun c H1 => if c = true then u σ H1 Q else Q false H1
def tOr (t u : TT) : TT := fun σ H Q => t σ H fun c H1 => if c = true then Q true H1 else u σ H1 Q
def tNot (t : TT) : TT := fun σ H Q => t σ H fun c H1 => Q (!c) H1
theorem pw_and1 (ha : PT X a tA) : PW X (.BoolOp .And [a] pos) tA := by
  intro wh pins s σ H Q I h
  refine isTrue_and (thn (ha pins s σ H Q I h) fun c s1 e => ?_)
  cases c with
  | true => exact isTrue_and_nil e
  | false => exact e
theorem pw_or1 (ha : PT X a tA) : PW X (.BoolOp .Or [a] pos) tA := by
  intro wh pins s σ H Q I h
  refine isTrue_or (thn (ha pins s σ H Q I h) fun c s1 e => ?_)
  cases c with
  | false => exact isTrue_or_nil e
  | true => exact e
theorem pw_and (ha : PT X a tA) (hb : PW X (.BoolOp .And (b :: rest) pos) tB') : PW X (.BoolOp .And (a :: b :: rest) pos) (tAnd tA tB') := by
  intro wh pins s σ H Q I h
  refine isTrue_and (thn (ha pins s σ H _ I h) fun c s1 ⟨H1, I1, q1⟩ => ?_)
  cases c with
  | true => exact hb wh pins s1 σ H1 Q I1 q1
  | false => exact ⟨H1, I1, q1⟩
theorem pw_or (ha : PT X a tA) (hb : PW X (.BoolOp .Or (b :: rest) pos) tB') : PW X (.BoolOp .Or (a :: b :: rest) pos) (tOr tA tB') := by
  intro wh pins s σ H Q I h
  refine isTrue_or (thn (ha pins s σ H _ I h) fun c s1 ⟨H1, I1, q1⟩ => ?_)
  cases c with
  | true => exact ⟨H1, I1, q1⟩
  | false => exact hb wh pins s1 σ H1 Q I1 q1
theorem pt_not (ha : PT X a tA) : PT X (.UnaryOp .Not a pos) (tNot tA) := by
  intro pins s σ H Q I h
  exact isTrue_not (ha pins s σ H (fun c H1 => Q (!c) H1) I h)
def tAndV (ta tb : TE) : TE := fun σ H Q => ta σ H fun x H1 => ∃ c, x = .bl c ∧ if c = true then tb σ H1 Q else Q (.bl false) H1
def tNotV (ta : TE) : TE := fun σ H Q => ta σ H fun x H1 => ∃ c, x = .bl c ∧ Q (.bl (!c)) H1
theorem pe_one {op} {t : TE} (h : PE X a t) : PE X (.BoolOp op [a] pos) t := fun pins s σ H Q I hw => BoolOp_one (h pins s σ H Q I hw)
theorem pe_and (ha : PE X a ta) (hb : PE X (.BoolOp .And (b :: rest) pos) tb) : PE X (.BoolOp .And (a :: b :: rest) pos) (tAndV ta tb) := by
  intro pins s σ H Q I h
  refine BoolOp_and (thn (ha pins s σ H _ I h) fun v s1 ⟨x, H1, I1, r1, q1⟩ => ?_)
  obtain ⟨c, rfl, q1⟩ := q1
  cases r1
  refine wpAny_truthy_bool ?_
  cases c with
  | true => exact hb pins s1 σ H1 Q I1 q1
  | false => exact ⟨.bl false, H1, I1, rfl, q1⟩
theorem pe_not (ha : PE X a ta) : PE X (.UnaryOp .Not a pos) (tNotV ta) := by
  intro pins s σ H Q I h
  refine UnaryOp_ (thn (ha pins s σ H _ I h) fun v s1 ⟨x, H1, I1, r1, q1⟩ => ?_)
  obtain ⟨c, rfl, q1⟩ := q1
  cases r1
  exact not_of (wpAny_truthy_bool ⟨.bl (!c), H1, I1, rfl, q1⟩)
def tIf (t : TT) (ta tb : TE) : TE := fun σ H Q => t σ H fun c H1 => if c = true then ta σ H1 Q else tb σ H1 Q
theorem pe_ifExp {c : Expr} (hc : PT X c tA) (ha : PE X a ta) (hb : PE X b tb) : PE X (.IfExp c a b pos) (tIf tA ta tb) := by
  intro pins s σ H Q I h
  refine wpAny_IfExp (thn (hc pins s σ H _ I h) fun d s1 ⟨H1, I1, q1⟩ => ?_)
  cases d with
  | true => exact ha pins s1 σ H1 Q I1 q1
  | false => exact hb pins s1 σ H1 Q I1 q1
end
end L2

namespace L2
open PySem PySem.Spec PyProof.Rows

def SqL (K : PySem.W.Frag) (H : Hp) (a : Addr) (xs : List V) : Prop :=
  Rd H a (.lst xs) ∨
    ∃ (o : Obj) (its : Array Value) (n : Nat), K.lookup a = some o ∧ o.cls = .type "list" ∧ o.dict = none ∧ o.data = .seq its n ∧ its.size ≤ sizeLine ∧ Vals xs its.toList
def SqT (K : PySem.W.Frag) (H : Hp) (a : Addr) (xs : List V) : Prop :=
  Rd H a (.tup xs) ∨
    ∃ (o : Obj) (its : Array Value) (n : Nat), K.lookup a = some o ∧ o.cls = .type "tuple" ∧ o.data = .seq its n ∧ its.size ≤ sizeLine ∧ Vals xs its.toList
def absV : Value → Option V
  | .none => some .non
  | .bool b => some (.bl b)
  | .int i _ => some (.int i)
  | .str x _ => some (.str x)
  | .bytes b _ => some (.byt b)
  | .float b _ => some (.flt b)
  | .ref a => some (.ref a)
  | .type n => some (.ty n)
  | _ => none
theorem RelV.abs {x : V} {u : Value} (r : RelV x u) : absV u = some x := by
  cases x with
  | non => cases r; rfl
  | bl _ => cases r; rfl
  | int _ => obtain ⟨t, rfl⟩ := r; rfl
  | str _ => obtain ⟨t, rfl⟩ := r; rfl
  | byt _ => obtain ⟨t, rfl⟩ := r; rfl
  | flt _ => obtain ⟨t, rfl⟩ := r; rfl
  | ref _ => cases r; rfl
  | ty _ => cases r; rfl
theorem RelV.inj {x y : V} {u : Value} (r : RelV x u) (q : RelV y u) : x = y := Option.some.inj (r.abs.symm.trans q.abs)
theorem Vals.inj : ∀ {xs ys : List V} {us : List Value}, Vals xs us → Vals ys us → xs = ys
  | _, _, _, .nil, .nil => rfl
  | _, _, _, .cons r t, .cons r' t' => by rw [r.inj r', Vals.inj t t']
section
variable {X : Cx} {pins : List (Addr × Obj)} {σ : St} {H : Hp} {s : Shared} {a : Addr} {xs ys : List V}
theorem SqL.of {K : PySem.W.Frag} (h : H a = some (.lst xs)) : SqL K H a xs := .inl (.inl h)
theorem SqT.of {K : PySem.W.Frag} (h : H a = some (.tup xs)) : SqT K H a xs := .inl (.inl h)
theorem Inv.list (I : Inv X pins σ H s) (h : SqL X.K H a xs) : ∃ its : List Value, Vals xs its ∧ PlainL s.heap a its.toArray ∧ xs.length ≤ sizeLine := by
  rcases h with h | ⟨o, its, n, hk, hc, hd, hs, hz, r⟩
  · obtain ⟨z, its, n, r, e⟩ := h.ok I.hok
    exact ⟨its, r, ⟨_, n, e, rfl, rfl, rfl⟩, z⟩
  · refine ⟨its.toList, r, ⟨o, n, I.kIn a o hk, hc, hd, by simpa using hs⟩, ?_⟩
    have e := r.length
    simp only [Array.length_toList] at e
    omega
theorem Inv.tuple (I : Inv X pins σ H s) (h : SqT X.K H a xs) : ∃ its : List Value, Vals xs its ∧ IsTup s.heap a its.toArray ∧ xs.length ≤ sizeLine := by
  rcases h with h | ⟨o, its, n, hk, hc, hs, hz, r⟩
  · obtain ⟨z, its, r, p⟩ := h.ok I.hok
    exact ⟨its, r, p, z⟩
  · refine ⟨its.toList, r, ⟨o, I.kIn a o hk, hc, n, by simpa using hs⟩, ?_⟩
    have e := r.length
    simp only [Array.length_toList] at e
    omega
theorem Inv.list_inj (I : Inv X pins σ H s) (h : SqL X.K H a xs) (h' : SqL X.K H a ys) : xs = ys := by
  obtain ⟨its, r, ⟨o, n, e, _, _, d⟩, _⟩ := I.list h
  obtain ⟨its', r', ⟨o', n', e', _, _, d'⟩, _⟩ := I.list h'
  rw [e] at e'; cases e'
  rw [d] at d'
  injection d' with d1 _
  have : its = its' := by simpa using congrArg Array.toList d1
  subst this
  exact r.inj r'
theorem Inv.tuple_inj (I : Inv X pins σ H s) (h : SqT X.K H a xs) (h' : SqT X.K H a ys) : xs = ys := by
  obtain ⟨its, r, ⟨o, e, _, n, d⟩, _⟩ := I.tuple h
  obtain ⟨its', r', ⟨o', e', _, n', d'⟩, _⟩ := I.tuple h'
  rw [e] at e'; cases e'
  rw [d] at d'
  injection d' with d1 _
  have : its = its' := by simpa using congrArg Array.toList d1
  subst this
  exact r.inj r'
end

abbrev Cx.wish (X : Cx) (E : Value → Shared → Prop) : Cx := { X with xe := E }
abbrev Cx.nox (X : Cx) : Cx := X.wish fun _ _ => False
theorem Cx.Ok.wish {X : Cx} (ok : X.Ok) (E : Value → Shared → Prop) : (X.wish E).Ok :=
  ⟨ok.mod, ok.kind, ok.glob, ok.blt, ok.above, ok.inj, ok.has, ok.cab, ok.hd, ok.frames, ok.stk, ok.exf, ok.bs, ok.bsz, ok.noex, ok.exfs, ok.funs, ok.frf⟩
theorem Cx.Ok.unwish {X : Cx} {E : Value → Shared → Prop} (ok : (X.wish E).Ok) : X.Ok :=
  ⟨ok.mod, ok.kind, ok.glob, ok.blt, ok.above, ok.inj, ok.has, ok.cab, ok.hd, ok.frames, ok.stk, ok.exf, ok.bs, ok.bsz, ok.noex, ok.exfs, ok.funs, ok.frf⟩
section
variable {X : Cx} {pins : List (Addr × Obj)} {σ : St} {H : Hp} {s : Shared} {E : Value → Shared → Prop}
theorem Inv.wish (I : Inv X pins σ H s) (E : Value → Shared → Prop) : Inv (X.wish E) pins σ H s := ⟨I.ok.wish E, I.os, I.bare, I.base, I.loc, I.cell, I.free, I.freeC, I.pin, I.hok, I.len⟩
theorem Inv.unwish (I : Inv (X.wish E) pins σ H s) : Inv X pins σ H s := ⟨I.ok.unwish, I.os, I.bare, I.base, I.loc, I.cell, I.free, I.freeC, I.pin, I.hok, I.len⟩
theorem SP.unwish {D : Ends} {f : Flow} {s' : Shared} (h : SP (X.wish E) pins D f s') : SP X pins D f s' := by
  cases f with
  | next => obtain ⟨σ', H', I, q⟩ := h; exact ⟨σ', H', I.unwish, q⟩
  | brk => obtain ⟨σ', H', I, q⟩ := h; exact ⟨σ', H', I.unwish, q⟩
  | cont => obtain ⟨σ', H', I, q⟩ := h; exact ⟨σ', H', I.unwish, q⟩
  | ret u => obtain ⟨v, σ', H', I, r, q⟩ := h; exact ⟨v, σ', H', I.unwish, r, q⟩
theorem PE.nox {e : Expr} {t : TE} (h : PE X.nox e t) : PE X e t := fun pins s σ H Q I hw =>
  wpAny_mono (h pins s σ H Q (I.wish _) hw) (fun _ _ ⟨v, H', I', r, q⟩ => ⟨v, H', I'.unwish, r, q⟩) fun _ _ z => False.elim z
theorem PT.nox {e : Expr} {t : TT} (h : PT X.nox e t) : PT X e t := fun pins s σ H Q I hw =>
  wpAny_mono (h pins s σ H Q (I.wish _) hw) (fun _ _ ⟨H', I', q⟩ => ⟨H', I'.unwish, q⟩) fun _ _ z => False.elim z
theorem PSs.nox {st : List Stmt} {t : TS} (h : PSs X.nox st t) : PSs X st t := fun pins s σ H D I hw =>
  wpAny_mono (h pins s σ H D (I.wish _) hw) (fun _ _ q => q.unwish) fun _ _ z => False.elim z
end

section
variable {X : Cx} {st : Stmt} {rest : List Stmt} {t u : TS} {e : Expr} {te : TE} {pos : Pos}
def tNext : TS := fun D σ H => D.nx σ H
def tSeq (t u : TS) : TS := fun D σ H => t { D with nx := u D } σ H
theorem pss_nil : PSs X [] tNext := fun _ _ σ H _ I h => wpAny_execs_nil ⟨σ, H, I, h⟩
theorem pss_cons (h1 : PS X st t) (h2 : PSs X rest u) : PSs X (st :: rest) (tSeq t u) := by
  intro pins s σ H D I h
  refine wpAny_execs_cons (thn (h1 pins s σ H { D with nx := u D } I h) fun f s1 q => ?_)
  cases f with
  | next =>
    obtain ⟨σ', H', I', q⟩ := q
    exact h2 pins s1 σ' H' D I' q
  | ret v => exact q
  | brk => exact q
  | cont => exact q
theorem pss_one (h1 : PS X st t) : PSs X [st] t := by
  intro pins s σ H D I h
  refine wpAny_execs_cons (thn (h1 pins s σ H D I h) fun f s1 q => ?_)
  cases f with
  | next => exact wpAny_execs_nil q
  | ret v => exact q
  | brk => exact q
  | cont => exact q
theorem Inv.quiet {pins : List (Addr × Obj)} {σ : St} {H : Hp} {s : Shared} (I : Inv X pins σ H s) : interactive X.env = false := by simp [interactive, I.ok.kind]
def tDrop (te : TE) : TS := fun D σ H => te σ H fun _ H1 => D.nx σ H1
theorem ps_expr (he : PE X e te) (hs : swapsWith e none pos.line X.env = pure false := by rfl) : PS X (.Expr e pos) (tDrop te) := by
  intro pins s σ H D I h
  exact wpAny_Expr_any (thn (he pins s σ H _ I h) fun v s1 ⟨x, H1, I1, r1, q1⟩ => ⟨σ, H1, I1, q1⟩) I.quiet hs
def tRet (te : TE) : TS := fun D σ H => te σ H D.rt
theorem ps_ret (he : PE X e te) : PS X (.Return (some e) pos) (tRet te) := by
  intro pins s σ H D I h
  exact wpAny_Return_some (thn (he pins s σ H _ I h) fun v s1 ⟨x, H1, I1, r1, q1⟩ => ⟨x, σ, H1, I1, r1, q1⟩)
def tIfS (c : TT) (t u : TS) : TS := fun D σ H => c σ H fun b H1 => if b = true then t D σ H1 else u D σ H1
theorem ps_if {c : Expr} {a b : List Stmt} {tc : TT} (hc : PT X c tc) (ha : PSs X a t) (hb : PSs X b u) : PS X (.If c a b pos) (tIfS tc t u) := by
  intro pins s σ H D I h
  refine wpAny_If (thn (hc pins s σ H _ I h) fun d s1 ⟨H1, I1, q1⟩ => ?_)
  cases d with
  | true => exact ha pins s1 σ H1 D I1 q1
  | false => exact hb pins s1 σ H1 D I1 q1
def tNever : TS := fun _ _ _ => False
theorem ps_never : PS X st tNever := fun _ _ _ _ _ _ h => h.elim
end

abbrev TG := V → St → Hp → (St → Hp → Prop) → Prop
abbrev TGs := List V → St → Hp → (St → Hp → Prop) → Prop
def PG (X : Cx) (target : Expr) (t : TG) : Prop :=
  ∀ (pins : List (Addr × Obj)) (s : Shared) (σ : St) (H : Hp) (v : V) (u : Value) (Q : St → Hp → Prop), Inv X pins σ H s → RelV v u → t v σ H Q →
    wpAny (model X.prog X.w) X.A (assign target X.env u) (fun _ s' => ∃ σ' H', Inv X pins σ' H' s' ∧ Q σ' H') X.xe s
def PGs (X : Cx) (ts : List Expr) (t : TGs) : Prop :=
  ∀ (pins : List (Addr × Obj)) (s : Shared) (σ : St) (H : Hp) (vs : List V) (us : List Value) (Q : St → Hp → Prop), Inv X pins σ H s → Vals vs us → t vs σ H Q →
    wpAny (model X.prog X.w) X.A (assignInOrder ((assignEach ts X.env).map (·.2)) us) (fun _ s' => ∃ σ' H', Inv X pins σ' H' s' ∧ Q σ' H') X.xe s
abbrev TSet := V → V → V → Hp → (Hp → Prop) → Prop
def PSet (X : Cx) (t : TSet) : Prop :=
  ∀ (pins : List (Addr × Obj)) (s : Shared) (σ : St) (H : Hp) (o i v : V) (ov iv u : Value) (Q : Hp → Prop), Inv X pins σ H s → RelV o ov → RelV i iv → RelV v u → t o i v H Q →
    wpAny (model X.prog X.w) X.A (setItem ov iv u) (fun _ s' => ∃ H', Inv X pins σ H' s' ∧ Q H') X.xe s
section
variable {X : Cx} {pos : Pos}
def gName (i : Nat) : TG := fun v σ H Q => Q (σ.set i (some v)) H
theorem pg_name {i : Nat} {x : Str} (hN : X.N.Nodup) (hi : X.N[i]? = some x) (hx : Loc X.env.scope x) (hf : X.fn x = true ∨ X.env.scope.names.lookup x = some .local := by first | exact .inl rfl | exact .inr rfl | assumption) : PG X (.Name x pos) (gName i) := by
  intro pins s σ H v u Q I r h
  exact wpAny_assign_Name (store_ok I hN hi hx r (fun s' I' => ⟨_, H, I', h⟩) hf)
def gNil : TGs := fun vs σ H Q => vs = [] ∧ Q σ H
def gCons (t : TG) (u : TGs) : TGs := fun vs σ H Q => ∃ v r, vs = v :: r ∧ t v σ H fun σ' H' => u r σ' H' Q
theorem pgs_nil : PGs X [] gNil := by
  intro pins s σ H vs us Q I r h
  obtain ⟨e, h⟩ := h
  subst e
  cases r
  exact assignInOrder_nil ⟨σ, H, I, h⟩
theorem pgs_cons {e : Expr} {es : List Expr} {t : TG} {u : TGs} (h1 : PG X e t) (h2 : PGs X es u)
    (hs : (assignEach (e :: es) X.env).map (·.2) = assign e X.env :: (assignEach es X.env).map (·.2) := by rfl) : PGs X (e :: es) (gCons t u) := by
  intro pins s σ H vs us Q I r h
  obtain ⟨v, vr, e1, h⟩ := h
  subst e1
  cases r with
  | cons r rr =>
    rw [hs]
    refine assignInOrder_cons (thn (h1 pins s σ H _ _ _ I r h) fun _ s1 ⟨σ1, H1, I1, q1⟩ => ?_)
    exact h2 pins s1 σ1 H1 _ _ Q I1 rr q1
def gTup (K : PySem.W.Frag) (n : Nat) (t : TGs) : TG := fun v σ H Q => ∃ a xs, v = .ref a ∧ SqT K H a xs ∧ xs.length = n ∧ t xs σ H Q
theorem pg_tup {es : List Expr} {k : Nat} {t : TGs} {n : Nat} (hc : X.calm = true) (h : PGs X es t)
    (hn : (assignEach es X.env).length = n := by rfl) (hst : (assignEach es X.env).findIdx? (·.1) = none := by rfl) : PG X (.Tuple es k pos) (gTup X.K n t) := by
  intro pins s σ H v u Q I r hw
  obtain ⟨a, xs, e1, hq, hl, hw⟩ := hw
  subst e1
  cases r
  obtain ⟨its, rv, ht, hz⟩ := I.tuple hq
  refine assign_Tuple_tuple (I.ok.hd hc) ht (by simp [hn, ← hl, rv.length]) hst fun h' hx => ?_
  have I1 : Inv X pins σ H { s with heap := h' } := I.kept (t' := s.toks) fun b o e => hx b o (Nat.ne_of_lt (Heap.lt_size e)) e
  exact h pins _ σ H xs _ Q I1 (by simpa using rv) hw
def gSub (to ti : TE) (t : TSet) : TG := fun v σ H Q => to σ H fun o H1 => ti σ H1 fun i H2 => t o i v H2 fun H3 => Q σ H3
theorem pg_sub {o i : Expr} {to ti : TE} {t : TSet} (ho : PE X o to) (hi : PE X i ti) (hs : PSet X t)
    (ha : ∀ v, assign (.Subscript o i pos) X.env v = (do
      let ov ← holding [v] (eval o X.env)
      let iv ← holding [v, ov] (eval i X.env)
      standAt pos
      holding [v, ov, iv] (setItem ov iv v)
      release [v, ov, iv] []) := by intro _; rfl) : PG X (.Subscript o i pos) (gSub to ti t) := by
  intro pins s σ H v u Q I r h
  rw [ha]
  refine wpAny_bind (wpAny_holding (thn (ho pins s σ H _ I h) fun ov s1 ⟨x, H1, I1, r1, q1⟩ => ?_))
  refine wpAny_bind (wpAny_holding (thn (hi pins s1 σ H1 _ I1 q1) fun iv s2 ⟨y, H2, I2, r2, q2⟩ => ?_))
  refine wpAny_bind (wpAny_standAt (wpAny_bind (wpAny_holding (thn (hs pins s2 σ H2 x y v ov iv u _ I2 r1 r2 r q2) fun _ s3 ⟨H3, I3, q3⟩ => ?_))))
  exact wpAny_release ⟨σ, H3, I3, q3⟩
def tAsg (te : TE) (g : TG) : TS := fun D σ H => te σ H fun x H1 => g x σ H1 D.nx
theorem ps_asg {tg e : Expr} {te : TE} {g : TG} (he : PE X e te) (hg : PG X tg g) (hs : swapsWithSole [tg] e pos.line X.env = pure false := by rfl) (hw : swappedStores [tg] e X.env = pure none := by rfl)
    (h1 : (assignEach [tg] X.env).map (·.2) = [assign tg X.env] := by rfl) : PS X (.Assign [tg] e pos) (tAsg te g) := by
  intro pins s σ H D I h
  refine wpAny_Assign_stores (thn (he pins s σ H _ I h) fun v s1 ⟨x, H1, I1, r1, q1⟩ => ?_) hs hw
  rw [h1]
  exact thn (hg pins s1 σ H1 x v _ I1 r1 q1) fun _ s2 q => q
theorem ps_set {i : Nat} {x : Str} {e : Expr} {te : TE} {pos' : Pos} (hN : X.N.Nodup) (hi : X.N[i]? = some x) (hx : Loc X.env.scope x) (he : PE X e te) (hs : swapsWith e (some (.Name x pos')) pos.line X.env = pure false := by rfl) (hf : X.fn x = true ∨ X.env.scope.names.lookup x = some .local := by first | exact .inl rfl | exact .inr rfl | assumption) :
    PS X (.Assign [.Name x pos'] e pos) (tAsg te (gName i)) := by
  intro pins s σ H D I h
  refine wpAny_Assign_Name (thn (he pins s σ H _ I h) fun v s1 ⟨y, H1, I1, r1, q1⟩ => ?_) hs
  exact store_ok I1 hN hi hx r1 (fun s2 I2 => ⟨_, H1, I2, q1⟩) hf
def tPar (i j : Nat) (ta : TA) : TS := fun D σ H => ta σ H fun vs H1 => ∃ v w, vs = [v, w] ∧ D.nx ((σ.set i (some v)).set j (some w)) H1
theorem ps_par {i j : Nat} {x y : Str} {a b : Expr} {ta : TA} {px py pt : Pos} {kt k2 pt2} (hc : X.calm = true) (hN : X.N.Nodup) (hi : X.N[i]? = some x) (hj : X.N[j]? = some y) (hij : i ≠ j)
    (hx : X.env.scope.names.lookup x = some .local) (hy : X.env.scope.names.lookup y = some .local) (ha : PA X [a, b] ta)
    (hw : swappedStores [.Tuple [.Name x px, .Name y py] kt pt] (.Tuple [a, b] k2 pt2) X.env = pure (some [x, y]))
    (hs : swapsWithSole [.Tuple [.Name x px, .Name y py] kt pt] (.Tuple [a, b] k2 pt2) pos.line X.env = pure false := by rfl) :
    PS X (.Assign [.Tuple [.Name x px, .Name y py] kt pt] (.Tuple [a, b] k2 pt2) pos) (tPar i j ta) := by
  intro pins s σ H D I h
  rw [exec_Assign_arm]
  refine wpAny_bind (wpAny_standAt ?_)
  rw [hs]
  refine wpAny_bind (wpAny_pure ?_)
  rw [if_neg (by decide)]
  refine wpAny_bind (Tuple_ (thn (ha _ pins s σ H _ I h) fun us s1 ⟨vs, H1, I1, r1, q1⟩ => ?_))
  obtain ⟨v, w, e1, q1⟩ := q1
  subst e1
  obtain ⟨u1, u2, rfl, rv, rw'⟩ : ∃ u1 u2, us = [u1, u2] ∧ RelV v u1 ∧ RelV w u2 := by
    cases r1 with
    | cons p q =>
      cases q with
      | cons p' q' =>
        cases q'
        exact ⟨_, _, rfl, p, p'⟩
  refine wpAny_newObj_type ?_ (by show 2 ≤ sizeLine; decide)
  have I2 : Inv X pins σ H1 { s1 with heap := s1.heap.push { cls := .type "tuple", data := .seq [u1, u2].toArray } } := I1.kept (t' := s1.toks) fun b o e => Heap.get?_push_of_some _ e
  rw [hw]
  refine wpAny_bind (wpAny_pure ?_)
  show wpAny (model X.prog X.w) X.A (do rule "assign.swapped-stores"; let items ← unpackItems (.ref s1.heap.objs.size) 2 none; assignInOrder [fun v => bindName X.env y v, fun v => bindName X.env x v] items.reverse; pure Flow.next) _ _ _
  refine wpAny_bind (wpAny_rule (wpAny_bind (unpackItems_tuple (items := #[u1, u2]) (I.ok.hd hc) (IsTup.new s1.heap _) fun h' hx' => ?_)))
  have I3 := I2.kept (h' := h') (t' := s1.toks) fun b o e => hx' b o (Nat.ne_of_lt (Heap.lt_size e)) e
  show wpAny _ _ (assignInOrder [fun v => bindName X.env y v, fun v => bindName X.env x v] [u2, u1] >>= fun _ => pure Flow.next) _ _ _
  refine wpAny_bind (assignInOrder_cons (wpAny_bindName (store_ok I3 hN hj (.inl hy) rw' (fun s2 I4 => ?_) (.inr hy))))
  refine assignInOrder_cons (wpAny_bindName (store_ok I4 hN hi (.inl hx) rv (fun s3 I5 => assignInOrder_nil (wpAny_pure ?_)) (.inr hx)))
  rw [List.set_comm _ _ (Ne.symm hij)] at I5
  exact ⟨_, H1, I5, q1⟩
end

section
variable {X : Cx} {pos : Pos}
def tWhile (c : TT) (tb : TS) : TS := fun D σ H => ∃ W : Nat → St → Hp → Prop, (∃ m, W m σ H) ∧ ∀ m σ H, W m σ H →
  c σ H fun b H1 => if b = true then ∃ N : St → Hp → Prop, (∀ σ' H', N σ' H' → ∃ m', m' < m ∧ W m' σ' H') ∧ tb { D with nx := N, ct := N, bk := D.nx } σ H1 else D.nx σ H1
theorem ps_while {c : Expr} {body : List Stmt} {tc : TT} {tb : TS} (hp : PassesOwn (model X.prog X.w) X.A X.env X.xe) (hc : PT X c tc) (hb : PSs X body tb) : PS X (.While c body [] pos) (tWhile tc tb) := by
  intro pins s σ H D I h
  obtain ⟨W, ⟨m0, w0⟩, turn⟩ := h
  refine wpAny_While (codeAny_whileLoop (fun n s' => ∃ σ' H', Inv X pins σ' H' s' ∧ W n σ' H') ?_ m0 ⟨σ, H, I, w0⟩)
  rintro n s1 ⟨σ1, H1, I1, w1⟩
  refine wpAny_passesOwn hp (thn (hc pins s1 σ1 H1 _ I1 (turn n σ1 H1 w1)) fun b s2 ⟨H2, I2, q2⟩ => ?_)
  cases b with
  | true =>
    obtain ⟨N, hN, q2⟩ := q2
    rw [if_pos rfl]
    refine wpAny_passesOwn hp (thn (hb pins s2 σ1 H2 _ I2 q2) fun f s3 q3 => ?_)
    cases f with
    | next =>
      obtain ⟨σ3, H3, I3, n3⟩ := q3
      obtain ⟨m', hm, w3⟩ := hN σ3 H3 n3
      exact ⟨m', hm, σ3, H3, I3, w3⟩
    | cont =>
      obtain ⟨σ3, H3, I3, n3⟩ := q3
      obtain ⟨m', hm, w3⟩ := hN σ3 H3 n3
      exact ⟨m', hm, σ3, H3, I3, w3⟩
    | brk => exact q3
    | ret v => exact q3
  | false =>
    rw [if_neg Bool.false_ne_true]
    exact wpAny_execs_nil ⟨σ1, H2, I2, q2⟩
end

structure It where
  go : Nat → Hp → Prop
  yld : Nat → Hp → V → Hp → Prop
  stop : Nat → Hp → Prop
def FpOk (X : Cx) (pins : List (Addr × Obj)) (H : Hp) (b : Addr) : Prop :=
  H b = none ∧ b ≠ X.env.locals ∧ b ∉ X.fs ∧ (b ∈ X.ex ∨ X.s₀.heap.objs.size ≤ b) ∧ (∀ x c, X.env.cells.lookup x = some c → c ≠ b) ∧ ∀ p ∈ X.pn ++ pins, p.1 ≠ b
theorem Inv.fpOk {X : Cx} {pins : List (Addr × Obj)} {σ : St} {H H' : Hp} {s : Shared} {b : Addr} (I : Inv X pins σ H s) (hb : s.heap.objs.size ≤ b) (hn : H' b = none) : FpOk X pins H' b := by
  refine ⟨hn, Nat.ne_of_gt (Nat.lt_of_lt_of_le I.lt hb), I.nofs hb, .inr (Nat.le_trans I.sz hb), fun x c e z => ?_, fun p hp z => ?_⟩
  · obtain ⟨v, q⟩ := I.cell x c e
    exact absurd (Nat.lt_of_lt_of_le q.lt (by rw [z]; exact hb)) (Nat.lt_irrefl _)
  · exact absurd (Nat.lt_of_lt_of_le (Heap.lt_size (I.pin p hp).1) (by rw [z]; exact hb)) (Nat.lt_irrefl _)
structure Turn (P : Program) (w : World) (K : PySem.W.Frag) (tg : Expr) (J : It) (fp : List Addr) (it : Addr) (tn : Nat → Heap → Prop) : Prop where
  mem : it ∈ fp
  obj : ∀ i h, tn i h → ∀ b ∈ fp, ∃ o, h.get? b = some o ∧ ∀ v, o.data ≠ .cell v
  keep : ∀ i h h', tn i h → (∀ b ∈ fp, ∀ o, h.get? b = some o → h'.get? b = some o) → tn i h'
  item : ∀ (X : Cx), X.prog = P → X.w = w → X.K = K → X.calm = true → ∀ (i : Nat) (pins : List (Addr × Obj)) (s : Shared) (σ : St) (H : Hp) (E : Value → Shared → Prop), Inv X pins σ H s → (∀ b ∈ fp, FpOk X pins H b) → tn i s.heap → J.go i H →
    wpAny (model P w) X.A (pyNext (.ref it)) (fun r s1 => ∃ u, r = some u ∧
      wpAny (model P w) X.A (letOwnedTupleGo tg (.ref it) u) (fun _ s2 => ∃ x H', Inv X pins σ H' s2 ∧ RelV x u ∧ J.yld i H x H' ∧ tn (i + 1) s2.heap ∧ ∀ b ∈ fp, H' b = none) E s1) E s
  done : ∀ (X : Cx), X.prog = P → X.w = w → X.K = K → X.calm = true → ∀ (i : Nat) (pins : List (Addr × Obj)) (s : Shared) (σ : St) (H : Hp) (E : Value → Shared → Prop), Inv X pins σ H s → (∀ b ∈ fp, FpOk X pins H b) → tn i s.heap → J.stop i H →
    wpAny (model P w) X.A (pyNext (.ref it)) (fun r s1 => r = none ∧ Inv X pins σ H s1) E s
  self : ∀ (A : Around) (i : Nat) (s : Shared) (Q : Value → Shared → Prop) (E : Value → Shared → Prop), tn i s.heap → Q (.ref it) s → wpAny (model P w) A (pyIter (.ref it)) Q E s
abbrev TI := St → Hp → (It → Hp → Prop) → Prop
def PIE (X : Cx) (pins : List (Addr × Obj)) (σ : St) (tg : Expr) (R : It → Hp → Prop) (itv : Value) (s2 : Shared) : Prop :=
  ∃ (it : Addr) (fp : List Addr) (tn : Nat → Heap → Prop) (J : It) (H' : Hp), itv = .ref it ∧ Inv X pins σ H' s2 ∧ Turn X.prog X.w X.K tg J fp it tn ∧ tn 0 s2.heap ∧ (∀ b ∈ fp, FpOk X pins H' b) ∧ R J H'
def PI (X : Cx) (tg iter : Expr) (wi : TI) : Prop :=
  ∀ (pins : List (Addr × Obj)) (s : Shared) (σ : St) (H : Hp) (R : It → Hp → Prop), Inv X pins σ H s → wi σ H R →
    wpAny (model X.prog X.w) X.A (eval iter X.env) (fun v s1 => wpAny (model X.prog X.w) X.A (pyIter v) (PIE X pins σ tg R) X.xe s1) X.xe s

theorem go_of {M : Model} {A : Around} {E : Value → Shared → Prop} {s : Shared} {tg : Expr} {it : Addr} {u : Value} {o : Obj} {n : String} {vs : Array Value} {Q : Unit → Shared → Prop} (ho : s.heap.get? it = some o) (hc : o.cls = .type n) (hd : o.data = .fields vs)
    (hn : ["enumerate", "zip", "dict_itemiterator", "dict_reverseitemiterator", "odict_iterator", "itertools.zip_longest", "itertools.pairwise"].contains n = false) (hQ : Q () s) : wpAny M A (letOwnedTupleGo tg (.ref it) u) Q E s := by
  unfold letOwnedTupleGo
  cases tg <;> first
    | exact wpAny_pure hQ
    | (cases u <;> first
        | exact wpAny_pure hQ
        | (refine wpAny_bind (wpAny_load ho ?_)
           rw [hc, hd]
           show wpAny M A (if (["enumerate", "zip", "dict_itemiterator", "dict_reverseitemiterator", "odict_iterator", "itertools.zip_longest", "itertools.pairwise"].contains n && vs[0]? == some (rawInt _)) = true then _ else _) Q E s
           rw [if_neg (by intro h; rw [hn, Bool.false_and] at h; cases h)]
           exact wpAny_pure hQ))

def Itl (K : PySem.W.Frag) (a : Addr) : It :=
  ⟨fun i H => ∃ xs x, SqL K H a xs ∧ xs[i]? = some x, fun i H x H' => H' = H ∧ ∀ xs, SqL K H a xs → xs[i]? = some x, fun i H => ∃ xs, SqL K H a xs ∧ xs.length ≤ i⟩
def Itt (K : PySem.W.Frag) (a : Addr) : It :=
  ⟨fun i H => ∃ xs x, SqT K H a xs ∧ xs[i]? = some x, fun i H x H' => H' = H ∧ ∀ xs, SqT K H a xs → xs[i]? = some x, fun i H => ∃ xs, SqT K H a xs ∧ xs.length ≤ i⟩
def Itr (lo : Int) (n : Nat) : It := ⟨fun i _ => i < n, fun i H x H' => H' = H ∧ x = .int (lo + i), fun i _ => n ≤ i⟩
theorem turn_list {P : Program} {w : World} {K : PySem.W.Frag} {tg : Expr} (a it : Addr) : Turn P w K tg (Itl K a) [it] it (fun i h => h.IsListIter it a i) where
  mem := by simp
  obj := fun i h st b hb => by
    have e : b = it := by simpa using hb
    subst e
    obtain ⟨o, e, c, d⟩ := st
    exact ⟨o, e, fun v z => by rw [d] at z; cases z⟩
  keep := fun i h h' st k => st.at fun o e => k it (by simp) o e
  item := by
    intro X hP hw hK hc i pins s σ H E I hf st hg
    subst hP hw hK
    obtain ⟨xs, x, hq, hx⟩ := hg
    obtain ⟨its, rv, p, hz⟩ := I.list hq
    obtain ⟨u, hu, ru⟩ := rv.get hx
    obtain ⟨f0, f1, f2, f3, f4, f5⟩ := hf it (by simp)
    refine wpAny_pyNext_list_item st p.isList (x := u) (by simpa using hu) fun h' st' sb => ?_
    have I1 : Inv X pins σ H { s with heap := h' } := I.turned (t' := s.toks) (fun b o hb e => (sb.2 b hb).trans e) f0 f1 f3 f4 f5
    obtain ⟨o, e, c, d⟩ := id st'
    exact ⟨u, rfl, go_of (s := { s with heap := h' }) e c d (by decide) ⟨x, H, I1, ru, ⟨rfl, fun ys hy => by rw [I.list_inj hy hq]; exact hx⟩, st', fun b hb => (hf b hb).1⟩⟩
  done := by
    intro X hP hw hK hc i pins s σ H E I hf st hg
    subst hP hw hK
    obtain ⟨xs, hq, hx⟩ := hg
    obtain ⟨its, rv, p, hz⟩ := I.list hq
    obtain ⟨f0, f1, f2, f3, f4, f5⟩ := hf it (by simp)
    have hl := rv.length
    exact wpAny_pyNext_list_end (I.ok.hd hc) st p.isList (by simp; omega) fun h' eb => ⟨rfl, I.turned (t' := s.toks) (fun b o hb e => eb b o hb e) f0 f1 f3 f4 f5⟩
  self := fun _ _ _ _ _ st h => wpAny_pyIter_listiter st h
theorem turn_tuple {P : Program} {w : World} {K : PySem.W.Frag} {tg : Expr} (a it : Addr) : Turn P w K tg (Itt K a) [it] it (fun i h => h.IsTupleIter it a i) where
  mem := by simp
  obj := fun i h st b hb => by
    have e : b = it := by simpa using hb
    subst e
    obtain ⟨o, e, c, d⟩ := st
    exact ⟨o, e, fun v z => by rw [d] at z; cases z⟩
  keep := fun i h h' st k => st.at fun o e => k it (by simp) o e
  item := by
    intro X hP hw hK hc i pins s σ H E I hf st hg
    subst hP hw hK
    obtain ⟨xs, x, hq, hx⟩ := hg
    obtain ⟨its, rv, p, hz⟩ := I.tuple hq
    obtain ⟨u, hu, ru⟩ := rv.get hx
    obtain ⟨f0, f1, f2, f3, f4, f5⟩ := hf it (by simp)
    refine wpAny_pyNext_tuple_item st (show s.heap.IsTuple a its.toArray from p) (x := u) (by simpa using hu) fun h' st' sb => ?_
    have I1 : Inv X pins σ H { s with heap := h' } := I.turned (t' := s.toks) (fun b o hb e => (sb.2 b hb).trans e) f0 f1 f3 f4 f5
    obtain ⟨o, e, c, d⟩ := id st'
    exact ⟨u, rfl, go_of (s := { s with heap := h' }) e c d (by decide) ⟨x, H, I1, ru, ⟨rfl, fun ys hy => by rw [I.tuple_inj hy hq]; exact hx⟩, st', fun b hb => (hf b hb).1⟩⟩
  done := by
    intro X hP hw hK hc i pins s σ H E I hf st hg
    subst hP hw hK
    obtain ⟨xs, hq, hx⟩ := hg
    obtain ⟨its, rv, p, hz⟩ := I.tuple hq
    obtain ⟨f0, f1, f2, f3, f4, f5⟩ := hf it (by simp)
    have hl := rv.length
    exact wpAny_pyNext_tuple_end (I.ok.hd hc) st (show s.heap.IsTuple a its.toArray from p) (by simp; omega) fun h' eb => ⟨rfl, I.turned (t' := s.toks) (fun b o hb e => eb b o hb e) f0 f1 f3 f4 f5⟩
  self := fun _ _ _ _ _ st h => wpAny_pyIter_tupleiter st h
theorem turn_range {P : Program} {w : World} {K : PySem.W.Frag} {tg : Expr} (it : Addr) (lo : Int) (n : Nat) : Turn P w K tg (Itr lo n) [it] it (fun i h => IsRangeIter h it (lo + (i : Nat) * 1) ((n : Int) - (i : Nat)) 1) where
  mem := by simp
  obj := fun i h st b hb => by
    have e : b = it := by simpa using hb
    subst e
    exact ⟨_, st, fun v z => by
      have z' : Data.fields _ = Data.cell v := z
      cases z'⟩
  keep := fun i h h' st k => k it (by simp) _ st
  item := by
    intro X hP hw hK hc i pins s σ H E I hf st hg
    subst hP hw hK
    obtain ⟨f0, f1, f2, f3, f4, f5⟩ := hf it (by simp)
    have W := Walks.range (prog := X.prog) (w := X.w) (I.ok.hd hc) it lo 1 n
    refine W.item i s _ _ hg st fun v h' tk hv st' kk => ?_
    obtain ⟨t, rfl⟩ := hv
    have I1 : Inv X pins σ H { s with heap := h', toks := tk } := I.turned (fun b o hb e => kk b o (by simpa using hb) e) f0 f1 f3 f4 f5
    refine ⟨_, rfl, go_of (s := { s with heap := h', toks := tk }) (n := "range_iterator") st' rfl rfl (by decide) ⟨.int (lo + i), H, I1, ⟨t, ?_⟩, ⟨rfl, rfl⟩, st', fun b hb => (hf b hb).1⟩⟩
    rw [Int.mul_one]
  done := by
    intro X hP hw hK hc i pins s σ H E I hf st hg
    subst hP hw hK
    obtain ⟨f0, f1, f2, f3, f4, f5⟩ := hf it (by simp)
    exact wpAny_pyNext_range_end (I.ok.hd hc) st (by have : n ≤ i := hg; omega) fun h' eb => ⟨rfl, I.turned (t' := s.toks) (fun b o hb e => eb b o hb e) f0 f1 f3 f4 f5⟩
  self := fun _ _ _ _ _ st h => wpAny_pyIter_rangeiter st h
end L2

namespace L2
open PySem PySem.Spec PyProof.Rows
section
variable {X : Cx} {tg : Expr}
def iList (K : PySem.W.Frag) (tl : TE) : TI := fun σ H R => tl σ H fun x H1 => ∃ a, x = .ref a ∧ (∃ xs, SqL K H1 a xs) ∧ R (Itl K a) H1
def iTup (K : PySem.W.Frag) (tl : TE) : TI := fun σ H R => tl σ H fun x H1 => ∃ a, x = .ref a ∧ (∃ xs, SqT K H1 a xs) ∧ R (Itt K a) H1
theorem pi_list {l : Expr} {tl : TE} (hl : PE X l tl) : PI X tg l (iList X.K tl) := by
  intro pins s σ H R I h
  refine thn (hl pins s σ H _ I h) fun v s1 ⟨x, H1, I1, r1, q1⟩ => ?_
  obtain ⟨a, e, ⟨xs, hq⟩, q⟩ := q1
  subst e
  cases r1
  obtain ⟨its, rv, p, hz⟩ := I1.list hq
  refine wpAny_pyIter_list p.isList ?_
  refine ⟨s1.heap.objs.size, [s1.heap.objs.size], _, _, H1, rfl, I1.kept (t' := s1.toks) fun b o e => Heap.get?_push_of_some _ e, turn_list a _, ⟨_, Heap.get?_push_size _ rfl, rfl, rfl⟩, fun b hb => ?_, q⟩
  have e : b = s1.heap.objs.size := by simpa using hb
  subst e
  exact I1.fpOk (Nat.le_refl _) (I1.hok.fresh (Nat.le_refl _))
theorem pi_tup {l : Expr} {tl : TE} (hl : PE X l tl) : PI X tg l (iTup X.K tl) := by
  intro pins s σ H R I h
  refine thn (hl pins s σ H _ I h) fun v s1 ⟨x, H1, I1, r1, q1⟩ => ?_
  obtain ⟨a, e, ⟨xs, hq⟩, q⟩ := q1
  subst e
  cases r1
  obtain ⟨its, rv, p, hz⟩ := I1.tuple hq
  refine wpAny_pyIter_tuple (show s1.heap.IsTuple a its.toArray from p) ?_
  refine ⟨s1.heap.objs.size, [s1.heap.objs.size], _, _, H1, rfl, I1.kept (t' := s1.toks) fun b o e => Heap.get?_push_of_some _ e, turn_tuple a _, ⟨_, Heap.get?_push_size _ rfl, rfl, rfl⟩, fun b hb => ?_, q⟩
  have e : b = s1.heap.objs.size := by simpa using hb
  subst e
  exact I1.fpOk (Nat.le_refl _) (I1.hok.fresh (Nat.le_refl _))
theorem range_it {pins : List (Addr × Obj)} {σ : St} {H : Hp} {s : Shared} {R : It → Hp → Prop} {E : Value → Shared → Prop} {lo hi : Int} {t u v : Tok} {tk : Nat} (I : Inv X pins σ H s) (h1 : -(2 ^ 62) ≤ lo) (h2 : lo < 2 ^ 62) (h3 : -(2 ^ 62) ≤ hi) (h4 : hi < 2 ^ 62)
    (q : R (Itr lo (hi - lo).toNat) H) : wpAny (model X.prog X.w) X.A (pyIter (.ref s.heap.objs.size)) (PIE X pins σ tg R) E { s with heap := s.heap.push { cls := .type "range", data := .fields #[.int lo t, .int hi u, .int 1 v] }, toks := tk } := by
  refine wpAny_pyIter_range (IsRange.new ..) (small_one h1 h2 h3 h4) ?_
  have I1 : Inv X pins σ H { s with heap := s.heap.push { cls := .type "range", data := .fields #[.int lo t, .int hi u, .int 1 v] }, toks := tk } := I.kept fun b o e => Heap.get?_push_of_some _ e
  refine ⟨(s.heap.push { cls := .type "range", data := .fields #[.int lo t, .int hi u, .int 1 v] }).objs.size, [(s.heap.push { cls := .type "range", data := .fields #[.int lo t, .int hi u, .int 1 v] }).objs.size], _, _, H, rfl,
    I1.kept (t' := tk) fun b o e => Heap.get?_push_of_some _ e, turn_range _ lo (hi - lo).toNat, ?_, fun b hb => ?_, q⟩
  · have e1 : lo + ((0 : Nat) : Int) * 1 = lo := by simp
    have e2 : (((hi - lo).toNat : Nat) : Int) - ((0 : Nat) : Int) = Builtin.Range.rangeSize lo hi 1 := by rw [rangeSize_one]; split <;> omega
    show IsRangeIter _ _ (lo + ((0 : Nat) : Int) * 1) ((((hi - lo).toNat : Nat) : Int) - ((0 : Nat) : Int)) 1
    rw [e1, e2]
    exact Heap.get?_push_size _ rfl
  · have e : b = (s.heap.push { cls := .type "range", data := .fields #[.int lo t, .int hi u, .int 1 v] }).objs.size := by simpa using hb
    subst e
    exact I1.fpOk (Nat.le_refl _) (I1.hok.fresh (Nat.le_refl _))
def iRng1 (ta : TA) : TI := fun σ H R => ta σ H fun vs H1 => ∃ j : Int, vs = [.int j] ∧ -(2 ^ 62) ≤ j ∧ j < 2 ^ 62 ∧ R (Itr 0 j.toNat) H1
def iRng2 (ta : TA) : TI := fun σ H R => ta σ H fun vs H1 => ∃ i j : Int, vs = [.int i, .int j] ∧ (-(2 ^ 62) ≤ i ∧ i < 2 ^ 62 ∧ -(2 ^ 62) ≤ j ∧ j < 2 ^ 62) ∧ R (Itr i (j - i).toNat) H1
theorem pi_range1 {a : Expr} {ta : TA} {p pos : Pos} (hg : Gl X "range") (hm : X.mg "range" = none) (ha : PA X [a] ta) (hs : starEach [a] X.env = [(false, eval a X.env)] := by rfl) : PI X tg (.Call (.Name "range" p) [a] [] pos) (iRng1 ta) := by
  intro pins s σ H R I h
  refine Call_ (ld_blt I hg hm boot_range (PyProof.Rows.callWith_type1 (thn (ha pos pins s σ H _ I h) fun us s1 ⟨vs, H1, I1, r1, q1⟩ => ?_) hs rfl))
  obtain ⟨j, e, q1, q2, q⟩ := q1
  subst e
  cases r1 with
  | cons r rr =>
    cases rr
    obtain ⟨t, rfl⟩ := r
    exact call_range_1 (range_it I1 (by omega) (by omega) q1 q2 (by simpa using q))
theorem pi_range2 {a b : Expr} {ta : TA} {p pos : Pos} (hg : Gl X "range") (hm : X.mg "range" = none) (ha : PA X [a, b] ta) (hs : starEach [a, b] X.env = [(false, eval a X.env), (false, eval b X.env)] := by rfl) (hs2 : starEach [b] X.env = [(false, eval b X.env)] := by rfl) :
    PI X tg (.Call (.Name "range" p) [a, b] [] pos) (iRng2 ta) := by
  intro pins s σ H R I h
  refine Call_ (ld_blt I hg hm boot_range (PyProof.Rows.callWith_type1 (thn (ha pos pins s σ H _ I h) fun us s1 ⟨vs, H1, I1, r1, q1⟩ => ?_) (by rw [hs, hs2]) (by rw [hs2]; rfl)))
  obtain ⟨i, j, e, ⟨q1, q2, q3, q4⟩, q⟩ := q1
  subst e
  cases r1 with
  | cons r rr =>
    cases rr with
    | cons r' rr =>
      cases rr
      obtain ⟨t, rfl⟩ := r
      obtain ⟨t', rfl⟩ := r'
      exact call_range_2 (range_it I1 q1 q2 q3 q4 q)

def tFor (wi : TI) (g : TG) (tb : TS) : TS := fun D σ H => wi σ H fun J H1 => ∃ W : Nat → Nat → St → Hp → Prop, (∃ m, W 0 m σ H1) ∧ ∀ i m σ H, W i m σ H →
  (J.stop i H ∧ D.nx σ H) ∨ (J.go i H ∧ ∃ N : St → Hp → Prop, (∀ σ' H', N σ' H' → ∃ m', m' < m ∧ W (i + 1) m' σ' H') ∧ ∀ x H', J.yld i H x H' → g x σ H' fun σ2 H2 => tb { D with nx := N, ct := N, bk := D.nx } σ2 H2)
def pinsAt (fp : List Addr) (h : Heap) : List (Addr × Obj) := fp.filterMap fun b => (h.get? b).map fun o => (b, o)
theorem mem_pinsAt {fp : List Addr} {h : Heap} {b : Addr} {o : Obj} (hb : b ∈ fp) (e : h.get? b = some o) : (b, o) ∈ pinsAt fp h := List.mem_filterMap.mpr ⟨b, hb, by rw [e]; rfl⟩
theorem of_pinsAt {fp : List Addr} {h : Heap} {p : Addr × Obj} (hp : p ∈ pinsAt fp h) : p.1 ∈ fp ∧ h.get? p.1 = some p.2 := by
  obtain ⟨b, hb, e⟩ := List.mem_filterMap.mp hp
  cases q : h.get? b with
  | none => rw [q] at e; cases e
  | some o =>
    rw [q] at e
    have e' : (b, o) = p := Option.some.inj e
    subst e'
    exact ⟨hb, q⟩
theorem Inv.pinned {pins : List (Addr × Obj)} {σ : St} {H : Hp} {s : Shared} {fp : List Addr} (I : Inv X pins σ H s) (hf : ∀ b ∈ fp, FpOk X pins H b) (ho : ∀ b ∈ fp, ∃ o, s.heap.get? b = some o ∧ ∀ v, o.data ≠ .cell v) : Inv X (pins ++ pinsAt fp s.heap) σ H s :=
  I.pins_of fun p hp => (List.mem_append.mp hp).elim (fun z => I.pin p (List.mem_append_right _ z)) fun z => by
    obtain ⟨hb, e⟩ := of_pinsAt z
    obtain ⟨f0, f1, f2, _⟩ := hf p.1 hb
    obtain ⟨o, e', d⟩ := ho p.1 hb
    rw [e] at e'; cases e'
    exact ⟨e, f0, f1, f2, d⟩
theorem Inv.unpinned {pins pl : List (Addr × Obj)} {σ : St} {H : Hp} {s : Shared} (I : Inv X (pins ++ pl) σ H s) : Inv X pins σ H s := I.pins_of fun p hp => I.pin p (List.mem_append_right _ (List.mem_append_left _ hp))
theorem ps_for {iter : Expr} {body : List Stmt} {wi : TI} {g : TG} {tb : TS} {pos : Pos} (hp : PassesOwn (model X.prog X.w) X.A X.env X.xe) (hc : X.calm = true) (hi : PI X tg iter wi) (hg : PG X tg g) (hb : PSs X body tb)
    (hs : ∀ x, foldedSetIterable iter X.env x = pure x := by intro _; rfl) : PS X (.For tg iter body [] pos) (tFor wi g tb) := by
  intro pins s σ H D I h
  refine wpAny_For (thn (hi pins s σ H _ I h) fun v s1 h1 => thn h1 fun itv s2 h2 => ?_) hs
  obtain ⟨it, fp, tn, J, H2, e, I2, T, st2, f2, W, ⟨m0, w0⟩, turn⟩ := h2
  subst e
  -- what stays true of the iterator's objects through the loop
  have stat : ∀ {H' : Hp}, (∀ b ∈ fp, H' b = none) → ∀ b ∈ fp, FpOk X pins H' b := fun hn b hb => ⟨hn b hb, (f2 b hb).2⟩
  refine codeAny_forLoop_any (fun n s' => ∃ i σ' H', Inv X pins σ' H' s' ∧ tn i s'.heap ∧ (∀ b ∈ fp, H' b = none) ∧ W i n σ' H') ?_ m0 ⟨0, σ, H2, I2, st2, fun b hb => (f2 b hb).1, w0⟩
  rintro n s3 ⟨i, σ3, H3, I3, st3, fr3, w3⟩
  rcases turn i n σ3 H3 w3 with ⟨stop, qn⟩ | ⟨go, N, hN, step⟩
  · refine wpAny_passesOwn hp (thn (T.done X rfl rfl rfl hc i pins s3 σ3 H3 X.xe I3 (stat fr3) st3 stop) fun r s4 ⟨hr, I4⟩ => ?_)
    subst hr
    exact wpAny_execs_nil ⟨σ3, H3, I4, qn⟩
  · refine wpAny_passesOwn hp (thn (T.item X rfl rfl rfl hc i pins s3 σ3 H3 X.xe I3 (stat fr3) st3 go) fun r s4 ⟨u, hr, h4⟩ => ?_)
    subst hr
    refine wpAny_passesOwn hp (thn h4 fun _ s5 ⟨x, H5, I5, r5, y5, st5, fr5⟩ => ?_)
    have I5' := I5.pinned (stat fr5) (T.obj _ _ st5)
    refine wpAny_passesOwn hp (thn (hg _ s5 σ3 H5 x u _ I5' r5 (step x H5 y5)) fun _ s6 ⟨σ6, H6, I6, q6⟩ => ?_)
    refine wpAny_passesOwn hp (thn (hb _ s6 σ6 H6 _ I6 q6) fun f s7 q7 => ?_)
    have again : ∀ {σ7 : St} {H7 : Hp}, Inv X (pins ++ pinsAt fp s5.heap) σ7 H7 s7 → N σ7 H7 → ∃ m, m < n ∧ ∃ i σ' H', Inv X pins σ' H' s7 ∧ tn i s7.heap ∧ (∀ b ∈ fp, H' b = none) ∧ W i m σ' H' := fun {σ7 H7} I7 n7 => by
      obtain ⟨m', hm, w7⟩ := hN σ7 H7 n7
      refine ⟨m', hm, i + 1, σ7, H7, I7.unpinned, T.keep _ _ _ st5 fun b hb o e => (I7.pin (b, o) (List.mem_append_right _ (List.mem_append_right _ (mem_pinsAt hb e)))).1, fun b hb => ?_, w7⟩
      obtain ⟨o, e, d⟩ := T.obj _ _ st5 b hb
      exact (I7.pin (b, o) (List.mem_append_right _ (List.mem_append_right _ (mem_pinsAt hb e)))).2.1
    cases f with
    | next => obtain ⟨σ7, H7, I7, n7⟩ := q7; exact again I7 n7
    | cont => obtain ⟨σ7, H7, I7, n7⟩ := q7; exact again I7 n7
    | brk => obtain ⟨σ7, H7, I7, q7⟩ := q7; exact ⟨σ7, H7, I7.unpinned, q7⟩
    | ret v => obtain ⟨x7, σ7, H7, I7, r7, q7⟩ := q7; exact ⟨x7, σ7, H7, I7.unpinned, r7, q7⟩
end

theorem for_list {K : PySem.W.Frag} {a : Addr} {xs : List V} {g : TG} {tb : TS} {D : Ends} {σ : St} {H : Hp} (Pv : Nat → St → Hp → Prop) (h0 : Pv 0 σ H) (hl : ∀ i σ H, i ≤ xs.length → Pv i σ H → SqL K H a xs)
    (hs : ∀ i x σ H, xs[i]? = some x → Pv i σ H → g x σ H fun σ2 H2 => tb { D with nx := Pv (i + 1), ct := Pv (i + 1), bk := D.nx } σ2 H2) (hd : ∀ σ H, Pv xs.length σ H → D.nx σ H) :
    ∃ W : Nat → Nat → St → Hp → Prop, (∃ m, W 0 m σ H) ∧ ∀ i m σ H, W i m σ H →
      ((Itl K a).stop i H ∧ D.nx σ H) ∨ ((Itl K a).go i H ∧ ∃ N : St → Hp → Prop, (∀ σ' H', N σ' H' → ∃ m', m' < m ∧ W (i + 1) m' σ' H') ∧ ∀ x H', (Itl K a).yld i H x H' → g x σ H' fun σ2 H2 => tb { D with nx := N, ct := N, bk := D.nx } σ2 H2) := by
  refine ⟨fun i m σ H => m = xs.length - i ∧ i ≤ xs.length ∧ Pv i σ H, ⟨xs.length, by simp, Nat.zero_le _, h0⟩, ?_⟩
  rintro i m σ H ⟨rfl, hi, p⟩
  have q := hl i σ H hi p
  by_cases hlt : i < xs.length
  · refine .inr ⟨⟨xs, xs[i], q, by simp [hlt]⟩, Pv (i + 1), fun σ' H' p' => ⟨xs.length - (i + 1), by omega, rfl, hlt, p'⟩, fun x H' y => ?_⟩
    obtain ⟨e, y⟩ := y
    subst e
    exact hs i x σ _ (y xs q) p
  · have e : i = xs.length := by omega
    subst e
    exact .inl ⟨⟨xs, q, Nat.le_refl _⟩, hd σ H p⟩
theorem for_range {lo : Int} {n : Nat} {g : TG} {tb : TS} {D : Ends} {σ : St} {H : Hp} (Pv : Nat → St → Hp → Prop) (h0 : Pv 0 σ H)
    (hs : ∀ i σ H, i < n → Pv i σ H → g (.int (lo + i)) σ H fun σ2 H2 => tb { D with nx := Pv (i + 1), ct := Pv (i + 1), bk := D.nx } σ2 H2) (hd : ∀ σ H, Pv n σ H → D.nx σ H) :
    ∃ W : Nat → Nat → St → Hp → Prop, (∃ m, W 0 m σ H) ∧ ∀ i m σ H, W i m σ H →
      ((Itr lo n).stop i H ∧ D.nx σ H) ∨ ((Itr lo n).go i H ∧ ∃ N : St → Hp → Prop, (∀ σ' H', N σ' H' → ∃ m', m' < m ∧ W (i + 1) m' σ' H') ∧ ∀ x H', (Itr lo n).yld i H x H' → g x σ H' fun σ2 H2 => tb { D with nx := N, ct := N, bk := D.nx } σ2 H2) := by
  refine ⟨fun i m σ H => m = n - i ∧ i ≤ n ∧ Pv i σ H, ⟨n, by simp, Nat.zero_le _, h0⟩, ?_⟩
  rintro i m σ H ⟨rfl, hi, p⟩
  by_cases hlt : i < n
  · refine .inr ⟨hlt, Pv (i + 1), fun σ' H' p' => ⟨n - (i + 1), by omega, rfl, hlt, p'⟩, fun x H' y => ?_⟩
    obtain ⟨e, y⟩ := y
    subst e y
    exact hs i σ _ hlt p
  · have e : i = n := by omega
    subst e
    exact .inl ⟨Nat.le_refl _, hd σ H p⟩
end L2

namespace L2
open PySem PySem.Spec PyProof.Rows

abbrev R2 := V → V → Hp → VK → Prop
def OpR (X : Cx) (f : Value → Value → Sem Value) (r : R2) : Prop :=
  ∀ (pins : List (Addr × Obj)) (s : Shared) (σ : St) (H : Hp) (x y : V) (v u : Value) (Q : VK), Inv X pins σ H s → RelV x v → RelV y u → r x y H Q →
    wpAny (model X.prog X.w) X.A (f v u) (EP X pins σ Q) X.xe s
def UnR (X : Cx) (f : Value → Sem Value) (r : V → Hp → VK → Prop) : Prop :=
  ∀ (pins : List (Addr × Obj)) (s : Shared) (σ : St) (H : Hp) (x : V) (v : Value) (Q : VK), Inv X pins σ H s → RelV x v → r x H Q →
    wpAny (model X.prog X.w) X.A (f v) (EP X pins σ Q) X.xe s
def CallR (X : Cx) (f : Value) (r : List V → Hp → VK → Prop) : Prop :=
  ∀ (pins : List (Addr × Obj)) (s : Shared) (σ : St) (H : Hp) (xs : List V) (us : List Value) (Q : VK), Inv X pins σ H s → Vals xs us → r xs H Q →
    wpAny (model X.prog X.w) X.A (call f us) (EP X pins σ Q) X.xe s
def tOp (r : R2) (ta tb : TE) : TE := fun σ H Q => ta σ H fun x H1 => tb σ H1 fun y H2 => r x y H2 Q
def tUn (r : V → Hp → VK → Prop) (ta : TE) : TE := fun σ H Q => ta σ H fun x H1 => r x H1 Q
def rI (C : Int → Int → Prop) (g : Int → Int → V) : R2 := fun x y H Q => ∃ i j, x = .int i ∧ y = .int j ∧ C i j ∧ Q (g i j) H
def rI0 (g : Int → Int → V) : R2 := fun x y H Q => ∃ i j, x = .int i ∧ y = .int j ∧ Q (g i j) H
def rU (g : Int → V) : V → Hp → VK → Prop := fun x H Q => ∃ i, x = .int i ∧ Q (g i) H

section
variable {X : Cx} {a b c : Expr} {ta tb tc : TE} {pos : Pos}

theorem binT (ha : PE X a ta) (hb : PE X b tb) {pins : List (Addr × Obj)} {s : Shared} {σ : St} {H : Hp} {R : V → V → Hp → Prop} (I : Inv X pins σ H s)
    (h : ta σ H fun x H1 => tb σ H1 fun y H2 => R x y H2) {Q : Value → Shared → Prop} {f : Value → Value → Sem Value}
    (hf : ∀ v u s2 x y H2, Inv X pins σ H2 s2 → RelV x v → RelV y u → R x y H2 → wpAny (model X.prog X.w) X.A (f v u) Q X.xe s2) :
    wpAny (model X.prog X.w) X.A (eval a X.env) (fun v s₁ => wpAny (model X.prog X.w) X.A (eval b X.env) (fun u s₂ => wpAny (model X.prog X.w) X.A (f v u) Q X.xe s₂) X.xe s₁) X.xe s := by
  refine thn (ha pins s σ H _ I h) fun v s1 ⟨x, H1, I1, r1, q1⟩ => ?_
  refine thn (hb pins s1 σ H1 _ I1 q1) fun u s2 ⟨y, H2, I2, r2, q2⟩ => ?_
  exact hf v u s2 x y H2 I2 r1 r2 q2

theorem pe_op {op : Operator} {r : R2} (ho : OpR X (binaryOp op) r) (ha : PE X a ta) (hb : PE X b tb) : PE X (.BinOp a op b pos) (tOp r ta tb) := by
  intro pins s σ H Q I h
  exact wpAny_BinOp (binT ha hb I h fun v u s2 x y H2 I2 rx ry q => ho pins s2 σ H2 x y v u Q I2 rx ry q)
theorem pe_un {op : UnaryOp} {r : V → Hp → VK → Prop} (ho : UnR X (unaryOp op) r) (ha : PE X a ta) : PE X (.UnaryOp op a pos) (tUn r ta) := by
  intro pins s σ H Q I h
  exact UnaryOp_ (thn (ha pins s σ H _ I h) fun v s1 ⟨x, H1, I1, r1, q1⟩ => ho pins s1 σ H1 x v Q I1 r1 q1)
theorem opI {f : Value → Value → Sem Value} {C : Int → Int → Prop} {g : Int → Int → Int}
    (rule : ∀ (i j : Int) (t u : Tok) (s : Shared) (Q : Value → Shared → Prop) (E : Value → Shared → Prop), C i j → Q (.int (g i j) s.toks) { s with toks := s.toks + 1 } → wpAny (model X.prog X.w) X.A (f (.int i t) (.int j u)) Q E s) :
    OpR X f (rI C fun i j => .int (g i j)) := by
  intro pins s σ H x y v u Q I rx ry h
  obtain ⟨i, j, rfl, rfl, hc, q⟩ := h
  obtain ⟨t, rfl⟩ := rx
  obtain ⟨t', rfl⟩ := ry
  exact rule i j t t' s _ _ hc ⟨.int (g i j), H, I.tok _, ⟨_, rfl⟩, q⟩
theorem opI0 {f : Value → Value → Sem Value} {g : Int → Int → Int}
    (rule : ∀ (i j : Int) (t u : Tok) (s : Shared) (Q : Value → Shared → Prop) (E : Value → Shared → Prop), Q (.int (g i j) s.toks) { s with toks := s.toks + 1 } → wpAny (model X.prog X.w) X.A (f (.int i t) (.int j u)) Q E s) :
    OpR X f (rI0 fun i j => .int (g i j)) := by
  intro pins s σ H x y v u Q I rx ry h
  obtain ⟨i, j, rfl, rfl, q⟩ := h
  obtain ⟨t, rfl⟩ := rx
  obtain ⟨t', rfl⟩ := ry
  exact rule i j t t' s _ _ ⟨.int (g i j), H, I.tok _, ⟨_, rfl⟩, q⟩
theorem opB0 {f : Value → Value → Sem Value} {g : Int → Int → Bool}
    (rule : ∀ (i j : Int) (t u : Tok) (s : Shared) (Q : Value → Shared → Prop) (E : Value → Shared → Prop), Q (.bool (g i j)) s → wpAny (model X.prog X.w) X.A (f (.int i t) (.int j u)) Q E s) :
    OpR X f (rI0 fun i j => .bl (g i j)) := by
  intro pins s σ H x y v u Q I rx ry h
  obtain ⟨i, j, rfl, rfl, q⟩ := h
  obtain ⟨t, rfl⟩ := rx
  obtain ⟨t', rfl⟩ := ry
  exact rule i j t t' s _ _ ⟨.bl (g i j), H, I, rfl, q⟩

def CDiv (i j : Int) : Prop := 0 < j ∧ j < 1073741824
def CMul (i j : Int) : Prop := (-(2 ^ 64) < i ∧ i < 2 ^ 64) ∨ (-(2 ^ 64) < j ∧ j < 2 ^ 64)
theorem CMul.ok {i j : Int} (h : CMul i j) : IntMulOk i j := by
  rcases h with ⟨h1, h2⟩ | ⟨h1, h2⟩
  · exact .of_left (intBits_le_64 h1 h2)
  · exact .of_right (intBits_le_64 h1 h2)
theorem op_add : OpR X (binaryOp .Add) (rI0 fun i j => .int (i + j)) := opI0 fun _ _ _ _ _ _ _ q => add_int q
theorem op_sub : OpR X (binaryOp .Sub) (rI0 fun i j => .int (i - j)) := opI0 fun _ _ _ _ _ _ _ q => sub_int q
theorem op_mul : OpR X (binaryOp .Mult) (rI CMul fun i j => .int (i * j)) := opI fun _ _ _ _ _ _ _ hc q => mul_int q hc.ok
theorem op_fdiv : OpR X (binaryOp .FloorDiv) (rI CDiv fun i j => .int (i / j)) := opI fun i j _ _ _ _ _ hc q => by
  have h1 : (0 : Int) < j := hc.1
  have h2 : j < 1073741824 := hc.2
  exact floordiv_int (by omega) (by rw [Int.fdiv_eq_ediv_of_nonneg i (by omega)]; exact q) (.inl (PyProof.noPylong_small (by omega)))
theorem op_mod : OpR X (binaryOp .Mod) (rI (fun _ j => 0 < j) fun i j => .int (i % j)) := opI fun i j _ _ _ _ _ hc q => by
  have h1 : (0 : Int) < j := hc
  exact mod_int' (by omega) (by rw [Int.fmod_eq_emod_of_nonneg i (by omega)]; exact q)
theorem unI {f : Value → Sem Value} {g : Int → Int}
    (rule : ∀ (i : Int) (t : Tok) (s : Shared) (Q : Value → Shared → Prop) (E : Value → Shared → Prop), Q (.int (g i) s.toks) { s with toks := s.toks + 1 } → wpAny (model X.prog X.w) X.A (f (.int i t)) Q E s) :
    UnR X f (rU fun i => .int (g i)) := by
  intro pins s σ H x v Q I rx h
  obtain ⟨i, rfl, q⟩ := h
  obtain ⟨t, rfl⟩ := rx
  exact rule i t s _ _ ⟨.int (g i), H, I.tok _, ⟨_, rfl⟩, q⟩
theorem un_neg : UnR X (unaryOp .USub) (rU fun i => .int (-i)) := unI fun _ _ _ _ _ q => neg_int q
end

def scal : V → V → Bool
  | .non, .non => true | .non, .int _ => true | .int _, .non => true | .non, .bl _ => true | .bl _, .non => true | .non, .str _ => true | .str _, .non => true
  | .int _, .int _ => true | .bl _, .bl _ => true | .str _, .str _ => true | .byt _, .byt _ => true
  | .int _, .str _ => true | .str _, .int _ => true | .bl _, .str _ => true | .str _, .bl _ => true
  | _, _ => false
def rEq : R2 := fun x y H Q => scal x y = true ∧ Q (.bl (decide (x = y))) H
def rNe : R2 := fun x y H Q => scal x y = true ∧ Q (.bl (!decide (x = y))) H

theorem dec_int {i j : Int} : decide (V.int i = V.int j) = (i == j) := by
  rw [Bool.eq_iff_iff]
  simp
theorem dec_bl {i j : Bool} : decide (V.bl i = V.bl j) = (i == j) := by
  rw [Bool.eq_iff_iff]
  simp
theorem dec_str {i j : Str} : decide (V.str i = V.str j) = (i == j) := by
  rw [Bool.eq_iff_iff]
  simp
theorem dec_byt {i j : Array UInt8} : decide (V.byt i = V.byt j) = (i.toList == j.toList) := by
  rw [Bool.eq_iff_iff]
  cases i
  cases j
  simp

section
variable {X : Cx} {a b c : Expr} {ta tb tc : TE} {pos : Pos}
theorem fin_bl {pins : List (Addr × Obj)} {σ : St} {H : Hp} {s : Shared} {Q : VK} {k k' : Bool} (I : Inv X pins σ H s) (q : Q (.bl k) H) (e : k = k') : EP X pins σ Q (.bool k') s := by
  subst e
  exact ⟨.bl k, H, I, rfl, q⟩
theorem op_eq : OpR X (compareOp .Eq) rEq := by
  intro pins s σ H x y v u Q I rx ry h
  obtain ⟨hs, q⟩ := h
  cases x with
  | non =>
    cases rx
    cases y with
    | non => cases ry; exact PySem.EqNone.eq_none_none (fin_bl I q (by simp))
    | bl j => cases ry; exact PySem.EqNone.eq_none_bool (fin_bl I q (by simp))
    | int j => obtain ⟨t', rfl⟩ := ry; exact PySem.EqNone.eq_none_int (fin_bl I q (by simp))
    | str j => obtain ⟨t', rfl⟩ := ry; exact PySem.EqNone.eq_none_str (fin_bl I q (by simp))
    | _ => exact absurd (show false = true from hs) Bool.false_ne_true
  | bl i =>
    cases rx
    cases y with
    | non => cases ry; exact PySem.EqNone.eq_bool_none (fin_bl I q (by simp))
    | bl j => cases ry; exact eq_bool (fin_bl I q dec_bl)
    | str j => obtain ⟨t', rfl⟩ := ry; exact PySem.EqMixed.eq_bool_str (fin_bl I q (by simp))
    | _ => exact absurd (show false = true from hs) Bool.false_ne_true
  | int i =>
    obtain ⟨t, rfl⟩ := rx
    cases y with
    | non => cases ry; exact PySem.EqNone.eq_int_none (fin_bl I q (by simp))
    | int j => obtain ⟨t', rfl⟩ := ry; exact eq_int (fin_bl I q dec_int)
    | str j => obtain ⟨t', rfl⟩ := ry; exact PySem.EqMixed.eq_int_str (fin_bl I q (by simp))
    | _ => exact absurd (show false = true from hs) Bool.false_ne_true
  | str i =>
    obtain ⟨t, rfl⟩ := rx
    cases y with
    | non => cases ry; exact PySem.EqNone.eq_str_none (fin_bl I q (by simp))
    | bl j => cases ry; exact PySem.EqMixed.eq_str_bool (fin_bl I q (by simp))
    | int j => obtain ⟨t', rfl⟩ := ry; exact PySem.EqMixed.eq_str_int (fin_bl I q (by simp))
    | str j => obtain ⟨t', rfl⟩ := ry; exact eq_str (fin_bl I q dec_str)
    | _ => exact absurd (show false = true from hs) Bool.false_ne_true
  | byt i =>
    obtain ⟨t, rfl⟩ := rx
    cases y with
    | byt j => obtain ⟨t', rfl⟩ := ry; exact PySem.W.eq_bytes (fin_bl I q dec_byt)
    | _ => exact absurd (show false = true from hs) Bool.false_ne_true
  | _ => cases y <;> exact absurd (show false = true from hs) Bool.false_ne_true
theorem op_ne : OpR X (compareOp .NotEq) rNe := by
  intro pins s σ H x y v u Q I rx ry h
  obtain ⟨hs, q⟩ := h
  cases x with
  | non =>
    cases rx
    cases y with
    | non => cases ry; exact PySem.EqNone.ne_none_none (fin_bl I q (by simp))
    | bl j => cases ry; exact PySem.EqNone.ne_none_bool (fin_bl I q (by simp))
    | int j => obtain ⟨t', rfl⟩ := ry; exact PySem.EqNone.ne_none_int (fin_bl I q (by simp))
    | str j => obtain ⟨t', rfl⟩ := ry; exact PySem.EqNone.ne_none_str (fin_bl I q (by simp))
    | _ => exact absurd (show false = true from hs) Bool.false_ne_true
  | bl i =>
    cases rx
    cases y with
    | non => cases ry; exact PySem.EqNone.ne_bool_none (fin_bl I q (by simp))
    | bl j => cases ry; exact ne_bool (fin_bl I q (congrArg not dec_bl))
    | str j => obtain ⟨t', rfl⟩ := ry; exact PySem.EqMixed.ne_bool_str (fin_bl I q (by simp))
    | _ => exact absurd (show false = true from hs) Bool.false_ne_true
  | int i =>
    obtain ⟨t, rfl⟩ := rx
    cases y with
    | non => cases ry; exact PySem.EqNone.ne_int_none (fin_bl I q (by simp))
    | int j => obtain ⟨t', rfl⟩ := ry; exact ne_int (fin_bl I q (congrArg not dec_int))
    | str j => obtain ⟨t', rfl⟩ := ry; exact PySem.EqMixed.ne_int_str (fin_bl I q (by simp))
    | _ => exact absurd (show false = true from hs) Bool.false_ne_true
  | str i =>
    obtain ⟨t, rfl⟩ := rx
    cases y with
    | non => cases ry; exact PySem.EqNone.ne_str_none (fin_bl I q (by simp))
    | bl j => cases ry; exact PySem.EqMixed.ne_str_bool (fin_bl I q (by simp))
    | int j => obtain ⟨t', rfl⟩ := ry; exact PySem.EqMixed.ne_str_int (fin_bl I q (by simp))
    | str j => obtain ⟨t', rfl⟩ := ry; exact ne_str (fin_bl I q (congrArg not dec_str))
    | _ => exact absurd (show false = true from hs) Bool.false_ne_true
  | byt i =>
    obtain ⟨t, rfl⟩ := rx
    cases y with
    | byt j => obtain ⟨t', rfl⟩ := ry; exact PySem.W.ne_bytes (fin_bl I q (congrArg not dec_byt))
    | _ => exact absurd (show false = true from hs) Bool.false_ne_true
  | _ => cases y <;> exact absurd (show false = true from hs) Bool.false_ne_true

theorem op_lt : OpR X (compareOp .Lt) (rI0 fun i j => .bl (decide (i < j))) := opB0 fun _ _ _ _ _ _ _ q => lt_int q
theorem op_le : OpR X (compareOp .LtE) (rI0 fun i j => .bl (decide (i ≤ j))) := opB0 fun _ _ _ _ _ _ _ q => le_int q
theorem op_gt : OpR X (compareOp .Gt) (rI0 fun i j => .bl (decide (j < i))) := opB0 fun _ _ _ _ _ _ _ q => gt_int q
theorem op_ge : OpR X (compareOp .GtE) (rI0 fun i j => .bl (decide (j ≤ i))) := opB0 fun _ _ _ _ _ _ _ q => ge_int q
theorem OpR.or {f : Value → Value → Sem Value} {r r' : R2} (h : OpR X f r) (h' : OpR X f r') : OpR X f (fun x y H Q => r x y H Q ∨ r' x y H Q) := by
  intro pins s σ H x y v u Q I rx ry q
  rcases q with q | q
  · exact h pins s σ H x y v u Q I rx ry q
  · exact h' pins s σ H x y v u Q I rx ry q

theorem nomark (b : Expr) {op : CmpOp} (h : op ≠ .In := by decide) (h2 : op ≠ .NotIn := by decide) : behindInMarks op b = false := by
  have e1 : (op == CmpOp.In) = false := by cases op <;> first | rfl | exact absurd rfl h
  have e2 : (op == CmpOp.NotIn) = false := by cases op <;> first | rfl | exact absurd rfl h2
  cases b <;> simp [behindInMarks, e1, e2]
theorem pe_cmpR {op : CmpOp} {r : R2} (ho : OpR X (compareOp op) r) (ha : PE X a ta) (hb : PE X b tb) (hm : behindInMarks op b = false) : PE X (.Compare a [op] [b] pos) (tOp r ta tb) := by
  intro pins s σ H Q I h
  exact wpAny_Compare1 (binT ha hb I h fun v u s2 x y H2 I2 rx ry q => ho pins s2 σ H2 x y v u Q I2 rx ry q) hm
def tTest (t : TE) : TT := fun σ H Q => t σ H fun x H' => ∃ k, x = .bl k ∧ Q k H'
theorem pt_cmpR {op : CmpOp} {r : R2} (ho : OpR X (compareOp op) r) (ha : PE X a ta) (hb : PE X b tb) (hm : behindInMarks op b = false) : PT X (.Compare a [op] [b] pos) (tTest (tOp r ta tb)) := by
  intro pins s σ H Q I h
  refine wpAny_isTrue_Compare1 (thn (ha pins s σ H _ I h) fun v s1 ⟨x, H1, I1, r1, q1⟩ => thn (hb pins s1 σ H1 _ I1 q1) fun u s2 ⟨y, H2, I2, r2, q2⟩ =>
    thn (ho pins s2 σ H2 x y v u _ I2 r1 r2 q2) fun c s3 ⟨z, H3, I3, r3, k, e, q3⟩ => ?_) hm
  subst e
  cases r3
  exact wpAny_truthy_bool ⟨H3, I3, q3⟩
def tChain (r r' : R2) (ta tb tc : TE) : TE := fun σ H Q => ta σ H fun x H1 => tb σ H1 fun y H2 => r x y H2 fun z H3 => ∃ k, z = .bl k ∧
  (if k = true then tc σ H3 fun w' H4 => r' y w' H4 Q else Q (.bl false) H3)
theorem pe_chain {op op' : CmpOp} {r r' : R2} (ho : OpR X (compareOp op) r) (ho' : OpR X (compareOp op') r') (ha : PE X a ta) (hb : PE X b tb) (hc : PE X c tc)
    (hm : lastMarks [op, op'] [b, c] = false := by with_unfolding_all rfl) : PE X (.Compare a [op, op'] [b, c] pos) (tChain r r' ta tb tc) := by
  intro pins s σ H Q I h
  refine Compare_chain (thn (ha pins s σ H _ I h) fun v s1 ⟨x, H1, I1, r1, q1⟩ => chain_link (thn (hb pins s1 σ H1 _ I1 q1) fun u s2 ⟨y, H2, I2, r2, q2⟩ =>
    thn (ho pins s2 σ H2 x y v u _ I2 r1 r2 q2) fun d s3 ⟨z, H3, I3, r3, k, e, q3⟩ => ?_)) hm
  subst e
  cases r3
  refine wpAny_truthy_bool ?_
  cases k with
  | false => exact ite_ff ⟨.bl false, H3, I3, rfl, q3⟩
  | true => exact ite_tt (chain_last (thn (hc pins s3 σ H3 _ I3 q3) fun w' s4 ⟨z', H4, I4, r4, q4⟩ => ho' pins s4 σ H4 y z' u w' Q I4 r2 r4 q4))
theorem pt_chain {op op' : CmpOp} {r r' : R2} (ho : OpR X (compareOp op) r) (ho' : OpR X (compareOp op') r') (ha : PE X a ta) (hb : PE X b tb) (hc : PE X c tc)
    (hm : lastMarks [op, op'] [b, c] = false := by with_unfolding_all rfl) : PT X (.Compare a [op, op'] [b, c] pos) (tTest (tChain r r' ta tb tc)) := by
  intro pins s σ H Q I h
  refine isTrue_chain (thn (ha pins s σ H _ I h) fun v s1 ⟨x, H1, I1, r1, q1⟩ => test_link (thn (hb pins s1 σ H1 _ I1 q1) fun u s2 ⟨y, H2, I2, r2, q2⟩ =>
    thn (ho pins s2 σ H2 x y v u _ I2 r1 r2 q2) fun d s3 ⟨z, H3, I3, r3, k, e, q3⟩ => ?_)) hm
  subst e
  cases r3
  refine wpAny_truthy_bool ?_
  cases k with
  | false =>
    obtain ⟨k', e', q'⟩ := q3
    cases e'
    exact ite_ff ⟨H3, I3, q'⟩
  | true =>
    refine ite_tt (test_last (thn (hc pins s3 σ H3 _ I3 q3) fun w' s4 ⟨z', H4, I4, r4, q4⟩ => thn (ho' pins s4 σ H4 y z' u w' _ I4 r2 r4 q4) fun d' s5 ⟨z2, H5, I5, r5, k2, e2, q5⟩ => ?_))
    subst e2
    cases r5
    exact wpAny_truthy_bool ⟨H5, I5, q5⟩

theorem line63 : (sizeLine : Nat) < 2 ^ 63 := by rw [sizeLine_eq]; decide
theorem vals1 {x : V} {us : List Value} (r : Vals [x] us) : ∃ u, us = [u] ∧ RelV x u := by
  cases r with
  | cons r1 r2 => cases r2; exact ⟨_, rfl, r1⟩
theorem vals2 {x y : V} {us : List Value} (r : Vals [x, y] us) : ∃ u w', us = [u, w'] ∧ RelV x u ∧ RelV y w' := by
  cases r with
  | cons r1 r2 =>
    cases r2 with
    | cons r3 r4 => cases r4; exact ⟨_, _, rfl, r1, r3⟩
theorem call_abs : CallR X (.builtin "abs") (fun xs H Q => ∃ i, xs = [.int i] ∧ Q (.int (if i < 0 then -i else i)) H) := by
  intro pins s σ H xs us Q I r h
  obtain ⟨i, rfl, q⟩ := h
  obtain ⟨u, rfl, t, rfl⟩ := vals1 r
  exact call_abs_int fun u tk => ⟨.int (if i < 0 then -i else i), H, I.tok _, ⟨_, rfl⟩, q⟩
theorem call_max2 (hc : X.calm = true) : CallR X (.builtin "max") (fun xs H Q => ∃ i j, xs = [.int i, .int j] ∧ Q (.int (if j > i then j else i)) H) := by
  intro pins s σ H xs us Q I r h
  obtain ⟨i, j, rfl, q⟩ := h
  obtain ⟨u, w', rfl, ⟨t, rfl⟩, ⟨t', rfl⟩⟩ := vals2 r
  refine max_two_ints (I.ok.hd hc) fun h' tk k => ⟨_, H, I.kept k, ?_, q⟩
  by_cases hj : j > i
  · rw [if_pos hj, if_pos hj]; exact ⟨_, rfl⟩
  · rw [if_neg hj, if_neg hj]; exact ⟨_, rfl⟩
def LenV (K : PySem.W.Frag) (x : V) (H : Hp) (n : Nat) : Prop :=
  match x with
  | .str y => y.length ≤ sizeLine ∧ n = y.length
  | .byt y => y.size ≤ sizeLine ∧ n = y.size
  | .ref p => (∃ xs, SqL K H p xs ∧ n = xs.length) ∨ ∃ xs, SqT K H p xs ∧ n = xs.length
  | _ => False
theorem call_len : CallR X (.builtin "len") (fun xs H Q => ∃ x n, xs = [x] ∧ LenV X.K x H n ∧ Q (.int n) H) := by
  intro pins s σ H xs us Q I r h
  obtain ⟨x, n, rfl, e, q⟩ := h
  obtain ⟨u, rfl, rx⟩ := vals1 r
  have hl := line63
  have hs : sizeLine = 16777216 := sizeLine_eq
  cases x with
  | str y =>
    obtain ⟨t, rfl⟩ := rx
    obtain ⟨hy, e'⟩ : y.length ≤ sizeLine ∧ n = y.length := e
    subst e'
    exact len_str (by omega) ⟨.int _, H, I.tok _, ⟨_, rfl⟩, q⟩
  | byt y =>
    obtain ⟨t, rfl⟩ := rx
    obtain ⟨hy, e'⟩ : y.size ≤ sizeLine ∧ n = y.size := e
    subst e'
    exact PySem.W.len_bytes (by omega) ⟨.int _, H, I.tok _, ⟨_, rfl⟩, q⟩
  | ref p =>
    cases rx
    have e' : (∃ xs, SqL X.K H p xs ∧ n = xs.length) ∨ ∃ xs, SqT X.K H p xs ∧ n = xs.length := e
    rcases e' with ⟨xs, hx, e'⟩ | ⟨xs, hx, e'⟩
    · subst e'
      obtain ⟨its, r', pl, hz⟩ := I.list hx
      have hlen := r'.length
      exact Calls.call_len_list pl.isList (by simp only [List.size_toArray]; omega) ⟨.int xs.length, H, I.tok _, ⟨_, by simp only [List.size_toArray]; rw [hlen]⟩, q⟩
    · subst e'
      obtain ⟨its, r', pl, hz⟩ := I.tuple hx
      have hlen := r'.length
      exact len_tuple pl (by simp only [List.size_toArray]; omega) ⟨.int xs.length, H, I.tok _, ⟨_, by simp only [List.size_toArray]; rw [hlen]⟩, q⟩
  | _ => exact (show False from e).elim
end
end L2

namespace L2
open PySem PySem.Spec PyProof.Rows

structure ObjM (h : Heap) (x dx C : Addr) (mA : Str → Option Value) : Prop where
  obj : h.get? x = some (PySem.W.instObj C dx)
  ns : h.Ns1 dx mA
  ne : dx ≠ x

theorem lookIn_ns {h : Heap} {dx : Addr} {mA : Str → Option Value} (n : h.Ns1 dx mA) : ∃ od, h.get? dx = some od ∧ ∀ name, PySem.W.lookIn name od = some (mA name) := by
  obtain ⟨o, es, ep, ho, hd, hk, _, hm⟩ := n
  refine ⟨o, ho, fun name => ?_⟩
  have e := hm name
  unfold nsFind findBy at e
  rw [← Array.find?_toList] at e
  unfold PySem.W.lookIn
  rw [hd]
  dsimp only
  split
  · rename_i y q
    rw [q] at e
    exact congrArg some e
  · rename_i q
    rw [q] at e
    have a : es.toList.any (·.refKey) = false := by
      rw [List.any_eq_false]
      intro y hy
      obtain ⟨z, t, hkey⟩ := hk y (Array.mem_toList_iff.mp hy)
      simp [DictEntry.refKey, hkey]
    have a' : ¬ es.toList.any (·.refKey) = true := by rw [a]; exact Bool.false_ne_true
    rw [if_neg a']
    exact congrArg some e

theorem ObjM.look {h : Heap} {x dx C : Addr} {mA : Str → Option Value} (I : ObjM h x dx C mA) : ∃ od, PySem.W.InstAt h x (PySem.W.instObj C dx) C (some od) ∧ ∀ name, PySem.W.lookIn name od = some (mA name) :=
  let ⟨od, ho, hl⟩ := lookIn_ns I.ns
  ⟨od, ⟨I.obj, rfl, rfl, ho⟩, hl⟩

section
variable {prog : Program} {w : World} {A : Around} {E : Value → Shared → Prop} {s : Shared} {K : PySem.W.Frag} {x dx C f : Addr} {mA : Str → Option Value} {name : Str} {v : Value}

end

section
variable {P : Program} {w : World} {H H' : Hp} {h h' : Heap} {a C dx : Addr} {fs fs' : List (Str × V)}
theorem ins_get (hok : HOk P w H h) (e : H a = some (.ins C dx fs)) : ∃ mA, ObjM h a dx C mA ∧ (∀ f, RelO (fs.lookup f) (mA f)) ∧ PySem.Within mA (fs.map (·.1)) ∧ fs.length ≤ 1000 ∧ H dx = some (.own a) := by
  obtain ⟨d, z, ne, ob, mA, n, r, q⟩ := (show ObjOk P w H h a (.ins C dx fs) from hok a _ e)
  exact ⟨mA, ⟨ob, n, ne⟩, r, q, z, d⟩
end

structure Cls (K : PySem.W.Frag) (C : Addr) : Prop where
  pg : PySem.W.plainGet K C Str.empty = true
  hd : PySem.W.hasDictIn K C = true
  po : PySem.W.plainOver K C = true
  sa : PySem.W.findIn K (.ref C) "__setattr__" = some (some (.builtin "object.__setattr__"))
theorem Cls.get {K : PySem.W.Frag} {C : Addr} (c : Cls K C) (f : Str) : PySem.W.plainGet K C f = true := c.pg
section
variable {X : Cx} {pins : List (Addr × Obj)} {σ : St} {H : Hp} {s : Shared} {a C dx : Addr} {fs : List (Str × V)} {f : Str} {v : V} {A : Around} {E : Value → Shared → Prop}

theorem Inv.made (I : Inv X pins σ H s) : Inv X pins σ (upd (upd H s.heap.objs.size (.own (s.heap.objs.size + 1))) (s.heap.objs.size + 1) (.ins C s.heap.objs.size []))
    { s with heap := (s.heap.push PySem.W.emptyDict).push (PySem.W.instObj C s.heap.objs.size) } := by
  have e1 : (s.heap.push PySem.W.emptyDict).get? s.heap.objs.size = some PySem.W.emptyDict := Heap.get?_push_size s.heap rfl
  have e2 : ((s.heap.push PySem.W.emptyDict).push (PySem.W.instObj C s.heap.objs.size)).get? (s.heap.objs.size + 1) = some (PySem.W.instObj C s.heap.objs.size) := by
    have := Heap.get?_push_size (s.heap.push PySem.W.emptyDict) (o := PySem.W.instObj C s.heap.objs.size) rfl
    rwa [Heap.size_push] at this
  have e3 : (s.heap.push PySem.W.emptyDict).Ns s.heap.objs.size (fun _ => none) := ⟨PySem.W.emptyDict, #[], _, e1, rfl, (fun e he => absurd he (by simp)), fun _ => rfl⟩
  have I1 := I.laid (a := s.heap.objs.size) (o := .own (s.heap.objs.size + 1)) (h' := s.heap.push PySem.W.emptyDict) (t' := s.toks) (fun b u q => Heap.get?_push_of_some _ q) (Nat.le_refl _) ⟨_, e1⟩
  refine I1.laid (a := s.heap.objs.size + 1) (o := .ins C s.heap.objs.size []) (t' := s.toks) (fun b u q => Heap.get?_push_of_some _ q) (Nat.le_of_eq (Heap.size_push _ _)) ?_
  have ne : s.heap.objs.size ≠ s.heap.objs.size + 1 := Nat.ne_of_lt (Nat.lt_succ_self _)
  refine ⟨by rw [upd_ne ne, upd_same], Nat.zero_le _, ne, e2, fun _ => none, (Heap.Ns1.of_empty e3).at fun o q => Heap.get?_push_of_some _ q, fun _ => True.intro, fun y hy => absurd rfl hy⟩

end

section
variable {X : Cx} {o e value : Expr} {f : Str} {pos pos' tpos : Pos} {ta tv : TE}
end

section
variable {X : Cx} {pins : List (Addr × Obj)} {σ : St} {H : Hp} {s : Shared} {A : Around} {E : Value → Shared → Prop} {Q : Value → Shared → Prop} {c : Value} {b : Bool}
inductive TyOf (K : PySem.W.Frag) (H : Hp) : V → Value → Prop where
  | non : TyOf K H .non (.type "NoneType")
  | bl (x : Bool) : TyOf K H (.bl x) (.type "bool")
  | int (i : Int) : TyOf K H (.int i) (.type "int")
  | str (x : Str) : TyOf K H (.str x) (.type "str")
  | flt (x : UInt64) : TyOf K H (.flt x) (.type "float")
  | lst {a : Addr} {xs : List V} (e : H a = some (.lst xs)) : TyOf K H (.ref a) (.type "list")
  | frz {a : Addr} {o : Obj} {xs : List V} (e : H a = some (.frz o (.lst xs))) : TyOf K H (.ref a) (.type "list")
  | tup {a : Addr} {xs : List V} (e : H a = some (.tup xs)) : TyOf K H (.ref a) (.type "tuple")
  | dK {a : Addr} {kvs : List (Key × V)} (e : H a = some (.dK kvs)) : TyOf K H (.ref a) (.type "dict")
  | dT {a : Addr} {kvs : List (List Key × V)} (e : H a = some (.dT kvs)) : TyOf K H (.ref a) (.type "dict")
  | ins {a C dx : Addr} {fs : List (Str × V)} (e : H a = some (.ins C dx fs)) (cl : Cls K C) (ha : PySem.W.findIn K (.ref C) "__class__" = some (some (.builtin "object.__class__")))
      (hn : PySem.W.specialIn K (.builtin "object.__class__") "__get__" = some (some (.builtin "getset_descriptor.__get__"))) (htk : PySem.W.takesIn K (.builtin "object.__class__") = some true)
      (hm : PySem.W.mroIn K C (.type "object") = some true) : TyOf K H (.ref a) (.ref C)
theorem isinst_ok {x : V} {u t : Value} (I : Inv X pins σ H s) (rx : RelV x u) (ty : TyOf X.K H x t) (e : PySem.W.kitOne X.K t c = some b) (h : ∀ tk, Q (.bool b) { s with toks := tk }) :
    wpAny (model X.prog X.w) A (call (.builtin "isinstance") [u, c]) Q E s := by
  cases ty with
  | non => cases (show u = Value.none from rx); exact PySem.W.kia_one PySem.W.kitx_none I.kIn True.intro e (fun z => nomatch z) h
  | bl y => cases (show u = Value.bool y from rx); exact PySem.W.kia_one PySem.W.kitx_bool I.kIn True.intro e (fun z => nomatch z) h
  | int i => obtain ⟨t, q⟩ := (show ∃ t, u = Value.int i t from rx); cases q; exact PySem.W.kia_one PySem.W.kitx_int I.kIn True.intro e (fun z => nomatch z) h
  | str y => obtain ⟨t, q⟩ := (show ∃ t, u = Value.str y t from rx); cases q; exact PySem.W.kia_one PySem.W.kitx_str I.kIn True.intro e (fun z => nomatch z) h
  | flt y => obtain ⟨t, q⟩ := (show ∃ t, u = Value.float y t from rx); cases q; exact PySem.W.kia_one PySem.W.kitx_float I.kIn True.intro e (fun z => nomatch z) h
  | @lst a xs ea =>
    cases (show u = Value.ref a from rx)
    obtain ⟨_, _, n, _, h1⟩ := (show ObjOk X.prog X.w H s.heap a (.lst xs) from I.hok a _ ea)
    exact PySem.W.kia_one PySem.W.kitx_list I.kIn ⟨_, h1, rfl⟩ e (fun z => nomatch z) h
  | @frz a ob xs ea =>
    cases (show u = Value.ref a from rx)
    obtain ⟨_, _, _, n, _, h1⟩ := (show ObjOk X.prog X.w H s.heap a (.frz ob (.lst xs)) from I.hok a _ ea)
    exact PySem.W.kia_one PySem.W.kitx_list I.kIn ⟨_, h1, rfl⟩ e (fun z => nomatch z) h
  | @tup a xs ea =>
    cases (show u = Value.ref a from rx)
    obtain ⟨_, _, _, p⟩ := (show ObjOk X.prog X.w H s.heap a (.tup xs) from I.hok a _ ea)
    obtain ⟨o, h1, h2, _⟩ := p
    exact PySem.W.kia_one PySem.W.kitx_tuple I.kIn ⟨o, h1, h2⟩ e (fun z => nomatch z) h
  | @dK a kvs ea =>
    cases (show u = Value.ref a from rx)
    obtain ⟨_, _, vs, _, p⟩ := (show ObjOk X.prog X.w H s.heap a (.dK kvs) from I.hok a _ ea)
    obtain ⟨o, es, ep, h1, h2, _⟩ := p
    exact PySem.W.kia_one PySem.W.kitx_dict I.kIn ⟨o, h1, h2.1⟩ e (fun z => nomatch z) h
  | @dT a kvs ea =>
    cases (show u = Value.ref a from rx)
    obtain ⟨_, _, xs, _, o, es, ep, h1, h2, _⟩ := (show ObjOk X.prog X.w H s.heap a (.dT kvs) from I.hok a _ ea)
    exact PySem.W.kia_one PySem.W.kitx_dict I.kIn ⟨o, h1, h2.1⟩ e (fun z => nomatch z) h
  | @ins a C dx fs ea cl ha hn htk hm =>
    cases (show u = Value.ref a from rx)
    obtain ⟨mA, O, _⟩ := ins_get I.hok ea
    obtain ⟨od, J, _⟩ := O.look
    exact PySem.W.kia_one (PySem.W.kitx_own (cl.get _) cl.hd ha hn htk hm) I.kIn J e (fun z => nomatch z) h
end
end L2

namespace L2
open PySem PySem.Spec PyProof.Rows

structure Room (k : Nat) (A : Around) : Prop where
  hd : A.handled = none
  dp : A.depth + 3 * k + 5 < recursionLimit
  un : A.units + 16 * k + 200 < cLine
theorem Room.mono {j k : Nat} {A : Around} (r : Room k A) (h : j ≤ k) : Room j A := ⟨r.hd, by have := r.dp; omega, by have := r.un; omega⟩
theorem Room.deeper {k : Nat} {A : Around} (r : Room (k + 1) A) (env : Env) : Room k (A.deeper env) :=
  ⟨r.hd, by have := r.dp; show A.depth + 1 + 3 * k + 5 < _; omega, by have := r.un; show A.units + 3 + 16 * k + 200 < _; omega⟩
theorem Room.in1 {k : Nat} {A : Around} (r : Room (k + 1) A) : Room k A.in1 :=
  ⟨r.hd, by have := r.dp; show A.depth + 3 * k + 5 < _; omega, by have := r.un; show A.units + 1 + 16 * k + 200 < _; omega⟩
theorem Room.depth {k : Nat} {A : Around} (r : Room k A) : A.depth < recursionLimit := by have := r.dp; omega
theorem Room.units {k : Nat} {A : Around} (r : Room k A) : A.units + 64 < cLine := by have := r.un; omega
def tNil : TA := fun _ H Q => Q [] H
def tCons (ta : TE) (tr : TA) : TA := fun σ H Q => ta σ H fun x H1 => tr σ H1 fun xs H2 => Q (x :: xs) H2
section
variable {X : Cx} {e : Expr} {es : List Expr} {te : TE} {t : TA} {pos : Pos}
theorem pa_nil : PA X [] tNil := fun _ _ _ _ H Q I h => Calls.spliced_nil ⟨[], H, I, .nil, h⟩
theorem pa_cons (ha : PE X e te) (hr : PA X es t) (hs : starEach (e :: es) X.env = (false, eval e X.env) :: starEach es X.env := by rfl) : PA X (e :: es) (tCons te t) := by
  intro pos pins s σ H Q I h
  rw [hs]
  show wpAny _ _ (spliced ((false, eval e X.env) :: backTo pos (starEach es X.env))) _ _ s
  refine Calls.spliced_cons (thn (ha pins s σ H _ I h) fun u s1 ⟨x, H1, I1, r1, q1⟩ => ?_)
  exact thn (hr pos pins s1 σ H1 _ I1 q1) fun us s2 ⟨xs, H2, I2, r2, q2⟩ => ⟨x :: xs, H2, I2, .cons r1 r2, q2⟩

def tTup (t : TA) : TE := fun σ H Q => t σ H fun xs H1 => xs.length ≤ sizeLine ∧ ∀ p, H1 p = none → Q (.ref p) (upd H1 p (.tup xs))
def tLst (t : TA) : TE := fun σ H Q => t σ H fun xs H1 => xs.length ≤ sizeLine ∧ ∀ p, H1 p = none → Q (.ref p) (upd H1 p (.lst xs))
theorem pe_tup {x1} (h : PA X es t) : PE X (.Tuple es x1 pos) (tTup t) := by
  intro pins s σ H Q I hq
  refine wpAny_Tuple_spliced (thn (h pos pins s σ H _ I hq) fun us s1 ⟨xs, H1, I1, r, z, q⟩ => ⟨by rw [← r.length]; exact z, ?_⟩)
  have hf : H1 s1.heap.objs.size = none := I1.hok.fresh (Nat.le_refl _)
  refine ⟨.ref s1.heap.objs.size, upd H1 s1.heap.objs.size (.tup xs), I1.laid (t' := s1.toks) (fun b u e => Heap.get?_push_of_some _ e) (Nat.le_refl _) ?_, rfl, q _ hf⟩
  exact ⟨z, us, r, ⟨_, Heap.get?_push_size _ rfl, rfl, _, rfl⟩⟩
theorem pe_lst (h : PA X es t) : PE X (.List es pos) (tLst t) := by
  intro pins s σ H Q I hq
  refine wpAny_List_spliced (thn (h pos pins s σ H _ I hq) fun us s1 ⟨xs, H1, I1, r, z, q⟩ => ⟨by rw [← r.length]; exact z, ?_⟩)
  have hf : H1 s1.heap.objs.size = none := I1.hok.fresh (Nat.le_refl _)
  refine ⟨.ref s1.heap.objs.size, upd H1 s1.heap.objs.size (.lst xs), I1.laid (t' := s1.toks) (fun b u e => Heap.get?_push_of_some _ e) (Nat.le_refl _) ?_, rfl, q _ hf⟩
  exact ⟨z, us, 0, r, Heap.get?_push_size _ rfl⟩
end

abbrev Sp := List V → Hp → VK → XK → Prop
abbrev CXT := List Env → Hp → Shared → XK → Value → Shared → Prop

structure Env0 (P : Program) (w : World) (K : PySem.W.Frag) (mg : Str → Option Value) (base : Heap) (A : Around) (outer : List Env) (s : Shared) (H : Hp) : Prop where
  frames : A.frames = some outer
  mod : Mod K mg base
  bs : ∀ b o, base.get? b = some o → s.heap.get? b = some o ∧ H b = none
  bsz : base.objs.size ≤ s.heap.objs.size
  funs : s.heap.FunFrames base outer
  frf : ∀ b ∈ frs outer, H b = none
  hok : HOk P w H s.heap
  bare : AllBare s.gens
def CE (outer : List Env) (P : Program) (w : World) (H : Hp) (s : Shared) (Q : VK) (u : Value) (s' : Shared) : Prop :=
  ∃ v H', s'.os = s.os ∧ AllBare s'.gens ∧ Un (frs outer) [] H H' s.heap s'.heap ∧ HOk P w H' s'.heap ∧ RelV v u ∧ Q v H'
def CR (CX : CXT) (outer : List Env) (P : Program) (w : World) (H : Hp) (s : Shared) (Q : VK) (E : XK) (r : Result) (s' : Shared) : Prop :=
  match r with
  | .ok (.ret u) => CE outer P w H s Q u s'
  | .ok _ => False
  | .error e => CX outer H s E e s'
structure FnOk (P : Program) (w : World) (K : PySem.W.Frag) (mg : Str → Option Value) (base : Heap) (CX : CXT) (k : Nat) (f : Addr) (fd : FuncData) (ps : List Str) (sp : Sp) : Prop where
  len : ∀ vs H Q E, sp vs H Q E → vs.length = ps.length
  run : ∀ (A : Around) (outer : List Env) (s : Shared) (H : Hp) (args : Args) (us : List Value) (vs : List V) (Q : VK) (E : XK), Room k A → Env0 P w K mg base A outer s H → BindsTo s fd args (ps.zip us) → Vals vs us → sp vs H Q E →
    codeAny (model P w) A (.call (.ref f) args) (CR CX outer P w H s Q E) s
theorem FnOk.mono {P : Program} {w : World} {K : PySem.W.Frag} {mg : Str → Option Value} {base : Heap} {CX : CXT} {j k : Nat} {f : Addr} {fd : FuncData} {ps : List Str} {sp : Sp} (F : FnOk P w K mg base CX j f fd ps sp) (h : j ≤ k) :
    FnOk P w K mg base CX k f fd ps sp := ⟨F.len, fun A outer s H args us vs Q E hr => F.run A outer s H args us vs Q E (hr.mono h)⟩
theorem FnOk.imp {P : Program} {w : World} {K : PySem.W.Frag} {mg : Str → Option Value} {base : Heap} {CX : CXT} {k : Nat} {f : Addr} {fd : FuncData} {ps : List Str} {sp sp' : Sp} (F : FnOk P w K mg base CX k f fd ps sp)
    (h : ∀ vs H Q E, sp' vs H Q E → sp vs H Q E) : FnOk P w K mg base CX k f fd ps sp' :=
  ⟨fun vs H Q E q => F.len vs H Q E (h _ _ _ _ q), fun A outer s H args us vs Q E hr he hb hv hs => F.run A outer s H args us vs Q E hr he hb hv (h _ _ _ _ hs)⟩

theorem Env0.in1 {P : Program} {w : World} {K : PySem.W.Frag} {mg : Str → Option Value} {base : Heap} {A : Around} {outer : List Env} {s : Shared} {H : Hp} (e : Env0 P w K mg base A outer s H) :
    Env0 P w K mg base A.in1 outer s H := ⟨e.frames, e.mod, e.bs, e.bsz, e.funs, e.frf, e.hok, e.bare⟩

section
variable {X : Cx} {pins : List (Addr × Obj)} {σ : St} {H : Hp} {s s' : Shared}
theorem Inv.env0 (I : Inv X pins σ H s) : Env0 X.prog X.w X.K X.mg X.base X.A X.stack s H :=
  ⟨I.ok.frames, I.ok.mod, I.bs, Nat.le_trans I.ok.bsz I.sz, I.stack, I.stkFree, I.hok, I.bare⟩
theorem Inv.after {Q : VK} {u : Value} (I : Inv X pins σ H s) (h : CE X.stack X.prog X.w H s Q u s') : EP X pins σ Q u s' := by
  obtain ⟨v, H', os, bare, un, hok, r, q⟩ := h
  obtain ⟨hh, g, d, t, os'⟩ := s'
  obtain rfl : os' = s.os := os
  exact ⟨v, H', I.call (h' := hh) (g' := g) (d' := d) (t' := t) (ch := []) un hok bare (fun b z => absurd z (by simp)), r, q⟩
end

def tCall (sp : Sp) (dvs : List V) (E : XK) (t : TA) : TE := fun σ H Q => t σ H fun vs H1 => sp (vs ++ dvs) H1 Q E
def Binds (K : PySem.W.Frag) (fd : FuncData) (ps : List Str) (ds : List Value) : Prop :=
  ∀ (s : Shared) (us : List Value), K.In s.heap → (us ++ ds).length = ps.length → BindsTo s fd ⟨us, []⟩ (ps.zip (us ++ ds))
theorem Binds.all {K : PySem.W.Frag} {fd : FuncData} {ps : List Str} (h : ∀ us : List Value, us.length = ps.length → bindArgs fd ⟨us, []⟩ = pure (ps.zip us)) : Binds K fd ps [] := fun s us _ hl => by
  rw [List.append_nil] at hl ⊢
  exact .of_eq (h us hl)

def Passes (CX : CXT) (X : Cx) (E : XK) : Prop := ∀ (pins : List (Addr × Obj)) (σ : St) (H : Hp) (s : Shared) (e : Value) (s' : Shared), Inv X pins σ H s → CX X.stack H s E e s' → X.xe e s'

section
variable {X : Cx} {CX : CXT} {k : Nat} {f C : Addr} {fd : FuncData} {ps : List Str} {sp : Sp} {dvs : List V} {ds : List Value} {E : XK} {x m : Str} {p pos apos : Pos} {e o : Expr} {es : List Expr} {ta : TE} {t : TA}

theorem run_fn {pins : List (Addr × Obj)} {σ : St} {H : Hp} {s : Shared} {Q : VK} {us : List Value} {vs : List V} (F : FnOk X.prog X.w X.K X.mg X.base CX k f fd ps sp) (hr : Room k X.A) (hb : Binds X.K fd ps ds) (hd : Vals dvs ds) (hx : Passes CX X E)
    (I : Inv X pins σ H s) (r : Vals vs us) (h : sp (vs ++ dvs) H Q E) : wpAny (model X.prog X.w) X.A (call (.ref f) us) (EP X pins σ Q) X.xe s := by
  have r2 : Vals (vs ++ dvs) (us ++ ds) := r.append hd
  have hl : (us ++ ds).length = ps.length := by rw [← r2.length]; exact F.len _ _ _ _ h
  refine wpAny_call (codeAny_mono (F.run X.A X.stack s H ⟨us, []⟩ (us ++ ds) (vs ++ dvs) Q E hr I.env0 (hb s us I.kIn hl) r2 h) fun r s' hq => ?_)
  cases r with
  | error e => exact hx pins σ H s e s' I hq
  | ok fl =>
    cases fl with
    | ret u => exact I.after hq
    | next => exact False.elim hq
    | brk => exact False.elim hq
    | cont => exact False.elim hq

theorem pe_call (F : FnOk X.prog X.w X.K X.mg X.base CX k f fd ps sp) (hr : Room k X.A) (hg : Gl X x) (hm : X.mg x = some (.ref f)) (hk : PySem.W.keepIn X.K (.ref f) = true) (hb : Binds X.K fd ps ds) (hd : Vals dvs ds) (hx : Passes CX X E)
    (ha : PA X (e :: es) t) (hdb : (x == ("__debug__" : Str)) = false := by decide) (he : starEach (e :: es) X.env = (false, eval e X.env) :: starEach es X.env := by rfl) (hpl : (backTo pos (starEach es X.env)).any (·.1) = false := by rfl) :
    PE X (.Call (.Name x p) (e :: es) [] pos) (tCall sp dvs E t) := by
  intro pins s σ H Q I h
  refine wpAny_Call_Name_kw (ld_glob I hg hm ?_ hdb)
  refine PySem.W.callWith_K (h₀ := X.base) I.ok.mod.kin hk (thn (ha pos pins s σ H _ I h) fun us s1 ⟨vs, H1, I1, r, q⟩ => ⟨I1.kIn, ?_⟩) he hpl
  exact run_fn F hr hb hd hx I1 r q
end

section
variable {X : Cx} {CX : CXT} {k : Nat} {f C : Addr} {fd : FuncData} {ps ks : List Str} {sp : Sp} {E : XK} {x m : Str} {p pos apos kpos : Pos} {e o : Expr} {es : List Expr} {kws : List Keyword} {te ta : TE} {t tk : TA} {nm : Option Str}
variable {g : List Value → List Value → List Value} {gV : List V → List V → List V}
end

structure FnScope (N P : List Str) (sc : Scope) : Prop where
  kind : sc.kind = .function
  co : sc.isCoroutine = false
  gen : sc.isGenerator = false
  nd : N.Nodup
  pre : N.take P.length = P
  par : ∀ x ∈ P, sc.names.lookup x = some .local ∨ sc.names.lookup x = some .cell
  nofree : ∀ y ∈ sc.names, y.2 ≠ .free

theorem bindL_out {kindOf : Str → Option NameKind} {x : Str} : ∀ {binds : List (Str × Value)} {m : Str → Option Value}, (∀ v, (x, v) ∉ binds) → bindL kindOf binds m x = m x
  | [], _, _ => rfl
  | (n, v) :: r, m, h => by
    unfold bindL
    rw [bindL_out fun w hw => h w (List.mem_cons_of_mem _ hw)]
    split
    · have : x ≠ n := by rintro rfl; exact h v List.mem_cons_self
      simp [this]
    · rfl
theorem bindC_out {kindOf : Str → Option NameKind} {x : Str} : ∀ {binds : List (Str × Value)} {m : Str → Option Value}, (∀ v, (x, v) ∉ binds) → bindC kindOf binds m x = m x
  | [], _, _ => rfl
  | (n, v) :: r, m, h => by
    unfold bindC
    rw [bindC_out fun w hw => h w (List.mem_cons_of_mem _ hw)]
    split
    · rfl
    · have : x ≠ n := by rintro rfl; exact h v List.mem_cons_self
      simp [this]
theorem bindL_get {kindOf : Str → Option NameKind} {x : Str} {v : Value} : ∀ {P : List Str} {vs : List Value} {i : Nat} {m : Str → Option Value}, P.Nodup → P[i]? = some x → vs[i]? = some v → kindOf x = some .local →
    bindL kindOf (P.zip vs) m x = some v
  | [], _, _, _, _, h, _, _ => by simp at h
  | _ :: _, [], _, _, _, _, h, _ => by simp at h
  | p :: P, w :: vs, 0, m, nd, h1, h2, hk => by
    simp at h1 h2; subst h1; subst h2
    show bindL kindOf ((p, w) :: P.zip vs) m p = _
    unfold bindL
    rw [bindL_out fun v hv => (List.nodup_cons.mp nd).1 (List.of_mem_zip hv).1, if_pos hk]
    simp
  | p :: P, w :: vs, i + 1, m, nd, h1, h2, hk => by
    show bindL kindOf ((p, w) :: P.zip vs) m x = _
    unfold bindL
    exact bindL_get (i := i) (List.nodup_cons.mp nd).2 (by simpa using h1) (by simpa using h2) hk
theorem bindC_get {kindOf : Str → Option NameKind} {x : Str} {v : Value} : ∀ {P : List Str} {vs : List Value} {i : Nat} {m : Str → Option Value}, P.Nodup → P[i]? = some x → vs[i]? = some v → kindOf x ≠ some .local →
    bindC kindOf (P.zip vs) m x = some v
  | [], _, _, _, _, h, _, _ => by simp at h
  | _ :: _, [], _, _, _, _, h, _ => by simp at h
  | p :: P, w :: vs, 0, m, nd, h1, h2, hk => by
    simp at h1 h2; subst h1; subst h2
    show bindC kindOf ((p, w) :: P.zip vs) m p = _
    unfold bindC
    rw [bindC_out fun v hv => (List.nodup_cons.mp nd).1 (List.of_mem_zip hv).1, if_neg hk]
    simp
  | p :: P, w :: vs, i + 1, m, nd, h1, h2, hk => by
    show bindC kindOf ((p, w) :: P.zip vs) m x = _
    unfold bindC
    exact bindC_get (i := i) (List.nodup_cons.mp nd).2 (by simpa using h1) (by simpa using h2) hk

def start (N : List Str) (vs : List V) : St := vs.map some ++ List.replicate (N.length - vs.length) none

def cxOf (CX : CXT) (P : Program) (w : World) (K : PySem.W.Frag) (mg : Str → Option Value) (base : Heap) (N : List Str) (qual : Str) (scope : Scope) (f : Addr) (cd : Value) (A : Around) (outer : List Env) (s : Shared) (H : Hp) (E : XK) : Cx where
  prog := P
  w := w
  K := K
  mg := mg
  base := base
  A := A.deeper (envOfC qual scope s.heap.objs.size f cd)
  N := N
  s₀ := s
  H₀ := H
  env := envOfC qual scope s.heap.objs.size f cd
  outer := outer
  stack := envOfC qual scope s.heap.objs.size f cd :: outer
  ex := []
  calm := true
  fn := fun _ => true
  pn := []
  xe := fun e s' => wpAny (model P w) (A.deeper (envOfC qual scope s.heap.objs.size f cd)) (leaving (envOfC qual scope s.heap.objs.size f cd) e) (fun _ s'' => CX outer H s E e s'') (fun e' s'' => CX outer H s E e' s'') s'

theorem cell_has {sc : Scope} {n : Nat} {x : Str} (h : sc.names.lookup x = some .cell) : ∃ c, (cellsFrom n sc.names []).lookup x = some c := by
  have q := PySem.W.cellsFrom_some sc.names n [] (.inl h)
  exact Option.isSome_iff_exists.mp q

theorem inv_start {CX : CXT} {P : Program} {w : World} {K : PySem.W.Frag} {mg : Str → Option Value} {base : Heap} {N ps : List Str} {qual : Str} {scope : Scope} {f : Addr} {cd : Value} {A : Around} {outer : List Env} {s s1 : Shared} {H : Hp} {E : XK} {us : List Value} {vs : List V}
    (S : FnScope N ps scope) (hd : A.handled = none) (e0 : Env0 P w K mg base A outer s H) (hl : vs.length = ps.length) (r : Vals vs us)
    (x : InCallC s s.heap.objs.size (bindL (envOfC qual scope s.heap.objs.size f cd).kindOf (ps.zip us) fun _ => none) (cellsFrom (s.heap.objs.size + 1) scope.names []) (bindC (envOfC qual scope s.heap.objs.size f cd).kindOf (ps.zip us) fun _ => none) s1) :
    Inv (cxOf CX P w K mg base N qual scope f cd A outer s H E) [] (start N vs) H s1 := by
  have hpl : ps.length ≤ N.length := by have := congrArg List.length S.pre; rw [List.length_take] at this; omega
  obtain ⟨h1, tk, rfl, hk⟩ := x.done
  have noA : ∀ b : Addr, b ∉ (cxOf CX P w K mg base N qual scope f cd A outer s H E).ex := fun b z => absurd (show b ∈ ([] : List Addr) from z) (by simp)
  refine ⟨⟨e0.mod, S.kind, rfl, rfl, Nat.le_refl _, fun y z c h1 h2 => ?_, fun y hy => ?_, fun y c _ h => ?_, fun _ => hd, Around.frames_deeper e0.frames, .inr ⟨rfl, rfl⟩, fun b z => absurd z (noA b), e0.bs, e0.bsz, fun b _ _ => noA b, fun b z => absurd z (noA b), e0.funs, e0.frf⟩,
    rfl, e0.bare, Un.kept hk, ⟨_, x.toInCall.ns, fun i y v h1 h2 h3 => ?_⟩, fun y c h => ⟨_, x.cell y c h⟩, e0.hok.fresh (Nat.le_refl _), fun y c h => ?_, fun p hp => absurd (show p ∈ ([] : List (Addr × Obj)) from hp) (by simp), e0.hok.kept hk, ?_⟩
  · exact name_of_addr x.apart (PySem.mem_of_lookup h1) (PySem.mem_of_lookup h2)
  · have hy : scope.names.lookup y = some .cell ∨ scope.names.lookup y = some .free := hy
    rcases hy with hy | hy
    · exact cell_has hy
    · exact absurd rfl (S.nofree _ (PySem.mem_of_lookup hy))
  · exact Nat.le_of_lt (x.above y c (PySem.mem_of_lookup h))
  · have hi : i < vs.length := by
      unfold start at h2
      by_cases hi : i < vs.length
      · exact hi
      · rw [List.getElem?_append_right (by simpa using hi)] at h2
        rw [List.getElem?_replicate] at h2
        split at h2 <;> cases h2
    have ha : vs[i]? = some v := by
      unfold start at h2
      rw [List.getElem?_append_left (by simpa using hi), List.getElem?_map] at h2
      cases e : vs[i]? with
      | none => rw [e] at h2; cases h2
      | some a => rw [e] at h2; cases h2; rfl
    obtain ⟨u, hu, rv⟩ := r.get ha
    have hp : ps[i]? = some y := by
      rw [← S.pre, List.getElem?_take_of_lt (by omega)]; exact h1
    have ndP : ps.Nodup := by rw [← S.pre]; exact S.nd.sublist (List.take_sublist _ _)
    refine ⟨u, rv, ?_⟩
    rcases S.par y (List.mem_of_getElem? hp) with k | k
    · exact .inl ⟨k, bindL_get ndP hp hu k⟩
    · obtain ⟨c, e⟩ := cell_has (n := s.heap.objs.size + 1) k
      refine .inr ⟨.inl k, c, e, ?_⟩
      have q := x.cell y c e
      rw [bindC_get ndP hp hu (by show scope.names.lookup y ≠ _; rw [k]; decide)] at q
      exact q
  · exact e0.hok.fresh (Nat.le_of_lt (x.above y c (PySem.mem_of_lookup h)))
  · unfold start
    show _ = N.length
    rw [List.length_append, List.length_map, List.length_replicate]
    omega

theorem fn_of {CX : CXT} {P : Program} {w : World} {K : PySem.W.Frag} {mg : Str → Option Value} {base : Heap} {k : Nat} {f : Addr} {name qual : Str} {params : Arguments} {body : List Stmt} {scope : Scope} {dV kV doc pm cdv ct oc : Value} {an od : Option Addr}
    {osl : Array (Option Value)} {N ps : List Str} {sp : Sp} (lk : K.lookup f = some ⟨oc, od, .func (PySem.W.fnOf name qual params body scope dV kV doc pm an cdv ct), osl⟩) (hcd : PySem.W.codeIn K cdv qual = true) (S : FnScope N ps scope)
    (len : ∀ vs H Q E, sp vs H Q E → vs.length = ps.length)
    (hbody : ∀ (A : Around) (outer : List Env) (s : Shared) (H : Hp) (vs : List V) (Q : VK) (E : XK), Room k (A.deeper (envOfC qual scope s.heap.objs.size f cdv)) → sp vs H Q E →
      ∃ t, PSs (cxOf CX P w K mg base N qual scope f cdv A outer s H E) body t ∧ t { nx := fun _ H' => Q .non H', rt := Q } (start N vs) H) :
    FnOk P w K mg base CX (k + 1) f (PySem.W.fnOf name qual params body scope dV kV doc pm an cdv ct) ps sp := by
  refine ⟨len, fun A outer s H args us vs Q E hr e0 hb r hsp => ?_⟩
  have hl := len _ _ _ _ hsp
  have KX : K.In s.heap := e0.mod.kin.keeps fun b o e => (e0.bs b o e).1
  have lim : s.heap.NoLimit := e0.mod.nolimit.keeps fun b o e => (e0.bs b o e).1
  have hkind : ∀ y ∈ ps.zip us, scope.names.lookup y.1 = some .local ∨ (scope.names.lookup y.1 = some .cell ∧ ((cellsFrom (s.heap.objs.size + 1) scope.names []).lookup y.1).isSome = true) := fun ⟨n, v⟩ hy => by
    rcases S.par n (List.of_mem_zip hy).1 with q | q
    · exact .inl q
    · exact .inr ⟨q, PySem.W.cellsFrom_some _ _ _ (.inl q)⟩
  refine codeAny_call_function hr.depth (KX _ _ lk) rfl S.co S.gen rfl (PySem.W.codeRec_of KX hcd) (hb _ _ _ _ ?_)
  refine wpAny_newFunctionEnv_cells S.kind hkind fun env he s1 x => ?_
  subst he
  refine ⟨lim.keeps x.toInCall.keep, codeAny_func ?_⟩
  obtain ⟨t, ht, hq⟩ := hbody A outer s H vs Q E (hr.deeper _) hsp
  have I : Inv (cxOf CX P w K mg base N qual scope f cdv A outer s H E) [] (start N vs) H s1 := inv_start S hr.hd e0 hl r x
  refine wpAny_mono (ht [] s1 (start N vs) H _ I hq) (fun fl s' hs => ?_) fun e s' hs => hs
  have fin : ∀ {σ' : St} {H' : Hp} {v : V} {u : Value}, Inv (cxOf CX P w K mg base N qual scope f cdv A outer s H E) [] σ' H' s' → RelV v u → Q v H' → CE outer P w H s Q u s' :=
    fun {σ' H' v u} J rv q => ⟨v, H', J.os, J.bare, J.base, J.hok, rv, q⟩
  cases fl with
  | ret u =>
    obtain ⟨v, σ', H', J, rv, q⟩ := hs
    exact fin J rv q
  | next =>
    obtain ⟨σ', H', J, q⟩ := hs
    exact fin (v := V.non) (u := Value.none) J rfl q
  | brk =>
    obtain ⟨_, _, _, q⟩ := hs
    exact False.elim q
  | cont =>
    obtain ⟨_, _, _, q⟩ := hs
    exact False.elim q
end L2

namespace L2
open PySem PySem.Spec PyProof.Rows
section
variable {X : Cx} {x : Str} {p pos : Pos} {e : Expr} {es : List Expr} {t : TA} {id T : String} {r : List V → Hp → VK → Prop}

def tCB (r : List V → Hp → VK → Prop) (t : TA) : TE := fun σ H Q => t σ H fun vs H1 => r vs H1 Q
theorem pe_callB (hc : CallR X (.builtin id) r) (hg : Gl X x) (hm : X.mg x = none) (hv : bootBuiltins x = some (.builtin id)) (ha : PA X (e :: es) t) (hn : x ≠ "__name__" := by decide) (hdb : (x == ("__debug__" : Str)) = false := by decide)
    (he : starEach (e :: es) X.env = (false, eval e X.env) :: starEach es X.env := by rfl) (hpl : (backTo pos (starEach es X.env)).any (·.1) = false := by rfl) : PE X (.Call (.Name x p) (e :: es) [] pos) (tCB r t) := by
  intro pins s σ H Q I h
  refine wpAny_Call_Name_kw (ld_blt I hg hm hv ?_ hn hdb)
  exact PyProof.Rows.callWith_builtin1 (thn (ha pos pins s σ H _ I h) fun us s1 ⟨vs, H1, I1, r1, q1⟩ => hc pins s1 σ H1 vs us Q I1 r1 q1) he hpl
theorem pe_callTy (hc : CallR X (.type T) r) (hg : Gl X x) (hm : X.mg x = none) (hv : bootBuiltins x = some (.type T)) (ha : PA X (e :: es) t) (hn : x ≠ "__name__" := by decide) (hdb : (x == ("__debug__" : Str)) = false := by decide)
    (he : starEach (e :: es) X.env = (false, eval e X.env) :: starEach es X.env := by rfl) (hpl : (backTo pos (starEach es X.env)).any (·.1) = false := by rfl) : PE X (.Call (.Name x p) (e :: es) [] pos) (tCB r t) := by
  intro pins s σ H Q I h
  refine wpAny_Call_Name_kw (ld_blt I hg hm hv ?_ hn hdb)
  exact PyProof.Rows.callWith_type1 (thn (ha pos pins s σ H _ I h) fun us s1 ⟨vs, H1, I1, r1, q1⟩ => hc pins s1 σ H1 vs us Q I1 r1 q1) he hpl
end
end L2

namespace HT
open PySem PyProof.Rows

section
open PySem.SeqAt
open PySem.AutoSeq1 (wpAny_loadPart')
open PySem.MeetsSeq PySem.MeetsSeq2 PySem.MeetsSeq3

end

section
variable {prog : Program} {w : World} {A : Around} {E : Value → Shared → Prop} {s : Shared}

def sIx (n d : Nat) : Option Int → Nat
  | none => d
  | some v => if v < 0 then (v + (n : Int)).toNat else min v.toNat n
end
end HT

namespace L2
open PySem PySem.Spec PyProof.Rows

abbrev TO := St → Hp → (Option Int → Hp → Prop) → Prop
def PO (X : Cx) (e : Option Expr) (t : TO) : Prop :=
  ∀ (pins : List (Addr × Obj)) (s : Shared) (σ : St) (H : Hp) (Q : Option Int → Hp → Prop), Inv X pins σ H s → t σ H Q →
    wpAny (model X.prog X.w) X.A (evalPart e X.env) (fun u s' => ∃ o H', Inv X pins σ H' s' ∧ IsPart u o ∧ Q o H') X.xe s
def tNoPart : TO := fun _ H Q => Q none H
def tPart (t : TE) : TO := fun σ H Q => t σ H fun x H1 => ∃ i, x = .int i ∧ Q (some i) H1

section
variable {X : Cx} {e : Expr} {te : TE} {lo hi : Option Expr} {tl th : TO} {pos p2 : Pos}

theorem po_none : PO X none tNoPart := by
  intro pins s σ H Q I h
  rw [evalPart_none]
  exact wpAny_pure ⟨none, H, I, .none, h⟩
theorem po_some (h : PE X e te) : PO X (some e) (tPart te) := by
  intro pins s σ H Q I hw
  rw [evalPart_some]
  refine thn (h pins s σ H _ I hw) fun u s1 ⟨x, H1, I1, r1, q1⟩ => ?_
  obtain ⟨i, rfl, q⟩ := q1
  obtain ⟨t, rfl⟩ := r1
  exact ⟨some i, H1, I1, .int i t, q⟩

def SlR (X : Cx) (r : V → Option Int → Option Int → Hp → VK → Prop) : Prop :=
  ∀ (pins : List (Addr × Obj)) (s : Shared) (σ : St) (H : Hp) (x : V) (v vl vu : Value) (lo hi : Option Int) (sl : Addr) (Q : VK), Inv X pins σ H s → RelV x v → s.heap.IsSliceOf sl vl vu .none → IsPart vl lo → IsPart vu hi → r x lo hi H Q →
    ∃ T id, typeLookup (.type T) "__getitem__" = pure (some (.builtin id)) ∧ s.TypeIs v T ∧ wpAny (model X.prog X.w) X.A (getItem v (.ref sl)) (EP X pins σ Q) X.xe s
theorem SlR.or {r r' : V → Option Int → Option Int → Hp → VK → Prop} (h : SlR X r) (h' : SlR X r') : SlR X (fun x lo hi H Q => r x lo hi H Q ∨ r' x lo hi H Q) := by
  intro pins s σ H x v vl vu lo hi sl Q I rx hs pl pu q
  rcases q with q | q
  · exact h pins s σ H x v vl vu lo hi sl Q I rx hs pl pu q
  · exact h' pins s σ H x v vl vu lo hi sl Q I rx hs pl pu q
def tSl (r : V → Option Int → Option Int → Hp → VK → Prop) (te : TE) (tl th : TO) : TE := fun σ H Q => te σ H fun x H1 => tl σ H1 fun l H2 => th σ H2 fun u H3 => r x l u H3 Q
theorem pe_slice {r : V → Option Int → Option Int → Hp → VK → Prop} (hr : SlR X r) (he : PE X e te) (hl : PO X lo tl) (hu : PO X hi th) : PE X (.Subscript e (.Slice lo hi none p2) pos) (tSl r te tl th) := by
  intro pins s σ H Q I h
  refine Subscript_ (thn (he pins s σ H _ I h) fun v s1 ⟨x, H1, I1, r1, q1⟩ => ?_)
  refine wpAny_Slice (thn (hl pins s1 σ H1 _ I1 q1) fun vl s2 ⟨l, H2, I2, pl, q2⟩ => thn (hu pins s2 σ H2 _ I2 q2) fun vu s3 ⟨u, H3, I3, pu, q3⟩ => ?_)
  rw [evalPart_none]
  refine wpAny_pure ?_
  have I4 : Inv X pins σ H3 { s3 with heap := s3.heap.push { cls := .type "slice", data := .fields #[vl, vu, .none] } } := I3.kept (t' := s3.toks) fun b ob q => Heap.get?_push_of_some _ q
  obtain ⟨T, id, hT, ht, hg⟩ := hr pins { s3 with heap := s3.heap.push { cls := .type "slice", data := .fields #[vl, vu, .none] } } σ H3 x v vl vu l u s3.heap.objs.size Q I4 r1 (Heap.IsSliceOf.new ..) pl pu q3
  show wpAny (model X.prog X.w) X.A (subscriptTail e (.Slice lo hi none p2) v (.ref s3.heap.objs.size)) (EP X pins σ Q) X.xe { s3 with heap := s3.heap.push { cls := .type "slice", data := .fields #[vl, vu, .none] } }
  exact tail_any (ops := [.ref s3.heap.objs.size, v]) ht hT hg (by with_unfolding_all rfl)

def cutV (xs : List V) (lo hi : Option Int) : List V := (xs.drop (HT.sIx xs.length 0 lo)).take (HT.sIx xs.length xs.length hi - HT.sIx xs.length 0 lo)
theorem cutV_length (xs : List V) (lo hi : Option Int) : (cutV xs lo hi).length ≤ xs.length := by
  unfold cutV
  rw [List.length_take, List.length_drop]
  omega
end
end L2

namespace L2
open PySem PySem.Spec PyProof.Rows

def ixN (n : Nat) (i : Int) : Option Nat := if 0 ≤ i then (if i < n then some i.toNat else none) else if -(n : Int) ≤ i then some (i + n).toNat else none
def atI {α : Type} (xs : List α) (i : Int) : Option α := (ixN xs.length i).bind fun j => xs[j]?
theorem ixN_seq {n : Nat} {i : Int} {j : Nat} (h : ixN n i = some j) : seqIndex? i n = some j ∧ j < n ∧ -(n : Int) ≤ i ∧ i < n := by
  unfold ixN at h
  by_cases h0 : 0 ≤ i
  · rw [if_pos h0] at h
    by_cases h1 : i < n
    · rw [if_pos h1] at h
      have e : i.toNat = j := Option.some.inj h
      exact ⟨by rw [seqIndex_of h0 h1, e], by omega, by omega, h1⟩
    · rw [if_neg h1] at h; cases h
  · rw [if_neg h0] at h
    by_cases h1 : -(n : Int) ≤ i
    · rw [if_pos h1] at h
      have e : (i + n).toNat = j := Option.some.inj h
      exact ⟨by rw [seqIndex_neg (by omega) h1, e], by omega, h1, by omega⟩
    · rw [if_neg h1] at h; cases h
theorem atI_get {α : Type} {xs : List α} {i : Int} {v : α} (h : atI xs i = some v) : ∃ j, seqIndex? i xs.length = some j ∧ xs[j]? = some v ∧ j < xs.length ∧ -(xs.length : Int) ≤ i ∧ i < xs.length := by
  unfold atI at h
  cases e : ixN xs.length i with
  | none => rw [e] at h; cases h
  | some j =>
    rw [e] at h
    obtain ⟨h1, h2, h3, h4⟩ := ixN_seq e
    exact ⟨j, h1, h, h2, h3, h4⟩
theorem atI_nat {α : Type} {xs : List α} {j : Nat} {v : α} (h : xs[j]? = some v) : atI xs (j : Int) = some v := by
  have hj : j < xs.length := (List.getElem?_eq_some_iff.mp h).1
  have e : ixN xs.length (j : Int) = some j := by
    unfold ixN
    rw [if_pos (by omega), if_pos (by omega)]; simp
  unfold atI; rw [e]; exact h
theorem atI_last {α : Type} (xs : List α) (v : α) : atI (xs ++ [v]) (-1) = some v := by
  have hl : (xs ++ [v]).length = xs.length + 1 := by simp
  have e : ixN (xs ++ [v]).length (-1) = some xs.length := by
    unfold ixN
    rw [hl, if_neg (by decide), if_pos (by omega)]
    congr 1
    omega
  unfold atI
  rw [e]
  show (xs ++ [v])[xs.length]? = some v
  simp

def PlainIx (b : Expr) : Prop := ∀ o i, subscripted b false o i = operate [o, i] (getItem o i)
def IxR (X : Cx) (r : R2) : Prop :=
  ∀ (value slice : Expr) (pins : List (Addr × Obj)) (s : Shared) (σ : St) (H : Hp) (x y : V) (v u : Value) (Q : VK), Inv X pins σ H s → RelV x v → RelV y u → r x y H Q →
    subscripted slice false v u = operate [v, u] (getItem v u) → wpAny (model X.prog X.w) X.A (subscriptTail value slice v u) (EP X pins σ Q) X.xe s
def MtR (X : Cx) (id : String) (r : V → List V → Hp → VK → Prop) : Prop :=
  ∀ (pins : List (Addr × Obj)) (s : Shared) (σ : St) (H : Hp) (x : V) (xs : List V) (v : Value) (us : List Value) (Q : VK), Inv X pins σ H s → RelV x v → Vals xs us → r x xs H Q →
    wpAny (model X.prog X.w) X.A (call (.builtin id) (v :: us)) (EP X pins σ Q) X.xe s
section
variable {X : Cx} {a b : Expr} {ta tb : TE} {pos : Pos}
theorem IxR.or {r r' : R2} (h : IxR X r) (h' : IxR X r') : IxR X (fun x y H Q => r x y H Q ∨ r' x y H Q) := by
  intro value slice pins s σ H x y v u Q I rx ry q hs
  rcases q with q | q
  · exact h value slice pins s σ H x y v u Q I rx ry q hs
  · exact h' value slice pins s σ H x y v u Q I rx ry q hs
theorem MtR.or {id : String} {r r' : V → List V → Hp → VK → Prop} (h : MtR X id r) (h' : MtR X id r') : MtR X id (fun x xs H Q => r x xs H Q ∨ r' x xs H Q) := by
  intro pins s σ H x xs v us Q I rx rs q
  rcases q with q | q
  · exact h pins s σ H x xs v us Q I rx rs q
  · exact h' pins s σ H x xs v us Q I rx rs q
theorem pe_ix {r : R2} (hr : IxR X r) (ha : PE X a ta) (hb : PE X b tb) (hs : PlainIx b) : PE X (.Subscript a b pos) (tOp r ta tb) := by
  intro pins s σ H Q I h
  exact Subscript_ (binT ha hb I h fun v u s2 x y H2 I2 rx ry q => hr a b pins s2 σ H2 x y v u Q I2 rx ry q (hs _ _))

def rIxL (K : PySem.W.Frag) : R2 := fun x y H Q => ∃ p xs i v, x = .ref p ∧ y = .int i ∧ SqL K H p xs ∧ atI xs i = some v ∧ Q v H
def rIxT (K : PySem.W.Frag) : R2 := fun x y H Q => ∃ p xs i v, x = .ref p ∧ y = .int i ∧ SqT K H p xs ∧ atI xs i = some v ∧ Q v H
theorem ix_list : IxR X (rIxL X.K) := by
  intro value slice pins s σ H x y v u Q I rx ry h hs
  obtain ⟨p, xs, i, z, rfl, rfl, hq, he, q⟩ := h
  cases rx
  obtain ⟨t, rfl⟩ := ry
  obtain ⟨its, r, pl, hz⟩ := I.list hq
  obtain ⟨j, h1, h2, h3, h4, h5⟩ := atI_get he
  obtain ⟨w, ew, rw'⟩ := r.get h2
  have hl := r.length
  have hn := line63
  have fin : EP X pins σ Q w s := ⟨z, H, I, rw', q⟩
  by_cases h0 : 0 ≤ i
  · have hj : i.toNat = j := by
      rw [seqIndex_of h0 h5] at h1
      exact Option.some.inj h1
    exact item_listR pl.isList h0 (by omega) (by rw [hj]; simpa using ew) fin hs
  · have hj : (i + (its.toArray.size : Int)).toNat = j := by
      rw [seqIndex_neg (by omega) h4] at h1
      rw [List.size_toArray, ← hl]
      exact Option.some.inj h1
    exact subscriptTail_builtinR (x := w) pl.isList.typeIs slot_list_getitem.lookup
      (wpAny_getItem_list_neg (Q := fun r s' => r = w ∧ EP X pins σ Q r s') pl.isList (by omega) (by rw [List.size_toArray] <;> omega) (by omega) (by rw [hj]; simpa using ew) ⟨rfl, fin⟩) hs
theorem ix_tup : IxR X (rIxT X.K) := by
  intro value slice pins s σ H x y v u Q I rx ry h hs
  obtain ⟨p, xs, i, z, rfl, rfl, hq, he, q⟩ := h
  cases rx
  obtain ⟨t, rfl⟩ := ry
  obtain ⟨its, r, pl, hz⟩ := I.tuple hq
  obtain ⟨j, h1, h2, h3, h4, h5⟩ := atI_get he
  obtain ⟨w, ew, rw'⟩ := r.get h2
  have hl := r.length
  have hn := line63
  have fin : EP X pins σ Q w s := ⟨z, H, I, rw', q⟩
  exact subscriptTail_builtinR (x := w) pl.typeIs slot_tuple_getitem.lookup
    (getItem_tuple (j := j) (Q := fun r s' => r = w ∧ EP X pins σ Q r s') pl (by omega) (by omega) (by rw [List.size_toArray, ← hl]; exact h1) (by simpa using ew) ⟨rfl, fin⟩) hs
theorem mapSeq_set (its : List Value) (n j : Nat) (u : Value) : Obj.mapSeq (·.setIfInBounds j u) { cls := .type "list", data := .seq its.toArray n } = { cls := .type "list", data := .seq (its.set j u).toArray n } := by
  simp [Obj.mapSeq]
theorem Inv.lst {pins : List (Addr × Obj)} {σ : St} {H : Hp} {s : Shared} {p : Addr} {xs : List V} (I : Inv X pins σ H s) (h : H p = some (.lst xs)) :
    ∃ (its : List Value) (n : Nat), Vals xs its ∧ s.heap.get? p = some { cls := .type "list", data := .seq its.toArray n } ∧ xs.length ≤ sizeLine := by
  obtain ⟨z, its, n, r, e⟩ := I.hok p _ h
  exact ⟨its, n, r, e, z⟩
theorem Inv.lstUpd {pins : List (Addr × Obj)} {σ : St} {H : Hp} {s : Shared} {p : Addr} {xs ys : List V} {its its' : List Value} {n n' : Nat} {f : Obj → Obj} (I : Inv X pins σ H s) (h : H p = some (.lst xs))
    (ho : s.heap.get? p = some { cls := .type "list", data := .seq its.toArray n }) (hf : f { cls := .type "list", data := .seq its.toArray n } = { cls := .type "list", data := .seq its'.toArray n' }) (r : Vals ys its') (hz : ys.length ≤ sizeLine) (t : Nat) :
    Inv X pins σ (upd H p (.lst ys)) { s with heap := s.heap.update p f, toks := t } := by
  have e : (s.heap.update p f).get? p = some { cls := .type "list", data := .seq its'.toArray n' } := by
    rw [Heap.get?_update_self f ho (by rw [hf] <;> rfl), hf]
  refine I.write (x := p) (e := p) (by rw [h]; trivial) (.inl rfl) (fun b u hb q => (Heap.get?_update_other _ _ (Ne.symm hb)).trans q) ⟨_, e⟩ ?_
  exact ⟨hz, its', n', r, e⟩
def rSetL : V → V → V → Hp → (Hp → Prop) → Prop := fun o i v H Q => ∃ p xs k j, o = .ref p ∧ i = .int k ∧ H p = some (.lst xs) ∧ ixN xs.length k = some j ∧ Q (upd H p (.lst (xs.set j v)))
theorem set_list : PSet X rSetL := by
  intro pins s σ H o i v ov iv u Q I ro ri rv h
  obtain ⟨p, xs, k, j, rfl, rfl, hp, hj, q⟩ := h
  cases ro
  obtain ⟨t, rfl⟩ := ri
  obtain ⟨its, n, r, ho, hz⟩ := I.lst hp
  obtain ⟨h1, h2, h3, h4⟩ := ixN_seq hj
  have hl := r.length
  have hn := line63
  have I' : Inv X pins σ (upd H p (.lst (xs.set j v))) { s with heap := s.heap.update p (Obj.mapSeq (·.setIfInBounds j u)) } :=
    I.lstUpd hp ho (mapSeq_set its n j u) (r.set rv j) (by rw [List.length_set]; exact hz) s.toks
  by_cases h0 : 0 ≤ k
  · have hk : k.toNat = j := by
      rw [seqIndex_of h0 h4] at h1
      exact Option.some.inj h1
    exact PySem.W.ki_setAt ho h0 (by omega) (by rw [List.size_toArray, ← hl]; exact h4) (by rw [hk]; exact ⟨_, I', q⟩)
  · have hk : (k + (its.toArray.size : Int)).toNat = j := by
      rw [seqIndex_neg (by omega) h3] at h1
      rw [List.size_toArray, ← hl]
      exact Option.some.inj h1
    exact PySem.W.ki_setBack ho (by omega) (by rw [List.size_toArray, ← hl]; exact h3) (by omega) (by rw [hk]; exact ⟨_, I', q⟩)

theorem slice_bounds (lo hi : Option Int) (n : Nat) : (sliceBounds lo hi none n).1 = ((HT.sIx n 0 lo : Nat) : Int) ∧ (sliceBounds lo hi none n).2.1 = ((HT.sIx n n hi : Nat) : Int) ∧ (sliceBounds lo hi none n).2.2 = 1 := by
  refine ⟨?_, ?_, rfl⟩
  · cases lo with
    | none => simp [sliceBounds, HT.sIx]
    | some i =>
      simp only [sliceBounds, HT.sIx, Option.getD_none, show (1 : Int) > 0 by decide, if_true]
      by_cases h : i < 0
      · simp only [h, if_true] <;> omega
      · simp only [h, if_false] <;> omega
  · cases hi with
    | none => simp [sliceBounds, HT.sIx]
    | some i =>
      simp only [sliceBounds, HT.sIx, Option.getD_none, show (1 : Int) > 0 by decide, if_true]
      by_cases h : i < 0
      · simp only [h, if_true] <;> omega
      · simp only [h, if_false] <;> omega
theorem slicePick_cut (its : List Value) (lo hi : Option Int) : slicePick its.toArray lo hi none = ((its.drop (HT.sIx its.length 0 lo)).take (HT.sIx its.length its.length hi - HT.sIx its.length 0 lo)).toArray := by
  obtain ⟨h1, h2, h3⟩ := slice_bounds lo hi its.toArray.size
  unfold slicePick
  rw [h1, h2, h3]
  simp only [sliceRange_one, pick_run, List.size_toArray] <;> rfl
def rSlL (K : PySem.W.Frag) : V → Option Int → Option Int → Hp → VK → Prop := fun x lo hi H Q => ∃ a xs, x = .ref a ∧ SqL K H a xs ∧ ∀ p, H p = none → Q (.ref p) (upd H p (.lst (cutV xs lo hi)))
theorem sl_list : SlR X (rSlL X.K) := by
  intro pins s σ H x v vl vu lo hi sl Q I rx hs pl pu h
  obtain ⟨a, xs, rfl, hx, q⟩ := h
  cases rx
  obtain ⟨its, r, ht, hz⟩ := I.list hx
  have hlen := r.length
  refine ⟨"list", _, slot_list_getitem.lookup, ht.isList.typeIs, ?_⟩
  refine wpAny_getItem_list_slice ht.isList hs pl pu .none (by simp) ?_ (by rw [List.size_toArray] <;> omega)
  rw [slicePick_cut, ← hlen]
  refine ⟨.ref s.heap.objs.size, _, I.laid (t' := s.toks) (o := .lst (cutV xs lo hi)) (fun b ob q => Heap.get?_push_of_some _ q) (Nat.le_refl _) ?_, rfl, q _ (I.hok.fresh (Nat.le_refl _))⟩
  exact ⟨Nat.le_trans (cutV_length xs lo hi) hz, _, 0, (r.drop (HT.sIx xs.length 0 lo)).take (HT.sIx xs.length xs.length hi - HT.sIx xs.length 0 lo), Heap.get?_push_size _ rfl⟩

theorem call_len_seq : CallR X (.builtin "len") (fun xs H Q => ∃ p ys, xs = [.ref p] ∧ (SqL X.K H p ys ∨ SqT X.K H p ys) ∧ Q (.int ys.length) H) := by
  intro pins s σ H xs us Q I r h
  obtain ⟨p, ys, rfl, hq, q⟩ := h
  obtain ⟨u, rfl, rx⟩ := vals1 r
  cases rx
  have hn := line63
  rcases hq with hq | hq
  · obtain ⟨its, r', pl, hz⟩ := I.list hq
    have hlen := r'.length
    exact Calls.call_len_list pl.isList (by simp only [List.size_toArray] <;> omega) ⟨.int ys.length, H, I.tok _, ⟨s.toks + 1, by rw [List.size_toArray, hlen]⟩, q⟩
  · obtain ⟨its, r', pl, hz⟩ := I.tuple hq
    have hlen := r'.length
    exact len_tuple pl (by simp only [List.size_toArray] <;> omega) ⟨.int ys.length, H, I.tok _, ⟨s.toks + 1, by rw [List.size_toArray, hlen]⟩, q⟩
theorem CallR.or {f : Value} {r r' : List V → Hp → VK → Prop} (h : CallR X f r) (h' : CallR X f r') : CallR X f (fun xs H Q => r xs H Q ∨ r' xs H Q) := by
  intro pins s σ H xs us Q I rs q
  rcases q with q | q
  · exact h pins s σ H xs us Q I rs q
  · exact h' pins s σ H xs us Q I rs q
theorem call_list_of : CallR X (.type "list") (fun xs H Q => ∃ p ys, xs = [.ref p] ∧ (SqL X.K H p ys ∨ SqT X.K H p ys) ∧ ∀ l, H l = none → Q (.ref l) (upd H l (.lst ys))) := by
  intro pins s σ H xs us Q I r h
  obtain ⟨p, ys, rfl, hq, q⟩ := h
  obtain ⟨u, rfl, rx⟩ := vals1 r
  cases rx
  have fin : ∀ (its : List Value), Vals ys its → ys.length ≤ sizeLine → ∀ (h' : Heap) (c' : Nat), (∀ b o', s.heap.get? b = some o' → h'.get? b = some o') →
      h'.get? s.heap.objs.size = some { cls := .type "list", dict := none, data := .seq its.toArray c', slots := #[] } → EP X pins σ Q (.ref s.heap.objs.size) { s with heap := h' } := fun its r' hz h' c' kp e =>
    ⟨.ref s.heap.objs.size, _, I.laid (t' := s.toks) kp (Nat.le_refl _) (show ObjOk X.prog X.w _ h' _ (.lst ys) from ⟨hz, its, c', r', e⟩), rfl, q _ (I.hok.fresh (Nat.le_refl _))⟩
  rcases hq with hq | hq
  · obtain ⟨its, r', pl, hz⟩ := I.list hq
    have hlen := r'.length
    obtain ⟨o, ho, hc, n, hd⟩ := pl.isList
    exact call_list_seq p (.inl rfl) ho hc hd (fun h' c' kp e => fin its r' hz h' c' kp e) (by simp only [List.size_toArray] <;> omega)
  · obtain ⟨its, r', pl, hz⟩ := I.tuple hq
    have hlen := r'.length
    obtain ⟨o, ho, hc, n, hd⟩ := pl
    exact call_list_seq p (.inr rfl) ho hc hd (fun h' c' kp e => fin its r' hz h' c' kp e) (by simp only [List.size_toArray] <;> omega)
def tyV (K : PySem.W.Frag) (T : String) (x : V) (H : Hp) : Prop := match x with
  | .str _ => T = "str"
  | .int _ => T = "int"
  | .ref p => (T = "list" ∧ ∃ xs, SqL K H p xs) ∨ (T = "tuple" ∧ ∃ o, K.lookup p = some o ∧ o.cls = .type "tuple" ∧ o.dict = none) ∨
      (T = "dict" ∧ ((∃ kvs, H p = some (.dK kvs)) ∨ ∃ kvs, H p = some (.dT kvs))) ∨ (T = "set" ∧ ∃ S n, H p = some (.set S n))
  | _ => False
theorem tyV_is {pins : List (Addr × Obj)} {σ : St} {H : Hp} {s : Shared} {T : String} {x : V} {v : Value} (I : Inv X pins σ H s) (r : RelV x v) (ty : tyV X.K T x H) :
    s.TypeIs v T ∧ ∀ a, v = .ref a → ∃ ob, s.heap.get? a = some ob ∧ ob.dict = none := by
  cases x with
  | str z =>
    obtain ⟨t, rfl⟩ := r
    cases (show T = "str" from ty)
    exact ⟨typeIs_str s z t, fun _ e => nomatch e⟩
  | int i =>
    obtain ⟨t, rfl⟩ := r
    cases (show T = "int" from ty)
    exact ⟨typeIs_int s i t, fun _ e => nomatch e⟩
  | ref p =>
    cases r
    rcases ty with ⟨rfl, xs, hq⟩ | ⟨rfl, o, hk, hc, hd⟩ | ⟨rfl, hk⟩ | ⟨rfl, S, n, hk⟩
    · obtain ⟨its, _, pl, _⟩ := I.list hq
      refine ⟨pl.isList.typeIs, fun a e => ?_⟩
      cases e
      obtain ⟨o, n, e, c, hd, _⟩ := pl
      exact ⟨o, e, hd⟩
    · refine ⟨⟨o, I.kIn p o hk, hc⟩, fun a e => ?_⟩
      cases e
      exact ⟨o, I.kIn _ o hk, hd⟩
    · have z : ∃ o, s.heap.get? p = some o ∧ o.ExactDict := by
        rcases hk with ⟨kvs, hk⟩ | ⟨kvs, hk⟩
        · obtain ⟨_, _, _, _, o, _, _, e, ex, _⟩ := I.hok p _ hk
          exact ⟨o, e, ex⟩
        · obtain ⟨_, _, _, _, o, _, _, e, ex, _⟩ := I.hok p _ hk
          exact ⟨o, e, ex⟩
      obtain ⟨o, e, ex⟩ := z
      refine ⟨⟨o, e, ex.1⟩, fun a e2 => ?_⟩
      cases e2
      exact ⟨o, e, ex.2.1⟩
    · obtain ⟨o, _, _, _, e, ex, _⟩ := I.hok p _ hk
      refine ⟨⟨o, e, ex.1⟩, fun a e2 => ?_⟩
      cases e2
      exact ⟨o, e, ex.2.1⟩
  | _ => exact False.elim ty
def tBM0 (K : PySem.W.Frag) (T : String) (r : V → List V → Hp → VK → Prop) (to : TE) : TE := fun σ H Q => to σ H fun x H1 => tyV K T x H1 ∧ r x [] H1 Q
def tBM (K : PySem.W.Frag) (T : String) (r : V → List V → Hp → VK → Prop) (to : TE) (t : TA) : TE := fun σ H Q => to σ H fun x H1 => tyV K T x H1 ∧ t σ H1 fun xs H2 => r x xs H2 Q
variable {o e : Expr} {es : List Expr} {to : TE} {t : TA} {name : Str} {apos cpos : Pos} {T id : String} {r : V → List V → Hp → VK → Prop}
theorem pe_bm0 (pa : PlainAttrs T) (slot : Slot T name id) (hty : typeOf (.builtin id) = pure (.type "method_descriptor")) (hm : MtR X id r) (ho : PE X o to)
    (hbase : attributeBase o name X.env (eval o X.env) = eval o X.env := by rfl) (hline : (apos.endLine == cpos.line) = true := by rfl) : PE X (.Call (.Attribute o name apos) [] [] cpos) (tBM0 X.K T r to) := by
  intro pins s σ H Q I h
  refine wpAny_Call_method0_late hbase hline (thn (ho pins s σ H _ I h) fun v s1 ⟨x, H1, I1, r1, ty, q1⟩ => ?_)
  obtain ⟨h1, h2⟩ := tyV_is I1 r1 ty
  exact ⟨T, id, pa, slot, hty, h1, h2, Calls.callWith_builtin rfl (PySem.evalArgs_none (hm pins s1 σ H1 x [] v [] Q I1 r1 .nil q1))⟩
theorem pe_bm (pa : PlainAttrs T) (slot : Slot T name id) (hty : typeOf (.builtin id) = pure (.type "method_descriptor")) (hm : MtR X id r) (ho : PE X o to) (ha : PA X (e :: es) t)
    (hbase : attributeBase o name X.env (eval o X.env) = eval o X.env := by rfl)
    (hfew : ((backTo cpos (starEach (e :: es) X.env)).all (fun x => !x.1) && (backToKw cpos (keywordEach [] X.env)).all (fun x => x.1.isSome)
      && decide ((e :: es).length + ([] : List Keyword).length + (if ([] : List Keyword).isEmpty then 0 else 1) < 30)) = true := by rfl)
    (hline : (apos.endLine == cpos.line) = true := by rfl) (hs : starEach (e :: es) X.env = (false, eval e X.env) :: starEach es X.env := by rfl) (hplain : (backTo cpos (starEach es X.env)).any (·.1) = false := by rfl) :
    PE X (.Call (.Attribute o name apos) (e :: es) [] cpos) (tBM X.K T r to t) := by
  intro pins s σ H Q I h
  refine wpAny_Call_method_late hbase hfew hline rfl (thn (ho pins s σ H _ I h) fun v s1 ⟨x, H1, I1, r1, ty, q1⟩ => ?_)
  obtain ⟨h1, h2⟩ := tyV_is I1 r1 ty
  refine ⟨T, id, pa, slot, hty, h1, h2, ?_⟩
  have hA := ha cpos pins s1 σ H1 _ I1 q1
  rw [hs] at hA ⊢
  refine Calls.callWith_builtin (by show (false || (backTo cpos (starEach es X.env)).any (·.1)) = false; rw [hplain] <;> rfl) (Calls.evalArgs_plain ?_)
  exact thn hA fun us s2 ⟨vs, H2, I2, r2, q2⟩ => hm pins s2 σ H2 x vs v us Q I2 r1 r2 q2
/- xs.append(e), list.index on a module's tuple .. are MtR facts of 06m -/
end
end L2

namespace L2
open PySem PySem.Spec PyProof.Rows

def MtM (X : Cx) (id : String) (r : V → List V → Hp → VK → Prop) : Prop :=
  ∀ (pins : List (Addr × Obj)) (s : Shared) (σ : St) (H : Hp) (x : V) (xs : List V) (v : Value) (us : List Value) (Q : VK), Inv X pins σ H s → RelV x v → Vals xs us → r x xs H Q →
    wpAny (model X.prog X.w) X.A (call (.builtin id) (v :: us)) (EP X pins σ Q) X.xe s

theorem Vals.one : ∀ {x : V} {us : List Value}, Vals [x] us → ∃ u, us = [u] ∧ RelV x u
  | _, _, .cons r .nil => ⟨_, rfl, r⟩
theorem Vals.zero : ∀ {us : List Value}, Vals [] us → us = []
  | _, .nil => rfl
theorem Vals.dropLast {xs : List V} {us : List Value} (h : Vals xs us) : Vals xs.dropLast us.dropLast := by
  induction h with
  | nil => exact .nil
  | cons r t ih =>
    cases t with
    | nil => exact .nil
    | cons q t' => exact .cons r ih
theorem Vals.eraseIdx : ∀ {xs : List V} {us : List Value} (i : Nat), Vals xs us → Vals (xs.eraseIdx i) (us.eraseIdx i)
  | _, _, _, .nil => .nil
  | _, _, 0, .cons _ t => t
  | _, _, i + 1, .cons r t => .cons r (Vals.eraseIdx i t)
theorem Vals.reverse {xs : List V} {us : List Value} (h : Vals xs us) : Vals xs.reverse us.reverse := by
  induction h with
  | nil => exact .nil
  | cons r t ih => rw [List.reverse_cons, List.reverse_cons]; exact Vals.append ih (.cons r .nil)
theorem erase_last {α : Type} (l : List α) : l.eraseIdx (l.length - 1) = l.dropLast := by
  induction l with
  | nil => rfl
  | cons a r ih =>
    cases r with
    | nil => rfl
    | cons b r =>
      have e : (a :: b :: r).length - 1 = ((b :: r).length - 1) + 1 := by
        have h1 : (a :: b :: r).length = r.length + 2 := rfl
        have h2 : (b :: r).length = r.length + 1 := rfl
        omega
      rw [e, List.eraseIdx_cons_succ, ih]
      all_goals rfl
section
variable {X : Cx} {pins : List (Addr × Obj)} {σ : St} {H : Hp} {s : Shared} {l b : Addr} {xs ys zs : List V}

theorem Inv.lset {its its' : List Value} {n : Nat} {f : Array Value → Array Value} {t' : Nat} (I : Inv X pins σ H s) (hH : H l = some (.lst xs))
    (e : s.heap.get? l = some { cls := .type "list", data := .seq its.toArray n }) (hf : f its.toArray = its'.toArray) (hv : Vals ys its') (hz : ys.length ≤ sizeLine) :
    Inv X pins σ (upd H l (.lst ys)) { s with heap := s.heap.update l (Obj.mapSeq f), toks := t' } := by
  have q := PySem.IsL.update e f
  rw [hf] at q
  refine I.write (x := l) (e := l) (by rw [hH]; exact trivial) (.inl rfl) (fun b' u hb hu => (Heap.get?_update_other s.heap (Obj.mapSeq f) (Ne.symm hb)).trans hu) ⟨_, q⟩ ?_
  exact ⟨hz, its', _, hv, q⟩
theorem Inv.lnew {its : List Value} {t' : Nat} (I : Inv X pins σ H s) (hv : Vals ys its) (hz : ys.length ≤ sizeLine) :
    Inv X pins σ (upd H s.heap.objs.size (.lst ys)) { s with heap := s.heap.push { cls := .type "list", data := .seq its.toArray }, toks := t' } :=
  I.laid (fun _ _ q => Heap.get?_push_of_some _ q) (Nat.le_refl _) ⟨hz, its, 0, hv, Heap.get?_push_size _ rfl⟩
theorem Inv.fresh (I : Inv X pins σ H s) : H s.heap.objs.size = none := I.hok.fresh (Nat.le_refl _)
theorem Inv.lstM (I : Inv X pins σ H s) (hH : H l = some (.lst xs)) : xs.length ≤ sizeLine ∧ ∃ (its : List Value) (n : Nat), Vals xs its ∧ xs.length = its.length ∧ s.heap.get? l = some { cls := .type "list", data := .seq its.toArray n } := by
  obtain ⟨z, its, n, r, e⟩ := I.hok l _ hH
  exact ⟨z, its, n, r, r.length, e⟩

theorem notLongL {n : Nat} (h : n ≤ sizeLine) : Builtin.List.listTooLong n = false := by
  unfold Builtin.List.listTooLong
  exact decide_eq_false (by omega)
end

section
variable {X : Cx}

def rAppend : V → List V → Hp → VK → Prop := fun x vs H Q => ∃ l xs y, x = .ref l ∧ vs = [y] ∧ H l = some (.lst xs) ∧ xs.length < sizeLine ∧ Q .non (upd H l (.lst (xs ++ [y])))
theorem mt_append : MtM X "list.append" rAppend := by
  intro pins s σ H x vs v us Q I rx rv h
  obtain ⟨l, xs, y, rfl, rfl, hH, hz, q⟩ := h
  cases rx
  obtain ⟨u, rfl, ru⟩ := rv.one
  obtain ⟨z, its, n, r, hl, e⟩ := I.lstM hH
  refine call_meets F.slot_list_append ⟨_, e, rfl⟩ F.entry_list_append (F.args_list_append_2 _ _) (PySem.list_append l its.toArray n u (by rw [List.size_toArray]; omega)) ⟨e, ?_⟩
  refine ⟨.non, _, I.lset (its' := its ++ [u]) hH e (by simp) (r.append (.cons ru .nil)) ?_, rfl, q⟩
  rw [List.length_append, List.length_singleton]
  omega

def rExtend : V → List V → Hp → VK → Prop := fun x vs H Q => ∃ l b xs zs, x = .ref l ∧ vs = [.ref b] ∧ H l = some (.lst xs) ∧ H b = some (.lst zs) ∧ xs.length + zs.length ≤ sizeLine ∧ Q .non (upd H l (.lst (xs ++ zs)))
theorem mt_extend : MtM X "list.extend" rExtend := by
  intro pins s σ H x vs v us Q I rx rv h
  obtain ⟨l, b, xs, zs, rfl, rfl, hH, hB, hz, q⟩ := h
  cases rx
  obtain ⟨u, rfl, ru⟩ := rv.one
  cases ru
  obtain ⟨z, its, n, r, hl, e⟩ := I.lstM hH
  obtain ⟨z2, its2, n2, r2, hl2, e2⟩ := I.lstM hB
  have hsz : its.toArray.size + its2.toArray.size ≤ sizeLine := by rw [List.size_toArray, List.size_toArray]; omega
  have hlong : ¬ (!its.toArray.isEmpty && Builtin.List.listTooLong (its.toArray.size + its2.toArray.size)) = true := by
    rw [notLongL hsz, Bool.and_false]
    exact Bool.false_ne_true
  refine call_meets F.slot_list_extend ⟨_, e, rfl⟩ F.entry_list_extend (F.args_list_extend_2 _ _)
    (AutoSeq1.list_extend_list_list_0 l its.toArray n b its2.toArray n2 hlong (by rw [List.size_toArray]; omega) (by omega)) ⟨e, e2, ?_⟩
  refine ⟨.non, _, I.lset (its' := its ++ its2) hH e (by simp) (r.append r2) ?_, rfl, q⟩
  rw [List.length_append]
  omega

def rPop : V → List V → Hp → VK → Prop := fun x vs H Q => ∃ l xs y, x = .ref l ∧ vs = [] ∧ H l = some (.lst xs) ∧ xs[xs.length - 1]? = some y ∧ Q y (upd H l (.lst xs.dropLast))
theorem mt_pop : MtM X "list.pop" rPop := by
  intro pins s σ H x vs v us Q I rx rv h
  obtain ⟨l, xs, y, rfl, rfl, hH, hy, q⟩ := h
  cases rx
  have hus := rv.zero
  subst hus
  obtain ⟨z, its, n, r, hl, e⟩ := I.lstM hH
  obtain ⟨u, hu, ru⟩ := r.get hy
  have hy' : its.toArray[its.toArray.size - 1]? = some u := by
    show its.toArray[its.length - 1]? = some u
    rw [← Array.getElem?_toList, ← hl]
    exact hu
  refine call_meets F.slot_list_pop ⟨_, e, rfl⟩ F.entry_list_pop (F.args_list_pop_1 _) (MeetsSeq.list_pop_last l its.toArray n u hy' (by rw [List.size_toArray]; omega)) ⟨e, ?_⟩
  refine ⟨y, _, I.lset (its' := its.dropLast) hH e ?_ r.dropLast ?_, ru, q⟩
  · show its.toArray.eraseIdxIfInBounds (its.toArray.size - 1) = its.dropLast.toArray
    rw [List.size_toArray, List.eraseIdxIfInBounds_toArray, erase_last]
  · rw [List.length_dropLast]
    omega

def rCat : R2 := fun x y H Q => ∃ l b xs zs, x = .ref l ∧ y = .ref b ∧ H l = some (.lst xs) ∧ H b = some (.lst zs) ∧ xs.length + zs.length ≤ sizeLine ∧ ∀ p, H p = none → Q (.ref p) (upd H p (.lst (xs ++ zs)))
theorem op_cat : OpR X (binaryOp .Add) rCat := by
  intro pins s σ H x y v u Q I rx ry h
  obtain ⟨l, b, xs, zs, rfl, rfl, hH, hB, hz, q⟩ := h
  cases rx
  cases ry
  obtain ⟨z, its, n, r, hl, e⟩ := I.lstM hH
  obtain ⟨z2, its2, n2, r2, hl2, e2⟩ := I.lstM hB
  refine PySem.P.add_list e e2 ?_ (by rw [List.size_toArray, List.size_toArray]; omega)
  have ea : its.toArray ++ its2.toArray = (its ++ its2).toArray := by simp
  rw [ea]
  exact ⟨.ref _, _, I.lnew (t' := s.toks) (r.append r2) (by rw [List.length_append]; omega), rfl, q _ I.fresh⟩
end

section
variable {prog : Program} {w : World} {A : Around} {E : Value → Shared → Prop} {s : Shared}
end

section
variable {X : Cx}
end
end L2

namespace Att
open PySem PySem.W PySem.Calls PyProof.Rows

theorem ints_of_wellAll {P : Params} {h : Heap} : ∀ (ns : List Int) (vs : List Value), WellAll P h vs (ns.map WData.int) → IntsAre vs ns := by
  intro ns
  induction ns with
  | nil =>
    intro vs w
    rw [List.map_nil] at w
    cases w
    exact .nil
  | cons n ns ih =>
    intro vs w
    rw [List.map_cons] at w
    cases w with
    | cons a b =>
      cases a
      exact .cons _ _ (ih _ b)

theorem script_of {l : OpenLaw} {n : Nat} (hn : l.most = some n) {P : Params} {h : Heap} {args : List WData} {vals : List Value}
    (hpre : l.row.toRowW.claim.pre args = true) (hwl : WellAll P h vals args) :
    ∃ a vs ns, vals = [Value.ref a] ∧ args = [WData.list (ns.map WData.int)] ∧ h.get? a = some { cls := .type "list", data := .seq vs.toArray } ∧ IntsAre vs ns ∧ ns.length ≤ n := by
  have hsh : WShape.hasAll [] args [.list .int] = true := (pre_splitW hpre).1
  have hc : l.pre.holds [] { args := args } = true := (pre_splitW hpre).2
  obtain ⟨d, r, rfl, h1, h2⟩ := hasAllW_cons hsh
  obtain rfl := hasAllW_nil h2
  obtain ⟨xs, rfl, h3⟩ := hasW_list h1
  obtain ⟨ns, rfl⟩ := items_int h3
  have hlen : ns.length ≤ n := by
    unfold OpenLaw.pre at hc
    have h4 : (WTm.not (.lt (.lit (.int (n : Int))) (.len (.arg 0)))).holds [] { args := [.list (ns.map .int)] } = true := by
      have h4 := (holds_andW hc).1
      rw [hn] at h4
      exact h4
    have h5 := condW_of h4 (w_not (w_lt w_lit (w_len_list (w_arg rfl))))
    rw [List.length_map] at h5
    refine Nat.le_of_not_lt fun q => ?_
    have q' : (n : Int) < ((ns.length : Nat) : Int) := by omega
    first
      | (rw [decide_eq_true q'] at h5; exact absurd h5 (by decide))
      | (simp at h5; omega)
  cases hwl with
  | cons w1 w2 =>
    cases w2
    cases w1 with
    | list ho hall => exact ⟨_, _, ns, rfl, rfl, ho, ints_of_wellAll ns _ hall, hlen⟩

theorem post_true (l : OpenLaw) (args : List WData) : l.row.toRowW.claim.post args (.bool true) args = true :=
  postW_of (r := l.row.toRowW) (X := (true == true))
    (show WShape.has [] (.bool true) .bool = true by first | rfl | decide | simp [WShape.has, WShape.arms, WShape.armsAll])
    (show (WTm.eq .res (.lit (.bool true))).value [] { args := args, res := some (.bool true), after := args } = some (.bool (true == true)) from w_eq_bool (w_res rfl) w_lit) rfl

theorem attach_call {l : OpenLaw} {n : Nat} {q : Program} {loose : List Str} {XP : (Str → Option Value) → Heap → Prop} {YP : World → Heap → Prop} {d : DefRec}
    (hn : l.most = some n) (hdf : d.params.defaults = [])
    (call : ∀ (w : World) (s₀ s₁ : Shared) (mg mb : Str → Option Value) (fa : Addr) (o : Obj) (pm cd doc : Value) (a : Addr) (vs : List Value) (ns : List Int),
      Ground q loose [] XP w s₀ mg mb s₁.heap → YP w s₁.heap →
      s₁.heap.get? fa = some o → o.data = .func (docDef d.name d.params d.body d.scope pm cd doc) → s₁.heap.CodeRec cd d.name → mg d.name = some (.ref fa) →
      s₁.heap.get? a = some { cls := .type "list", data := .seq vs.toArray } → IntsAre vs ns → ns.length ≤ n → s₁.gens = #[] →
      codeAny (model l.prog w) callerA (.call (.ref fa) ⟨[.ref a], []⟩) (fun r s' => r = .ok (.ret (.bool true)) ∧ OldK s₁.heap s'.heap ∧ s'.os = s₁.os ∧ AllBare s'.gens) s₁) :
    WalkO q loose XP YP l.row.toRowW d [] (fun f vs => PySem.call f vs) := by
  intro w s₀ s₁ mg mb G Y fa o pm cd doc dV kV ho hd hcd hD hmg hg args vals as hpre hlay hrd hwl hlo
  obtain rfl : dV = .none := Dflts.none hD hdf
  obtain rfl : kV = .none := Dflts.noKw hD
  obtain ⟨a, vs, ns, rfl, rfl, hobj, hints, hlen⟩ := script_of hn hpre hwl
  refine enter_call (codeAny_mono (call w s₀ s₁ mg mb fa o pm cd doc a vs ns G Y ho (fd_plain hd) hcd hmg hobj hints hlen hg) fun r s' hq => ?_)
  obtain ⟨rfl, h2, h3, h4⟩ := hq
  exact ⟨.inl ⟨.bool true, .bool true, [], rfl, fun _ => rfl, .bool true, post_true l _, fun _ => ⟨List.Pairwise.nil, fun _ hm => (nomatch hm)⟩⟩, h2, h3, h4⟩

section
variable {prog : Program} {w : World} {A : Around} {E : Value → Shared → Prop} {s : Shared} {K : Frag}

end
end Att

namespace L2
open PySem PySem.Spec PyProof.Rows

theorem vals_ints : ∀ {vs : List Value} {ns : List Int}, IntsAre vs ns → Vals (ns.map V.int) vs
  | _, _, .nil => .nil
  | _, _, .cons n t h => .cons ⟨t, rfl⟩ (vals_ints h)

def Only (H : Hp) : Prop := ∀ b, H b = none ∨ ∃ o xs, H b = some (.frz o (.lst xs))

theorem law_call {P : Program} {w : World} {K : PySem.W.Frag} {mg mb : Str → Option Value} {CX : CXT} {k : Nat} {fa a : Addr} {fd : FuncData} {x : Str} {sp : Sp} {s₁ : Shared} {vs : List Value} {ns : List Int}
    (KX : K.In s₁.heap) (hns : s₁.heap.Ns mainGlobals mg) (hb : s₁.heap.Ns builtinsNs mb) (hbb : ∀ x : Str, x ≠ "__name__" → mb x = bootBuiltins x) (hlim : s₁.heap.NoLimit) (hg : s₁.gens = #[])
    (ha : s₁.heap.get? a = some { cls := .type "list", data := .seq vs.toArray }) (hi : IntsAre vs ns) (hl : ns.length ≤ sizeLine) (hr : Room k callerA)
    (F : ∀ base : Heap, K.In base → base.Ns mainGlobals mg → FnOk P w K mg base CX k fa fd [x] sp) (hbind : ∀ (s : Shared) (u : Value), BindsTo s fd ⟨[u], []⟩ [(x, u)])
    (hsp : ∀ H : Hp, Only H → SqL K H a (ns.map V.int) → sp [.ref a] H (fun v _ => v = .bl true) fun _ _ _ => False)
    (hCX : ∀ H e s', CX [] H s₁ (fun _ _ _ => False) e s' → False) :
    codeAny (model P w) callerA (.call (.ref fa) ⟨[.ref a], []⟩) (fun r s' => r = .ok (.ret (.bool true)) ∧ OldK s₁.heap s'.heap ∧ s'.os = s₁.os ∧ AllBare s'.gens) s₁ := by
  have rv := vals_ints hi
  have lenV := hi.length
  -- from an abstract heap in which nothing but the script may be tracked
  have core : ∀ H : Hp, Only H → SqL K H a (ns.map V.int) → HOk P w H s₁.heap → (∀ b, H b ≠ none → b = a) → (H a ≠ none → K.lookup a = none) →
      codeAny (model P w) callerA (.call (.ref fa) ⟨[.ref a], []⟩) (fun r s' => r = .ok (.ret (.bool true)) ∧ OldK s₁.heap s'.heap ∧ s'.os = s₁.os ∧ AllBare s'.gens) s₁ := by
    intro H hO hS hok hA hK
    have base_of : ∀ {b : Addr} {o : Obj}, s₁.heap.get? b = some o → H b = none → (hidT s₁.heap H).get? b = some o := fun e n => hidT_get e n
    have noA : ∀ {b : Addr} {o : Obj} {es : Array DictEntry} {ep : Nat}, s₁.heap.get? b = some o → o.data = .dict es ep → H b = none := fun {b o es ep} e d => by
      cases q : H b with
      | none => rfl
      | some u =>
        have e' : b = a := hA b (by rw [q]; simp)
        subst e'
        rw [ha] at e; cases e
        have d' : Data.seq vs.toArray _ = Data.dict es ep := d
        cases d'
    have nsK : ∀ {b : Addr} {m : Str → Option Value}, s₁.heap.Ns b m → (hidT s₁.heap H).Ns b m := fun {b m} ⟨o, es, ep, e, d, r⟩ => ⟨o, es, ep, base_of e (noA e d), d, r⟩
    have hKb : K.In (hidT s₁.heap H) := fun b o e => base_of (KX b o e) (by
      cases q : H b with
      | none => rfl
      | some u =>
        have e' : b = a := hA b (by rw [q]; simp)
        subst e'
        rw [hK (by rw [q]; simp)] at e; cases e)
    have hM : Mod K mg (hidT s₁.heap H) := ⟨hKb, nsK hns, ⟨mb, nsK hb, hbb⟩, let ⟨mc, h1, h2⟩ := hlim; ⟨mc, nsK h1, h2⟩⟩
    have e0 : Env0 P w K mg (hidT s₁.heap H) callerA [] s₁ H := ⟨rfl, hM, fun b o e => of_hidT e, Nat.le_of_eq (hidT_size _ _), trivial, fun b hb => absurd (show b ∈ ([] : List Addr) from hb) (by simp), hok, .of_eq hg⟩
    refine codeAny_mono ((F _ hKb (nsK hns)).run callerA [] s₁ H ⟨[.ref a], []⟩ [.ref a] [.ref a] _ _ hr e0 (hbind s₁ (.ref a)) (.cons rfl .nil) (hsp H hO hS)) fun r s' h => ?_
    cases r with
    | error e => exact (hCX H e s' h).elim
    | ok fl =>
      cases fl with
      | next => exact False.elim h
      | brk => exact False.elim h
      | cont => exact False.elim h
      | ret u =>
        obtain ⟨v, H', os, bare, un, hok', r', q⟩ := h
        have q' : v = .bl true := q
        subst q'
        obtain rfl : u = Value.bool true := r'
        refine ⟨rfl, OldK.of_keep fun b o e => ?_, os, bare⟩
        cases q : H b with
        | none => exact un.keep b o e q (by intro z; exact absurd (show b ∈ ([] : List Addr) from z) (by simp)) (by simp)
        | some u =>
          rcases hO b with z | ⟨ob, xs, z⟩
          · rw [q] at z; cases z
          · have z2 := un.frzs b ob _ z
            obtain ⟨e1, _⟩ := hok b _ z
            obtain ⟨e2, _⟩ := hok' b _ z2
            rw [e] at e1; cases e1
            exact e2
  cases hk : K.lookup a with
  | some o =>
    -- the script is one of the module's own objects
    have e := KX a o hk
    rw [ha] at e
    cases e
    refine core (fun _ => none) (fun _ => .inl rfl) (.inr ⟨_, vs.toArray, _, hk, rfl, rfl, rfl, by rw [List.size_toArray, lenV]; exact hl, by simpa using rv⟩) (fun b u z => by have z' : (none : Option HO) = some u := z; cases z') (fun b z => absurd rfl z) fun z => absurd rfl z
  | none =>
    refine core (fun b => if b = a then some (.frz { cls := .type "list", data := .seq vs.toArray } (.lst (ns.map V.int))) else none) (fun b => ?_) (.inl (.inr ⟨{ cls := .type "list", data := .seq vs.toArray }, if_pos rfl⟩)) (fun b u z => ?_) (fun b z => ?_) fun _ => hk
    · by_cases hb : b = a
      · exact .inr ⟨_, _, if_pos hb⟩
      · exact .inl (if_neg hb)
    · by_cases hb : b = a
      · have z' := (if_pos hb).symm.trans z
        cases z'
        subst hb
        exact ⟨ha, by rw [List.length_map]; exact hl, vs, _, rv, ha⟩
      · have z' := (if_neg hb).symm.trans z
        cases z'
    · by_cases hb : b = a
      · exact hb
      · exact absurd (if_neg hb) z
end L2

namespace L2
open PySem PySem.Spec PyProof.Rows

theorem walk_of {l : PySem.W.OpenLaw} {n k : Nat} {q : Program} {loose : List Str} {XP : (Str → Option Value) → Heap → Prop} {YP : World → Heap → Prop} {d : DefRec} {K : Params → PySem.W.Frag} {CX : World → CXT} {sp : World → Sp} {x : Str}
    (hn : l.most = some n) (hn2 : n ≤ sizeLine) (hdf : d.params.defaults = []) (hr : Room k callerA)
    (hY : ∀ (w : World) (h : Heap), YP w h → (K w.params).In h)
    (F : ∀ (w : World) (mg : Str → Option Value) (fa : Addr) (h : Heap), (K w.params).In h → h.Ns mainGlobals mg → mg d.name = some (.ref fa) →
      ∃ fd : FuncData, (∀ (s : Shared) (u : Value), BindsTo s fd ⟨[u], []⟩ [(x, u)]) ∧
        ∀ base : Heap, (K w.params).In base → base.Ns mainGlobals mg → FnOk l.prog w (K w.params) mg base (CX w) k fa fd [x] (sp w))
    (hsp : ∀ (w : World) (H : Hp) (a : Addr) (ns : List Int), ns.length ≤ n → Only H → SqL (K w.params) H a (ns.map V.int) → sp w [.ref a] H (fun v _ => v = .bl true) fun _ _ _ => False)
    (hCX : ∀ (w : World) (H : Hp) (s : Shared) (e : Value) (s' : Shared), CX w [] H s (fun _ _ _ => False) e s' → False) :
    PySem.W.WalkO q loose XP YP l.row.toRowW d [] (fun f vs => PySem.call f vs) := by
  refine Att.attach_call hn hdf fun w s₀ s₁ mg mb fa o pm cd doc a vs ns G Y ho hd hcd hmg hobj hints hlen hg => ?_
  have KX := hY w _ Y
  obtain ⟨fd, hb, hF⟩ := F w mg fa _ KX G.T.g hmg
  exact law_call KX G.T.g G.T.b G.T.builtins G.T.nolimit hg hobj hints (Nat.le_trans hlen hn2) hr hF hb (fun H hO hS => hsp w H a ns hlen hO hS) fun H e s' => hCX w H s₁ e s'
end L2

/- THE LAST THEOREM (shape; LID, My.* are yours):
   My.Adr: a structure of the addresses that your layer names (classes, functions); My.Txt K t: a structure (Prop) of the equations over K;
   My.txt_mk : {K} {implicit addresses ..} (e1 : nsIn K mainGlobals "law" = some (some (.ref f))) (e2 : K.lookup f = some ⟨oc, od, .func (fnOf "law" "law" params body scope dV kV doc pm an cdv ct), sl⟩) (e3 : codeIn K cdv "law" = true) .. : ∃ t, My.Txt K t

(the tactic k_is has no namespace: write k_is) -/

namespace L2
open PySem PySem.Spec PyProof.Rows

def defArgs (s : Stmt) : Arguments := match s with
  | .FunctionDef _ a _ _ _ _ _ _ _ _ => a
  | _ => { posonlyargs := [], args := [], vararg := none, kwonlyargs := [], kw_defaults := [], kwarg := none, defaults := [] }
def defBody (s : Stmt) : List Stmt := match s with
  | .FunctionDef _ _ b _ _ _ _ _ _ _ => b
  | _ => []
def defScope (s : Stmt) : Scope := match s with
  | .FunctionDef _ _ _ _ _ _ sc _ _ _ => sc
  | _ => { kind := .function, names := [], isGenerator := false, isCoroutine := false }

abbrev CX0 : CXT := fun _ _ _ _ _ _ => False
abbrev E0 : XK := fun _ _ _ => False
theorem pass0 {X : Cx} : Passes CX0 X E0 := fun _ _ _ _ _ _ _ h => h.elim

structure Fun (K : PySem.W.Frag) (x qual : Str) (st : Stmt) (f : Addr) (fd : FuncData) : Prop where
  ex : ∃ (oc : Value) (od : Option Addr) (kV doc pm : Value) (an : Option Addr) (cdv ct : Value) (osl : Array (Option Value)),
    fd = PySem.W.fnOf x qual (defArgs st) (defBody st) (defScope st) .none kV doc pm an cdv ct ∧ K.lookup f = some ⟨oc, od, .func fd, osl⟩ ∧ PySem.W.codeIn K cdv qual = true
  kp : PySem.W.keepIn K (.ref f) = true
section
variable {P : Program} {w : World} {K : PySem.W.Frag} {mg : Str → Option Value} {base : Heap}
theorem Fun.ok {x qual : Str} {st : Stmt} {f : Addr} {fd : FuncData} {N ps : List Str} {k : Nat} {sp : Sp} (F : Fun K x qual st f fd) (S : FnScope N ps (defScope st)) (len : ∀ vs H Q E, sp vs H Q E → vs.length = ps.length)
    (hbody : ∀ (cdv : Value) (A : Around) (outer : List Env) (s : Shared) (H : Hp) (vs : List V) (Q : VK) (E : XK), Room k (A.deeper (envOfC qual (defScope st) s.heap.objs.size f cdv)) → sp vs H Q E →
      ∃ t, PSs (cxOf CX0 P w K mg base N qual (defScope st) f cdv A outer s H E).nox (defBody st) t ∧ t { nx := fun _ H' => Q .non H', rt := Q } (start N vs) H) : FnOk P w K mg base CX0 (k + 1) f fd ps sp := by
  obtain ⟨oc, od, kV, doc, pm, an, cdv, ct, osl, rfl, lk, hcd⟩ := F.ex
  refine fn_of lk hcd S len fun A outer s H vs Q E hr hsp => ?_
  obtain ⟨t, h, q⟩ := hbody cdv A outer s H vs Q E hr hsp
  exact ⟨t, h.nox, q⟩
theorem Fun.binds {x qual : Str} {st : Stmt} {f : Addr} {fd : FuncData} {ps : List Str} (F : Fun K x qual st f fd)
    (h : ∀ (kV doc pm : Value) (an : Option Addr) (cdv ct : Value) (us : List Value), us.length = ps.length → bindArgs (PySem.W.fnOf x qual (defArgs st) (defBody st) (defScope st) .none kV doc pm an cdv ct) ⟨us, []⟩ = pure (ps.zip us)) : Binds K fd ps [] := by
  obtain ⟨oc, od, kV, doc, pm, an, cdv, ct, osl, rfl, lk, hcd⟩ := F.ex
  exact .all (h kV doc pm an cdv ct)
theorem fun_mk {x qual : Str} {st : Stmt} {f : Addr} {oc : Value} {od an : Option Addr} {osl : Array (Option Value)} {kV doc pm cdv ct : Value} (l : K.lookup f = some ⟨oc, od, .func (PySem.W.fnOf x qual (defArgs st) (defBody st) (defScope st) .none kV doc pm an cdv ct), osl⟩)
    (c : PySem.W.codeIn K cdv qual = true) (k : PySem.W.keepIn K (.ref f) = true) : Fun K x qual st f (PySem.W.fnOf x qual (defArgs st) (defBody st) (defScope st) .none kV doc pm an cdv ct) := ⟨⟨oc, od, kV, doc, pm, an, cdv, ct, osl, rfl, l, c⟩, k⟩
end
section
variable {X : Cx}
theorem pv (i : Nat) {x : Str} {pos : Pos} (hN : X.N[i]? = some x := by rfl) (hv : Vis X.env.scope x := by first | exact Or.inl rfl | exact Or.inr (Or.inl rfl) | exact Or.inr (Or.inr rfl)) (hd : (x == ("__debug__" : Str)) = false := by decide)
    (hcd : (x == ("__classdict__" : Str)) = false := by decide) : PE X (.Name x pos) (tVar i) := pe_var hN hv hd hcd
end

theorem iteF {A B : Prop} (h : B) : if false = true then A else B := by
  rw [if_neg Bool.false_ne_true]
  exact h
theorem iteT {A B : Prop} (h : A) : if true = true then A else B := by
  rw [if_pos rfl]
  exact h
theorem ite2 {c A B : Prop} [Decidable c] (h1 : c → A) (h2 : ¬ c → B) : if c then A else B := by
  by_cases h : c
  · rw [if_pos h]
    exact h1 h
  · rw [if_neg h]
    exact h2 h
def Same (H H' : Hp) : Prop := ∀ b o, H b = some o → H' b = some o
theorem Same.refl (H : Hp) : Same H H := fun _ _ h => h
theorem Same.trans {H H1 H2 : Hp} (a : Same H H1) (b : Same H1 H2) : Same H H2 := fun c o h => b c o (a c o h)
theorem Same.free {H H' : Hp} (e : Same H H') {l : Addr} (h : H' l = Option.none) : H l = Option.none := by
  cases q : H l with
  | none => rfl
  | some o =>
    rw [e l o q] at h
    cases h
theorem Same.seq {K : PySem.W.Frag} {H H' : Hp} {a : Addr} {xs : List V} (e : Same H H') (h : SqL K H a xs) : SqL K H' a xs := by
  rcases h with (h | ⟨o, h⟩) | h
  · exact .inl (.inl (e _ _ h))
  · exact .inl (.inr ⟨o, e _ _ h⟩)
  · exact .inr h

end L2
set_option linter.all false
namespace Hull
abbrev P := Int × Int
def turn (a b c : P) : Int := (b.1 - a.1) * (c.2 - a.2) - (b.2 - a.2) * (c.1 - a.1)
def lt (a b : P) : Prop := a.1 < b.1 ∨ (a.1 = b.1 ∧ a.2 < b.2)
instance (a b : P) : Decidable (lt a b) := by unfold lt; infer_instance
def cr (u v : P) : Int := u.1 * v.2 - u.2 * v.1
def pos (u : P) : Prop := 0 < u.1 ∨ (u.1 = 0 ∧ 0 < u.2)
def sb (a b : P) : P := (a.1 - b.1, a.2 - b.2)
theorem pos_sb {a b : P} : pos (sb b a) ↔ lt a b := by unfold pos sb lt; dsimp; omega
theorem lt_trans {a b c : P} (h : lt a b) (g : lt b c) : lt a c := by unfold lt at *; omega
theorem lt_irrefl {a : P} : ¬ lt a a := by unfold lt; omega
theorem lt_asymm {a b : P} (h : lt a b) : ¬ lt b a := by unfold lt at *; omega
theorem lt_ne {a b : P} (h : lt a b) : a ≠ b := fun e => lt_irrefl (e ▸ h)
theorem lt_tri (a b : P) : lt a b ∨ a = b ∨ lt b a := by
  obtain ⟨x, y⟩ := a; obtain ⟨z, w⟩ := b
  unfold lt; simp only [Prod.mk.injEq]; omega
theorem pos_nn {u : P} (h : pos u) : 0 ≤ u.1 := by unfold pos at h; omega

theorem mid_nn {u v w : P} (hu : pos u) (hv : pos v) (hw : pos w) (h1 : 0 ≤ cr u v) (h2 : 0 ≤ cr v w) : 0 ≤ cr u w := by
  have e1 : cr u w * v.1 = cr u v * w.1 + cr v w * u.1 := by unfold cr; grind
  have e2 : cr u w * v.2 = cr u v * w.2 + cr v w * u.2 := by unfold cr; grind
  have hu1 := pos_nn hu
  have hw1 := pos_nn hw
  have a1 := Int.mul_nonneg h1 hw1
  have a2 := Int.mul_nonneg h2 hu1
  apply Classical.byContradiction
  intro hc
  have hc' : cr u w < 0 := by omega
  rcases hv with hv | ⟨hv, hv2⟩
  · have := Int.mul_neg_of_neg_of_pos hc' hv
    omega
  · have b1 : cr v w = - (v.2 * w.1) := by unfold cr; rw [hv]; grind
    have b2 := Int.mul_nonneg (Int.le_of_lt hv2) hw1
    have b3 : v.2 * w.1 = 0 := by omega
    have b4 : w.1 = 0 := by
      rcases Int.mul_eq_zero.mp b3 with h | h
      · omega
      · exact h
    have b5 : 0 < w.2 := by unfold pos at hw; omega
    have b6 : cr u w = u.1 * w.2 := by unfold cr; rw [b4]; grind
    have := Int.mul_nonneg hu1 (Int.le_of_lt b5)
    omega
theorem mid_pos {u v w : P} (hu : pos u) (hv : pos v) (hw : pos w) (h1 : 0 ≤ cr u v) (h2 : 0 ≤ cr v w) (h : 0 < cr u v ∨ 0 < cr v w) : 0 < cr u w := by
  have n := mid_nn hu hv hw h1 h2
  apply Classical.byContradiction
  intro hc
  have z : cr u w = 0 := by omega
  have e1 : cr u v * w.1 + cr v w * u.1 = 0 := by have : cr u w * v.1 = cr u v * w.1 + cr v w * u.1 := by unfold cr; grind
                                                  rw [z] at this; omega
  have e2 : cr u v * w.2 + cr v w * u.2 = 0 := by have : cr u w * v.2 = cr u v * w.2 + cr v w * u.2 := by unfold cr; grind
                                                  rw [z] at this; omega
  have hu1 := pos_nn hu
  have hw1 := pos_nn hw
  have a1 := Int.mul_nonneg h1 hw1
  have a2 := Int.mul_nonneg h2 hu1
  have c1 : cr u v * w.1 = 0 := by omega
  have c2 : cr v w * u.1 = 0 := by omega
  have d1 := Int.mul_eq_zero.mp c1
  have d2 := Int.mul_eq_zero.mp c2
  -- one of the weights is positive: its vector has first number 0, second above 0
  have f1 : 0 ≤ cr u v * w.2 := by
    rcases d1 with d | d
    · rw [d]; simp
    · exact Int.mul_nonneg h1 (by unfold pos at hw; omega)
  have f2 : 0 ≤ cr v w * u.2 := by
    rcases d2 with d | d
    · rw [d]; simp
    · exact Int.mul_nonneg h2 (by unfold pos at hu; omega)
  have g1 := Int.mul_eq_zero.mp (show cr u v * w.2 = 0 by omega)
  have g2 := Int.mul_eq_zero.mp (show cr v w * u.2 = 0 by omega)
  unfold pos at hu hw
  omega

theorem turn_cr (a b c : P) : turn a b c = cr (sb b a) (sb c b) := by unfold turn cr sb; dsimp; grind
theorem turn_cr2 (a b c : P) : turn a b c = cr (sb b a) (sb c a) := by unfold turn cr sb; dsimp
theorem turn_rot (a b c : P) : turn a b c = turn b c a := by unfold turn; grind
theorem turn_swap (a b c : P) : turn a b c = - turn b a c := by unfold turn; grind
theorem turn_aab (a b : P) : turn a a b = 0 := by unfold turn; grind
theorem turn_aba (a b : P) : turn a b a = 0 := by unfold turn; grind
theorem turn_abb (a b : P) : turn a b b = 0 := by unfold turn; grind

def pops (t : P) : List P → List P
  | b :: a :: r => if turn a b t ≤ 0 then pops t (a :: r) else b :: a :: r
  | l => l
def push (st : List P) (t : P) : List P := t :: pops t st
def chainR (row : List P) : List P := row.foldl push []

def Dec (st : List P) : Prop := st.Pairwise fun b a => lt a b
def EdgesOk (pre : List P) : List P → Prop
  | b :: a :: r => (∀ x ∈ pre, 0 ≤ turn a b x) ∧ EdgesOk pre (a :: r)
  | _ => True
def Conv : List P → Prop
  | c :: b :: a :: r => 0 < turn a b c ∧ Conv (b :: a :: r)
  | _ => True

theorem Dec.tail {a : P} {r : List P} (h : Dec (a :: r)) : Dec r := (List.pairwise_cons.mp h).2
theorem Conv.tail {a : P} {r : List P} (h : Conv (a :: r)) : Conv r := by
  match r, h with
  | [], _ => trivial
  | [_], _ => trivial
  | b :: c :: r, h => exact h.2
theorem EdgesOk.tail {pre : List P} {a : P} {r : List P} (h : EdgesOk pre (a :: r)) : EdgesOk pre r := by
  match r, h with
  | [], _ => trivial
  | b :: r, h => exact h.2
theorem EdgesOk.mono {pre pre' : List P} (s : ∀ x ∈ pre', x ∈ pre) : ∀ {st : List P}, EdgesOk pre st → EdgesOk pre' st
  | [], _ => trivial
  | [_], _ => trivial
  | b :: a :: r, h => ⟨fun x hx => h.1 x (s x hx), EdgesOk.mono s (st := a :: r) h.2⟩

theorem pops_suffix (t : P) : ∀ st : List P, ∃ l, st = l ++ pops t st
  | [] => ⟨[], rfl⟩
  | [b] => ⟨[], rfl⟩
  | b :: a :: r => by
    unfold pops
    split
    · obtain ⟨l, e⟩ := pops_suffix t (a :: r)
      exact ⟨b :: l, by rw [List.cons_append, ← e]⟩
    · exact ⟨[], rfl⟩
theorem pops_ne (t : P) : ∀ st : List P, st ≠ [] → pops t st ≠ []
  | [], h => absurd rfl h
  | [b], _ => by simp [pops]
  | b :: a :: r, _ => by
    unfold pops
    split
    · exact pops_ne t (a :: r) (by simp)
    · simp
theorem pops_turn (t : P) : ∀ st : List P, ∀ b a r, pops t st = b :: a :: r → 0 < turn a b t
  | [], b, a, r, h => by simp [pops] at h
  | [_], b, a, r, h => by simp [pops] at h
  | b' :: a' :: r', b, a, r, h => by
    unfold pops at h
    split at h
    · exact pops_turn t (a' :: r') b a r h
    · rename_i hc
      injection h with h1 h2
      injection h2 with h3 h4
      subst h1; subst h3; omega
theorem pops_last (t : P) : ∀ st : List P, ∀ a r, pops t st = a :: r → (st = a :: r) ∨ ∃ l b, st = l ++ b :: a :: r ∧ turn a b t ≤ 0
  | [], a, r, h => by simp [pops] at h
  | [b], a, r, h => by simp [pops] at h; exact .inl (by rw [h.1, h.2])
  | b' :: a' :: r', a, r, h => by
    unfold pops at h
    split at h
    · rename_i hc
      rcases pops_last t (a' :: r') a r h with e | ⟨l, b, e, q⟩
      · injection e with e1 e2
        subst e1; subst e2
        exact .inr ⟨[], b', rfl, hc⟩
      · exact .inr ⟨b' :: l, b, by rw [e]; rfl, q⟩
    · exact .inl h

theorem EdgesOk.suffix {pre : List P} : ∀ {l st : List P}, EdgesOk pre (l ++ st) → EdgesOk pre st
  | [], _, h => h
  | _ :: l, _, h => EdgesOk.suffix (l := l) (EdgesOk.tail h)
theorem Conv.suffix : ∀ {l st : List P}, Conv (l ++ st) → Conv st
  | [], _, h => h
  | _ :: l, _, h => Conv.suffix (l := l) (Conv.tail h)
theorem Dec.suffix : ∀ {l st : List P}, Dec (l ++ st) → Dec st
  | [], _, h => h
  | _ :: l, _, h => Dec.suffix (l := l) (Dec.tail h)

structure Ch (st pre : List P) : Prop where
  dec : Dec st
  conv : Conv st
  edges : EdgesOk pre st
  sub : ∀ x ∈ st, x ∈ pre
  top : ∀ x ∈ pre, ∀ b r, st = b :: r → x = b ∨ lt x b
  bot : ∀ x ∈ pre, ∀ l a, st = l ++ [a] → x = a ∨ lt a x
  ne : pre ≠ [] → st ≠ []

theorem Ch.nil : Ch [] [] := ⟨List.Pairwise.nil, trivial, trivial, fun _ h => h, (fun _ h => nomatch h), (fun _ h => nomatch h), fun h => absurd rfl h⟩

theorem all_left {t : P} : ∀ {st : List P}, Dec st → Conv st → (∀ b r, st = b :: r → lt b t) → (∀ b a r, st = b :: a :: r → 0 < turn a b t) → EdgesOk [t] st
  | [], _, _, _, _ => trivial
  | [_], _, _, _, _ => trivial
  | b :: a :: r, hd, hc, ht, hl => by
    have h0 := hl b a r rfl
    refine ⟨fun x hx => ?_, ?_⟩
    · rw [List.mem_singleton.mp hx]; omega
    · have hab : lt a b := (List.pairwise_cons.mp hd).1 a (by simp)
      have hbt := ht b _ rfl
      refine all_left (st := a :: r) hd.tail hc.tail (fun b' r' e => ?_) (fun b' a' r' e => ?_)
      · injection e with e1 _; subst e1; exact lt_trans hab hbt
      · injection e with e1 e2; subst e1; subst e2
        have ha'a : lt a' a := (List.pairwise_cons.mp hd.tail).1 a' (by simp)
        have h1 : 0 < turn a' a b := hc.1
        rw [turn_cr] at h1 h0
        rw [turn_cr2]
        have k := mid_pos (u := sb a a') (v := sb b a) (w := sb t b) (pos_sb.mpr ha'a) (pos_sb.mpr hab) (pos_sb.mpr hbt) (by omega) (by omega) (.inl h1)
        -- cr (a - a') (t - a') = cr u v + cr u w
        have e : cr (sb a a') (sb t a') = cr (sb a a') (sb b a) + cr (sb a a') (sb t b) := by unfold cr sb; dsimp; grind
        omega

theorem Ch.push {st pre : List P} {t : P} (h : Ch st pre) (ht : ∀ x ∈ pre, lt x t) : Ch (push st t) (pre ++ [t]) := by
  obtain ⟨l, el⟩ := pops_suffix t st
  have hd : Dec (pops t st) := Dec.suffix (l := l) (el ▸ h.dec)
  have hc : Conv (pops t st) := Conv.suffix (l := l) (el ▸ h.conv)
  have he : EdgesOk pre (pops t st) := EdgesOk.suffix (l := l) (el ▸ h.edges)
  have hs : ∀ x ∈ pops t st, x ∈ pre := fun x hx => h.sub x (by rw [el]; exact List.mem_append_right _ hx)
  have hl := pops_turn t st
  have htop : ∀ b r, pops t st = b :: r → lt b t := fun b r e => ht b (hs b (by rw [e]; simp))
  have hall : EdgesOk [t] (pops t st) := all_left hd hc htop hl
  have hboth : ∀ s : List P, EdgesOk pre s → EdgesOk [t] s → EdgesOk (pre ++ [t]) s := by
    intro s
    induction s with
    | nil => intro _ _; trivial
    | cons b s ih =>
      match s, ih with
      | [], _ => intro _ _; trivial
      | a :: r, ih =>
        intro h1 h2
        refine ⟨fun x hx => ?_, ih h1.2 h2.2⟩
        rcases List.mem_append.mp hx with hx | hx
        · exact h1.1 x hx
        · exact h2.1 x hx
  refine ⟨?_, ?_, ?_, ?_, ?_, ?_, ?_⟩
  · exact List.pairwise_cons.mpr ⟨fun a ha => ht a (hs a ha), hd⟩
  · show Conv (t :: pops t st)
    cases e : pops t st with
    | nil => trivial
    | cons b r =>
      cases r with
      | nil => trivial
      | cons a r => exact ⟨hl b a r e, by rw [← e]; exact hc⟩
  · show EdgesOk (pre ++ [t]) (t :: pops t st)
    cases e : pops t st with
    | nil => trivial
    | cons c r =>
      refine ⟨fun x hx => ?_, by rw [← e]; exact hboth _ he hall⟩
      have hct : lt c t := htop c r e
      rcases List.mem_append.mp hx with hx | hx
      · rcases lt_tri x c with hxc | hxc | hxc
        · -- x before c: there is an edge below c
          cases r with
          | nil =>
            -- c is the bottom
            have : st = l ++ [c] := by rw [el, e]
            rcases h.bot x hx l c this with q | q
            · rw [q, turn_aba]; exact Int.le_refl 0
            · exact absurd q (lt_asymm hxc)
          | cons d r =>
            have h1 : 0 < turn d c t := hl c d r e
            have h2 : 0 ≤ turn d c x := by have := he; rw [e] at this; exact this.1 x hx
            have hdc : lt d c := (List.pairwise_cons.mp (e ▸ hd)).1 d (by simp)
            rw [turn_cr] at h1
            have k := mid_nn (u := sb c x) (v := sb c d) (w := sb t c) (pos_sb.mpr hxc) (pos_sb.mpr hdc) (pos_sb.mpr hct)
              (by have : cr (sb c x) (sb c d) = turn d c x := by unfold cr sb turn; dsimp; grind
                  omega) (by omega)
            have : turn c t x = cr (sb c x) (sb t c) := by unfold cr sb turn; dsimp; grind
            omega
        · rw [hxc, turn_aba]; exact Int.le_refl 0
        · -- x behind c: c was not the top
          rcases pops_last t st c r e with q | ⟨l', b, q, hq⟩
          · rcases h.top x hx c r q with z | z
            · exact absurd (z ▸ hxc) lt_irrefl
            · exact absurd z (lt_asymm hxc)
          · have hb : EdgesOk pre (b :: c :: r) := EdgesOk.suffix (l := l') (q ▸ h.edges)
            have hdb : Dec (b :: c :: r) := Dec.suffix (l := l') (q ▸ h.dec)
            have hcb : lt c b := (List.pairwise_cons.mp hdb).1 c (by simp)
            have h2 := hb.1 x hx
            have k := mid_nn (u := sb t c) (v := sb b c) (w := sb x c) (pos_sb.mpr hct) (pos_sb.mpr hcb) (pos_sb.mpr hxc)
              (by have : cr (sb t c) (sb b c) = - turn c b t := by unfold cr sb turn; dsimp; grind
                  omega)
              (by have : cr (sb b c) (sb x c) = turn c b x := by unfold cr sb turn; dsimp
                  omega)
            have : turn c t x = cr (sb t c) (sb x c) := by unfold cr sb turn; dsimp
            omega
      · rw [List.mem_singleton.mp hx, turn_abb]; exact Int.le_refl 0
  · intro x hx
    rcases List.mem_cons.mp hx with hx | hx
    · rw [hx]; simp
    · exact List.mem_append_left _ (hs x hx)
  · intro x hx b r e
    have : t = b := by injection e
    subst this
    rcases List.mem_append.mp hx with hx | hx
    · exact .inr (ht x hx)
    · exact .inl (List.mem_singleton.mp hx)
  · intro x hx l' a e
    by_cases hp : pre = []
    · subst hp
      have hst : st = [] := by
        cases st with
        | nil => rfl
        | cons c r => exact absurd (h.sub c (by simp)) (by simp)
      subst hst
      have : l' = [] ∧ t = a := by
        have e' : [t] = l' ++ [a] := e
        cases l' with
        | nil => simp at e'; exact ⟨rfl, e'⟩
        | cons z l' => simp at e'
      simp at hx
      rw [hx]; exact .inl this.2
    · have hne := pops_ne t st (h.ne hp)
      -- the last of the rest is the last of st
      have e2 : pops t st = pops t st := rfl
      cases l' with
      | nil =>
        have e' : t :: pops t st = [a] := e
        injection e' with _ e''
        exact absurd e'' hne
      | cons z l' =>
        have e' : t :: pops t st = z :: (l' ++ [a]) := e
        injection e' with _ e''
        have hst : st = (l ++ l') ++ [a] := by
          calc st = l ++ pops t st := el
            _ = (l ++ l') ++ [a] := by rw [e'', List.append_assoc]
        rcases List.mem_append.mp hx with hx | hx
        · exact h.bot x hx _ a hst
        · rw [List.mem_singleton.mp hx]
          exact .inr (ht a (h.sub a (by rw [hst]; simp)))
  · intro _; exact List.cons_ne_nil _ _

theorem Ch.fold : ∀ (row pre st : List P), Ch st pre → (pre ++ row).Pairwise lt → Ch (row.foldl Hull.push st) (pre ++ row)
  | [], pre, st, h, _ => by simpa using h
  | t :: row, pre, st, h, hp => by
    have ht : ∀ x ∈ pre, lt x t := fun x hx => (List.pairwise_append.mp hp).2.2 x hx t (by simp)
    have := Ch.fold row (pre ++ [t]) (Hull.push st t) (h.push ht) (by simpa using hp)
    simpa using this
theorem chain_ok {row : List P} (h : row.Pairwise lt) : Ch (chainR row) row := by
  have := Ch.fold row [] [] Ch.nil (by simpa using h)
  simpa [chainR] using this

def Held (row : List P) (s : P) : Prop :=
  (∃ p ∈ row, ∃ q ∈ row, turn p q s = 0 ∧ lt p s ∧ lt s q) ∨ (∃ p ∈ row, ∃ q ∈ row, ∃ r ∈ row, 0 < turn p q s ∧ 0 < turn q r s ∧ 0 < turn r p s)

theorem zero_par {w u v : P} (hu : pos u) (hv : pos v) (huv : cr u v = 0) (h1 : cr w u ≤ 0) (h2 : 0 ≤ cr w v) : cr w u = 0 ∧ cr w v = 0 := by
  have e1 : cr w v * u.1 = cr w u * v.1 + cr u v * w.1 := by unfold cr; grind
  have e2 : cr w v * u.2 = cr w u * v.2 + cr u v * w.2 := by unfold cr; grind
  rw [huv] at e1 e2
  have hu1 := pos_nn hu
  have hv1 := pos_nn hv
  have a1 := Int.mul_nonneg h2 hu1
  have a2 := Int.mul_nonneg (show 0 ≤ - cr w u by omega) hv1
  rw [Int.neg_mul] at a2
  have b1 : cr w v * u.1 = 0 := by omega
  have b2 : cr w u * v.1 = 0 := by omega
  have c1 := Int.mul_eq_zero.mp b1
  have c2 := Int.mul_eq_zero.mp b2
  unfold pos at hu hv
  have f1 : 0 ≤ cr w v * u.2 := by
    rcases c1 with c | c
    · rw [c]; simp
    · exact Int.mul_nonneg h2 (by omega)
  have f2 : 0 ≤ (- cr w u) * v.2 := by
    rcases c2 with c | c
    · rw [c]; simp
    · exact Int.mul_nonneg (by omega) (by omega)
  rw [Int.neg_mul] at f2
  have g1 := Int.mul_eq_zero.mp (show cr w v * u.2 = 0 by omega)
  have g2 := Int.mul_eq_zero.mp (show cr w u * v.2 = 0 by omega)
  constructor <;> omega

theorem par_zero {w w' u : P} (hu : pos u ∨ pos (sb (0, 0) u)) (h1 : cr w u = 0) (h2 : cr w' u = 0) : cr w w' = 0 := by
  have e1 : cr w w' * u.1 = cr w u * w'.1 - cr w' u * w.1 := by unfold cr; grind
  have e2 : cr w w' * u.2 = cr w u * w'.2 - cr w' u * w.2 := by unfold cr; grind
  rw [h1, h2] at e1 e2
  have c1 := Int.mul_eq_zero.mp (show cr w w' * u.1 = 0 by omega)
  have c2 := Int.mul_eq_zero.mp (show cr w w' * u.2 = 0 by omega)
  unfold pos sb at hu
  dsimp at hu
  omega

theorem corner_free {row : List P} {a s c : P} (ht : 0 < turn a s c) (h1 : ∀ x ∈ row, 0 ≤ turn a s x) (h2 : ∀ x ∈ row, 0 ≤ turn s c x) : ¬ Held row s := by
  rintro (⟨p, hp, q, hq, hz, l1, l2⟩ | ⟨p, hp, q, hq, r, hr, t1, t2, t3⟩)
  · have hu := pos_sb.mpr l1
    have hv := pos_sb.mpr l2
    have huv : cr (sb s p) (sb q s) = 0 := by have : cr (sb s p) (sb q s) = - turn p q s := by unfold cr sb turn; dsimp; grind
                                              omega
    have z1 := zero_par (w := sb s a) hu hv huv
      (by have := h1 p hp
          have e : turn a s p = - cr (sb s a) (sb s p) := by unfold cr sb turn; dsimp; grind
          omega)
      (by have := h1 q hq
          have e : turn a s q = cr (sb s a) (sb q s) := by unfold cr sb turn; dsimp; grind
          omega)
    have z2 := zero_par (w := sb c s) hu hv huv
      (by have := h2 p hp
          have e : turn s c p = - cr (sb c s) (sb s p) := by unfold cr sb turn; dsimp; grind
          omega)
      (by have := h2 q hq
          have e : turn s c q = cr (sb c s) (sb q s) := by unfold cr sb turn; dsimp
          omega)
    have := par_zero (.inl hu) z1.1 z2.1
    rw [turn_cr] at ht
    omega
  · -- weights
    have e : turn q r s * turn a s p + turn r p s * turn a s q + turn p q s * turn a s r = 0 := by unfold turn; grind
    have f1 := h1 p hp
    have f2 := h1 q hq
    have f3 := h1 r hr
    have m1 := Int.mul_nonneg (Int.le_of_lt t2) f1
    have m2 := Int.mul_nonneg (Int.le_of_lt t3) f2
    have m3 := Int.mul_nonneg (Int.le_of_lt t1) f3
    have k1 := Int.mul_eq_zero.mp (show turn q r s * turn a s p = 0 by omega)
    have k2 := Int.mul_eq_zero.mp (show turn r p s * turn a s q = 0 by omega)
    have n1 : turn a s p = 0 := by omega
    have n2 : turn a s q = 0 := by omega
    have hne : a ≠ s := by intro e; rw [e, turn_aab] at ht; omega
    have hw : pos (sb s a) ∨ pos (sb (0, 0) (sb s a)) := by
      rcases lt_tri a s with g | g | g
      · exact .inl (pos_sb.mpr g)
      · exact absurd g hne
      · right
        have : sb (0, 0) (sb s a) = sb a s := by unfold sb; simp; omega
        rw [this]; exact pos_sb.mpr g
    have := par_zero (w := sb p s) (w' := sb q s) hw
      (by have e : cr (sb p s) (sb s a) = - turn a s p := by unfold cr sb turn; dsimp; grind
          omega)
      (by have e : cr (sb q s) (sb s a) = - turn a s q := by unfold cr sb turn; dsimp; grind
          omega)
    have e : turn p q s = cr (sb p s) (sb q s) := by unfold cr sb turn; dsimp; grind
    omega

theorem tri_ne {p q s : P} (h : 0 < turn p q s) : p ≠ s ∧ q ≠ s := by
  constructor
  · intro e; subst e; rw [turn_aba] at h; omega
  · intro e; subst e; rw [turn_abb] at h; omega
theorem pos_sum {A B C : Int} {u v w : P} (hA : 0 < A) (hB : 0 < B) (hC : 0 < C) (hu : pos u) (hv : pos v) (hw : pos w)
    (e1 : A * u.1 + B * v.1 + C * w.1 = 0) (e2 : A * u.2 + B * v.2 + C * w.2 = 0) : False := by
  have m1 := Int.mul_nonneg (Int.le_of_lt hA) (pos_nn hu)
  have m2 := Int.mul_nonneg (Int.le_of_lt hB) (pos_nn hv)
  have m3 := Int.mul_nonneg (Int.le_of_lt hC) (pos_nn hw)
  have k1 := Int.mul_eq_zero.mp (show A * u.1 = 0 by omega)
  have k2 := Int.mul_eq_zero.mp (show B * v.1 = 0 by omega)
  have k3 := Int.mul_eq_zero.mp (show C * w.1 = 0 by omega)
  unfold pos at hu hv hw
  have n1 := Int.mul_pos hA (show 0 < u.2 by omega)
  have n2 := Int.mul_pos hB (show 0 < v.2 by omega)
  have n3 := Int.mul_pos hC (show 0 < w.2 by omega)
  omega
theorem least_free {row : List P} {s : P} (h : ∀ x ∈ row, x = s ∨ lt s x) : ¬ Held row s := by
  rintro (⟨p, hp, q, hq, hz, l1, l2⟩ | ⟨p, hp, q, hq, r, hr, t1, t2, t3⟩)
  · rcases h p hp with e | e
    · exact lt_ne l1 e
    · exact lt_asymm e l1
  · have hp' := (h p hp).resolve_left (tri_ne t1).1
    have hq' := (h q hq).resolve_left (tri_ne t2).1
    have hr' := (h r hr).resolve_left (tri_ne t3).1
    exact pos_sum t2 t3 t1 (pos_sb.mpr hp') (pos_sb.mpr hq') (pos_sb.mpr hr') (by unfold sb turn; dsimp; grind) (by unfold sb turn; dsimp; grind)
theorem most_free {row : List P} {s : P} (h : ∀ x ∈ row, x = s ∨ lt x s) : ¬ Held row s := by
  rintro (⟨p, hp, q, hq, hz, l1, l2⟩ | ⟨p, hp, q, hq, r, hr, t1, t2, t3⟩)
  · rcases h q hq with e | e
    · exact lt_ne l2 e.symm
    · exact lt_asymm e l2
  · have hp' := (h p hp).resolve_left (tri_ne t1).1
    have hq' := (h q hq).resolve_left (tri_ne t2).1
    have hr' := (h r hr).resolve_left (tri_ne t3).1
    exact pos_sum t2 t3 t1 (pos_sb.mpr hp') (pos_sb.mpr hq') (pos_sb.mpr hr') (by unfold sb turn; dsimp; grind) (by unfold sb turn; dsimp; grind)

theorem EdgesOk.at {pre : List P} {l l' : List P} {b a : P} (h : EdgesOk pre (l ++ b :: a :: l')) : ∀ x ∈ pre, 0 ≤ turn a b x :=
  (EdgesOk.suffix (l := l) h).1
theorem Conv.at {l l' : List P} {c b a : P} (h : Conv (l ++ c :: b :: a :: l')) : 0 < turn a b c := (Conv.suffix (l := l) h).1
theorem stack_place {s : P} : ∀ {st : List P}, s ∈ st → (∃ r, st = s :: r) ∨ (∃ l, st = l ++ [s]) ∨ ∃ l c a l', st = l ++ c :: s :: a :: l'
  | [], h => nomatch h
  | b :: r, h => by
    rcases List.mem_cons.mp h with e | e
    · subst e; exact .inl ⟨r, rfl⟩
    · rcases stack_place e with ⟨r', q⟩ | ⟨l, q⟩ | ⟨l, c, a, l', q⟩
      · subst q
        cases r' with
        | nil => exact .inr (.inl ⟨[b], rfl⟩)
        | cons a r' => exact .inr (.inr ⟨[], b, a, r', rfl⟩)
      · exact .inr (.inl ⟨b :: l, by rw [q]; rfl⟩)
      · exact .inr (.inr ⟨b :: l, c, a, l', by rw [q]; rfl⟩)
def ng (a : P) : P := (-a.1, -a.2)
theorem ng_ng (a : P) : ng (ng a) = a := by unfold ng; simp
theorem turn_ng (a b c : P) : turn (ng a) (ng b) (ng c) = turn a b c := by unfold turn ng; dsimp; grind
theorem lt_ng {a b : P} : lt (ng a) (ng b) ↔ lt b a := by unfold lt ng; dsimp; omega
theorem pops_ng (t : P) : ∀ st : List P, pops (ng t) (st.map ng) = (pops t st).map ng
  | [] => rfl
  | [b] => rfl
  | b :: a :: r => by
    show pops (ng t) (ng b :: ng a :: r.map ng) = _
    unfold pops
    rw [turn_ng]
    split
    · exact pops_ng t (a :: r)
    · rfl
theorem fold_ng : ∀ (row st : List P), (row.map ng).foldl push (st.map ng) = (row.foldl push st).map ng
  | [], _ => rfl
  | t :: row, st => by
    have e : push (st.map ng) (ng t) = (push st t).map ng := by unfold push; rw [pops_ng]; rfl
    show (row.map ng).foldl push (push (st.map ng) (ng t)) = _
    rw [e]; exact fold_ng row (push st t)
theorem chain_ng (row : List P) : chainR (row.map ng) = (chainR row).map ng := fold_ng row []

theorem edges_ng {pre : List P} : ∀ {st : List P}, EdgesOk (pre.map ng) (st.map ng) → EdgesOk pre st
  | [], _ => trivial
  | [_], _ => trivial
  | b :: a :: r, h => ⟨fun x hx => by rw [← turn_ng]; exact h.1 (ng x) (List.mem_map_of_mem hx), edges_ng (st := a :: r) h.2⟩
theorem conv_ng : ∀ {st : List P}, Conv (st.map ng) → Conv st
  | [], _ => trivial
  | [_], _ => trivial
  | [_, _], _ => trivial
  | c :: b :: a :: r, h => ⟨by rw [← turn_ng]; exact h.1, conv_ng (st := b :: a :: r) h.2⟩

structure ChU (st row : List P) : Prop where
  inc : st.Pairwise lt
  conv : Conv st
  edges : EdgesOk row st
  sub : ∀ x ∈ st, x ∈ row
  top : ∀ x ∈ row, ∀ b r, st = b :: r → x = b ∨ lt b x
  bot : ∀ x ∈ row, ∀ l a, st = l ++ [a] → x = a ∨ lt x a
  ne : row ≠ [] → st ≠ []
theorem ng_inj {a b : P} (h : ng a = ng b) : a = b := by rw [← ng_ng a, h, ng_ng]
theorem chainU_ok {row : List P} (h : row.Pairwise lt) : ChU (chainR row.reverse) row := by
  have hr : (row.reverse.map ng).Pairwise lt := by
    rw [List.pairwise_map, List.pairwise_reverse]
    exact h.imp fun g => lt_ng.mpr g
  have c := chain_ok hr
  rw [chain_ng] at c
  have hm : ∀ x, x ∈ row → ng x ∈ row.reverse.map ng := fun x hx => List.mem_map_of_mem (List.mem_reverse.mpr hx)
  refine ⟨?_, conv_ng c.conv, (edges_ng c.edges).mono fun x hx => List.mem_reverse.mpr hx, ?_, ?_, ?_, ?_⟩
  · have := c.dec
    unfold Dec at this
    rw [List.pairwise_map] at this
    exact this.imp fun g => lt_ng.mp g
  · intro x hx
    have := c.sub (ng x) (List.mem_map_of_mem hx)
    obtain ⟨y, hy, e⟩ := List.mem_map.mp this
    rw [← ng_inj e]; exact List.mem_reverse.mp hy
  · intro x hx b r e
    rcases c.top (ng x) (hm x hx) (ng b) (r.map ng) (by rw [e]; rfl) with q | q
    · exact .inl (ng_inj q)
    · exact .inr (lt_ng.mp q)
  · intro x hx l a e
    rcases c.bot (ng x) (hm x hx) (l.map ng) (ng a) (by rw [e]; simp) with q | q
    · exact .inl (ng_inj q)
    · exact .inr (lt_ng.mp q)
  · intro hne e
    have := c.ne (by simpa using hne)
    rw [e] at this; exact this rfl
end Hull
set_option linter.all false
namespace Hull
def hull (row : List P) : List P := if row.length = 1 then row else (chainR row).reverse.dropLast ++ (chainR row.reverse).reverse.dropLast

section
variable {row : List P} (hrow : row.Pairwise lt)
include hrow

theorem lo_free {s : P} (h : s ∈ chainR row) : ¬ Held row s := by
  have c := chain_ok hrow
  rcases stack_place h with ⟨r, e⟩ | ⟨l, e⟩ | ⟨l, c', a, l', e⟩
  · exact most_free fun x hx => c.top x hx s r e
  · exact least_free fun x hx => c.bot x hx l s e
  · have hc := c.conv
    have he := c.edges
    rw [e] at hc he
    have he2 : EdgesOk row ((l ++ [c']) ++ s :: a :: l') := by simpa using he
    exact corner_free (Conv.at hc) (EdgesOk.at he2) (EdgesOk.at he)
theorem up_free {s : P} (h : s ∈ chainR row.reverse) : ¬ Held row s := by
  have c := chainU_ok hrow
  rcases stack_place h with ⟨r, e⟩ | ⟨l, e⟩ | ⟨l, c', a, l', e⟩
  · exact least_free fun x hx => c.top x hx s r e
  · exact most_free fun x hx => c.bot x hx l s e
  · have hc := c.conv
    have he := c.edges
    rw [e] at hc he
    have he2 : EdgesOk row ((l ++ [c']) ++ s :: a :: l') := by simpa using he
    exact corner_free (Conv.at hc) (EdgesOk.at he2) (EdgesOk.at he)

theorem not_both {s : P} {l l' m m' : List P} {c a u v : P} (e : chainR row = l ++ c :: s :: a :: l') (f : chainR row.reverse = m ++ v :: s :: u :: m') : False := by
  have h := chain_ok hrow
  have d := chainU_ok hrow
  have hc := h.conv; have he := h.edges; have hdec := h.dec; have hsub := h.sub
  have dc := d.conv; have de := d.edges; have dinc := d.inc; have dsub := d.sub
  rw [e] at hc he hdec hsub
  rw [f] at dc de dinc dsub
  have he2 : EdgesOk row ((l ++ [c]) ++ s :: a :: l') := by simpa using he
  have de2 : EdgesOk row ((m ++ [v]) ++ s :: u :: m') := by simpa using de
  have mc : c ∈ row := hsub c (by simp)
  have ma : a ∈ row := hsub a (by simp)
  have mu : u ∈ row := dsub u (by simp)
  have mv : v ∈ row := dsub v (by simp)
  have las : lt a s := (List.pairwise_cons.mp (List.pairwise_cons.mp (Dec.suffix (l := l) hdec)).2).1 a (by simp)
  have lsc : lt s c := (List.pairwise_cons.mp (Dec.suffix (l := l) hdec)).1 s (by simp)
  have dinc' := (List.pairwise_append.mp dinc).2.1
  have lvs : lt v s := (List.pairwise_cons.mp dinc').1 s (by simp)
  have lsu : lt s u := (List.pairwise_cons.mp (List.pairwise_cons.mp dinc').2).1 u (by simp)
  have t0 : 0 < turn a s c := Conv.at hc
  -- the edges: a to s, s to c; u to s, s to v
  have f1 := EdgesOk.at he2 u mu
  have f2 := EdgesOk.at de2 a ma
  have f3 := EdgesOk.at he v mv
  have f4 := EdgesOk.at de c mc
  have f5 := EdgesOk.at he2 v mv
  have e1 : turn u s a = - turn a s u := by unfold turn; grind
  have e2 : turn s v c = - turn s c v := by unfold turn; grind
  have z2 : turn s c v = 0 := by omega
  -- v - s lies against c - s
  have hu := pos_sb.mpr lvs
  have hv := pos_sb.mpr lsc
  have huv : cr (sb s v) (sb c s) = 0 := by have : cr (sb s v) (sb c s) = turn s c v := by unfold cr sb turn; dsimp; grind
                                            omega
  have z := zero_par (w := sb s a) hu hv huv
    (by have e : turn a s v = - cr (sb s a) (sb s v) := by unfold cr sb turn; dsimp; grind
        omega)
    (by have e : turn a s c = cr (sb s a) (sb c s) := by unfold cr sb turn; dsimp; grind
        omega)
  have e3 : turn a s c = cr (sb s a) (sb c s) := by unfold cr sb turn; dsimp; grind
  omega
end
end Hull
set_option linter.all false
namespace Hull
section
variable {row : List P} (hrow : row.Pairwise lt)
include hrow

theorem lo_nodup : (chainR row).Nodup := (chain_ok hrow).dec.imp fun h => (lt_ne h).symm
theorem up_nodup : (chainR row.reverse).Nodup := (chainU_ok hrow).inc.imp fun h => lt_ne h

theorem revDrop (st : List P) : st.reverse.dropLast = st.tail.reverse := by
  cases st with
  | nil => rfl
  | cons a r => simp

theorem tops (h2 : 2 ≤ row.length) : ∃ z y lt' ut', chainR row = z :: lt' ∧ chainR row.reverse = y :: ut' ∧ lt' ≠ [] ∧ ut' ≠ [] ∧ (∃ l, lt' = l ++ [y]) ∧ (∃ m, ut' = m ++ [z]) ∧
    (∀ x ∈ row, x = z ∨ lt x z) ∧ (∀ x ∈ row, x = y ∨ lt y x) ∧ z ∈ row ∧ y ∈ row ∧ y ≠ z := by
  have c := chain_ok hrow
  have d := chainU_ok hrow
  have hne : row ≠ [] := by intro e; rw [e] at h2; simp at h2
  cases e : chainR row with
  | nil => exact absurd e (c.ne hne)
  | cons z lt' =>
    cases f : chainR row.reverse with
    | nil => exact absurd f (d.ne hne)
    | cons y ut' =>
      have hz : ∀ x ∈ row, x = z ∨ lt x z := fun x hx => c.top x hx z lt' e
      have hy : ∀ x ∈ row, x = y ∨ lt y x := fun x hx => d.top x hx y ut' f
      have mz : z ∈ row := c.sub z (by rw [e]; simp)
      have my : y ∈ row := d.sub y (by rw [f]; simp)
      have hyz : y ≠ z := by
        intro q
        -- all are one
        have all1 : ∀ x ∈ row, x = z := fun x hx => by
          rcases hz x hx with h | h
          · exact h
          · rcases hy x hx with g | g
            · rw [g, q]
            · exact absurd h (lt_asymm (q ▸ g))
        match row, hrow, h2, all1 with
        | a :: b :: r, hrow, _, all1 =>
          have := (List.pairwise_cons.mp hrow).1 b (by simp)
          rw [all1 a (by simp), all1 b (by simp)] at this
          exact lt_irrefl this
      -- the end of the lower one
      have le : ∃ l, z :: lt' = l ++ [y] := by
        have hn : z :: lt' ≠ [] := by simp
        have e1 := List.dropLast_concat_getLast hn
        have b := c.bot y my _ _ (by rw [e]; exact e1.symm)
        have hm : (z :: lt').getLast hn ∈ row := c.sub _ (by rw [e]; exact List.getLast_mem hn)
        rcases b with b | b
        · exact ⟨_, by rw [b]; exact e1.symm⟩
        · rcases hy _ hm with g | g
          · exact absurd (g ▸ b) lt_irrefl
          · exact absurd b (lt_asymm g)
      have ue : ∃ l, y :: ut' = l ++ [z] := by
        have hn : y :: ut' ≠ [] := by simp
        have e1 := List.dropLast_concat_getLast hn
        have b := d.bot z mz _ _ (by rw [f]; exact e1.symm)
        have hm : (y :: ut').getLast hn ∈ row := d.sub _ (by rw [f]; exact List.getLast_mem hn)
        rcases b with b | b
        · exact ⟨_, by rw [b]; exact e1.symm⟩
        · rcases hz _ hm with g | g
          · exact absurd (g ▸ b) lt_irrefl
          · exact absurd b (lt_asymm g)
      obtain ⟨l, le⟩ := le
      obtain ⟨m, ue⟩ := ue
      have l1 : ∃ l', lt' = l' ++ [y] := by
        cases l with
        | nil => simp at le; exact absurd le.1.symm hyz
        | cons b l => injection le with _ q; exact ⟨l, q⟩
      have u1 : ∃ m', ut' = m' ++ [z] := by
        cases m with
        | nil => simp at ue; exact absurd ue.1 hyz
        | cons b m => injection ue with _ q; exact ⟨m, q⟩
      refine ⟨z, y, lt', ut', rfl, rfl, ?_, ?_, l1, u1, hz, hy, mz, my, hyz⟩
      · obtain ⟨l', q⟩ := l1; rw [q]; simp
      · obtain ⟨l', q⟩ := u1; rw [q]; simp

theorem hull_eq (h2 : 2 ≤ row.length) : hull row = (chainR row).tail.reverse ++ (chainR row.reverse).tail.reverse := by
  unfold hull
  rw [if_neg (by omega), revDrop hrow, revDrop hrow]

theorem hull_mem (h2 : 2 ≤ row.length) {s : P} : s ∈ hull row ↔ s ∈ chainR row ∨ s ∈ chainR row.reverse := by
  obtain ⟨z, y, l, u, e, f, _, _, ⟨l', el⟩, ⟨u', eu⟩, _⟩ := tops hrow h2
  rw [hull_eq hrow h2, e, f]
  simp only [List.tail_cons, List.mem_append, List.mem_reverse, List.mem_cons]
  constructor
  · rintro (h | h)
    · exact .inl (.inr h)
    · exact .inr (.inr h)
  · rintro ((h | h) | (h | h))
    · exact .inr (by rw [h, eu]; simp)
    · exact .inl h
    · exact .inl (by rw [h, el]; simp)
    · exact .inr h

theorem hull_held {s : P} (h : s ∈ hull row) : s ∈ row ∧ ¬ Held row s := by
  by_cases h2 : 2 ≤ row.length
  · rcases (hull_mem hrow h2).mp h with g | g
    · exact ⟨(chain_ok hrow).sub s g, lo_free hrow g⟩
    · exact ⟨(chainU_ok hrow).sub s g, up_free hrow g⟩
  · match row, h2, h with
    | [], _, h => exact nomatch h
    | [a], _, h =>
      have : s = a := by simpa [hull] using h
      subst this
      refine ⟨by simp, least_free fun x hx => .inl (List.mem_singleton.mp hx)⟩
    | _ :: _ :: _, h2, _ => exact absurd (by simp) h2
theorem hull_nodup : (hull row).Nodup := by
  by_cases h2 : 2 ≤ row.length
  · obtain ⟨z, y, l, u, e, f, _, _, ⟨l', el⟩, ⟨u', eu⟩, hz, hy, mz, my, hyz⟩ := tops hrow h2
    rw [hull_eq hrow h2]
    have n1 := lo_nodup hrow
    have n2 := up_nodup hrow
    rw [e] at n1 ⊢
    rw [f] at n2 ⊢
    simp only [List.tail_cons]
    have n1' := List.nodup_cons.mp n1
    have n2' := List.nodup_cons.mp n2
    refine List.nodup_append.mpr ⟨List.pairwise_reverse.mpr (n1'.2.imp Ne.symm), List.pairwise_reverse.mpr (n2'.2.imp Ne.symm), fun s hs s' hs' q => ?_⟩
    subst q
    have hs := List.mem_reverse.mp hs
    have hs' := List.mem_reverse.mp hs'
    have sz : s ≠ z := fun q => n1'.1 (q ▸ hs)
    have sy : s ≠ y := fun q => n2'.1 (q ▸ hs')
    rcases stack_place (st := chainR row) (s := s) (by rw [e]; exact List.mem_cons_of_mem _ hs) with ⟨r, q⟩ | ⟨r, q⟩ | ⟨r, c, a, r', q⟩
    · rw [e] at q; injection q with q _; exact sz q.symm
    · rw [e, el] at q
      have : y = s := by
        have := congrArg List.getLast? q
        rw [← List.cons_append, List.getLast?_concat, List.getLast?_concat] at this
        exact Option.some.inj this
      exact sy this.symm
    · rcases stack_place (st := chainR row.reverse) (s := s) (by rw [f]; exact List.mem_cons_of_mem _ hs') with ⟨r2, q2⟩ | ⟨r2, q2⟩ | ⟨r2, c2, a2, r2', q2⟩
      · rw [f] at q2; injection q2 with q2 _; exact sy q2.symm
      · rw [f, eu] at q2
        have : z = s := by
          have := congrArg List.getLast? q2
          rw [← List.cons_append, List.getLast?_concat, List.getLast?_concat] at this
          exact Option.some.inj this
        exact sz this.symm
      · exact not_both hrow q q2
  · match row, hrow, h2 with
    | [], _, _ => simp [hull, chainR]
    | [a], _, _ => simp [hull]
    | _ :: _ :: _, _, h2 => exact absurd (by simp) h2

def Edge (row : List P) (p q : P) : Prop := ∀ x ∈ row, 0 ≤ turn p q x

theorem hull_next (h2 : 2 ≤ row.length) (i : Nat) (p q : P) (hp : (hull row ++ (hull row).take 1)[i]? = some p) (hq : (hull row ++ (hull row).take 1)[i + 1]? = some q) : Edge row p q := by
  obtain ⟨z, y, l, u, e, f, ln, un, ⟨l', el⟩, ⟨u', eu⟩, hz, hy, mz, my, hyz⟩ := tops hrow h2
  have c := (chain_ok hrow).edges
  have d := (chainU_ok hrow).edges
  have hh := hull_eq hrow h2
  rw [e, f] at hh
  simp only [List.tail_cons] at hh
  have t1 : (hull row).take 1 = [y] := by rw [hh, el]; simp
  rw [t1, hh] at hp hq
  -- from neighbours in a chain
  have adj : ∀ {st : List P}, EdgesOk row st → ∀ k, st.reverse[k]? = some p → st.reverse[k + 1]? = some q → Edge row p q := by
    intro st he k h1 h2
    have hk : k + 1 < st.reverse.length := by
      rcases Nat.lt_or_ge (k + 1) st.reverse.length with h | h
      · exact h
      · rw [List.getElem?_eq_none h] at h2; cases h2
    have e1 : st.reverse = st.reverse.take k ++ p :: q :: st.reverse.drop (k + 2) := by
      have a1 := List.getElem?_eq_some_iff.mp h1
      have a2 := List.getElem?_eq_some_iff.mp h2
      obtain ⟨b1, c1⟩ := a1
      obtain ⟨b2, c2⟩ := a2
      rw [← c1, ← c2]
      rw [← List.drop_eq_getElem_cons, ← List.drop_eq_getElem_cons, List.take_append_drop]
    have e2 : st = (st.reverse.drop (k + 2)).reverse ++ q :: p :: (st.reverse.take k).reverse := by
      have := congrArg List.reverse e1
      simpa using this
    rw [e2] at he
    exact EdgesOk.at he
  have r1 : l.reverse ++ u.reverse ++ [y] = l.reverse ++ ((chainR row.reverse).reverse) := by rw [f]; simp
  have r2 : (chainR row).reverse = l.reverse ++ [z] := by rw [e]; simp
  have r3 : u.reverse = z :: u'.reverse := by rw [eu]; simp
  by_cases hi : i + 1 ≤ l.length
  · refine adj c i ?_ ?_
    · rw [r2, List.getElem?_append_left (by simp; omega)]
      rw [List.append_assoc, List.getElem?_append_left (by simp; omega)] at hp
      exact hp
    · rw [r2]
      rw [List.append_assoc] at hq
      by_cases hj : i + 1 < l.length
      · rw [List.getElem?_append_left (by simp; omega)]
        rw [List.getElem?_append_left (by simp; omega)] at hq
        exact hq
      · rw [List.getElem?_append_right (by simp; omega)]
        rw [List.getElem?_append_right (by simp; omega), r3] at hq
        have : i + 1 - l.reverse.length = 0 := by simp; omega
        rw [this] at hq ⊢
        simpa using hq
  · rw [r1, List.getElem?_append_right (by simp; omega)] at hp hq
    refine adj d (i - l.reverse.length) hp ?_
    have : i + 1 - l.reverse.length = i - l.reverse.length + 1 := by simp; omega
    rw [this] at hq
    exact hq

theorem hull_head : (hull row).head? = row.head? := by
  by_cases h2 : 2 ≤ row.length
  · obtain ⟨z, y, l, u, e, f, ln, un, ⟨l', el⟩, ⟨u', eu⟩, hz, hy, mz, my, hyz⟩ := tops hrow h2
    rw [hull_eq hrow h2, e, el]
    match row, hrow, hy, my with
    | a :: r, hrow, hy, my =>
      have : a = y := by
        rcases List.mem_cons.mp my with g | g
        · exact g.symm
        · have h1 := (List.pairwise_cons.mp hrow).1 y g
          rcases hy a (by simp) with k | k
          · exact k
          · exact absurd k (lt_asymm h1)
      simp [this]
  · match row, h2 with
    | [], _ => simp [hull, chainR]
    | [a], _ => simp [hull]
    | _ :: _ :: _, h2 => exact absurd (by simp) h2
end
theorem sorted_eq : ∀ {xs ys : List P}, xs.Pairwise lt → ys.Pairwise lt → (∀ a, a ∈ xs ↔ a ∈ ys) → xs = ys
  | [], [], _, _, _ => rfl
  | [], y :: ys, _, _, h => absurd ((h y).mpr (by simp)) (by simp)
  | x :: xs, [], _, _, h => absurd ((h x).mp (by simp)) (by simp)
  | x :: xs, y :: ys, hx, hy, h => by
    have hx' := List.pairwise_cons.mp hx
    have hy' := List.pairwise_cons.mp hy
    have e : x = y := by
      rcases List.mem_cons.mp ((h x).mp (by simp)) with g | g
      · exact g
      · rcases List.mem_cons.mp ((h y).mpr (by simp)) with k | k
        · exact k.symm
        · exact absurd (hx'.1 y k) (lt_asymm (hy'.1 x g))
    subst e
    have : xs = ys := sorted_eq hx'.2 hy'.2 fun a => by
      constructor
      · intro ha
        rcases List.mem_cons.mp ((h a).mp (List.mem_cons_of_mem _ ha)) with g | g
        · exact absurd (g ▸ hx'.1 a ha) lt_irrefl
        · exact g
      · intro ha
        rcases List.mem_cons.mp ((h a).mpr (List.mem_cons_of_mem _ ha)) with g | g
        · exact absurd (g ▸ hy'.1 a ha) lt_irrefl
        · exact g
    rw [this]
end Hull
set_option linter.all false
namespace Hull
def mn (a b : P) : P := if lt b a then b else a
def mx (a b : P) : P := if lt a b then b else a
def le (a b : P) : Prop := ¬ lt b a
def On (a b s : P) : Prop := turn a b s = 0 ∧ le (mn a b) s ∧ le s (mx a b)
def Tri (a b c s : P) : Prop := (0 < turn a b s ∧ 0 < turn b c s ∧ 0 < turn c a s) ∨ (turn a b s < 0 ∧ turn b c s < 0 ∧ turn c a s < 0)
def HeldIx (others : List P) (s : P) : Prop :=
  ∃ (k n : Nat) (a b : P), k < n ∧ others[k]? = some a ∧ others[n]? = some b ∧ (On a b s ∨ ∃ (m : Nat) (c : P), n < m ∧ others[m]? = some c ∧ Tri a b c s)
theorem on_lt {a b s : P} (h : On a b s) (ha : a ≠ s) (hb : b ≠ s) : turn a b s = 0 ∧ ((lt a s ∧ lt s b) ∨ (lt b s ∧ lt s a)) := by
  obtain ⟨h1, h2, h3⟩ := h
  refine ⟨h1, ?_⟩
  unfold le mn at h2
  unfold le mx at h3
  rcases lt_tri a b with g | g | g
  · rw [if_neg (lt_asymm g)] at h2
    rw [if_pos g] at h3
    left
    constructor
    · rcases lt_tri a s with k | k | k
      · exact k
      · exact absurd k ha
      · exact absurd k h2
    · rcases lt_tri s b with k | k | k
      · exact k
      · exact absurd k.symm hb
      · exact absurd k h3
  · subst g
    rw [if_neg lt_irrefl] at h2 h3
    rcases lt_tri a s with k | k | k
    · exact absurd k h3
    · exact absurd k ha
    · exact absurd k h2
  · rw [if_pos g] at h2
    rw [if_neg (lt_asymm g)] at h3
    right
    constructor
    · rcases lt_tri b s with k | k | k
      · exact k
      · exact absurd k hb
      · exact absurd k h2
    · rcases lt_tri s a with k | k | k
      · exact k
      · exact absurd k.symm ha
      · exact absurd k h3
def others (row : List P) (s : P) : List P := row.filter fun x => decide (x ≠ s)
section
open Classical
noncomputable def due (row : List P) : List P := row.filter fun s => decide (¬ HeldIx (others row s) s)
end
end Hull
set_option linter.all false
set_option maxRecDepth 100000
namespace SetM
open PySem PySem.SetTable

theorem below_go (xs : Array Nat) (j : Nat) (hs : xs.toList.Pairwise (· < ·)) : ∀ (fuel lo hi : Nat), lo ≤ hi → hi ≤ xs.size → hi - lo ≤ fuel →
    (∀ (i x : Nat), i < lo → xs[i]? = some x → x < j) → (∀ (i x : Nat), hi ≤ i → xs[i]? = some x → j ≤ x) →
    (∀ (i x : Nat), i < below.go xs j fuel lo hi → xs[i]? = some x → x < j) ∧ (∀ (i x : Nat), below.go xs j fuel lo hi ≤ i → xs[i]? = some x → j ≤ x) ∧ below.go xs j fuel lo hi ≤ xs.size
  | 0, lo, hi, h1, h2, h3, a, b => by
    have e : lo = hi := by omega
    subst e
    exact ⟨a, b, h2⟩
  | fuel + 1, lo, hi, h1, h2, h3, a, b => by
    unfold below.go
    by_cases hlt : lo < hi
    · rw [if_pos hlt]
      have hm : (lo + hi) / 2 < xs.size := by omega
      have hv : xs.getD ((lo + hi) / 2) j = xs[(lo + hi) / 2] := by simp [Array.getD, hm]
      have mono : ∀ (i k x y : Nat), i < k → xs[i]? = some x → xs[k]? = some y → x < y := by
        intro i k x y hik hx hy
        have hx' : xs.toList[i]? = some x := by simpa using hx
        have hy' : xs.toList[k]? = some y := by simpa using hy
        obtain ⟨p1, q1⟩ := List.getElem?_eq_some_iff.mp hx'
        obtain ⟨p2, q2⟩ := List.getElem?_eq_some_iff.mp hy'
        have := List.pairwise_iff_getElem.mp hs i k p1 p2 hik
        rw [q1, q2] at this; exact this
      have hme : xs[(lo + hi) / 2]? = some xs[(lo + hi) / 2] := by simp [hm]
      dsimp only
      rw [hv]
      by_cases hc : xs[(lo + hi) / 2] < j
      · rw [if_pos hc]
        refine below_go xs j hs fuel _ hi (by omega) h2 (by omega) (fun i x hi' hx => ?_) b
        rcases Nat.lt_or_ge i ((lo + hi) / 2) with h | h
        · have := mono i _ x _ h hx hme; omega
        · have : i = (lo + hi) / 2 := by omega
          subst this; rw [hme] at hx; cases hx; exact hc
      · rw [if_neg hc]
        refine below_go xs j hs fuel lo _ (by omega) (by omega) (by omega) a (fun i x hi' hx => ?_)
        rcases Nat.lt_or_ge ((lo + hi) / 2) i with h | h
        · have := mono _ i _ x h hme hx; omega
        · have : i = (lo + hi) / 2 := by omega
          subst this; rw [hme] at hx; cases hx; omega
    · rw [if_neg hlt]
      have e : lo = hi := by omega
      subst e
      exact ⟨a, b, h2⟩
theorem below_spec {xs : Array Nat} (j : Nat) (hs : xs.toList.Pairwise (· < ·)) :
    (∀ (i x : Nat), i < below xs j → xs[i]? = some x → x < j) ∧ (∀ (i x : Nat), below xs j ≤ i → xs[i]? = some x → j ≤ x) ∧ below xs j ≤ xs.size := by
  unfold below
  refine below_go xs j hs xs.size 0 xs.size (Nat.zero_le _) (Nat.le_refl _) (by omega) (fun i x h => absurd h (Nat.not_lt_zero _)) (fun i x h hx => ?_)
  rw [Array.getElem?_eq_none h] at hx; cases hx
theorem below_at {xs : Array Nat} {j i : Nat} (hs : xs.toList.Pairwise (· < ·)) (h : xs[i]? = some j) : below xs j = i := by
  obtain ⟨a, b, _⟩ := below_spec j hs
  rcases Nat.lt_trichotomy (below xs j) i with g | g | g
  · have hlt : below xs j < xs.size := by
      have : i < xs.size := by
        rcases Nat.lt_or_ge i xs.size with k | k
        · exact k
        · rw [Array.getElem?_eq_none k] at h; cases h
      omega
    have e : xs[below xs j]? = some xs[below xs j] := by simp [hlt]
    have h1 := b (below xs j) _ (Nat.le_refl _) e
    have hx' : xs.toList[below xs j]? = some xs[below xs j] := by simpa using e
    have hy' : xs.toList[i]? = some j := by simpa using h
    obtain ⟨p1, q1⟩ := List.getElem?_eq_some_iff.mp hx'
    obtain ⟨p2, q2⟩ := List.getElem?_eq_some_iff.mp hy'
    have := List.pairwise_iff_getElem.mp hs _ _ p1 p2 g
    rw [q1, q2] at this
    omega
  · exact g
  · have := a i j g h; omega

def Occ (t : SetTable) (j : Nat) : Prop := j ∈ t.place.toList
theorem slot_live {t : SetTable} {i j : Nat} (hs : t.place.toList.Pairwise (· < ·)) (h : t.place[i]? = some j) : t.slot j = .live i := by
  unfold slot
  dsimp only
  rw [below_at hs h, h]
  simp
theorem slot_empty {t : SetTable} {j : Nat} (hd : t.dummies = #[]) (h : ¬ Occ t j) : t.slot j = .empty := by
  unfold slot
  have h1 : (t.place[below t.place j]? == some j) = false := by
    apply Bool.eq_false_iff.mpr
    intro e
    have e' : t.place[below t.place j]? = some j := by simpa using e
    have e'' : t.place.toList[below t.place j]? = some j := by simpa using e'
    exact h (List.mem_of_getElem? e'')
  have h2 : has t.dummies j = false := by rw [hd]; simp [has]
  simp only [h1, h2]; rfl
def adv (mask : Nat) (p : Probe) : Probe :=
  if p.more > 0 then { p with j := p.j + 1, more := p.more - 1 } else
  let (i, perturb) := leap mask p.i p.perturb
  { p with j := i, more := runEnd mask i - i, i, perturb }
def at0 (mask i q : Nat) : Probe := { j := i, more := runEnd mask i - i, i, perturb := q, dummy := none }
def path (mask : Nat) (h : Int) : Nat → Probe
  | 0 => at0 mask (bits h % (mask + 1)) (bits h)
  | k + 1 => adv mask (path mask h k)
def iter (mask : Nat) (p : Probe) : Nat → Probe
  | 0 => p
  | k + 1 => adv mask (iter mask p k)
theorem iter_add (mask : Nat) (p : Probe) (a : Nat) : ∀ b, iter mask p (a + b) = iter mask (iter mask p a) b
  | 0 => rfl
  | b + 1 => by show adv mask (iter mask p (a + b)) = adv mask (iter mask (iter mask p a) b); rw [iter_add mask p a b]
theorem path_iter (mask : Nat) (h : Int) : ∀ k, path mask h k = iter mask (path mask h 0) k
  | 0 => rfl
  | k + 1 => by show adv mask _ = adv mask _; rw [path_iter mask h k]
theorem iter_run (mask i q : Nat) : ∀ k, k ≤ runEnd mask i - i → iter mask (at0 mask i q) k = { j := i + k, more := runEnd mask i - i - k, i := i, perturb := q, dummy := none }
  | 0, _ => rfl
  | k + 1, h => by
    show adv mask (iter mask (at0 mask i q) k) = _
    rw [iter_run mask i q k (by omega)]
    unfold adv
    rw [if_pos (show runEnd mask i - i - k > 0 by omega)]
    simp only [Probe.mk.injEq, and_true, true_and]
    omega
theorem iter_leap (mask i q : Nat) : iter mask (at0 mask i q) (runEnd mask i - i + 1) = at0 mask (leap mask i q).1 (leap mask i q).2 := by
  show adv mask (iter mask (at0 mask i q) (runEnd mask i - i)) = _
  rw [iter_run mask i q _ (Nat.le_refl _)]
  unfold adv
  rw [if_neg (by simp)]
  rfl
def leaps (mask i q : Nat) : Nat → Nat × Nat
  | 0 => (i, q)
  | n + 1 => leap mask (leaps mask i q n).1 (leaps mask i q n).2
theorem runEnd_le (mask i : Nat) : runEnd mask i - i ≤ 9 := by unfold runEnd; split <;> omega
theorem iter_leaps (mask i q : Nat) : ∀ n, ∃ k, k ≤ 10 * n ∧ n ≤ k ∧ iter mask (at0 mask i q) k = at0 mask (leaps mask i q n).1 (leaps mask i q n).2
  | 0 => ⟨0, by omega, by omega, rfl⟩
  | n + 1 => by
    obtain ⟨k, h1, h3, h2⟩ := iter_leaps mask i q n
    have := runEnd_le mask (leaps mask i q n).1
    refine ⟨k + (runEnd mask (leaps mask i q n).1 - (leaps mask i q n).1 + 1), by omega, by omega, ?_⟩
    rw [iter_add, h2, iter_leap]; rfl
theorem leaps_q (mask i q : Nat) : ∀ n, (leaps mask i q n).2 = q / 32 ^ n
  | 0 => by simp [leaps]
  | n + 1 => by
    show (leaps mask i q n).2 / 32 = _
    rw [leaps_q mask i q n, Nat.div_div_eq_div_mul, Nat.pow_succ]
theorem leaps_add (mask i q : Nat) (a : Nat) : ∀ b, leaps mask i q (a + b) = leaps mask (leaps mask i q a).1 (leaps mask i q a).2 b
  | 0 => rfl
  | b + 1 => by
    show leap mask (leaps mask i q (a + b)).1 (leaps mask i q (a + b)).2 = leap mask _ _
    rw [leaps_add mask i q a b]
theorem leaps_lt (mask i q : Nat) (h : i ≤ mask) : ∀ n, (leaps mask i q n).1 ≤ mask
  | 0 => h
  | n + 1 => by
    show ((leaps mask i q n).1 * 5 + 1 + (leaps mask i q n).2 / 32) % (mask + 1) ≤ mask
    have := Nat.mod_lt ((leaps mask i q n).1 * 5 + 1 + (leaps mask i q n).2 / 32) (show 0 < mask + 1 by omega)
    omega
theorem bits_lt (h : Int) : bits h < 2 ^ 64 := by
  unfold bits
  have h1 := Int.emod_nonneg h (show (2 ^ 64 : Int) ≠ 0 by decide)
  have h2 := Int.emod_lt_of_pos h (show (0 : Int) < 2 ^ 64 by decide)
  have e : ((2 : Int) ^ 64) = ((2 ^ 64 : Nat) : Int) := by norm_cast
  rw [e] at h2
  omega
def Full (mask : Nat) : Prop := ∀ i j, i ≤ mask → j ≤ mask → ∃ m, m ≤ mask ∧ (leaps mask i 0 m).1 = j
def reachB (mask i : Nat) (j : Nat) : Bool := (List.range (mask + 1)).any fun m => (leaps mask i 0 m).1 == j
theorem full_of {mask : Nat} (h : ((List.range (mask + 1)).all fun i => (List.range (mask + 1)).all fun j => reachB mask i j) = true) : Full mask := by
  intro i j hi hj
  have h1 := List.all_eq_true.mp h i (List.mem_range.mpr (by omega))
  have h2 := List.all_eq_true.mp h1 j (List.mem_range.mpr (by omega))
  obtain ⟨m, h3, h4⟩ := List.any_eq_true.mp h2
  exact ⟨m, by have := List.mem_range.mp h3; omega, by simpa using h4⟩
theorem full7 : Full 7 := full_of (by decide +kernel)
theorem full31 : Full 31 := full_of (by decide +kernel)
theorem cover_leaps {mask : Nat} (hf : Full mask) (i q j : Nat) (hi : i ≤ mask) (hq : q < 2 ^ 64) (hj : j ≤ mask) : ∃ n, n ≤ mask + 13 ∧ (leaps mask i q n).1 = j := by
  have h13 : (leaps mask i q 13).2 = 0 := by
    rw [leaps_q]
    apply Nat.div_eq_of_lt
    have : (32 : Nat) ^ 13 = 2 ^ 65 := by decide +kernel
    rw [this]
    have : (2 : Nat) ^ 65 = 2 * 2 ^ 64 := by decide +kernel
    omega
  obtain ⟨m, h1, h2⟩ := hf (leaps mask i q 13).1 j (leaps_lt mask i q hi 13) hj
  refine ⟨13 + m, by omega, ?_⟩
  rw [leaps_add, h13]; exact h2
theorem cover {mask : Nat} (hf : Full mask) (h : Int) (j : Nat) (hj : j ≤ mask) : ∃ k, k < 10 * turns mask ∧ (path mask h k).j = j := by
  have hi : bits h % (mask + 1) ≤ mask := by have := Nat.mod_lt (bits h) (show 0 < mask + 1 by omega); omega
  obtain ⟨n, h1, h2⟩ := cover_leaps hf (bits h % (mask + 1)) (bits h) j hi (bits_lt h) hj
  obtain ⟨k, h3, _, h4⟩ := iter_leaps mask (bits h % (mask + 1)) (bits h) n
  refine ⟨k, by unfold turns; omega, ?_⟩
  rw [path_iter]
  show (iter mask (at0 mask (bits h % (mask + 1)) (bits h)) k).j = j
  rw [h4, h2]; rfl
theorem adv_dummy (mask : Nat) (p : Probe) : (adv mask p).dummy = p.dummy := by
  unfold adv; split <;> rfl
theorem path_dummy (mask : Nat) (h : Int) : ∀ k, (path mask h k).dummy = none
  | 0 => rfl
  | k + 1 => by show (adv mask (path mask h k)).dummy = none; rw [adv_dummy, path_dummy mask h k]
theorem path_in (mask : Nat) (h : Int) : ∀ k, (path mask h k).j + (path mask h k).more ≤ mask ∧ (path mask h k).i ≤ mask
  | 0 => by
    have hi : bits h % (mask + 1) ≤ mask := by have := Nat.mod_lt (bits h) (show 0 < mask + 1 by omega); omega
    refine ⟨?_, hi⟩
    show bits h % (mask + 1) + (runEnd mask (bits h % (mask + 1)) - bits h % (mask + 1)) ≤ mask
    unfold runEnd; split <;> omega
  | k + 1 => by
    obtain ⟨h1, h2⟩ := path_in mask h k
    show (adv mask (path mask h k)).j + (adv mask (path mask h k)).more ≤ mask ∧ (adv mask (path mask h k)).i ≤ mask
    unfold adv
    by_cases hc : (path mask h k).more > 0
    · rw [if_pos hc]; dsimp only; omega
    · rw [if_neg hc]
      have hi : ((path mask h k).i * 5 + 1 + (path mask h k).perturb / 32) % (mask + 1) ≤ mask := by have := Nat.mod_lt ((path mask h k).i * 5 + 1 + (path mask h k).perturb / 32) (show 0 < mask + 1 by omega); omega
      refine ⟨?_, hi⟩
      show ((path mask h k).i * 5 + 1 + (path mask h k).perturb / 32) % (mask + 1) + (runEnd mask (((path mask h k).i * 5 + 1 + (path mask h k).perturb / 32) % (mask + 1)) - ((path mask h k).i * 5 + 1 + (path mask h k).perturb / 32) % (mask + 1)) ≤ mask
      generalize ((path mask h k).i * 5 + 1 + (path mask h k).perturb / 32) % (mask + 1) = x at hi
      unfold runEnd; split <;> omega
end SetM
set_option linter.all false
set_option maxRecDepth 100000
namespace SetM
open PySem PySem.SetTable
theorem hole : ∀ (n : Nat) (l : List Nat), l.length < n → ∃ j, j < n ∧ j ∉ l
  | 0, _, h => absurd h (Nat.not_lt_zero _)
  | n + 1, l, h => by
    by_cases hm : n ∈ l
    · have hl : (l.erase n).length = l.length - 1 := List.length_erase_of_mem hm
      have hp : 0 < l.length := List.length_pos_of_mem hm
      obtain ⟨j, h1, h2⟩ := hole n (l.erase n) (by omega)
      refine ⟨j, by omega, fun h3 => h2 ((List.mem_erase_of_ne (by omega)).mpr h3)⟩
    · exact ⟨n, by omega, hm⟩
theorem least {p : Nat → Prop} : ∀ (K : Nat), (∃ k, k < K ∧ p k) → ∃ k, k < K ∧ p k ∧ ∀ k', k' < k → ¬ p k'
  | 0, ⟨k, h, _⟩ => absurd h (Nat.not_lt_zero _)
  | K + 1, ⟨k, h, hp⟩ => by
    by_cases hq : ∃ k, k < K ∧ p k
    · obtain ⟨k, h1, h2, h3⟩ := least K hq
      exact ⟨k, by omega, h2, h3⟩
    · refine ⟨k, h, hp, fun k' hk' hp' => hq ⟨k', by omega, hp'⟩⟩

def Reach (mask : Nat) (occ : Nat → Prop) (h : Int) (j : Nat) : Prop := ∃ k, k < 10 * turns mask ∧ (path mask h k).j = j ∧ ∀ k', k' < k → occ (path mask h k').j
theorem Reach.mono {mask : Nat} {occ occ' : Nat → Prop} {h : Int} {j : Nat} (r : Reach mask occ h j) (m : ∀ j, occ j → occ' j) : Reach mask occ' h j := by
  obtain ⟨k, h1, h2, h3⟩ := r
  exact ⟨k, h1, h2, fun k' hk' => m _ (h3 k' hk')⟩
structure TOk {α : Type} (t : SetTable) (es : List (Int × α)) (Z : List (Nat × (Int × α))) : Prop where
  hm : t.mask = 7 ∨ t.mask = 31
  dum : t.dummies = #[]
  pl : t.place.toList = Z.map (·.1)
  el : es = Z.map (·.2)
  rise : (Z.map (·.1)).Pairwise (· < ·)
  bound : ∀ z ∈ Z, z.1 ≤ t.mask
  room : Z.length ≤ t.mask
  reach : ∀ z ∈ Z, Reach t.mask (Occ t) z.2.1 z.1
section
variable {α : Type} {t : SetTable} {es : List (Int × α)} {Z : List (Nat × (Int × α))}
theorem TOk.full (T : TOk t es Z) : Full t.mask := by
  rcases T.hm with e | e <;> rw [e]
  · exact full7
  · exact full31
theorem TOk.rise' (T : TOk t es Z) : t.place.toList.Pairwise (· < ·) := by rw [T.pl]; exact T.rise
theorem TOk.occ (T : TOk t es Z) {j : Nat} : Occ t j ↔ ∃ z ∈ Z, z.1 = j := by
  unfold Occ; rw [T.pl]; simp
theorem TOk.free (T : TOk t es Z) (h : Int) : ∃ k, k < 10 * turns t.mask ∧ ¬ Occ t (path t.mask h k).j ∧ ∀ k', k' < k → Occ t (path t.mask h k').j := by
  obtain ⟨j, h1, h2⟩ := hole (t.mask + 1) t.place.toList (by rw [T.pl, List.length_map]; have := T.room; omega)
  obtain ⟨k, h3, h4⟩ := cover T.full h j (by omega)
  obtain ⟨k, h5, h6, h7⟩ := least (p := fun k => ¬ Occ t (path t.mask h k).j) _ ⟨k, h3, by rw [h4]; exact h2⟩
  exact ⟨k, h5, h6, fun k' hk' => Classical.not_not.mp (h7 k' hk')⟩
theorem TOk.get (T : TOk t es Z) {i : Nat} {z : Nat × (Int × α)} (h : Z[i]? = some z) : t.place[i]? = some z.1 ∧ es[i]? = some z.2 := by
  constructor
  · have : t.place.toList[i]? = some z.1 := by rw [T.pl, List.getElem?_map, h]; rfl
    simpa using this
  · rw [T.el, List.getElem?_map, h]; rfl
theorem TOk.ix (T : TOk t es Z) {j : Nat} (h : Occ t j) : ∃ (i : Nat) (z : Nat × (Int × α)), Z[i]? = some z ∧ z.1 = j := by
  obtain ⟨z, hz, e⟩ := T.occ.mp h
  obtain ⟨i, hi⟩ := List.mem_iff_getElem?.mp hz
  exact ⟨i, z, hi, e⟩
theorem TOk.probe_go (T : TOk t es Z) (hashAt : Nat → Int) (h : Int) : ∀ (fuel k0 k1 : Nat), k0 ≤ k1 → k1 < k0 + fuel →
    (∀ k, k0 ≤ k → k < k1 → ∃ i, t.place[i]? = some (path t.mask h k).j ∧ hashAt i ≠ h) →
    (¬ Occ t (path t.mask h k1).j → probe.go t hashAt h fuel (path t.mask h k0) = some (.empty (path t.mask h k1).j none)) ∧
    (∀ i : Nat, t.place[i]? = some (path t.mask h k1).j → hashAt i = h → probe.go t hashAt h fuel (path t.mask h k0) = some (.candidate (path t.mask h k1).j i (path t.mask h (k1 + 1))))
  | 0, k0, k1, h1, h2, _ => by omega
  | fuel + 1, k0, k1, h1, h2, hw => by
    rcases Nat.eq_or_lt_of_le h1 with e | hlt
    · subst e
      constructor
      · intro ho
        unfold probe.go
        rw [slot_empty T.dum ho]
        dsimp only
        rw [path_dummy]
      · intro i hi hh
        unfold probe.go
        rw [slot_live T.rise' hi]
        dsimp only
        rw [hh]
        simp only [beq_self_eq_true, if_true]
        rfl
    · obtain ⟨i, hi, hne⟩ := hw k0 (Nat.le_refl _) hlt
      have ih := TOk.probe_go T hashAt h fuel (k0 + 1) k1 (by omega) (by omega) fun k a b => hw k (by omega) b
      have step : probe.go t hashAt h (fuel + 1) (path t.mask h k0) = probe.go t hashAt h fuel (path t.mask h (k0 + 1)) := by
        conv => lhs; unfold probe.go
        rw [slot_live T.rise' hi]
        dsimp only
        have : (hashAt i == h) = false := by simpa using hne
        rw [this]
        simp only [Bool.false_eq_true, if_false]
        rfl
      rw [step]; exact ih

theorem insertAt_list {β : Type} (xs : Array β) (p : Nat) (x : β) : (SetTable.insertAt xs p x).toList = xs.toList.take p ++ x :: xs.toList.drop p := by
  simp [SetTable.insertAt, List.extract_eq_take_drop, List.take_of_length_le]
theorem TOk.put (T : TOk t es Z) {h : Int} {x : α} {k : Nat} (hk : k < 10 * turns t.mask) (hfree : ¬ Occ t (path t.mask h k).j) (hocc : ∀ k', k' < k → Occ t (path t.mask h k').j) (room : Z.length + 1 ≤ t.mask) (pln : Bool) :
    ∃ Z', TOk { (t.put (path t.mask h k).j).1 with plain := pln } (es.take (t.put (path t.mask h k).j).2 ++ (h, x) :: es.drop (t.put (path t.mask h k).j).2) Z' ∧ Z'.length = Z.length + 1 := by
  generalize hj : (path t.mask h k).j = j at *
  have hp : (t.put j).2 = below t.place j := rfl
  have hd : (t.put j).1.dummies = #[] := by
    show (if has t.dummies j then eraseAt t.dummies (below t.dummies j) else t.dummies) = #[]
    rw [T.dum]; simp [has]
  have hpl : (t.put j).1.place.toList = t.place.toList.take (below t.place j) ++ j :: t.place.toList.drop (below t.place j) := insertAt_list _ _ _
  obtain ⟨b1, b2, b3⟩ := below_spec j T.rise'
  have hjm : j ≤ t.mask := by have := (path_in t.mask h k).1; rw [hj] at this; omega
  refine ⟨Z.take (below t.place j) ++ (j, (h, x)) :: Z.drop (below t.place j), ⟨T.hm, hd, ?_, ?_, ?_, ?_, ?_, ?_⟩, ?_⟩
  · show (t.put j).1.place.toList = _
    rw [hpl, T.pl]; simp [List.map_take, List.map_drop]
  · rw [hp, T.el]; simp [List.map_take, List.map_drop]
  · have e : (Z.take (below t.place j) ++ (j, (h, x)) :: Z.drop (below t.place j)).map (·.1) = t.place.toList.take (below t.place j) ++ j :: t.place.toList.drop (below t.place j) := by
      rw [T.pl]; simp [List.map_take, List.map_drop]
    rw [e]
    have r := T.rise'
    have r' := r
    rw [← List.take_append_drop (below t.place j) t.place.toList] at r'
    obtain ⟨r1, r2, r3⟩ := List.pairwise_append.mp r'
    refine List.pairwise_append.mpr ⟨r1, List.pairwise_cons.mpr ⟨fun y hy => ?_, r2⟩, fun y hy z hz => ?_⟩
    · obtain ⟨i, hi⟩ := List.mem_iff_getElem?.mp hy
      rw [List.getElem?_drop] at hi
      have := b2 (below t.place j + i) y (by omega) (by simpa using hi)
      have hne : y ≠ j := fun e => hfree (by rw [← e]; exact List.mem_of_getElem? hi)
      omega
    · have hyj : y < j := by
        obtain ⟨i, hi⟩ := List.mem_iff_getElem?.mp hy
        rw [List.getElem?_take] at hi
        split at hi
        · rename_i hlt
          exact b1 i y hlt (by simpa using hi)
        · cases hi
      rcases List.mem_cons.mp hz with e | hz
      · omega
      · exact r3 y hy z hz
  · intro z hz
    rcases List.mem_append.mp hz with hz | hz
    · exact T.bound z (List.mem_of_mem_take hz)
    · rcases List.mem_cons.mp hz with e | hz
      · rw [e]; exact hjm
      · exact T.bound z (List.mem_of_mem_drop hz)
  · show (Z.take (below t.place j) ++ (j, (h, x)) :: Z.drop (below t.place j)).length ≤ t.mask
    rw [List.length_append, List.length_cons, List.length_take, List.length_drop]
    omega
  · have om : ∀ i, Occ t i → Occ { (t.put j).1 with plain := pln } i := fun i hi => by
      show i ∈ (t.put j).1.place.toList
      rw [hpl]
      have hi' : i ∈ t.place.toList := hi
      rw [← List.take_append_drop (below t.place j) t.place.toList] at hi'
      rcases List.mem_append.mp hi' with q | q
      · exact List.mem_append_left _ q
      · exact List.mem_append_right _ (List.mem_cons_of_mem _ q)
    intro z hz
    have old : ∀ z ∈ Z, Reach t.mask (Occ { (t.put j).1 with plain := pln }) z.2.1 z.1 := fun z hz => (T.reach z hz).mono om
    rcases List.mem_append.mp hz with hz | hz
    · exact old z (List.mem_of_mem_take hz)
    · rcases List.mem_cons.mp hz with e | hz
      · rw [e]
        exact ⟨k, hk, hj, fun k' hk' => om _ (hocc k' hk')⟩
      · exact old z (List.mem_of_mem_drop hz)
  · rw [List.length_append, List.length_cons, List.length_take, List.length_drop]
    have : below t.place j ≤ Z.length := by
      have : t.place.size = Z.length := by have := congrArg List.length T.pl; simpa using this
      omega
    omega
theorem TOk.fresh (f m : Nat) (led : Bool) : TOk (α := α) (SetTable.fresh f m led) [] [] :=
  ⟨.inl rfl, rfl, rfl, rfl, List.Pairwise.nil, (fun _ h => nomatch h), Nat.zero_le _, (fun _ h => nomatch h)⟩
end
end SetM
set_option linter.all false
set_option maxRecDepth 100000
namespace SetM
open PySem PySem.SetTable
def OccO (owner : Array (Option Nat)) (j : Nat) : Prop := ∃ k, owner[j]? = some (some k)
theorem free_path (mask : Nat) (owner : Array (Option Nat)) (hsz : owner.size = mask + 1) (h : Int) : ∀ (fuel k0 i q : Nat), path mask h k0 = at0 mask i q → i ≤ mask →
    ∀ (n : Nat), n < fuel → (∃ j, j ≤ mask ∧ (leaps mask i q n).1 = j ∧ ¬ OccO owner j) →
    ∃ k, k0 ≤ k ∧ k ≤ k0 + 10 * n + 9 ∧ layClean.free mask owner fuel i q = some (path mask h k).j ∧ ¬ OccO owner (path mask h k).j ∧ ∀ k', k0 ≤ k' → k' < k → OccO owner (path mask h k').j
  | 0, _, _, _, _, _, n, hn, _ => absurd hn (Nat.not_lt_zero _)
  | fuel + 1, k0, i, q, hp, hi, n, hn, hj => by
    have run : ∀ m, m ≤ runEnd mask i - i → (path mask h (k0 + m)).j = i + m := by
      intro m hm
      rw [path_iter, iter_add, ← path_iter, hp, iter_run mask i q m hm]
    have inb : ∀ m, m ≤ runEnd mask i - i → i + m < owner.size := by
      intro m hm
      rw [hsz]
      unfold runEnd at hm
      split at hm <;> omega
    have none_iff : ∀ m, m ≤ runEnd mask i - i → ((owner.getD (i + m) (some 0)).isNone = true ↔ ¬ OccO owner (i + m)) := by
      intro m hm
      have hb := inb m hm
      have e : owner.getD (i + m) (some 0) = owner[i + m] := by simp [Array.getD, hb]
      have e2 : owner[i + m]? = some owner[i + m] := by simp [hb]
      rw [e]
      unfold OccO
      rw [e2]
      cases owner[i + m] with
      | none => simp
      | some k => simp
    unfold layClean.free
    cases hf : (List.range (runEnd mask i + 1 - i)).find? fun k => (owner.getD (i + k) (some 0)).isNone with
    | some m =>
      have hre : i ≤ runEnd mask i := by unfold runEnd; split <;> omega
      obtain ⟨hm1, l1, l2, hl, hall⟩ := List.find?_eq_some_iff_append.mp hf
      have hmr : m ∈ List.range (runEnd mask i + 1 - i) := by rw [hl]; simp
      have hm : m ≤ runEnd mask i - i := by have := List.mem_range.mp hmr; omega
      have hr9 := runEnd_le mask i
      refine ⟨k0 + m, by omega, by omega, ?_, ?_, fun k' h1 h2 => ?_⟩
      · dsimp only; rw [run m hm]
      · rw [run m hm]; exact (none_iff m hm).mp hm1
      · obtain ⟨d, rfl⟩ : ∃ d, k' = k0 + d := ⟨k' - k0, by omega⟩
        have hd : d < m := by omega
        rw [run d (by omega)]
        have hdm : d ∈ l1 := by
          have hin : d ∈ List.range (runEnd mask i + 1 - i) := List.mem_range.mpr (by omega)
          rw [hl] at hin
          rcases List.mem_append.mp hin with h | h
          · exact h
          · -- behind m all are greater
            exfalso
            have hpw : (List.range (runEnd mask i + 1 - i)).Pairwise (· < ·) := List.pairwise_lt_range
            rw [hl] at hpw
            have hc := (List.pairwise_append.mp hpw).2.1
            rcases List.mem_cons.mp h with e | h
            · omega
            · have := (List.pairwise_cons.mp hc).1 d h; omega
        have := hall d hdm
        have hn' : ¬ ((owner.getD (i + d) (some 0)).isNone = true) := by
          intro hc; rw [hc] at this; simp at this
        exact Classical.not_not.mp fun hc => hn' ((none_iff d (by omega)).mpr hc)
    | none =>
      have hre : i ≤ runEnd mask i := by unfold runEnd; split <;> omega
      have hnone := List.find?_eq_none.mp hf
      have allocc : ∀ m, m ≤ runEnd mask i - i → OccO owner (i + m) := by
        intro m hm
        have := hnone m (List.mem_range.mpr (by omega))
        exact Classical.not_not.mp fun hc => this ((none_iff m hm).mpr hc)
      -- n is not 0
      have hn0 : n ≠ 0 := by
        intro e; subst e
        obtain ⟨j, h1, h2, h3⟩ := hj
        have : i = j := h2
        subst this
        exact h3 (by simpa using allocc 0 (Nat.zero_le _))
      obtain ⟨n', rfl⟩ : ∃ n', n = 1 + n' := ⟨n - 1, by omega⟩
      have hp' : path mask h (k0 + (runEnd mask i - i + 1)) = at0 mask (leap mask i q).1 (leap mask i q).2 := by
        rw [path_iter, iter_add, ← path_iter, hp, iter_leap]
      have hl1 : leaps mask i q 1 = leap mask i q := rfl
      have hi' : (leap mask i q).1 ≤ mask := leaps_lt mask i q hi 1
      obtain ⟨k, a1, a2, a3, a4, a5⟩ := free_path mask owner hsz h fuel (k0 + (runEnd mask i - i + 1)) (leap mask i q).1 (leap mask i q).2 hp' hi' n' (by omega) (by
        obtain ⟨j, h1, h2, h3⟩ := hj
        refine ⟨j, h1, ?_, h3⟩
        rw [leaps_add, hl1] at h2
        exact h2)
      have hr9 := runEnd_le mask i
      refine ⟨k, by omega, by omega, a3, a4, fun k' h1 h2 => ?_⟩
      rcases Nat.lt_or_ge k' (k0 + (runEnd mask i - i + 1)) with g | g
      · obtain ⟨d, rfl⟩ : ∃ d, k' = k0 + d := ⟨k' - k0, by omega⟩
        rw [run d (by omega)]
        exact allocc d (by omega)
      · exact a5 k' g h2

def liveOf (mask : Nat) (owner : Array (Option Nat)) : List (Nat × Nat) := (List.range (mask + 1)).filterMap fun j => (owner.getD j none).map (j, ·)
theorem mem_live {mask : Nat} {owner : Array (Option Nat)} {j k : Nat} : (j, k) ∈ liveOf mask owner ↔ j ≤ mask ∧ owner.getD j none = some k := by
  unfold liveOf
  rw [List.mem_filterMap]
  constructor
  · rintro ⟨a, h1, h2⟩
    cases e : owner.getD a none with
    | none => rw [e] at h2; cases h2
    | some b =>
      rw [e] at h2
      simp only [Option.map_some, Option.some.injEq, Prod.mk.injEq] at h2
      obtain ⟨rfl, rfl⟩ := h2
      exact ⟨by have := List.mem_range.mp h1; omega, e⟩
  · rintro ⟨h1, h2⟩
    exact ⟨j, List.mem_range.mpr (by omega), by rw [h2]; rfl⟩
theorem live_rise (mask : Nat) (owner : Array (Option Nat)) : ((liveOf mask owner).map (·.1)).Pairwise (· < ·) := by
  unfold liveOf
  rw [List.map_filterMap]
  have e : (fun x => Option.map (fun x : Nat × Nat => x.1) (Option.map (fun x_1 => (x, x_1)) (owner.getD x none))) = fun j => if (owner.getD j none).isSome then some j else none := by
    funext j
    cases owner.getD j none <;> rfl
  rw [e]
  have : ((List.range (mask + 1)).filterMap fun j => if (owner.getD j none).isSome then some j else none) = (List.range (mask + 1)).filter fun j => (owner.getD j none).isSome := by
    rw [← List.filterMap_eq_filter]
    rfl
  rw [this]
  exact List.pairwise_lt_range.filter _

structure OwnOk (mask : Nat) (hs : List Int) (owner : Array (Option Nat)) (n : Nat) : Prop where
  size : owner.size = mask + 1
  val : ∀ (j k : Nat), owner[j]? = some (some k) → k < n
  all : ∀ k, k < n → ∃ j : Nat, owner[j]? = some (some k)
  inj : ∀ (j j' k : Nat), owner[j]? = some (some k) → owner[j']? = some (some k) → j = j'
  reach : ∀ (j k : Nat) (h : Int), owner[j]? = some (some k) → hs[k]? = some h → Reach mask (OccO owner) h j

theorem own_step {mask : Nat} (hf : Full mask) {hs : List Int} {owner : Array (Option Nat)} {n : Nat} (O : OwnOk mask hs owner n) (hn : n ≤ mask) {h : Int} (hh : hs[n]? = some h) :
    ∃ j, layClean.free mask owner (turns mask) (bits h % (mask + 1)) (bits h) = some j ∧ OwnOk mask hs (owner.setIfInBounds j (some n)) (n + 1) := by
  -- an empty slot
  have hi : bits h % (mask + 1) ≤ mask := by have := Nat.mod_lt (bits h) (show 0 < mask + 1 by omega); omega
  have hfree : ∃ j, j < mask + 1 ∧ ¬ OccO owner j := by
    apply Classical.byContradiction
    intro hc
    have hall : ∀ j, j < mask + 1 → ∃ k, owner[j]? = some (some k) := fun j hj => Classical.not_not.mp fun h => hc ⟨j, hj, h⟩
    -- the owners' slots
    have hch : ∃ f : Nat → Nat, ∀ k, k < n → owner[f k]? = some (some k) := by
      refine ⟨fun k => if hk : k < n then Classical.choose (O.all k hk) else 0, fun k hk => ?_⟩
      simp only [hk, dif_pos]
      exact Classical.choose_spec (O.all k hk)
    obtain ⟨f, hfk⟩ := hch
    obtain ⟨j, h1, h2⟩ := hole (mask + 1) ((List.range n).map f) (by simp; omega)
    obtain ⟨k, hk⟩ := hall j h1
    have hkn := O.val j k hk
    exact h2 (List.mem_map.mpr ⟨k, List.mem_range.mpr hkn, O.inj _ _ k (hfk k hkn) hk⟩)
  obtain ⟨j0, hj0, ho⟩ := hfree
  obtain ⟨m, hm, hl⟩ := cover_leaps hf (bits h % (mask + 1)) (bits h) j0 hi (bits_lt h) (by omega)
  obtain ⟨k, a1, a2, a3, a4, a5⟩ := free_path mask owner O.size h (turns mask) 0 (bits h % (mask + 1)) (bits h) rfl hi m (by unfold turns; omega) ⟨j0, by omega, hl, ho⟩
  have hjm : (path mask h k).j ≤ mask := by have := (path_in mask h k).1; omega
  refine ⟨_, a3, ?_⟩
  generalize hj : (path mask h k).j = j at *
  have hjs : j < owner.size := by rw [O.size]; omega
  have get : ∀ i, (owner.setIfInBounds j (some n))[i]? = if i = j then some (some n) else owner[i]? := by
    intro i
    rw [Array.getElem?_setIfInBounds]
    by_cases e : j = i
    · subst e; simp [hjs]
    · rw [if_neg e, if_neg (fun q => e q.symm)]
  have om : ∀ i, OccO owner i → OccO (owner.setIfInBounds j (some n)) i := fun i ⟨q, hq⟩ => by
    unfold OccO
    rw [get]
    by_cases e : i = j
    · rw [if_pos e]; exact ⟨n, rfl⟩
    · rw [if_neg e]; exact ⟨q, hq⟩
  refine ⟨by simp [O.size], fun i q hq => ?_, fun q hq => ?_, fun i i' q h1 h2 => ?_, fun i q g h1 h2 => ?_⟩
  · rw [get] at hq
    split at hq
    · cases hq; omega
    · have := O.val i q hq; omega
  · rcases Nat.lt_or_ge q n with hlt | hge
    · obtain ⟨i, hi'⟩ := O.all q hlt
      refine ⟨i, ?_⟩
      rw [get, if_neg]
      · exact hi'
      · intro e; subst e; exact a4 ⟨q, hi'⟩
    · have : q = n := by omega
      subst this
      exact ⟨j, by rw [get, if_pos rfl]⟩
  · rw [get] at h1 h2
    split at h1
    · rename_i e1
      split at h2
      · rename_i e2; rw [e1, e2]
      · cases h1; have := O.val i' _ h2; omega
    · split at h2
      · cases h2; have := O.val i _ h1; omega
      · exact O.inj i i' q h1 h2
  · rw [get] at h1
    split at h1
    · rename_i e1
      cases h1
      rw [hh] at h2; cases h2
      subst e1
      exact ⟨k, by unfold turns; omega, hj, fun k' hk' => om _ (a5 k' (Nat.zero_le _) hk')⟩
    · exact (O.reach i q g h1 h2).mono om

theorem own_fold {mask : Nat} (hf : Full mask) (hs : List Int) (hlen : hs.length ≤ mask) : ∀ (rest : List Int) (n : Nat) (owner : Array (Option Nat)), n ≤ hs.length → hs.drop n = rest → OwnOk mask hs owner n →
    ∃ owner', (rest.foldl (init := some (owner, n)) fun acc h => do
      let (owner, k) ← acc
      let j ← layClean.free mask owner (turns mask) (bits h % (mask + 1)) (bits h)
      pure (owner.setIfInBounds j (some k), k + 1)) = some (owner', hs.length) ∧ OwnOk mask hs owner' hs.length
  | [], n, owner, hn2, hd, O => by
    have hn : hs.length ≤ n := by
      rcases Nat.lt_or_ge n hs.length with h | h
      · have := List.drop_eq_getElem_cons h; rw [hd] at this; cases this
      · exact h
    have e : n = hs.length := by omega
    subst e
    exact ⟨owner, rfl, O⟩
  | h :: rest, n, owner, hn2, hd, O => by
    have hn : n < hs.length := by
      rcases Nat.lt_or_ge n hs.length with g | g
      · exact g
      · rw [List.drop_eq_nil_of_le g] at hd; cases hd
    have hc := List.drop_eq_getElem_cons hn
    rw [hd] at hc
    injection hc with h1 h2
    obtain ⟨j, e1, O'⟩ := own_step hf O (by omega) (h := h) (by rw [h1]; simp [hn])
    obtain ⟨owner', e2, O''⟩ := own_fold hf hs hlen rest (n + 1) _ (by omega) h2.symm O'
    refine ⟨owner', ?_, O''⟩
    rw [List.foldl_cons]
    simp only [Option.bind_eq_bind, Option.bind_some, e1, Option.pure_def]
    exact e2

theorem own_start (mask : Nat) (hs : List Int) : OwnOk mask hs (Array.replicate (mask + 1) none) 0 := by
  have no : ∀ (j k : Nat), (Array.replicate (mask + 1) (none : Option Nat))[j]? ≠ some (some k) := by
    intro j k h
    rw [Array.getElem?_replicate] at h
    split at h <;> simp at h
  exact ⟨by simp, fun j k h => absurd h (no j k), fun k h => absurd h (Nat.not_lt_zero _), fun j _ k h => absurd h (no j k), fun j k _ h => absurd h (no j k)⟩
theorem layClean_ok {mask : Nat} (hf : Full mask) (hs : Array Int) (hlen : hs.size ≤ mask) : ∃ owner, layClean mask hs = some owner ∧ OwnOk mask hs.toList owner hs.size := by
  obtain ⟨owner, e, O⟩ := own_fold hf hs.toList (by simpa using hlen) hs.toList 0 _ (Nat.zero_le _) rfl (own_start mask hs.toList)
  refine ⟨owner, ?_, by simpa using O⟩
  unfold layClean
  rw [← Array.foldl_toList]
  have e' := congrArg (Option.map (·.1)) e
  exact e'
theorem laid_ok {α : Type} {mask : Nat} (hm : mask = 7 ∨ mask = 31) (f m : Nat) (led plain : Bool) (es : Array (Int × α)) (hlen : es.size ≤ mask) :
    ∃ t' order, laid mask f m led plain (es.map (·.1)) = some (t', order) ∧ t'.led = led ∧ t'.plain = plain ∧ t'.mask = mask ∧
      ∃ Z, TOk t' (order.filterMap (es[·]?)).toList Z ∧ List.Perm (order.filterMap (es[·]?)).toList es.toList := by
  have hf : Full mask := by rcases hm with e | e <;> rw [e]; exact full7; exact full31
  obtain ⟨owner, e, O⟩ := layClean_ok hf (es.map (·.1)) (by simpa using hlen)
  have hsz : (es.map (·.1)).size = es.size := by simp
  rw [hsz] at O
  refine ⟨{ mask, place := ((liveOf mask owner).map (·.1)).toArray, dummies := #[], finger := f, led, moves := m, plain }, ((liveOf mask owner).map (·.2)).toArray, ?_, rfl, rfl, rfl, ?_⟩
  · unfold laid
    rw [e]; rfl
  have getD : ∀ j k, owner.getD j none = some k ↔ owner[j]? = some (some k) := by
    intro j k
    by_cases hj : j < owner.size
    · simp [Array.getD, hj]
    · simp [Array.getD, hj]
  -- the owners are all places, once each
  have nd : ((liveOf mask owner).map (·.2)).Nodup := by
    have r := live_rise mask owner
    rw [List.nodup_iff_pairwise_ne, List.pairwise_map]
    rw [List.pairwise_map] at r
    refine (List.Pairwise.and_mem.mp r).imp fun {a b} ⟨ha, hb, hab⟩ hq => ?_
    obtain ⟨a1, a2⟩ := a
    obtain ⟨b1, b2⟩ := b
    have h1 := (getD _ _).mp (mem_live.mp ha).2
    have h2 := (getD _ _).mp (mem_live.mp hb).2
    have hq' : a2 = b2 := hq
    subst hq'
    have := O.inj _ _ _ h1 h2
    have hab' : a1 < b1 := hab
    omega
  have pm : List.Perm ((liveOf mask owner).map (·.2)) (List.range es.size) := by
    refine (List.perm_ext_iff_of_nodup nd List.nodup_range).mpr fun k => ?_
    rw [List.mem_range, List.mem_map]
    constructor
    · rintro ⟨⟨j, q⟩, h1, rfl⟩
      exact O.val j q ((getD _ _).mp (mem_live.mp h1).2)
    · intro hk
      obtain ⟨j, hj⟩ := O.all k hk
      have hjs : j < owner.size := by
        rcases Nat.lt_or_ge j owner.size with g | g
        · exact g
        · rw [Array.getElem?_eq_none g] at hj; cases hj
      exact ⟨(j, k), mem_live.mpr ⟨by have := O.size; omega, (getD _ _).mpr hj⟩, rfl⟩
  have rng : (List.range es.size).filterMap (fun i => es[i]?) = es.toList := by
    have aux : ∀ l : List (Int × α), (List.range l.length).filterMap (fun i => l[i]?) = l := by
      intro l
      induction l with
      | nil => simp
      | cons a t ih =>
        rw [List.length_cons, List.range_succ_eq_map, List.filterMap_cons_some (b := a) (by simp), List.filterMap_map]
        have e : ((fun i => (a :: t)[i]?) ∘ Nat.succ) = fun i => t[i]? := by funext i; simp
        rw [e, ih]
    have := aux es.toList
    simpa using this
  have eq1 : (((liveOf mask owner).map (·.2)).toArray.filterMap (es[·]?)).toList = (liveOf mask owner).filterMap (fun z => es[z.2]?) := by
    rw [Array.toList_filterMap]
    simp [List.filterMap_map, Function.comp_def]
  refine ⟨(liveOf mask owner).filterMap fun z => (es[z.2]?).map (z.1, ·), ?_, ?_⟩
  · -- every owner is an element
    have some_at : ∀ z ∈ liveOf mask owner, ∃ x, es[z.2]? = some x := fun z hz => by
      have := O.val z.1 z.2 ((getD _ _).mp (mem_live.mp hz).2)
      exact ⟨es[z.2], by simp [this]⟩
    have m1 : ∀ l : List (Nat × Nat), (∀ z ∈ l, ∃ x, es[z.2]? = some x) → (l.filterMap fun z => (es[z.2]?).map (z.1, ·)).map (·.1) = l.map (·.1) := by
      intro l
      induction l with
      | nil => intro _; rfl
      | cons z l ih =>
        intro h
        obtain ⟨x, hx⟩ := h z (by simp)
        rw [List.filterMap_cons_some (b := (z.1, x)) (by rw [hx]; rfl), List.map_cons, List.map_cons, ih fun y hy => h y (List.mem_cons_of_mem _ hy)]
    have m2 : ∀ l : List (Nat × Nat), (l.filterMap fun z => (es[z.2]?).map (z.1, ·)).map (·.2) = l.filterMap fun z => es[z.2]? := by
      intro l
      induction l with
      | nil => rfl
      | cons z l ih =>
        cases hx : es[z.2]? with
        | none => rw [List.filterMap_cons_none (by rw [hx]; rfl), List.filterMap_cons_none (f := fun z : Nat × Nat => es[z.2]?) hx, ih]
        | some x => rw [List.filterMap_cons_some (b := (z.1, x)) (by rw [hx]; rfl), List.filterMap_cons_some (f := fun z : Nat × Nat => es[z.2]?) hx, List.map_cons, ih]
    have lenL : (liveOf mask owner).length = es.size := by have := pm.length_eq; simpa using this
    refine ⟨hm, rfl, ?_, ?_, ?_, ?_, ?_, ?_⟩
    · rw [m1 _ some_at]
    · rw [eq1, m2]
    · rw [m1 _ some_at]; exact live_rise mask owner
    · intro z hz
      obtain ⟨⟨j, k⟩, h1, h2⟩ := List.mem_filterMap.mp hz
      obtain ⟨x, hx⟩ := some_at _ h1
      rw [hx] at h2
      cases h2
      exact (mem_live.mp h1).1
    · have : ((liveOf mask owner).filterMap fun z => (es[z.2]?).map (z.1, ·)).length = (liveOf mask owner).length := by
        have := congrArg List.length (m1 _ some_at); simpa using this
      rw [this, lenL]; exact hlen
    · intro z hz
      obtain ⟨⟨j, k⟩, h1, h2⟩ := List.mem_filterMap.mp hz
      obtain ⟨x, hx⟩ := some_at _ h1
      rw [hx] at h2
      cases h2
      have ho := (getD _ _).mp (mem_live.mp h1).2
      refine (O.reach j k x.1 ho (by simp [hx])).mono fun i hi => ?_
      obtain ⟨q, hq⟩ := hi
      show i ∈ (liveOf mask owner).map (·.1)
      have his : i < owner.size := by
        rcases Nat.lt_or_ge i owner.size with g | g
        · exact g
        · rw [Array.getElem?_eq_none g] at hq; cases hq
      exact List.mem_map.mpr ⟨(i, q), mem_live.mpr ⟨by have := O.size; omega, (getD _ _).mpr hq⟩, rfl⟩
  · rw [eq1]
    have h1 := pm.filterMap (fun i => es[i]?)
    rw [rng, List.filterMap_map] at h1
    exact h1
end SetM
set_option linter.all false
set_option maxRecDepth 100000
namespace SortM
open PySem PySem.W PyProof.Rows
def run {α : Type} (T : Nat → Nat → Bool) : KasT α → α
  | .ret a => a
  | .ask i j k => run T (k (T i j))
theorem run_bind {α β : Type} (T : Nat → Nat → Bool) (f : α → KasT β) : ∀ t : KasT α, run T (t.bind f) = run T (f (run T t))
  | .ret _ => rfl
  | .ask i j k => by
    show run T ((k (T i j)).bind f) = _
    rw [run_bind T f (k (T i j))]; rfl
structure Ord (n : Nat) (T : Nat → Nat → Bool) : Prop where
  irr : ∀ i, T i i = false
  tr : ∀ i j k, T i j = true → T j k = true → T i k = true
  tot : ∀ i j, i < n → j < n → i ≠ j → T i j = true ∨ T j i = true
theorem Ord.no {n : Nat} {T : Nat → Nat → Bool} (O : Ord n T) {i j : Nat} (h : T i j = true) : T j i = false := by
  cases e : T j i with
  | false => rfl
  | true => have := O.tr i j i h e; rw [O.irr] at this; cases this
structure Pm (n : Nat) (p : Array Nat) : Prop where
  size : p.size = n
  lt : ∀ i, i < n → p.getD i 0 < n
  inj : ∀ i j, i < n → j < n → p.getD i 0 = p.getD j 0 → i = j
theorem Pm.start (n : Nat) : Pm n (List.toArray (List.range n)) := by
  have g : ∀ i, i < n → (List.toArray (List.range n)).getD i 0 = i := fun i hi => by simp [Array.getD, hi]
  exact ⟨by simp, fun i hi => by rw [g i hi]; exact hi, fun i j hi hj e => by rw [g i hi, g j hj] at e; exact e⟩
def Srt (T : Nat → Nat → Bool) (p : Array Nat) (m : Nat) : Prop := ∀ a b, a < b → b < m → T (p.getD a 0) (p.getD b 0) = true
def Dsc (T : Nat → Nat → Bool) (p : Array Nat) (m : Nat) : Prop := ∀ a b, a < b → b < m → T (p.getD b 0) (p.getD a 0) = true
section
variable {n : Nat} {T : Nat → Nat → Bool} (O : Ord n T)
include O
theorem tot' {p : Array Nat} (P : Pm n p) {i j : Nat} (hi : i < n) (hj : j < n) (hij : i ≠ j) (h : ¬ T (p.getD i 0) (p.getD j 0) = true) : T (p.getD j 0) (p.getD i 0) = true :=
  (O.tot _ _ (P.lt i hi) (P.lt j hj) fun e => hij (P.inj i j hi hj e)).resolve_left h
theorem srt_more {p : Array Nat} {m : Nat} (hm : 1 ≤ m) (S : Srt T p m) (h : T (p.getD (m - 1) 0) (p.getD m 0) = true) : Srt T p (m + 1) := by
  intro a b hab hb
  rcases Nat.lt_or_ge b m with g | g
  · exact S a b hab g
  · have e : b = m := by omega
    subst e
    rcases Nat.lt_or_ge a (b - 1) with k | k
    · exact O.tr _ _ _ (S a (b - 1) k (by omega)) h
    · have : a = b - 1 := by omega
      subst this; exact h
theorem dsc_more {p : Array Nat} {m : Nat} (hm : 1 ≤ m) (S : Dsc T p m) (h : T (p.getD m 0) (p.getD (m - 1) 0) = true) : Dsc T p (m + 1) := by
  intro a b hab hb
  rcases Nat.lt_or_ge b m with g | g
  · exact S a b hab g
  · have e : b = m := by omega
    subst e
    rcases Nat.lt_or_ge a (b - 1) with k | k
    · exact O.tr _ _ _ h (S a (b - 1) k (by omega))
    · have : a = b - 1 := by omega
      subst this; exact h
theorem asc_ok {p : Array Nat} (P : Pm n p) : ∀ (f m : Nat), 1 ≤ m → m + f ≤ n → Srt T p m →
    m ≤ run T (kas_asc p f m) ∧ run T (kas_asc p f m) ≤ m + f ∧ Srt T p (run T (kas_asc p f m)) ∧ (run T (kas_asc p f m) = m + f ∨ T (p.getD (run T (kas_asc p f m)) 0) (p.getD (run T (kas_asc p f m) - 1) 0) = true)
  | 0, m, _, _, S => ⟨Nat.le_refl _, Nat.le_refl _, S, .inl rfl⟩
  | f + 1, m, h1, h2, S => by
    have e : run T (kas_asc p (f + 1) m) = run T (if T (p.getD m 0) (p.getD (m - 1) 0) = true then .ret m else kas_asc p f (m + 1)) := rfl
    rw [e]
    by_cases hc : T (p.getD m 0) (p.getD (m - 1) 0) = true
    · rw [if_pos hc]
      exact ⟨Nat.le_refl _, by show m ≤ m + (f + 1); omega, S, .inr hc⟩
    · rw [if_neg hc]
      have hS := srt_more O h1 S (tot' O P (i := m) (j := m - 1) (by omega) (by omega) (by omega) hc)
      obtain ⟨a, b, c, d⟩ := asc_ok P f (m + 1) (by omega) (by omega) hS
      refine ⟨by omega, by omega, c, ?_⟩
      rcases d with d | d
      · exact .inl (by omega)
      · exact .inr d
theorem desc_ok {p : Array Nat} (P : Pm n p) : ∀ (f m : Nat), 1 ≤ m → m + f ≤ n → Dsc T p m →
    ∃ m', run T (kas_desc f p m 0) = (p, m', 0) ∧ m ≤ m' ∧ m' ≤ m + f ∧ Dsc T p m'
  | 0, m, _, _, S => ⟨m, rfl, Nat.le_refl _, Nat.le_refl _, S⟩
  | f + 1, m, h1, h2, S => by
    have e : run T (kas_desc (f + 1) p m 0) = run T (if T (p.getD m 0) (p.getD (m - 1) 0) = true then (if 0 > 0 then kas_desc f (kas_rev p (m - (0 + 1)) m) (m + 1) 0 else kas_desc f p (m + 1) 0)
      else .ask (p.getD (m - 1) 0) (p.getD m 0) fun d => if d = true then .ret (p, m, 0) else kas_desc f p (m + 1) (0 + 1)) := rfl
    rw [e]
    by_cases hc : T (p.getD m 0) (p.getD (m - 1) 0) = true
    · rw [if_pos hc, if_neg (by omega)]
      obtain ⟨m', a, b, c, d⟩ := desc_ok P f (m + 1) (by omega) (by omega) (dsc_more O h1 S hc)
      exact ⟨m', a, by omega, by omega, d⟩
    · rw [if_neg hc]
      have hd := tot' O P (i := m) (j := m - 1) (by omega) (by omega) (by omega) hc
      refine ⟨m, ?_, Nat.le_refl _, by omega, S⟩
      show run T (if T (p.getD (m - 1) 0) (p.getD m 0) = true then .ret (p, m, 0) else kas_desc f p (m + 1) (0 + 1)) = _
      rw [if_pos hd]; rfl
end
theorem getD_rev {p : Array Nat} {m : Nat} (hm : m ≤ p.size) (k : Nat) : (kas_rev p 0 m).getD k 0 = if k < m then p.getD (m - 1 - k) 0 else p.getD k 0 := by
  have h := getElem?_mirror_all (xs := p) (i := 0) (j := m) hm k
  have e : ∀ (xs : Array Nat) (k : Nat), xs.getD k 0 = (xs[k]?).getD 0 := fun xs k => by simp [Array.getD_eq_getD_getElem?]
  rw [e]
  show ((mirror p 0 m ((m - 0) / 2))[k]?).getD 0 = _
  rw [h]
  by_cases hk : k < m
  · rw [if_pos hk, e]
    simp [hk, Nat.zero_add]
  · rw [if_neg hk, e]
    simp [hk]
def rix (m k : Nat) : Nat := if k < m then m - 1 - k else k
theorem getD_rix {p : Array Nat} {m : Nat} (hm : m ≤ p.size) (k : Nat) : (kas_rev p 0 m).getD k 0 = p.getD (rix m k) 0 := by
  rw [getD_rev hm]
  unfold rix
  by_cases h1 : k < m
  · rw [if_pos h1, if_pos h1]
  · rw [if_neg h1, if_neg h1]
theorem rix_lt {n m k : Nat} (hm : m ≤ n) (hk : k < n) : rix m k < n := by unfold rix; split <;> omega
theorem rix_inj {m i j : Nat} (e : rix m i = rix m j) : i = j := by
  unfold rix at e
  repeat' split at e
  all_goals omega
theorem pm_rev {n : Nat} {p : Array Nat} (P : Pm n p) {m : Nat} (hm : m ≤ n) : Pm n (kas_rev p 0 m) := by
  have hs : m ≤ p.size := by rw [P.size]; exact hm
  refine ⟨by rw [← P.size]; exact mirror_size _ _ _ _, fun i hi => ?_, fun i j hi hj e => ?_⟩
  · rw [getD_rix hs]; exact P.lt _ (rix_lt hm hi)
  · rw [getD_rix hs, getD_rix hs] at e
    exact rix_inj (P.inj _ _ (rix_lt hm hi) (rix_lt hm hj) e)
theorem srt_rev {n : Nat} {T : Nat → Nat → Bool} {p : Array Nat} (P : Pm n p) {m : Nat} (hm : m ≤ n) (D : Dsc T p m) : Srt T (kas_rev p 0 m) m := by
  have hs : m ≤ p.size := by rw [P.size]; exact hm
  intro a b hab hb
  rw [getD_rev hs, getD_rev hs, if_pos (by omega), if_pos hb]
  exact D (m - 1 - b) (m - 1 - a) (by omega) (by omega)
section
variable {n : Nat} {T : Nat → Nat → Bool} (O : Ord n T)
include O
theorem count_ok {p : Array Nat} (P : Pm n p) (h1 : 1 ≤ n) : ∃ m p', run T (kas_count n p) = (m, p') ∧ Pm n p' ∧ 1 ≤ m ∧ m ≤ n ∧ Srt T p' m := by
  have S1 : Srt T p 1 := fun a b hab hb => by omega
  obtain ⟨a, b, c, d⟩ := asc_ok O P (n - 1) 1 (Nat.le_refl _) (by omega) S1
  unfold kas_count
  rw [run_bind]
  generalize run T (kas_asc p (n - 1) 1) = m at a b c d
  by_cases hm : (m == n) = true
  · rw [if_pos hm]
    exact ⟨m, p, rfl, P, a, by omega, c⟩
  · rw [if_neg hm]
    have hmn : m ≠ n := by simpa using hm
    have hd : T (p.getD m 0) (p.getD (m - 1) 0) = true := by
      rcases d with d | d
      · omega
      · exact d
    by_cases h2 : m > 1
    · rw [if_pos h2]
      have h0 : T (p.getD 0 0) (p.getD (m - 1) 0) = true := c 0 (m - 1) (by omega) (by omega)
      refine ⟨m, p, ?_, P, a, by omega, c⟩
      show run T (if T (p.getD 0 0) (p.getD (m - 1) 0) = true then .ret (m, p) else kas_descPart m n (kas_rev p 0 m)) = _
      rw [if_pos h0]; rfl
    · rw [if_neg h2]
      have hm1 : m = 1 := by omega
      subst hm1
      have D2 : Dsc T p (1 + 1) := fun x y hxy hy => by
        have e1 : x = 0 := by omega
        have e2 : y = 1 := by omega
        subst e1; subst e2; exact hd
      obtain ⟨m', e, f, g, h⟩ := desc_ok O P (n - (1 + 1)) (1 + 1) (by omega) (by omega) D2
      unfold kas_descPart
      rw [run_bind, e]
      dsimp only
      rw [if_neg (by omega)]
      unfold kas_tail3
      rw [run_bind]
      have P' := pm_rev P (m := m') (by omega)
      have S' := srt_rev P (m := m') (by omega) h
      obtain ⟨a', b', c', _⟩ := asc_ok O P' (n - m') m' (by omega) (by omega) S'
      exact ⟨_, _, rfl, P', by omega, by omega, c'⟩
theorem place_ok {p : Array Nat} (P : Pm n p) {k : Nat} (hk : k < n) (S : Srt T p k) : ∀ (f l r : Nat), l ≤ r → r ≤ k → r - l ≤ f →
    (∀ a, a < l → T (p.getD a 0) (p.getD k 0) = true) → (∀ a, r ≤ a → a < k → T (p.getD k 0) (p.getD a 0) = true) →
    run T (kas_place p k f l r) ≤ k ∧ (∀ a, a < run T (kas_place p k f l r) → T (p.getD a 0) (p.getD k 0) = true) ∧ (∀ a, run T (kas_place p k f l r) ≤ a → a < k → T (p.getD k 0) (p.getD a 0) = true)
  | 0, l, r, h1, h2, h3, A, B => by
    have e : l = r := by omega
    subst e
    exact ⟨h2, A, B⟩
  | f + 1, l, r, h1, h2, h3, A, B => by
    unfold kas_place
    by_cases hc : l ≥ r
    · rw [if_pos hc]
      have e : l = r := by omega
      subst e
      exact ⟨h2, A, B⟩
    · rw [if_neg hc]
      show run T (if T (p.getD k 0) (p.getD ((l + r) / 2) 0) = true then kas_place p k f l ((l + r) / 2) else kas_place p k f ((l + r) / 2 + 1) r) ≤ k ∧ (∀ a, a < run T (if T (p.getD k 0) (p.getD ((l + r) / 2) 0) = true then kas_place p k f l ((l + r) / 2) else kas_place p k f ((l + r) / 2 + 1) r) → _) ∧ (∀ a, run T (if T (p.getD k 0) (p.getD ((l + r) / 2) 0) = true then kas_place p k f l ((l + r) / 2) else kas_place p k f ((l + r) / 2 + 1) r) ≤ a → _)
      by_cases hd : T (p.getD k 0) (p.getD ((l + r) / 2) 0) = true
      · rw [if_pos hd]
        refine place_ok P hk S f l ((l + r) / 2) (by omega) (by omega) (by omega) A fun a ha hak => ?_
        rcases Nat.lt_or_ge a r with g | g
        · rcases Nat.eq_or_lt_of_le ha with q | q
          · rw [← q]; exact hd
          · exact O.tr _ _ _ hd (S _ a q hak)
        · exact B a g hak
      · rw [if_neg hd]
        have hd' := tot' O P (i := k) (j := (l + r) / 2) hk (by omega) (by omega) hd
        refine place_ok P hk S f ((l + r) / 2 + 1) r (by omega) h2 (by omega) (fun a ha => ?_) B
        rcases Nat.lt_or_ge a ((l + r) / 2) with g | g
        · exact O.tr _ _ _ (S a _ g (by omega)) hd'
        · have : a = (l + r) / 2 := by omega
          subst this; exact hd'
end
theorem getD_bubble {p : Array Nat} {src d : Nat} (hs : src < p.size) (hd : d ≤ src) (k : Nat) : (bubble p src d).getD k 0 = if k = src - d then p.getD src 0 else if src - d < k ∧ k ≤ src then p.getD (k - 1) 0 else p.getD k 0 := by
  have h := getElem?_bubble hs d hd k
  have e : ∀ (xs : Array Nat) (k : Nat), xs.getD k 0 = (xs[k]?).getD 0 := fun xs k => by simp [Array.getD_eq_getD_getElem?]
  rw [e, h]
  by_cases h1 : k = src - d
  · rw [if_pos h1, if_pos h1, e]
  · rw [if_neg h1, if_neg h1]
    by_cases h2 : src - d < k ∧ k ≤ src
    · rw [if_pos h2, if_pos h2, e]
    · rw [if_neg h2, if_neg h2, e]
def bix (src d k : Nat) : Nat := if k = src - d then src else if src - d < k ∧ k ≤ src then k - 1 else k
theorem getD_bix {p : Array Nat} {src d : Nat} (hs : src < p.size) (hd : d ≤ src) (k : Nat) : (bubble p src d).getD k 0 = p.getD (bix src d k) 0 := by
  rw [getD_bubble hs hd]
  unfold bix
  by_cases h1 : k = src - d
  · rw [if_pos h1, if_pos h1]
  · rw [if_neg h1, if_neg h1]
    by_cases h2 : src - d < k ∧ k ≤ src
    · rw [if_pos h2, if_pos h2]
    · rw [if_neg h2, if_neg h2]
theorem bix_lt {n src d k : Nat} (hs : src < n) (hk : k < n) : bix src d k < n := by
  unfold bix; repeat' split
  all_goals omega
theorem bix_inj {src d i j : Nat} (hd : d ≤ src) (e : bix src d i = bix src d j) : i = j := by
  unfold bix at e
  repeat' split at e
  all_goals omega
theorem pm_bubble {n : Nat} {p : Array Nat} (P : Pm n p) {src d : Nat} (hs : src < n) (hd : d ≤ src) : Pm n (bubble p src d) := by
  have hs' : src < p.size := by rw [P.size]; exact hs
  refine ⟨by rw [← P.size]; exact bubble_size _ _ _, fun i hi => ?_, fun i j hi hj e => ?_⟩
  · rw [getD_bix hs' hd]; exact P.lt _ (bix_lt hs hi)
  · rw [getD_bix hs' hd, getD_bix hs' hd] at e
    exact bix_inj hd (P.inj _ _ (bix_lt hs hi) (bix_lt hs hj) e)
section
variable {n : Nat} {T : Nat → Nat → Bool} (O : Ord n T)
include O
theorem bin_ok : ∀ (f : Nat) (p : Array Nat) (k : Nat), Pm n p → 1 ≤ k → k + f = n → Srt T p k → Pm n (run T (kas_bin f p k)) ∧ Srt T (run T (kas_bin f p k)) n
  | 0, p, k, P, _, h, S => by
    have e : k = n := by omega
    subst e; exact ⟨P, S⟩
  | f + 1, p, k, P, h1, h, S => by
    unfold kas_bin
    rw [run_bind]
    obtain ⟨a, b, c⟩ := place_ok O P (k := k) (by omega) S k 0 k (Nat.zero_le _) (Nat.le_refl _) (by omega) (fun a ha => absurd ha (Nat.not_lt_zero _)) (fun a ha hk => by omega)
    generalize run T (kas_place p k k 0 k) = l at a b c
    have hs : k < p.size := by rw [P.size]; omega
    refine bin_ok f _ (k + 1) (pm_bubble P (by omega) (by omega)) (by omega) (by omega) fun x y hxy hy => ?_
    have ekl : k - (k - l) = l := by omega
    rw [getD_bubble hs (by omega), getD_bubble hs (by omega), ekl]
    by_cases hx : x = l
    · rw [if_pos hx, if_neg (by omega), if_pos ⟨by omega, by omega⟩]
      exact c (y - 1) (by omega) (by omega)
    · rw [if_neg hx]
      by_cases hy' : y = l
      · rw [if_pos hy', if_neg (by omega)]
        exact b x (by omega)
      · rw [if_neg hy']
        by_cases h2 : l < x ∧ x ≤ k
        · rw [if_pos h2, if_pos ⟨by omega, by omega⟩]
          exact S (x - 1) (y - 1) (by omega) (by omega)
        · rw [if_neg h2]
          by_cases h3 : l < y ∧ y ≤ k
          · rw [if_pos h3]
            rcases Nat.lt_or_ge x (y - 1) with g | g
            · exact S x (y - 1) g (by omega)
            · omega
          · rw [if_neg h3]; exact S x y hxy (by omega)
theorem sort_ok (h1 : 1 ≤ n) : Pm n (run T (kas_sort n)) ∧ Srt T (run T (kas_sort n)) n := by
  unfold kas_sort
  rw [run_bind]
  obtain ⟨m, p', e, P, a, b, c⟩ := count_ok O (Pm.start n) h1
  rw [e]
  dsimp only
  by_cases hm : m < n
  · rw [if_pos hm]
    have hx : max m 1 = m := by omega
    rw [hx]
    exact bin_ok O (n - m) p' m P a (by omega) c
  · rw [if_neg hm]
    have : m = n := by omega
    subst this
    exact ⟨P, c⟩
end
end SortM
set_option linter.all false
set_option maxRecDepth 100000
set_option maxHeartbeats 4000000
namespace SortM
open PySem PySem.W PyProof.Rows
def AskP {α : Type} (n : Nat) (R : α → Prop) : KasT α → Prop
  | .ret a => R a
  | .ask i j k => i < n ∧ j < n ∧ ∀ b, AskP n R (k b)
theorem AskP.bind {α β : Type} {n : Nat} {R : α → Prop} {S : β → Prop} {f : α → KasT β} : ∀ {t : KasT α}, AskP n R t → (∀ a, R a → AskP n S (f a)) → AskP n S (t.bind f)
  | .ret a, h, g => g a h
  | .ask i j k, h, g => ⟨h.1, h.2.1, fun b => AskP.bind (h.2.2 b) g⟩
def Sm (n : Nat) (p : Array Nat) : Prop := p.Perm (List.range n).toArray
theorem Sm.lt {n : Nat} {p : Array Nat} (h1 : 1 ≤ n) (P : Sm n p) (i : Nat) : p.getD i 0 < n := by
  by_cases hi : i < p.size
  · have e : p.getD i 0 = p[i] := by simp [Array.getD, hi]
    rw [e]
    have : p[i] ∈ (List.range n).toArray := P.mem_iff.mp (Array.getElem_mem hi)
    simpa using this
  · have e : p.getD i 0 = 0 := by simp [Array.getD, hi]
    rw [e]; exact h1
theorem Sm.rev {n : Nat} {p : Array Nat} (P : Sm n p) (i j : Nat) : Sm n (kas_rev p i j) := (mirror_perm _ _ _ _).trans P
section
variable {n : Nat} (h1 : 1 ≤ n)
include h1
theorem asc_ask {p : Array Nat} (P : Sm n p) : ∀ f m, AskP n (fun _ => True) (kas_asc p f m)
  | 0, _ => trivial
  | f + 1, m => ⟨P.lt h1 _, P.lt h1 _, fun b => by
    cases b with
    | true => exact trivial
    | false => exact asc_ask P f (m + 1)⟩
theorem desc_ask : ∀ f {p : Array Nat} (m q : Nat), Sm n p → AskP n (fun r : Array Nat × Nat × Nat => Sm n r.1) (kas_desc f p m q)
  | 0, _, _, _, P => P
  | f + 1, p, m, q, P => ⟨P.lt h1 _, P.lt h1 _, fun b => by
    cases b with
    | true =>
      show AskP n _ (if q > 0 then kas_desc f (kas_rev p (m - (q + 1)) m) (m + 1) 0 else kas_desc f p (m + 1) 0)
      by_cases hq : q > 0
      · rw [if_pos hq]; exact desc_ask f _ _ (P.rev _ _)
      · rw [if_neg hq]; exact desc_ask f _ _ P
    | false =>
      refine ⟨P.lt h1 _, P.lt h1 _, fun b => ?_⟩
      cases b with
      | true => exact P
      | false => exact desc_ask f _ _ P⟩
theorem tail3_ask {p : Array Nat} (m k : Nat) (P : Sm n p) : AskP n (fun r : Nat × Array Nat => Sm n r.2) (kas_tail3 m k p) :=
  (asc_ask h1 (P.rev _ _) _ _).bind fun _ _ => P.rev _ _
theorem descPart_ask {p : Array Nat} (m k : Nat) (P : Sm n p) : AskP n (fun r : Nat × Array Nat => Sm n r.2) (kas_descPart m k p) := by
  refine (desc_ask h1 _ _ _ P).bind fun r R => ?_
  by_cases hq : r.2.2 > 0
  · rw [if_pos hq]; exact tail3_ask h1 _ _ (R.rev _ _)
  · rw [if_neg hq]; exact tail3_ask h1 _ _ R
theorem count_ask {p : Array Nat} (k : Nat) (P : Sm n p) : AskP n (fun r : Nat × Array Nat => Sm n r.2) (kas_count k p) := by
  refine (asc_ask h1 P _ _).bind fun m _ => ?_
  by_cases ha : (m == k) = true
  · rw [if_pos ha]; exact P
  · rw [if_neg ha]
    by_cases hb : m > 1
    · rw [if_pos hb]
      refine ⟨P.lt h1 _, P.lt h1 _, fun b => ?_⟩
      cases b with
      | true => exact P
      | false => exact descPart_ask h1 _ _ (P.rev _ _)
    · rw [if_neg hb]; exact descPart_ask h1 _ _ P
theorem place_ask {p : Array Nat} (k : Nat) (P : Sm n p) : ∀ f l r, AskP n (fun _ => True) (kas_place p k f l r)
  | 0, _, _ => trivial
  | f + 1, l, r => by
    unfold kas_place
    by_cases h : l ≥ r
    · rw [if_pos h]; exact trivial
    · rw [if_neg h]
      refine ⟨P.lt h1 _, P.lt h1 _, fun b => ?_⟩
      cases b with
      | true => exact place_ask k P f _ _
      | false => exact place_ask k P f _ _
theorem bin_ask : ∀ f {p : Array Nat} (k : Nat), Sm n p → AskP n (Sm n) (kas_bin f p k)
  | 0, _, _, P => P
  | f + 1, _, k, P => (place_ask h1 k P _ _ _).bind fun _ _ => bin_ask f _ ((bubble_perm _ _ _).trans P)
theorem sort_ask : AskP n (Sm n) (kas_sort n) := by
  refine (count_ask h1 n (Array.Perm.refl _)).bind fun r R => ?_
  by_cases h : r.1 < n
  · rw [if_pos h]; exact bin_ask h1 _ _ R
  · rw [if_neg h]; exact R
end
theorem kasWp_run {α : Type} {n : Nat} {R : α → Prop} {T : Nat → Nat → Bool} {cmp : Nat → Nat → (Bool → Shared → Prop) → Shared → Prop} {s : Shared} (hc : ∀ i j C, i < n → j < n → C (T i j) s → cmp i j C s) {Q : α → Shared → Prop} :
    ∀ t : KasT α, AskP n R t → (R (run T t) → Q (run T t) s) → t.kasWp cmp Q s
  | .ret a, h, q => q h
  | .ask i j k, h, q => hc i j _ h.1 h.2.1 (kasWp_run hc (k (T i j)) (h.2.2 _) q)

open Hull
def SpotAt (h : Heap) (v : Value) (p : P) : Prop := ∃ a o t u n, v = .ref a ∧ h.get? a = some o ∧ o.cls = .type "tuple" ∧ o.data = .seq #[.int p.1 t, .int p.2 u] n
inductive Spots (h : Heap) : List Value → List P → Prop
  | nil : Spots h [] []
  | cons {v p vs ps} : SpotAt h v p → Spots h vs ps → Spots h (v :: vs) (p :: ps)
theorem Spots.length {h : Heap} {vs : List Value} {ps : List P} (S : Spots h vs ps) : vs.length = ps.length := by
  induction S with
  | nil => rfl
  | cons _ _ ih => rw [List.length_cons, List.length_cons, ih]
theorem Spots.get {h : Heap} {vs : List Value} {ps : List P} (S : Spots h vs ps) : ∀ i, i < vs.length → SpotAt h (vs.getD i .none) (ps.getD i (0, 0)) := by
  induction S with
  | nil => intro i hi; simp at hi
  | cons a _ ih =>
    intro i hi
    cases i with
    | zero => exact a
    | succ i => exact ih i (by simpa using hi)
theorem SpotAt.kept {h h' : Heap} {v : Value} {p : P} (k : ∀ a o, o.cls = .type "tuple" → h.get? a = some o → h'.get? a = some o) (S : SpotAt h v p) : SpotAt h' v p := by
  obtain ⟨a, o, t, u, n, e, ho, hc, hd⟩ := S
  exact ⟨a, o, t, u, n, e, k a o hc ho, hc, hd⟩
theorem Spots.kept {h h' : Heap} {vs : List Value} {ps : List P} (k : ∀ a o, o.cls = .type "tuple" → h.get? a = some o → h'.get? a = some o) (S : Spots h vs ps) : Spots h' vs ps := by
  induction S with
  | nil => exact .nil
  | cons a _ ih => exact .cons (a.kept k) ih
theorem Spots.firsts {h : Heap} {vs : List Value} {ps : List P} (S : Spots h vs ps) : ∃ fs, KatTups h vs fs ∧ fs.length = vs.length ∧ ∀ v ∈ fs, ∃ i t, v = .int i t := by
  induction S with
  | nil => exact ⟨[], trivial, rfl, fun _ h => nomatch h⟩
  | cons a _ ih =>
    obtain ⟨fs, k, l, q⟩ := ih
    obtain ⟨a, o, t, u, n, rfl, ho, hc, hd⟩ := a
    refine ⟨_ :: fs, KatTups.cons ho hc hd rfl k, by rw [List.length_cons, List.length_cons, l], fun v hv => ?_⟩
    rcases List.mem_cons.mp hv with rfl | hv
    · exact ⟨_, _, rfl⟩
    · exact q v hv
def ltb (p q : P) : Bool := decide (lt p q)
section
variable {prog : Program} {w : World} {A : Around} {E : Value → Shared → Prop} {s : Shared}
theorem spot_lt {x y : Value} {p q : P} {Q : Bool → Shared → Prop} (hx : SpotAt s.heap x p) (hy : SpotAt s.heap y q) (h : Q (ltb p q) s) : wpAny (model prog w) A (keyLt' (tuples' true) x y) Q E s := by
  obtain ⟨a, o, t, u, n, rfl, ho, hc, hd⟩ := hx
  obtain ⟨a', o', t', u', n', rfl, ho', hc', hd'⟩ := hy
  refine kat_lt ho hd ho' hd' (kat_cons (wpAny_eqBool_int ?_))
  refine kat_go (fun e => kat_yes (kat_cons (wpAny_eqBool_int (kat_go (fun e2 => kat_yes (kat_nil ?_)) fun e2 => kat_no ?_)))) fun e => kat_no ?_
  · have e1 : p.1 = q.1 := by simpa using e
    have e3 : p.2 = q.2 := by simpa using e2
    have : ltb p q = false := decide_eq_false (by unfold lt; omega)
    rw [this] at h
    exact h
  · have e1 : p.1 = q.1 := by simpa using e
    have e3 : p.2 ≠ q.2 := by simpa using e2
    have : ltb p q = decide (p.2 < q.2) := decide_eq_decide.mpr (by unfold lt; omega)
    rw [this] at h
    exact kat_one _ _ (PyProof.Rows.lt_int h)
  · have e1 : p.1 ≠ q.1 := by simpa using e
    have : ltb p q = decide (p.1 < q.1) := decide_eq_decide.mpr (by unfold lt; omega)
    rw [this] at h
    exact oneLt_int h
def atIx (ps : List P) (ix : List Nat) : List P := ix.map fun i => ps.getD i (0, 0)
def valIx (vs : List Value) (ix : List Nat) : List Value := ix.map fun i => vs.getD i .none
theorem ord_of {ps : List P} (hnd : ps.Nodup) : Ord ps.length fun i j => ltb (ps.getD i (0, 0)) (ps.getD j (0, 0)) := by
  refine ⟨fun i => by unfold ltb; exact decide_eq_false lt_irrefl, fun i j k h g => ?_, fun i j hi hj hij => ?_⟩
  · unfold ltb at *
    exact decide_eq_true (lt_trans (of_decide_eq_true h) (of_decide_eq_true g))
  · unfold ltb
    have ei : ps.getD i (0, 0) = ps[i] := by simp [hi]
    have ej : ps.getD j (0, 0) = ps[j] := by simp [hj]
    rw [ei, ej]
    rcases lt_tri ps[i] ps[j] with g | g | g
    · exact .inl (decide_eq_true g)
    · exact absurd ((List.getElem_inj hnd).mp g) hij
    · exact .inr (decide_eq_true g)
theorem valIx_range (vs : List Value) : valIx vs (List.range vs.length) = vs := by
  apply List.ext_getElem
  · simp [valIx]
  · intro i h1 h2
    simp [valIx, h2]
theorem list_sort_spots {a : Addr} {vs : List Value} {ps : List P} {n : Nat} {P' : PySem.Fin → Shared → Prop} (ho : s.heap.get? a = some (seqObj "list" vs.toArray n))
    (hS : Spots s.heap vs ps) (hnd : ps.Nodup) (h64 : vs.length < 64)
    (h : ∀ ix : List Nat, ix.Perm (List.range vs.length) → (atIx ps ix).Pairwise lt → P' (.done (.ret .none)) { s with heap := sortedHeap s.heap a vs (valIx vs ix).toArray }) :
    wpAny (model prog w) A (Builtin.«list.sort» ⟨[.ref a], []⟩) P' E s := by
  rw [list_sort_plain]
  have ha : a < s.heap.objs.size := Heap.lt_size ho
  refine wpAny_bind (listItems_at ho rfl ?_)
  refine wpAny_bind (listUpdate_at ho rfl ?_ (by rw [List.size_toArray, sizeLine_eq]; omega) (Nat.zero_le _))
  obtain ⟨e1, ho1⟩ : ∃ e1, (s.heap.update a (Obj.mapSeq fun _ => (#[] : Array Value))).get? a = some (seqObj "list" #[] e1) := ⟨_, get?_update_seq ho (fun _ => #[])⟩
  refine wpAny_bind (seqEpoch_at ho1 rfl ?_)
  refine wpAny_bind (wpAny_newTuple ?_ (by show vs.length ≤ _; rw [sizeLine_eq]; omega))
  refine wpAny_bind (wpAny_newList ?_ (Nat.zero_le _))
  refine wpAny_holding ?_
  have ho6 : (((s.heap.update a (Obj.mapSeq fun _ => (#[] : Array Value))).push (seqObj "tuple" vs.toArray 0)).push (seqObj "list" #[] 0)).get? a = some (seqObj "list" #[] e1) := by
    rw [Heap.get?_push_ne _ _ _ (by rw [size_push', Heap.size_update]; exact Nat.ne_of_lt (Nat.lt_succ_of_lt ha)), Heap.get?_push_ne _ _ _ (by rw [Heap.size_update]; exact Nat.ne_of_lt ha)]
    exact ho1
  have keep : ∀ b o, o.cls = .type "tuple" → s.heap.get? b = some o → (((s.heap.update a (Obj.mapSeq fun _ => (#[] : Array Value))).push (seqObj "tuple" vs.toArray 0)).push (seqObj "list" #[] 0)).get? b = some o := fun b o hc e => by
    have hne : b ≠ a := by
      rintro rfl
      rw [ho] at e; cases e
      have hc' : Value.type "list" = Value.type "tuple" := hc
      exact absurd hc' (by decide)
    refine Heap.get?_push_of_some _ (Heap.get?_push_of_some _ ?_)
    rw [Heap.get?_update_ne _ _ _ _ hne]; exact e
  have hS' := hS.kept keep
  show wpAny (model prog w) A _ P' E { s with heap := ((s.heap.update a (Obj.mapSeq fun _ => #[])).push (seqObj "tuple" vs.toArray 0)).push (seqObj "list" #[] 0) }
  dsimp only
  have hsz : vs.toArray.size = vs.length := by simp
  by_cases h2 : vs.toArray.size < 2
  · rw [if_pos h2, if_pos h2]
    refine wpAny_bind (wpAny_pure ?_)
    rw [StateT.run_pure]
    refine wpAny_bind (wpAny_pure ?_)
    dsimp only
    have hout : (arrOf (SortSt.mk' general' (vs.toArray.zip vs.toArray) #[] 7 none)).map (·.2) = (valIx vs (List.range vs.length)).toArray := by
      rw [valIx_range]
      show (vs.toArray.zip vs.toArray).map (·.2) = vs.toArray
      apply Array.ext_getElem?
      intro i
      rw [Array.getElem?_map]
      by_cases hi : i < vs.length
      · simp [hi]
      · simp [hi]
    rw [hout]
    refine wpAny_bind (seqEpoch_at ho6 rfl ?_)
    refine wpAny_bind (listUpdate_at ho6 rfl ?_ (Nat.zero_le _) (by rw [valIx_range, List.size_toArray, sizeLine_eq]; omega))
    simp only [bne_self_eq_false, Bool.false_eq_true, if_false]
    refine wpAny_pure (h (List.range vs.length) (List.Perm.refl _) ?_)
    have hp : (atIx ps (List.range vs.length)).length ≤ 1 := by unfold atIx; rw [List.length_map, List.length_range]; omega
    match atIx ps (List.range vs.length), hp with
    | [], _ => exact .nil
    | [_], _ => exact List.pairwise_singleton _ _
    | _ :: _ :: _, q => simp at q
  · rw [if_neg h2, if_neg h2]
    obtain ⟨fs, kt, lf, hf⟩ := hS'.firsts
    have hl := hS.length
    refine wpAny_bind (kat_kind (T := .type "int") kt (by omega) (fun v hv => ?_) (by rfl) ?_)
    · obtain ⟨i, t, rfl⟩ := hf v hv
      exact Looks.now
    have hb : (Value.type "int" != Value.type "tuple") = true := by decide
    rw [hb]
    refine wpAny_bind (wpAny_mono (kat_run (ks := vs) (vs := vs) (Q := fun st' s' => ∃ p : Array Nat, p.size = vs.length ∧ arrOf st' = p.map (kas_item (vs.toArray.zip vs.toArray)) ∧ failedOf st' = none ∧ s' = { s with heap := ((s.heap.update a (Obj.mapSeq fun _ => #[])).push (seqObj "tuple" vs.toArray 0)).push (seqObj "list" #[] 0) } ∧ Sm vs.length p ∧ (atIx ps p.toList).Pairwise lt)
      rfl (by omega) h64 (G := fun p s' => s' = { s with heap := ((s.heap.update a (Obj.mapSeq fun _ => #[])).push (seqObj "tuple" vs.toArray 0)).push (seqObj "list" #[] 0) } ∧ Sm vs.length p ∧ (atIx ps p.toList).Pairwise lt)
      (fun p' st' s' a1 a2 a3 a4 => ⟨p', a1, a2, a3, a4⟩) ?_) ?_ fun _ _ e => e)
    · refine kasWp_run (n := vs.length) (T := fun i j => ltb (ps.getD i (0, 0)) (ps.getD j (0, 0))) (fun i j C hi hj hC => spot_lt (hS'.get i hi) (hS'.get j hj) hC) _ (sort_ask (by omega)) fun R => ⟨rfl, R, ?_⟩
      have O := ord_of hnd
      rw [← hl] at O
      have so := (sort_ok O (by omega)).2
      have hps : (run (fun i j => ltb (ps.getD i (0, 0)) (ps.getD j (0, 0))) (kas_sort vs.length)).size = vs.length := by rw [R.size_eq]; simp
      rw [List.pairwise_iff_getElem]
      intro i j hi hj hij
      unfold atIx at hi hj ⊢
      rw [List.length_map, Array.length_toList] at hi hj
      have := so i j hij (by omega)
      have e : ∀ k (hk : k < (run (fun i j => ltb (ps.getD i (0, 0)) (ps.getD j (0, 0))) (kas_sort vs.length)).size), (run (fun i j => ltb (ps.getD i (0, 0)) (ps.getD j (0, 0))) (kas_sort vs.length)).getD k 0 = (run (fun i j => ltb (ps.getD i (0, 0)) (ps.getD j (0, 0))) (kas_sort vs.length))[k] := fun k hk => by simp only [Array.getD, hk, dif_pos]; rfl
      rw [e i hi, e j hj] at this
      rw [List.getElem_map, List.getElem_map, Array.getElem_toList, Array.getElem_toList]
      exact of_decide_eq_true this
    rintro ⟨⟨⟩, st'⟩ s' ⟨p, hp, har, hf', rfl, hsm, hpw⟩
    dsimp only
    have hout := kat_snds (ks := vs) (vs := vs) rfl har
    rw [hout]
    refine wpAny_bind (seqEpoch_at ho6 rfl ?_)
    refine wpAny_bind (listUpdate_at ho6 rfl ?_ (Nat.zero_le _) (by rw [List.size_toArray, List.length_map, Array.length_toList, hp, sizeLine_eq]; omega))
    rw [hf']
    simp only [bne_self_eq_false, Bool.false_eq_true, if_false]
    exact wpAny_pure (h p.toList (by simpa using hsm.toList) hpw)
end
end SortM
set_option linter.all false
set_option maxRecDepth 100000
set_option maxHeartbeats 4000000
namespace SetX
open PySem PySem.W PyProof.Rows Hull SortM SetM
section
variable {prog : Program} {w : World} {A : Around} {E : Value → Shared → Prop} {s : Shared}
def hashP (prog : Program) (w : World) (p : P) : Int := tupleKeyHash (intKind prog w) [p.1, p.2]
theorem tkey {h : Heap} {a : Addr} {p : P} (S : SpotAt h (.ref a) p) : IsTupleKey (intKind prog w) h [p.1, p.2] a := by
  obtain ⟨b, o, t, u, n, e, ho, hc, hd⟩ := S
  cases e
  exact ⟨o, _, n, ho, hc, hd, .cons (intKind_is _ _ _ _) (.cons (intKind_is _ _ _ _) .nil)⟩
theorem SpotAt.ref {h : Heap} {v : Value} {p : P} (S : SpotAt h v p) : ∃ a, v = .ref a := by
  obtain ⟨a, _, _, _, _, e, _⟩ := S; exact ⟨a, e⟩
theorem SpotAt.typeIs {v : Value} {p : P} (S : SpotAt s.heap v p) : s.TypeIs v "tuple" := by
  obtain ⟨a, o, _, _, _, rfl, ho, hc, _⟩ := S; exact ⟨o, ho, hc⟩
theorem spot_hash {v : Value} {p : P} {Q : Int → Shared → Prop} (hu : A.units < cLine) (S : SpotAt s.heap v p) (h : Q (hashP prog w p) { s with toks := s.toks + 3 }) : wpAny (model prog w) A (pyHash v) Q E s := by
  obtain ⟨a, rfl⟩ := SpotAt.ref S
  exact wpAny_pyHash_tuple hu (tkey S) h
theorem spot_eq {v u : Value} {p q : P} {Q : Bool → Shared → Prop} (hu : A.units < cLine) (S : SpotAt s.heap v p) (T : SpotAt s.heap u q) (h : Q (decide (p = q)) s) : wpAny (model prog w) A (eqBool v u) Q E s := by
  obtain ⟨a, rfl⟩ := SpotAt.ref S
  obtain ⟨b, rfl⟩ := SpotAt.ref T
  refine wpAny_eqBool_tuple hu (tkey S) (tkey T) ?_
  have : decide ([p.1, p.2] = [q.1, q.2]) = decide (p = q) := by
    refine decide_eq_decide.mpr ⟨fun e => ?_, fun e => by rw [e]⟩
    simp only [List.cons.injEq, and_true] at e
    exact Prod.ext e.1 e.2
  rw [this]; exact h
theorem spot_quiet {v : Value} {p : P} {Q : Bool → Shared → Prop} (S : SpotAt s.heap v p) (h : Q true s) : wpAny (model prog w) A (eqIsQuiet 8 v) Q E s := by
  obtain ⟨a, rfl⟩ := SpotAt.ref S
  exact wpAny_eqIsQuiet_tuple (tkey (prog := prog) (w := w) S) h
theorem spot_class {v : Value} {p : P} {Q : Bool → Shared → Prop} (S : SpotAt s.heap v p) (h : Q false s) : wpAny (model prog w) A (ofAClassStatement 8 v) Q E s := by
  have hT := SpotAt.typeIs S
  obtain ⟨a, o, t, u, n, rfl, ho, hc, hd⟩ := S
  unfold ofAClassStatement
  refine wpAny_bind (wpAny_typeOf hT ?_)
  dsimp only
  have e : (("tuple" : String) == "tuple") = true := by decide
  rw [if_pos e]
  refine wpAny_bind (wpAny_pure ?_)
  simp only [Bool.not_true, Bool.false_eq_true, if_false]
  refine wpAny_bind (wpAny_seqItems ho hd ?_)
  dsimp only
  refine wpAny_bind ?_
  rw [← Array.forIn_toList]
  refine wpAny_forIn_list _ (fun rest r s' => r.1 = none ∧ s' = s ∧ ∀ v ∈ rest, ∃ i t, v = .int i t) _ ?_ ?_ _ _ ⟨rfl, rfl, fun v hv => ?_⟩
  · rintro v rest r s' ⟨hr, rfl, hall⟩
    obtain ⟨i, t, rfl⟩ := hall v (.head _)
    refine wpAny_bind (wpAny_pure ?_)
    simp only [Bool.false_eq_true, if_false]
    exact wpAny_pure ⟨rfl, rfl, fun u hu' => hall u (List.mem_cons_of_mem _ hu')⟩
  · rintro ⟨r1, r2⟩ s' ⟨hr, rfl, _⟩
    simp only at hr
    subst hr
    exact wpAny_pure h
  · simp at hv
    rcases hv with rfl | rfl
    · exact ⟨_, _, rfl⟩
    · exact ⟨_, _, rfl⟩
theorem spot_byValue {v : Value} {p : P} {Q : Bool → Shared → Prop} (S : SpotAt s.heap v p) (h : Q true s) : wpAny (model prog w) A (hashByValue 8 v) Q E s := by
  have hT := SpotAt.typeIs S
  obtain ⟨a, o, t, u, n, rfl, ho, hc, hd⟩ := S
  unfold hashByValue
  refine wpAny_bind (wpAny_specialOf hT F.slot_tuple_hash.lookup ?_)
  dsimp only
  refine wpAny_bind (wpAny_seqItems ho hd ?_)
  dsimp only [Option.getD]
  refine wpAny_bind ?_
  rw [← Array.forIn_toList]
  refine wpAny_forIn_list _ (fun rest r s' => r.1 = none ∧ s' = s ∧ ∀ v ∈ rest, ∃ i t, v = .int i t) _ ?_ ?_ _ _ ⟨rfl, rfl, fun v hv => ?_⟩
  · rintro v rest r s' ⟨hr, rfl, hall⟩
    obtain ⟨i, t, rfl⟩ := hall v (.head _)
    refine wpAny_bind (wpAny_pure ?_)
    simp only [Bool.not_true, Bool.false_eq_true, if_false]
    exact wpAny_pure ⟨rfl, rfl, fun u hu' => hall u (List.mem_cons_of_mem _ hu')⟩
  · rintro ⟨r1, r2⟩ s' ⟨hr, rfl, _⟩
    simp only at hr
    subst hr
    exact wpAny_pure h
  · simp at hv
    rcases hv with rfl | rfl
    · exact ⟨_, _, rfl⟩
    · exact ⟨_, _, rfl⟩
theorem spot_unseen {v : Value} {p : P} {Q : Bool → Shared → Prop} (S : SpotAt s.heap v p) : ∀ {l : List Value}, (∀ y ∈ l, ∃ q, SpotAt s.heap y q) → Q false s → wpAny (model prog w) A (searchCouldBeSeen v l) Q E s := by
  intro l hl h
  unfold searchCouldBeSeen
  refine wpAny_bind ?_
  refine wpAny_forIn_list _ (fun rest r s' => r.1 = none ∧ s' = s ∧ ∀ v ∈ rest, ∃ q, SpotAt s.heap v q) _ ?_ ?_ _ _ ⟨rfl, rfl, hl⟩
  · rintro y rest r s' ⟨hr, rfl, hall⟩
    obtain ⟨q, T⟩ := hall y (.head _)
    obtain ⟨a, rfl⟩ := SpotAt.ref S
    obtain ⟨b, rfl⟩ := SpotAt.ref T
    dsimp only
    split
    · exact wpAny_pure ⟨rfl, rfl, fun u hu' => hall u (List.mem_cons_of_mem _ hu')⟩
    · refine wpAny_bind (spot_quiet S ?_)
      simp only [Bool.not_true, Bool.false_eq_true, if_false]
      refine wpAny_bind (spot_quiet T ?_)
      simp only [Bool.not_true, Bool.false_eq_true, if_false]
      refine wpAny_bind (spot_class S ?_)
      simp only [Bool.false_eq_true, if_false]
      refine wpAny_bind (spot_class T ?_)
      simp only [Bool.false_eq_true, if_false]
      exact wpAny_pure ⟨rfl, rfl, fun u hu' => hall u (List.mem_cons_of_mem _ hu')⟩
  · rintro ⟨r1, r2⟩ s' ⟨hr, rfl, _⟩
    simp only at hr
    subst hr
    exact wpAny_pure h
end
end SetX
set_option linter.all false
set_option maxRecDepth 100000
set_option maxHeartbeats 4000000
namespace SetX
open PySem PySem.W PyProof.Rows Hull SortM SetM
abbrev VP := Value × P
def ent (prog : Program) (w : World) (z : VP) : Int × Value := (hashP prog w z.2, z.1)
theorem perm_map_inv {α β : Type} {f : α → β} {l₁ l₂ : List β} (h : l₁.Perm l₂) : ∀ L : List α, l₂ = L.map f → ∃ L' : List α, L'.Perm L ∧ l₁ = L'.map f := by
  induction h with
  | nil =>
    intro L e
    exact ⟨L, .refl _, e⟩
  | cons x _ ih =>
    intro L e
    cases L with
    | nil => cases e
    | cons a L =>
      rw [List.map_cons] at e
      injection e with e1 e2
      obtain ⟨L', p, q⟩ := ih L e2
      exact ⟨a :: L', p.cons a, by rw [List.map_cons, e1, q]⟩
  | swap x y l =>
    intro L e
    match L, e with
    | a :: b :: L, e =>
      rw [List.map_cons, List.map_cons] at e
      injection e with e1 e2
      injection e2 with e2 e3
      exact ⟨b :: a :: L, List.Perm.swap a b L, by rw [List.map_cons, List.map_cons, e1, e2, e3]⟩
  | trans _ _ ih1 ih2 =>
    intro L e
    obtain ⟨L2, p2, q2⟩ := ih2 L e
    obtain ⟨L1, p1, q1⟩ := ih1 L2 q2
    exact ⟨L1, p1.trans p2, q1⟩
section
variable {prog : Program} {w : World} {A : Around} {E : Value → Shared → Prop} {s : Shared}
theorem search_ok {a : Addr} {o : Obj} {es : Array (Int × Value)} {ep : Nat} {t : SetTable} {Z : List (Nat × (Int × Value))} {L : List VP} {x : Value} {p : P} {Q : SetFound → Shared → Prop} {kf : Nat}
    (hu : A.units < cLine) (ho : s.heap.get? a = some o) (hd : o.data = .set es ep t) (T : TOk t es.toList Z) (he : es.toList = L.map (ent prog w)) (hL : ∀ z ∈ L, SpotAt s.heap z.1 z.2) (S : SpotAt s.heap x p)
    (k1 : kf < 10 * SetTable.turns t.mask) (k2 : ¬ Occ t (path t.mask (hashP prog w p) kf).j) (k3 : ∀ k', k' < kf → Occ t (path t.mask (hashP prog w p) k').j)
    (q1 : p ∈ L.map (·.2) → Q (.there none) s) (q2 : p ∉ L.map (·.2) → Q (.free (path t.mask (hashP prog w p) kf).j false) s) :
    ∀ (n k0 fuel : Nat) (stand : Option SetTable.Probe), kf - k0 = n → k0 ≤ kf → n < fuel → stand.getD (t.probeStart (hashP prog w p)) = path t.mask (hashP prog w p) k0 →
      (∀ k, k < k0 → ∀ (i : Nat) z l, Z[i]? = some z → z.1 = (path t.mask (hashP prog w p) k).j → L[i]? = some l → l.2 ≠ p) →
      wpAny (model prog w) A (setSearchFrom a x (hashP prog w p) true fuel stand) Q E s := by
  have hZL : Z.map (·.2) = L.map (ent prog w) := T.el.symm.trans he
  have hlen : Z.length = L.length := by have := congrArg List.length hZL; simpa using this
  have hsz : es.size = Z.length := by have := congrArg List.length T.el; simpa using this
  have hfits : t.fits es.size = true := by
    have h1 : t.place.size = Z.length := by have := congrArg List.length T.pl; simpa using this
    have h2 : t.fill = Z.length := by unfold SetTable.fill; rw [T.dum, h1]; simp
    unfold SetTable.fits
    rw [h1, hsz, h2]
    simpa using T.room
  have hodd : t.gaveWay = false := by
    unfold SetTable.gaveWay
    rcases T.hm with e | e <;> rw [e] <;> decide
  have zl : ∀ (i : Nat) (z : Nat × (Int × Value)), Z[i]? = some z → ∃ l, L[i]? = some l ∧ l ∈ L ∧ z.2 = ent prog w l := fun i z hz => by
    have hi : i < L.length := by rw [← hlen]; exact (List.getElem?_eq_some_iff.mp hz).1
    have e := congrArg (fun l => l[i]?) hZL
    simp only [List.getElem?_map, hz, List.getElem?_eq_getElem hi, Option.map_some] at e
    exact ⟨L[i], by simp [hi], List.getElem_mem hi, Option.some.inj e⟩
  intro n
  induction n using Nat.strongRecOn with
  | _ n ih =>
    intro k0 fuel stand hn hk hf hst hnp
    obtain ⟨fuel, rfl⟩ : ∃ f, fuel = f + 1 := ⟨fuel - 1, by omega⟩
    obtain ⟨m, hm1, ⟨hm2, hm3⟩, hm4⟩ := least (p := fun k => k0 ≤ k ∧ (k = kf ∨ ∃ (i : Nat) (z : Nat × (Int × Value)), Z[i]? = some z ∧ z.1 = (path t.mask (hashP prog w p) k).j ∧ z.2.1 = hashP prog w p)) (kf + 1) ⟨kf, by omega, hk, .inl rfl⟩
    have skip : ∀ k, k0 ≤ k → k < m → ∃ (i : Nat) (z : Nat × (Int × Value)), Z[i]? = some z ∧ z.1 = (path t.mask (hashP prog w p) k).j ∧ z.2.1 ≠ hashP prog w p := fun k a1 a2 => by
      obtain ⟨i, z, h1, h2⟩ := T.ix (k3 k (by omega))
      exact ⟨i, z, h1, h2, fun e => hm4 k a2 ⟨a1, .inr ⟨i, z, h1, h2, e⟩⟩⟩
    have zinj : ∀ (i i' : Nat) (z z' : Nat × (Int × Value)), Z[i]? = some z → Z[i']? = some z' → z.1 = z'.1 → i = i' := fun i i' z z' h1 h2 e => by
      have r := T.rise
      have g1 : (Z.map (·.1))[i]? = some z.1 := by rw [List.getElem?_map, h1]; rfl
      have g2 : (Z.map (·.1))[i']? = some z'.1 := by rw [List.getElem?_map, h2]; rfl
      rw [← e] at g2
      obtain ⟨b1, c1⟩ := List.getElem?_eq_some_iff.mp g1
      obtain ⟨b2, c2⟩ := List.getElem?_eq_some_iff.mp g2
      rcases Nat.lt_trichotomy i i' with g | g | g
      · have := List.pairwise_iff_getElem.mp r i i' b1 b2 g; omega
      · exact g
      · have := List.pairwise_iff_getElem.mp r i' i b2 b1 g; omega
    have hnp' : ∀ k, k < m → ∀ (i : Nat) z l, Z[i]? = some z → z.1 = (path t.mask (hashP prog w p) k).j → L[i]? = some l → l.2 ≠ p := fun k hkm i z l h1 h2 h3 => by
      rcases Nat.lt_or_ge k k0 with g | g
      · exact hnp k g i z l h1 h2 h3
      · obtain ⟨i', z', g1, g2, g3⟩ := skip k g hkm
        have := zinj i i' z z' h1 g1 (by rw [h2, g2])
        subst this
        rw [h1] at g1; cases g1
        obtain ⟨l', e1, _, e2⟩ := zl i z h1
        rw [h3] at e1; cases e1
        intro e
        apply g3
        rw [e2, ← e]; rfl
    unfold setSearchFrom
    refine wpAny_bind (wpAny_setState_of ho hd hfits ?_)
    dsimp only
    rw [hodd]
    simp only [Bool.false_eq_true, if_false]
    rw [hst]
    have hpg := T.probe_go (fun i => (es[i]?.map (·.1)).getD 0) (hashP prog w p) (10 * SetTable.turns t.mask) k0 m hm2 (by omega) (fun k a1 a2 => by
      obtain ⟨i, z, h1, h2, h3⟩ := skip k a1 a2
      refine ⟨i, by rw [← h2]; exact (T.get h1).1, ?_⟩
      have : es[i]? = some z.2 := by have := (T.get h1).2; simpa using this
      show (es[i]?.map (·.1)).getD 0 ≠ _
      rw [this]; exact h3)
    rcases Nat.lt_or_ge m kf with hmk | hmk
    · -- a candidate
      obtain ⟨i, z, h1, h2, h3⟩ := hm3.resolve_left (by omega)
      obtain ⟨l, l1, l2, l3⟩ := zl i z h1
      have hes : es[i]? = some z.2 := by have := (T.get h1).2; simpa using this
      have hpl : t.place[i]? = some (path t.mask (hashP prog w p) m).j := by rw [← h2]; exact (T.get h1).1
      have hc := hpg.2 i hpl (by show (es[i]?.map (·.1)).getD 0 = _; rw [hes]; exact h3)
      generalize hX : SetTable.probe t _ (hashP prog w p) (path t.mask (hashP prog w p) k0) = X
      obtain rfl : X = some (.candidate (path t.mask (hashP prog w p) m).j i (path t.mask (hashP prog w p) (m + 1))) := hX.symm.trans hc
      dsimp only
      by_cases hled : (!t.led) = true
      · rw [if_pos hled]
        refine wpAny_bind (spot_unseen S (fun y hy => ?_) ?_)
        · obtain ⟨e, he', rfl⟩ := List.mem_map.mp hy
          have hme : e ∈ es.toList := by
            have : e ∈ Array.filter (fun x => x.fst == hashP prog w p) es := by simpa using he'
            exact Array.mem_toList_iff.mpr (Array.mem_filter.mp this).1
          rw [he] at hme
          obtain ⟨q, hq, rfl⟩ := List.mem_map.mp hme
          exact ⟨q.2, hL q hq⟩
        simp only [Bool.false_eq_true, if_false]
        rw [hes, l3]
        dsimp only [ent]
        refine wpAny_bind (wpAny_holding (spot_eq hu (hL l l2) S ?_))
        refine wpAny_bind (wpAny_setState_of ho hd hfits ?_)
        dsimp only
        by_cases hq : l.2 = p
        · rw [decide_eq_true hq]
          simp only [Bool.and_self, if_true]
          exact wpAny_pure (q1 (List.mem_map.mpr ⟨l, l2, hq⟩))
        · rw [decide_eq_false hq]
          simp only [Bool.and_false, Bool.false_eq_true, if_false]
          have hsm : t.sameMemory t.moves t.mask = some true := by unfold SetTable.sameMemory; simp
          have hes' : es[i]? = some (ent prog w l) := by rw [hes, l3]
          obtain ⟨b, hb⟩ := SpotAt.ref (hL l l2)
          rw [hsm]
          dsimp only
          rw [if_pos rfl, slot_live T.rise' hpl]
          dsimp only
          rw [hes']
          dsimp only [ent]
          rw [hb]
          refine wpAny_bind (wpAny_isSame_ref_self ?_)
          refine wpAny_bind (wpAny_pure ?_)
          rw [if_pos rfl]
          dsimp only
          refine ih (kf - (m + 1)) (by omega) (m + 1) fuel (some (path t.mask (hashP prog w p) (m + 1))) rfl (by omega) (by omega) rfl fun k hk' => ?_
          rcases Nat.lt_or_ge k m with g | g
          · exact hnp' k g
          · have e : k = m := by omega
            subst e
            intro i' z' l' e1 e2 e3
            have := zinj i i' z z' h1 e1 (by rw [h2, e2])
            subst this
            rw [l1] at e3; cases e3
            exact hq
      · rw [if_neg hled]
        rw [hes, l3]
        dsimp only [ent]
        refine wpAny_bind (wpAny_holding (spot_eq hu (hL l l2) S ?_))
        refine wpAny_bind (wpAny_setState_of ho hd hfits ?_)
        dsimp only
        by_cases hq : l.2 = p
        · rw [decide_eq_true hq]
          simp only [Bool.and_self, if_true]
          exact wpAny_pure (q1 (List.mem_map.mpr ⟨l, l2, hq⟩))
        · rw [decide_eq_false hq]
          simp only [Bool.and_false, Bool.false_eq_true, if_false]
          have hsm : t.sameMemory t.moves t.mask = some true := by unfold SetTable.sameMemory; simp
          have hes' : es[i]? = some (ent prog w l) := by rw [hes, l3]
          obtain ⟨b, hb⟩ := SpotAt.ref (hL l l2)
          rw [hsm]
          dsimp only
          rw [if_pos rfl, slot_live T.rise' hpl]
          dsimp only
          rw [hes']
          dsimp only [ent]
          rw [hb]
          refine wpAny_bind (wpAny_isSame_ref_self ?_)
          refine wpAny_bind (wpAny_pure ?_)
          rw [if_pos rfl]
          dsimp only
          refine ih (kf - (m + 1)) (by omega) (m + 1) fuel (some (path t.mask (hashP prog w p) (m + 1))) rfl (by omega) (by omega) rfl fun k hk' => ?_
          rcases Nat.lt_or_ge k m with g | g
          · exact hnp' k g
          · have e : k = m := by omega
            subst e
            intro i' z' l' e1 e2 e3
            have := zinj i i' z z' h1 e1 (by rw [h2, e2])
            subst this
            rw [l1] at e3; cases e3
            exact hq
    · have e : m = kf := by omega
      subst e
      have hc := hpg.1 k2
      generalize hX : SetTable.probe t _ (hashP prog w p) (path t.mask (hashP prog w p) k0) = X
      obtain rfl : X = some (.empty (path t.mask (hashP prog w p) m).j none) := hX.symm.trans hc
      dsimp only
      refine wpAny_pure (q2 fun hm => ?_)
      obtain ⟨l, hl, rfl⟩ := List.mem_map.mp hm
      obtain ⟨i, hi⟩ := List.mem_iff_getElem?.mp hl
      have hiZ : i < Z.length := by rw [hlen]; exact (List.getElem?_eq_some_iff.mp hi).1
      have hz : Z[i]? = some Z[i] := by simp [hiZ]
      obtain ⟨l', e1, _, e2⟩ := zl i _ hz
      rw [hi] at e1; cases e1
      obtain ⟨k, r1, r2, r3⟩ := T.reach Z[i] (List.getElem_mem hiZ)
      rw [e2] at r2 r3
      have hocc : Occ t (path t.mask (hashP prog w l.2) k).j := T.occ.mpr ⟨Z[i], List.getElem_mem hiZ, r2.symm⟩
      rcases Nat.lt_trichotomy k m with g | g | g
      · exact hnp' k g i _ l hz r2.symm hi rfl
      · subst g; exact k2 hocc
      · exact k2 (r3 m g)
end
end SetX
set_option linter.all false
set_option maxRecDepth 100000
set_option maxHeartbeats 4000000
namespace SetX
open PySem PySem.W PyProof.Rows Hull SortM SetM
def led (w : World) : Bool := !(w.params.followText "set-order")
def setObj (es : Array (Int × Value)) (ep : Nat) (t : SetTable) : Obj := { cls := .type "set", dict := none, data := .set es ep t }
structure SBody (prog : Program) (w : World) (h : Heap) (es : Array (Int × Value)) (t : SetTable) (L : List VP) : Prop where
  el : es.toList = L.map (ent prog w)
  tok : ∃ Z, TOk t es.toList Z
  pln : t.plain = true
  ld : t.led = led w
  sp : ∀ z ∈ L, SpotAt h z.1 z.2
  nd : (L.map (·.2)).Nodup
  few : t.mask = 7 → L.length ≤ 4
def SSet (prog : Program) (w : World) (h : Heap) (a : Addr) (L : List VP) : Prop := ∃ es ep t, h.get? a = some (setObj es ep t) ∧ SBody prog w h es t L
section
variable {prog : Program} {w : World} {A : Around} {E : Value → Shared → Prop} {s : Shared}
theorem SBody.size {h : Heap} {es : Array (Int × Value)} {t : SetTable} {L : List VP} (B : SBody prog w h es t L) : es.size = L.length := by
  have := congrArg List.length B.el; simpa using this
theorem SBody.fill {h : Heap} {es : Array (Int × Value)} {t : SetTable} {L : List VP} (B : SBody prog w h es t L) : t.fill = L.length ∧ t.place.size = L.length := by
  obtain ⟨Z, T⟩ := B.tok
  have h1 : t.place.size = Z.length := by have := congrArg List.length T.pl; simpa using this
  have h3 : es.size = Z.length := by have := congrArg List.length T.el; simpa using this
  have h2 : t.fill = Z.length := by unfold SetTable.fill; rw [T.dum, h1]; simp
  rw [← B.size, h2, h1, h3]; exact ⟨rfl, rfl⟩
theorem SBody.fits {h : Heap} {es : Array (Int × Value)} {t : SetTable} {L : List VP} (B : SBody prog w h es t L) : t.fits es.size = true := by
  obtain ⟨Z, T⟩ := B.tok
  have h3 : es.size = Z.length := by have := congrArg List.length T.el; simpa using this
  obtain ⟨f1, f2⟩ := B.fill
  have := T.room
  unfold SetTable.fits
  rw [f1, f2, B.size]
  rw [B.size] at h3
  simp; omega
theorem SBody.kept {h h' : Heap} {es : Array (Int × Value)} {t : SetTable} {L : List VP} (k : ∀ a o, o.cls = .type "tuple" → h.get? a = some o → h'.get? a = some o) (B : SBody prog w h es t L) : SBody prog w h' es t L :=
  ⟨B.el, B.tok, B.pln, B.ld, fun z hz => (B.sp z hz).kept k, B.nd, B.few⟩
theorem SSet.kept {h h' : Heap} {a : Addr} {L : List VP} (k : ∀ b o, (o.cls = .type "tuple" ∨ b = a) → h.get? b = some o → h'.get? b = some o) (S : SSet prog w h a L) : SSet prog w h' a L := by
  obtain ⟨es, ep, t, ho, B⟩ := S
  exact ⟨es, ep, t, k a _ (.inr rfl) ho, B.kept fun b o hc e => k b o (.inl hc) e⟩
theorem setObj_tuple {h : Heap} {a b : Addr} {es : Array (Int × Value)} {ep : Nat} {t : SetTable} {o : Obj} (ho : h.get? a = some (setObj es ep t)) (hc : o.cls = .type "tuple") (hb : h.get? b = some o) : b ≠ a := by
  rintro rfl
  rw [ho] at hb; cases hb
  have hc' : Value.type "set" = Value.type "tuple" := hc
  exact absurd hc' (by decide)
theorem stored {h : Heap} {a : Addr} {es : Array (Int × Value)} {ep : Nat} {t : SetTable} (ho : h.get? a = some (setObj es ep t)) (es' : Array (Int × Value)) (t' : SetTable) :
    (h.update a (Obj.putSet es' t')).get? a = some (setObj es' (ep + 1) t') := by
  have := Heap.get?_update_self (Obj.putSet es' t') ho (by rw [putSet_of es' t' rfl]; rfl)
  rw [putSet_of es' t' rfl] at this; exact this
theorem relay_ok {a : Addr} {es : Array (Int × Value)} {ep : Nat} {t : SetTable} {L : List VP} {n : Nat} {Q : Unit → Shared → Prop} (ho : s.heap.get? a = some (setObj es ep t)) (hf : t.fits es.size = true)
    (el : es.toList = L.map (ent prog w)) (hs : SetTable.sizeAbove n = 32) (hl : L.length ≤ 31) (pln : t.plain = true) (ld : t.led = led w) (sp : ∀ z ∈ L, SpotAt s.heap z.1 z.2) (nd : (L.map (·.2)).Nodup)
    (q : ∀ h' L', Heap.SameBut a s.heap h' → SSet prog w h' a L' → L'.Perm L → Q () { s with heap := h' }) :
    wpAny (model prog w) A (setRelay a n) Q E s := by
  have hsz : es.size = L.length := by have := congrArg List.length el; simpa using this
  obtain ⟨t', order, e1, e2, e3, e4, Z, T, pm⟩ := laid_ok (mask := 31) (.inr rfl) t.finger (t.movedTo 31) t.led t.plain es (by omega)
  obtain ⟨L', p1, p2⟩ := perm_map_inv pm L el
  have hs2 : (order.filterMap (es[·]?)).size = es.size := by rw [← Array.length_toList, pm.length_eq, Array.length_toList]
  unfold setRelay
  refine wpAny_bind (wpAny_setState_of ho rfl hf ?_)
  dsimp only
  rw [hs]
  rw [if_neg (by rw [sizeLine_eq]; omega)]
  have hr : t.relaid (es.map (·.1)) n = some (t', order) := by unfold SetTable.relaid; rw [hs]; exact e1
  rw [hr]
  refine wpAny_bind ?_
  show wpAny _ _ (@ite _ _ _ _ _) _ _ _
  rw [if_neg (by rw [hs2]; simp)]
  refine wpAny_pure ?_
  dsimp only
  refine wpAny_storeSet_of ho rfl ?_ (by rw [hs2, hsz, sizeLine_eq]; omega)
  have sb := Heap.SameBut.update s.heap a (Obj.putSet (order.filterMap (es[·]?)) t')
  refine q _ L' sb ⟨_, _, t', stored ho _ _, ?_⟩ p1
  refine ⟨p2, ⟨Z, T⟩, by rw [e3]; exact pln, by rw [e2]; exact ld, fun z hz => ?_, (p1.map _).nodup_iff.mpr nd, fun e => by rw [e4] at e; cases e⟩
  exact (sp z (p1.mem_iff.mp hz)).kept fun b o hc e => (sb.2 b (setObj_tuple ho hc e)).trans e
theorem add_ok {a : Addr} {L : List VP} {x : Value} {p : P} {Q : Bool → Shared → Prop} (hu : A.units < cLine) (h : SSet prog w s.heap a L) (S : SpotAt s.heap x p) (hn : L.length < 12)
    (q : ∀ b h' L', Heap.SameBut a s.heap h' → SSet prog w h' a L' → (∀ r, r ∈ L'.map (·.2) ↔ r ∈ L.map (·.2) ∨ r = p) → L'.length ≤ L.length + 1 → (∀ z ∈ L', z ∈ L ∨ z = (x, p)) → Q b { s with heap := h' }) :
    wpAny (model prog w) A (setAddHashed a x (hashP prog w p)) Q E s := by
  obtain ⟨es, ep, t, ho, B⟩ := h
  obtain ⟨Z, T⟩ := B.tok
  have hf := B.fits
  have hsz := B.size
  have hZ : Z.length = L.length := by have := congrArg List.length T.el; rw [Array.length_toList, List.length_map, hsz] at this; exact this.symm
  obtain ⟨kf, k1, k2, k3⟩ := T.free (hashP prog w p)
  have hb : byScan x es = false := by
    obtain ⟨b, rfl⟩ := SpotAt.ref S
    simp [byScan, Value.scannable]
  unfold setAddHashed setAddHashedIn
  refine wpAny_holding ?_
  refine wpAny_bind (wpAny_setState_of ho rfl hf ?_)
  dsimp only
  rw [hb]
  simp only [Bool.false_eq_true, if_false]
  unfold setSearch
  refine wpAny_bind (search_ok hu ho rfl T B.el B.sp S k1 k2 k3 (fun hm => ?_) (fun hm => ?_) kf 0 100000 none rfl (Nat.zero_le _) ?_ rfl fun k hk => absurd hk (Nat.not_lt_zero _))
  · refine wpAny_pure (q _ s.heap L (Heap.SameBut.refl a s.heap) ⟨es, ep, t, ho, B⟩ (fun r => ⟨.inl, fun e => e.elim id fun e => e ▸ hm⟩) (Nat.le_succ _) fun z hz => .inl hz)
  · dsimp only
    refine wpAny_bind (wpAny_setState_of ho rfl hf ?_)
    dsimp only
    obtain ⟨Z', T', hZ'⟩ := T.put (x := x) k1 k2 k3 (by rcases T.hm with e | e; (have := B.few e; omega); omega) true
    generalize (path t.mask (hashP prog w p) kf).j = j at *
    have hpl : (t.put j).1.plain = true := B.pln
    have heta : ({ (t.put j).1 with plain := true } : SetTable) = (t.put j).1 := by
      have : (t.put j).1.plain = true := B.pln
      generalize (t.put j).1 = u at *
      cases u; simp_all
    rw [heta] at T'
    have hins := insertAt_list es (t.put j).2 (hashP prog w p, x)
    rw [hpl]
    simp only [if_true]
    refine wpAny_bind (spot_byValue S ?_)
    simp only [if_true]
    generalize hL1 : L.take (t.put j).2 ++ (x, p) :: L.drop (t.put j).2 = L1
    have hel : (SetTable.insertAt es (t.put j).2 (hashP prog w p, x)).toList = L1.map (ent prog w) := by
      rw [hins, B.el, ← hL1]; simp [List.map_take, List.map_drop, ent]
    have hpm : L1.Perm ((x, p) :: L) := by
      rw [← hL1]
      refine List.perm_middle.trans ?_
      rw [List.take_append_drop]
    have hl1 : L1.length = L.length + 1 := by rw [hpm.length_eq]; rfl
    have hz1 : (SetTable.insertAt es (t.put j).2 (hashP prog w p, x)).size = L.length + 1 := by rw [← Array.length_toList, hel, List.length_map, hl1]
    refine wpAny_bind (wpAny_storeSet_of ho rfl ?_ (by rw [hz1, sizeLine_eq]; omega))
    have sb := Heap.SameBut.update s.heap a (Obj.putSet (SetTable.insertAt es (t.put j).2 (hashP prog w p, x)) (t.put j).1)
    have ho1 := stored ho (SetTable.insertAt es (t.put j).2 (hashP prog w p, x)) (t.put j).1
    have kp : ∀ b o, o.cls = .type "tuple" → s.heap.get? b = some o → (s.heap.update a (Obj.putSet (SetTable.insertAt es (t.put j).2 (hashP prog w p, x)) (t.put j).1)).get? b = some o := fun b o hc e => (sb.2 b (setObj_tuple ho hc e)).trans e
    have hsp : ∀ z ∈ L1, SpotAt (s.heap.update a (Obj.putSet (SetTable.insertAt es (t.put j).2 (hashP prog w p, x)) (t.put j).1)) z.1 z.2 := fun z hz => by
      rcases List.mem_cons.mp (hpm.mem_iff.mp hz) with rfl | hz
      · exact S.kept kp
      · exact (B.sp z hz).kept kp
    have hnd : (L1.map (·.2)).Nodup := by
      rw [(hpm.map _).nodup_iff]
      exact List.nodup_cons.mpr ⟨hm, B.nd⟩
    have hmem : ∀ L2 : List VP, L2.Perm L1 → ∀ r, r ∈ L2.map (·.2) ↔ r ∈ L.map (·.2) ∨ r = p := fun L2 p2 r => by
      rw [((p2.trans hpm).map (·.2)).mem_iff, List.map_cons, List.mem_cons]
      exact Or.comm
    have hent : ∀ L2 : List VP, L2.Perm L1 → ∀ z ∈ L2, z ∈ L ∨ z = (x, p) := fun L2 p2 z hz => by
      rcases List.mem_cons.mp ((p2.trans hpm).mem_iff.mp hz) with e | e
      · exact .inr e
      · exact .inl e
    have hfill : (t.put j).1.fill = L.length + 1 := by
      have h1 : (t.put j).1.place.size = Z'.length := by have := congrArg List.length T'.pl; simpa using this
      unfold SetTable.fill; rw [T'.dum, h1, hZ', hZ]; simp
    have hmask : (t.put j).1.mask = t.mask := rfl
    have hfit1 : (t.put j).1.fits (SetTable.insertAt es (t.put j).2 (hashP prog w p, x)).size = true := by
      have h1 : (t.put j).1.place.size = Z'.length := by have := congrArg List.length T'.pl; simpa using this
      unfold SetTable.fits
      rw [hz1, h1, hfill, hZ', hZ]
      have := T'.room
      simp; omega
    by_cases hfull : (!false && (t.put j).1.tooFull) = true
    · rw [if_pos hfull]
      have h35 : (t.put j).1.fill * 5 ≥ (t.put j).1.mask * 3 := by
        have : (t.put j).1.tooFull = true := by simpa using hfull
        unfold SetTable.tooFull at this
        exact of_decide_eq_true this
      rw [hfill, hmask] at h35
      have h7 : L.length = 4 := by
        rcases T.hm with e | e
        · have := B.few e; omega
        · omega
      refine wpAny_bind (relay_ok (s := { s with heap := s.heap.update a (Obj.putSet (SetTable.insertAt es (t.put j).2 (hashP prog w p, x)) (t.put j).1) }) ho1 hfit1 hel (by rw [hsz, h7]; decide) (by omega) hpl B.ld hsp hnd fun h' L2 sb2 S2 p2 => ?_)
      exact wpAny_pure (q _ h' L2 (sb.trans sb2) S2 (hmem L2 p2) (by rw [p2.length_eq, hl1]; exact Nat.le_refl _) (hent L2 p2))
    · rw [if_neg hfull]
      refine wpAny_pure (q _ _ L1 sb ⟨_, _, _, ho1, ⟨hel, ⟨Z', ?_⟩, hpl, B.ld, hsp, hnd, fun e => ?_⟩⟩ (hmem L1 (.refl _)) (Nat.le_of_eq hl1) (hent L1 (.refl _)))
      · rw [hins]; exact T'
      · have : (t.put j).1.tooFull = false := by simpa using hfull
        unfold SetTable.tooFull at this
        have := of_decide_eq_false this
        rw [hfill] at this
        omega
  · rcases T.hm with e | e <;> rw [e] at k1 <;> unfold SetTable.turns at k1 <;> omega
end
end SetX
set_option linter.all false
set_option maxRecDepth 100000
set_option maxHeartbeats 8000000
namespace SetX
open PySem PySem.W PyProof.Rows Hull SortM SetM
section
variable {prog : Program} {w : World} {A : Around} {R : Result → Shared → Prop} {I : Addr} {fp wr : List Addr} {G : Array GenState → Array GenState → Prop} {n : Nat} {Pv : Nat → Value → Prop} {St : Nat → Shared → Prop}
theorem fill_ok (W : WalksS prog w A.in1 I fp wr G n Pv St) (S : Addr) (hSf : S ∉ fp) (hu : A.in1.units < cLine) (hn : n ≤ 12) (ps : Nat → P)
    (hw : ∀ i (s : Shared) b o, St i s → b ∈ wr → s.heap.get? b = some o → o.cls ≠ .type "tuple") :
    ∀ (k i : Nat) (s : Shared) (L : List VP), n - i = k → i ≤ n → St i s → SSet prog w s.heap S L → L.length ≤ i → (∀ j v, Pv j v → SpotAt s.heap v (ps j)) →
      (∀ s' L', Moved (S :: wr) G s s' → SSet prog w s'.heap S L' → (∀ r, r ∈ L'.map (·.2) ↔ r ∈ L.map (·.2) ∨ ∃ j, i ≤ j ∧ j < n ∧ r = ps j) → L'.length ≤ n → (∀ z ∈ L', z ∈ L ∨ ∃ j v, Pv j v ∧ z = (v, ps j)) → R (.ok (.ret .none)) s') →
      codeAny (model prog w) A (.builtin "set.update.loop" ⟨[.ref S, .ref I], []⟩) R s := by
  have hSw : S ∉ wr := fun h => hSf (W.sub _ h)
  have hsub : ∀ b ∈ wr, b ∈ S :: wr := fun b hb => List.mem_cons_of_mem _ hb
  have keepT : ∀ i (s s' : Shared), St i s → Moved wr G s s' → ∀ b o, o.cls = .type "tuple" → s.heap.get? b = some o → s'.heap.get? b = some o := fun i s s' hst hm b o hc e =>
    hm.heap b o (fun hb => hw i s b o hst hb e hc) e
  intro k
  induction k with
  | zero =>
    intro i s L hk hi hst hS hl hp hR
    have hin : i = n := by omega
    subst hin
    refine codeAny_builtin PyProof.Rows.F.entry_set_update_loop ?_
    rw [Around.under_plainId PyProof.Rows.F.plain_set_update_loop _]
    show wpAny _ A.in1 (pyNext (.ref I) >>= _) _ _ s
    refine wpAny_bind (W.done s _ _ hst fun s' hm => ?_)
    show wpAny _ A.in1 (ret Value.none) _ _ s'
    refine wpAny_pure (hR s' L (hm.mono hsub) (hS.kept fun b o hb e => ?_) (fun r => ⟨.inl, fun h => h.elim id fun ⟨j, a, b, _⟩ => by omega⟩) hl fun z hz => .inl hz)
    rcases hb with hc | rfl
    · exact keepT _ s s' hst hm b o hc e
    · exact hm.heap b o hSw e
  | succ k ih =>
    intro i s L hk hi hst hS hl hp hR
    have hlt : i < n := by omega
    refine codeAny_builtin PyProof.Rows.F.entry_set_update_loop ?_
    rw [Around.under_plainId PyProof.Rows.F.plain_set_update_loop _]
    show wpAny _ A.in1 (pyNext (.ref I) >>= _) _ _ s
    refine wpAny_bind (W.item i s _ _ hlt hst fun v s' hP hst' hm => ?_)
    have kT := keepT _ s s' hst hm
    have hS' : SSet prog w s'.heap S L := hS.kept fun b o hb e => by
      rcases hb with hc | rfl
      · exact kT b o hc e
      · exact hm.heap b o hSw e
    have hp' : ∀ j v, Pv j v → SpotAt s'.heap v (ps j) := fun j v h => (hp j v h).kept kT
    show wpAny _ A.in1 (holding [v] (setAdd S v) >>= _) _ _ s'
    refine wpAny_bind (wpAny_holding ?_)
    unfold setAdd
    refine wpAny_holding ?_
    refine wpAny_bind (spot_hash hu (hp' i v hP) ?_)
    refine add_ok (s := { s' with toks := s'.toks + 3 }) hu hS' (hp' i v hP) (by omega) fun _ h' L' sb hS2 hmem hlen hent => ?_
    obtain ⟨es, ep, t, ho, B⟩ := hS'
    have kT2 : ∀ b o, o.cls = .type "tuple" → s'.heap.get? b = some o → h'.get? b = some o := fun b o hc e => (sb.2 b (setObj_tuple ho hc e)).trans e
    refine wpAny_pure ⟨plainId_quiet PyProof.Rows.F.plain_set_update_loop _, ih (i + 1) _ L' (by omega) hlt (W.frame _ s' _ _ hst' (Nat.le_add_right _ _) fun b hb o e => ?_) hS2 (by omega) (fun j v h => (hp' j v h).kept kT2) fun s'' L'' hm'' hS'' hmem'' hl'' hent'' => ?_⟩
    · rw [sb.2 b (fun h : b = S => hSf (by rw [← h]; exact hb))]; exact e
    · refine hR s'' L'' (Moved.trans W.gtrans ((hm.mono hsub).then_heap (Nat.le_add_right _ _) fun b o hb e => ?_) hm'') hS'' (fun r => ?_) hl'' fun z hz => ?_
      · rw [sb.2 b (fun h : b = S => hb (by rw [h]; exact List.mem_cons_self))]; exact e
      · rw [hmem'' r, hmem r]
        constructor
        · rintro ((h | h) | ⟨j, a, b, c⟩)
          · exact .inl h
          · exact .inr ⟨i, Nat.le_refl _, hlt, h⟩
          · exact .inr ⟨j, by omega, b, c⟩
        · rintro (h | ⟨j, a, b, c⟩)
          · exact .inl (.inl h)
          · rcases Nat.eq_or_lt_of_le a with e | e
            · subst e; exact .inl (.inr c)
            · exact .inr ⟨j, e, b, c⟩
      · rcases hent'' z hz with g | g
        · rcases hent z g with g | g
          · exact .inl g
          · exact .inr ⟨i, v, hP, g⟩
        · exact .inr g
end
section
variable {prog : Program} {w : World} {A : Around} {E : Value → Shared → Prop} {s : Shared}
def emptySet (w : World) : Obj := { cls := .type "set", dict := none, data := .set #[] 0 (.fresh 0 0 (led w)) }
theorem set_new {a : Value} {Q₁ : Value → Shared → Prop}
    (h : Q₁ (.ref s.heap.objs.size) { s with heap := s.heap.push (emptySet w) }) :
    codeAny (model prog w) A (.call (.builtin "set.__new__") ⟨[.type "set", a], []⟩) (wants Q₁ E) s := by
  refine codeAny_of_tree ?_
  show wpAny _ A.in1 (do checkBuiltinCall "set.__new__" ⟨[.type "set", a], []⟩; again (.builtin "set.__new__" ⟨[.type "set", a], []⟩)) _ _ s
  refine wpAny_bind (wpAny_of_eq (F.newCall_set_1 a) (wpAny_pure ⟨plainId_quiet F.plain_set_new _, codeAny_builtin F.entry_set_new ?_⟩))
  rw [Around.under_plainId F.plain_set_new _]
  unfold Builtin.«set.__new__» Builtin.Frozenset.newClass
  have hsub := sub_set_self
  obtain ⟨hp, g, d, tk, os⟩ := s
  dsimp only
  wp_walk
  refine wpAny_askSetting (wpAny_pure ?_)
  dsimp only
  simp only [newObj]
  refine wpAny_bind (wpAny_alloc (wpAny_pure ?_))
  exact wpAny_pure h
end
end SetX
set_option linter.all false
set_option maxRecDepth 100000
set_option maxHeartbeats 8000000
namespace SetX
open PySem PySem.W PyProof.Rows Hull SortM SetM
section
variable {prog : Program} {w : World} {A : Around} {E : Value → Shared → Prop} {s : Shared}
theorem sset_empty (h : Heap) : SSet prog w (h.push (emptySet w)) h.objs.size [] :=
  ⟨#[], 0, _, Heap.get?_push_size _ rfl, ⟨rfl, ⟨[], TOk.fresh 0 0 (led w)⟩, rfl, rfl, (fun _ h => nomatch h), List.nodup_nil, fun _ => Nat.zero_le _⟩⟩
theorem call_set_spots {l : Addr} {items : List Value} {ps : List P} {Q : Value → Shared → Prop}
    (hh : A.handled = none) (hu : A.units + 8 < cLine) (hl : s.heap.IsList l items.toArray) (hi : Spots s.heap items ps) (hb : items.length ≤ 12)
    (h : ∀ (h' : Heap) (tk : Nat) (L : List VP), SSet prog w h' s.heap.objs.size L → (∀ r, r ∈ L.map (·.2) ↔ r ∈ ps) → L.length ≤ ps.length → (∀ z ∈ L, ∃ j, j < items.length ∧ z = (items.getD j .none, ps.getD j (0, 0))) →
      (∀ b o, b < s.heap.objs.size → s.heap.get? b = some o → h'.get? b = some o) → Q (.ref s.heap.objs.size) { s with heap := h', toks := tk }) :
    wpAny (model prog w) A (call (.type "set") [.ref l]) Q E s := by
  obtain ⟨c, tl, hmro⟩ := F.called_set.mro
  have hmade := F.called_set.made
  have hsub := F.called_set.sub
  have hlen := hi.length
  refine wpAny_call (codeAny_of_tree ?_)
  show wpAny _ _ (callAny (.type "set") _) _ _ _
  refine wpAny_pure ⟨Code.quiet_builtin _ (by decide +kernel), codeAny_builtin F.entry_type_call ?_⟩
  rw [Around.under_plain (weight_type_call_type "set" [.ref l] []) rfl]
  have h1 := F.called_set.notType
  have h2 := F.called_set.canCreate
  have hct := F.typeCall_set_1 (.ref l)
  repeat (any_goals (first | assumption | wp_step))
  refine codeAny_mono (set_new (a := .ref l) (E := E) (Q₁ := fun obj s₁ => obj = .ref s.heap.objs.size ∧ s₁ = { s with heap := s.heap.push (emptySet w) }) ⟨rfl, rfl⟩) fun r s₁ hr => ?_
  cases r with
  | error e => exact hr
  | ok fl =>
    cases fl with
    | ret obj =>
      obtain ⟨rfl, rfl⟩ := hr
      have hS : (s.heap.push (emptySet w)).get? s.heap.objs.size = some (emptySet w) := Heap.get?_push_size _ rfl
      have hT : Shared.TypeIs { s with heap := s.heap.push (emptySet w) } (.ref s.heap.objs.size) "set" := ⟨_, hS, rfl⟩
      have hli := F.called_set.init.lookup
      have hbi := F.called_set.init.bind (.ref s.heap.objs.size)
      repeat (any_goals (first | assumption | wp_step))
      refine codeAny_mono (codeAny_call_builtin (R := wants (fun r s₂ => r = .none ∧ ∃ h' tk L, s₂ = { s with heap := h', toks := tk } ∧ SSet prog w h' s.heap.objs.size L ∧ (∀ r, r ∈ L.map (·.2) ↔ r ∈ ps) ∧ L.length ≤ ps.length ∧ (∀ z ∈ L, ∃ j, j < items.length ∧ z = (items.getD j .none, ps.getD j (0, 0))) ∧
          (∀ b o, b < s.heap.objs.size → s.heap.get? b = some o → h'.get? b = some o)) E) F.called_set.init.plain F.entry_set_init (check_set_init_1 hT ?_)) fun r₂ s₂ hr₂ => ?_
      · obtain ⟨ol, hol, hcl, nl, hdl⟩ := hl
        obtain ⟨ocls, odict, odata, oslots⟩ := ol
        simp only at hcl hdl
        subst hcl; subst hdl
        have hol' : (s.heap.push (emptySet w)).get? l = some { cls := .type "list", dict := odict, data := .seq items.toArray nl, slots := oslots } := Heap.get?_push_of_some _ hol
        have hsls := F.sub_list_set
        have hslf := F.sub_list_frozenset
        have hne : (Value.type "list" == Value.type "dict") = false := by decide
        have hl1 : (s.heap.push (emptySet w)).IsList l items.toArray := ⟨_, hol', rfl, nl, rfl⟩
        unfold Builtin.«set.__init__» noKeywords Builtin.Frozenset.updateFrom
        generalize hPI : pyIter = PI
        wp_walk
        subst hPI
        refine wpAny_pyIter_list hl1 ?_
        refine wpAny_bind (wpAny_runValue ?_)
        have hlS : l < s.heap.objs.size := Heap.lt_size hol
        have hh3 : A.in1.in1.in1.handled = none := by simp [hh]
        have hneI : l ≠ (s.heap.push (emptySet w)).objs.size := by
          rw [Heap.size_push]; exact Nat.ne_of_lt (Nat.lt_succ_of_lt hlS)
        have hSf : s.heap.objs.size ∉ [(s.heap.push (emptySet w)).objs.size, l] := by
          rw [Heap.size_push]; simp only [List.mem_cons, List.mem_singleton, List.not_mem_nil, or_false, not_or]
          exact ⟨Nat.ne_of_lt (Nat.lt_succ_self _), Nat.ne_of_gt hlS⟩
        have hkp : ∀ b o, o.cls = .type "tuple" → s.heap.get? b = some o → ((s.heap.push (emptySet w)).push { cls := .type "list_iterator", data := .fields #[.ref l, .int 0 0] }).get? b = some o := fun b o _ e => Heap.get?_push_of_some _ (Heap.get?_push_of_some _ e)
        refine fill_ok ((Walks.list hh3 _ l hneI items.toArray).toS) s.heap.objs.size
          hSf (by simp only [Around.in1_units]; omega) (by simpa using hb) (fun i => ps.getD i (0, 0)) ?hw (items.toArray.size - 0) 0 _ [] (by omega) (Nat.zero_le _)
          ⟨⟨_, Heap.get?_push_size _ rfl, rfl, rfl⟩, (hl1.push _)⟩ ?hS0 (Nat.zero_le _) ?hp ?hR
        case hw =>
          rintro i s' b o ⟨⟨oi, hoi, hci, _⟩, _⟩ hb' e
          have : b = (s.heap.push (emptySet w)).objs.size := by simpa using hb'
          subst this
          rw [hoi] at e; cases e
          rw [hci]; decide
        case hS0 => exact (sset_empty s.heap).kept fun b o _ e => Heap.get?_push_of_some _ e
        case hp =>
          intro j v hv
          have hj : j < items.length := by
            have hv' : items[j]? = some v := by simpa using hv
            exact (List.getElem?_eq_some_iff.mp hv').1
          have hv' : items.getD j .none = v := by
            have hv' : items[j]? = some v := by simpa using hv
            rw [List.getD_eq_getElem?_getD, hv']; rfl
          have := hi.get j hj
          rw [hv'] at this
          exact this.kept hkp
        case hR =>
          intro s' L hm hS' hmem hlL hent
          obtain ⟨h', g', d', tk', os'⟩ := s'
          have eg : g' = s.gens := hm.gens
          have ed : d' = s.drawn := hm.drawn
          have eo : os' = s.os := hm.os
          subst eg; subst ed; subst eo
          show wpAny _ _ _ _ _ _
          refine wpAny_pure ?_
          show wpAny _ _ (ret Value.none) _ _ _
          refine wpAny_pure ⟨rfl, h', tk', L, rfl, hS', fun r => ?_, by simp at hlL; omega, fun z hz => ?_, fun b o hb e => ?_⟩
          · rw [hmem r]
            constructor
            · rintro (h | ⟨j, _, hj, rfl⟩)
              · cases h
              · have hj' : j < ps.length := by simp at hj; omega
                have : ps.getD j (0, 0) = ps[j] := by simp [hj']
                rw [this]; exact List.getElem_mem hj'
            · intro hr
              obtain ⟨j, hj, rfl⟩ := List.mem_iff_getElem.mp hr
              exact .inr ⟨j, Nat.zero_le _, by simp; omega, by simp [hj]⟩
          · rcases hent z hz with g | ⟨j, v, hv, rfl⟩
            · cases g
            · have hv' : items[j]? = some v := by simpa using hv
              exact ⟨j, (List.getElem?_eq_some_iff.mp hv').1, by rw [List.getD_eq_getElem?_getD (l := items), hv']; rfl⟩
          · have hb1 : b ≠ s.heap.objs.size := Nat.ne_of_lt hb
            have hb2 : b ≠ (s.heap.push (emptySet w)).objs.size := by
              rw [Heap.size_push]; exact Nat.ne_of_lt (Nat.lt_succ_of_lt hb)
            exact hm.heap b o (by simp only [List.mem_cons, List.mem_singleton, List.not_mem_nil, or_false, not_or]; exact ⟨hb1, hb2⟩) (Heap.get?_push_of_some _ (Heap.get?_push_of_some _ e))
      · cases r₂ with
        | error e => exact hr₂
        | ok fl₂ =>
          cases fl₂ with
          | ret r =>
            obtain ⟨rfl, h', tk, L, rfl, hS', hm', hl', he', hk'⟩ := hr₂
            repeat (any_goals (first | assumption | wp_step))
            exact h _ _ _ hS' hm' hl' he' hk'
          | _ => exact hr₂.elim
    | _ => exact hr.elim
end
end SetX
set_option linter.all false
set_option maxRecDepth 100000
set_option maxHeartbeats 8000000
namespace SetX
open PySem PySem.W PyProof.Rows Hull SortM SetM
namespace F
theorem slot_next : Slot "set_iterator" "__next__" "set_iterator.__next__" :=
  .of (owner := "set_iterator") (n := "__next__") (by rw [typeLookup_type, builtinLookup_eq_fast]; kernel_rfl) (by decide +kernel) (by decide +kernel) (by decide +kernel)
    (by first | exact .inl (by decide +kernel) | exact .inr (by decide +kernel)) (by rw [isSubtype_type]; kernel_rfl)
theorem entry_next : entryFor table "set_iterator.__next__" = some Builtin.«set_iterator.__next__» := entryFor_of_tree (by kernel_rfl)
theorem args_next (a : Value) : argsOk "set_iterator.__next__" ⟨[a], []⟩ := by unfold argsOk; kernel_rfl
theorem slot_self : Slot "set_iterator" "__iter__" "set_iterator.__iter__" :=
  .of (owner := "set_iterator") (n := "__iter__") (by rw [typeLookup_type, builtinLookup_eq_fast]; kernel_rfl) (by decide +kernel) (by decide +kernel) (by decide +kernel)
    (by first | exact .inl (by decide +kernel) | exact .inr (by decide +kernel)) (by rw [isSubtype_type]; kernel_rfl)
theorem entry_self : entryFor table "set_iterator.__iter__" = some Builtin.«dict_keyiterator.__iter__» :=
  entryFor_alias (id' := "dict_keyiterator.__iter__") (by kernel_rfl) rfl (by decide +kernel) (by kernel_rfl)
theorem args_self (a : Value) : argsOk "set_iterator.__iter__" ⟨[a], []⟩ := by unfold argsOk; kernel_rfl
theorem entry_iter : entryFor table "set.__iter__" = some Builtin.«frozenset.__iter__» :=
  entryFor_alias (id' := "frozenset.__iter__") (by kernel_rfl) rfl (by decide +kernel) (by kernel_rfl)
end F
theorem pick_perm {α : Type} (next : Nat → Nat) : ∀ (fuel k : Nat) (left : List α) (out : Array α), left.length = fuel → (pickOrder.go next fuel k left out).toList.Perm (out.toList ++ left)
  | 0, k, left, out, h => by
    have : left = [] := List.length_eq_zero_iff.mp h
    subst this
    unfold pickOrder.go; simp
  | fuel + 1, k, left, out, h => by
    have hlt : next k % left.length < left.length := Nat.mod_lt _ (by omega)
    unfold pickOrder.go
    rw [List.getElem?_eq_getElem hlt]
    dsimp only
    refine (pick_perm next fuel (k + 1) _ _ (by rw [List.length_eraseIdx, if_pos hlt]; omega)).trans ?_
    rw [Array.toList_push, List.append_assoc]
    refine List.Perm.append_left _ ?_
    have d : left.take (next k % left.length) ++ left[next k % left.length] :: left.drop (next k % left.length + 1) = left := by rw [← List.drop_eq_getElem_cons hlt, List.take_append_drop]
    rw [List.eraseIdx_eq_take_drop_succ]
    refine List.Perm.trans ?_ (List.Perm.of_eq d)
    rw [List.singleton_append]
    exact List.perm_middle.symm
def byText (w : World) : Bool := w.params.followText "set-order"
def ord (w : World) (a : Addr) (ep : Nat) (es : Array (Int × Value)) : Array (Int × Value) := if byText w then pickOrder (w.params.setOrder a ep) es else es
theorem ord_perm (w : World) (a : Addr) (ep : Nat) (es : Array (Int × Value)) : (ord w a ep es).toList.Perm es.toList := by
  unfold ord
  split
  · exact (pick_perm _ es.size 0 es.toList #[] (by simp)).trans (by simp)
  · exact .refl _
def sl (w : World) (t : SetTable) (i : Nat) : Nat := if byText w then 0 else if i = 0 then 0 else t.place.getD (i - 1) 0 + 1
section
variable {prog : Program} {w : World} {A : Around} {E : Value → Shared → Prop} {s : Shared} {a : Addr} {es : Array (Int × Value)} {ep : Nat} {t : SetTable} {L : List VP}
theorem byText_ask {Q : Bool → Shared → Prop} (h : Q (byText w) s) : wpAny (model prog w) A setsByText Q E s := by
  unfold setsByText
  exact wpAny_bind (wpAny_askSetting (wpAny_pure h))
theorem ord_size (w : World) (a : Addr) (ep : Nat) (es : Array (Int × Value)) : (ord w a ep es).size = es.size := by
  have := (ord_perm w a ep es).length_eq; simpa using this
theorem below_sl (hs : t.place.toList.Pairwise (· < ·)) (hb : byText w = false) {i : Nat} (hi : i ≤ t.place.size) : SetTable.below t.place (sl w t i) = i := by
  obtain ⟨b1, b2, b3⟩ := below_spec (sl w t i) hs
  unfold sl at *
  rw [hb] at *
  simp only [Bool.false_eq_true, if_false] at *
  generalize hB : SetTable.below t.place (if i = 0 then 0 else t.place.getD (i - 1) 0 + 1) = B at *
  have hp : ∀ (j k : Nat) (x y : Nat), j < k → t.place[j]? = some x → t.place[k]? = some y → x < y := fun j k x y hjk h1 h2 => by
    have h1' : t.place.toList[j]? = some x := by simpa using h1
    have h2' : t.place.toList[k]? = some y := by simpa using h2
    obtain ⟨c1, d1⟩ := List.getElem?_eq_some_iff.mp h1'
    obtain ⟨c2, d2⟩ := List.getElem?_eq_some_iff.mp h2'
    rw [← d1, ← d2]
    exact List.pairwise_iff_getElem.mp hs j k c1 c2 hjk
  by_cases h0 : i = 0
  · rw [if_pos h0] at b1 b2
    rcases Nat.eq_zero_or_pos B with g | g
    · omega
    · have hlt : B - 1 < t.place.size := by omega
      have := b1 (B - 1) t.place[B - 1] (by omega) (by simp [hlt])
      omega
  · rw [if_neg h0] at b1 b2
    have hi1 : i - 1 < t.place.size := by omega
    have e1 : t.place.getD (i - 1) 0 = t.place[i - 1] := by simp [Array.getD, hi1]
    rw [e1] at b1 b2
    rcases Nat.lt_trichotomy B i with g | g | g
    · have := b2 (i - 1) t.place[i - 1] (by omega) (by simp [hi1])
      omega
    · exact g
    · have hlt : i < t.place.size := by omega
      have h1 := b1 i t.place[i] g (by simp [hlt])
      have h2 := hp (i - 1) i _ _ (by omega) (by simp [hi1] : t.place[i - 1]? = some t.place[i - 1]) (by simp [hlt] : t.place[i]? = some t.place[i])
      omega
theorem next_ok {i : Nat} {Q : Option (Value × Nat) → Shared → Prop} (ho : s.heap.get? a = some (setObj es ep t)) (B : SBody prog w s.heap es t L) (hi : i ≤ es.size)
    (h1 : ∀ e, (ord w a ep es)[i]? = some e → Q (some (e.2, sl w t (i + 1))) s) (h2 : (ord w a ep es)[i]? = none → Q none s) : wpAny (model prog w) A (setNext a (sl w t i) i ep) Q E s := by
  have hf := B.fits
  unfold setNext
  refine wpAny_bind (wpAny_setState_of ho rfl hf ?_)
  dsimp only
  refine wpAny_bind (byText_ask ?_)
  by_cases hb : byText w = true
  · rw [if_pos hb]
    rw [if_neg (by simp)]
    refine wpAny_bind ?_
    unfold setWalk
    refine wpAny_bind (wpAny_setState_of ho rfl hf ?_)
    dsimp only
    refine wpAny_bind (byText_ask ?_)
    rw [if_pos hb]
    refine wpAny_bind (wpAny_askSetting (wpAny_pure ?_))
    have hord : ord w a ep es = pickOrder (w.params.setOrder a ep) es := by unfold ord; rw [if_pos hb]
    rw [hord] at h1 h2
    have hsl : ∀ i, sl w t i = 0 := fun i => by unfold sl; rw [if_pos hb]
    rw [hsl] at h1 ⊢
    show wpAny _ _ (pure (((pickOrder (w.params.setOrder a ep) es)[i]?).map fun e => (e.2, 0))) _ _ _
    cases hc : (pickOrder (w.params.setOrder a ep) es)[i]? with
    | none => exact wpAny_pure (h2 hc)
    | some e => exact wpAny_pure (h1 e hc)
  · have hb' : byText w = false := by simpa using hb
    rw [if_neg hb]
    have hord : ord w a ep es = es := by unfold ord; rw [if_neg hb]
    rw [hord] at h1 h2
    rw [if_neg (by show ¬ ((!t.plain && decide (es.size > 1)) = true); rw [B.pln]; simp)]
    refine wpAny_bind ?_
    show wpAny _ _ (@ite _ _ _ _ _) _ _ _
    rw [if_neg (by
      have : t.led = true := by rw [B.ld]; unfold led; have : w.params.followText "set-order" = false := hb'; rw [this]; rfl
      rw [this]; simp)]
    refine wpAny_pure ?_
    obtain ⟨Z, T⟩ := B.tok
    obtain ⟨f1, f2⟩ := B.fill
    have hsz := B.size
    rw [below_sl T.rise' hb' (by omega)]
    rcases Nat.lt_or_ge i es.size with g | g
    · have hp : i < t.place.size := by omega
      have e1 : es[i]? = some es[i] := by simp [g]
      have e2 : t.place[i]? = some t.place[i] := by simp [hp]
      have e3 : sl w t (i + 1) = t.place[i] + 1 := by unfold sl; rw [if_neg hb, if_neg (by omega)]; simp [Array.getD, hp]
      rw [e1, e2]
      dsimp only
      refine wpAny_pure ?_
      have := h1 _ e1
      rw [e3] at this
      exact this
    · have e1 : es[i]? = none := by simp [g]
      rw [e1]
      exact wpAny_pure (h2 e1)
end
end SetX
set_option linter.all false
set_option maxRecDepth 100000
set_option maxHeartbeats 8000000
namespace SetX
open PySem PySem.W PyProof.Rows Hull SortM SetM
def IsSetIter (h : Heap) (it a : Addr) (slot i n ep : Nat) : Prop := ∃ o, h.get? it = some o ∧ o.cls = .type "set_iterator" ∧ o.data = .fields #[.int slot 0, .int i 0, .ref a, .int n 0, .int ep 0]
section
variable {prog : Program} {w : World} {A : Around} {E : Value → Shared → Prop} {s : Shared} {a it : Addr} {es : Array (Int × Value)} {ep : Nat} {t : SetTable} {L : List VP}
theorem IsSetIter.typeIs {slot i n ep : Nat} (x : IsSetIter s.heap it a slot i n ep) : s.TypeIs (.ref it) "set_iterator" := let ⟨o, ho, hc, _⟩ := x; ⟨o, ho, hc⟩
theorem next_item {i : Nat} {e : Int × Value} {Q : Option Value → Shared → Prop} (hit : IsSetIter s.heap it a (sl w t i) i es.size ep) (ho : s.heap.get? a = some (setObj es ep t)) (B : SBody prog w s.heap es t L) (hx : (ord w a ep es)[i]? = some e)
    (hQ : ∀ h', IsSetIter h' it a (sl w t (i + 1)) (i + 1) es.size ep → Heap.SameBut it s.heap h' → Q (some e.2) { s with heap := h' }) : wpAny (model prog w) A (pyNext (.ref it)) Q E s := by
  obtain ⟨o, hoi, hc, hd⟩ := id hit
  have hi : i < es.size := by
    rw [← ord_size w a ep es]
    exact (Array.getElem?_eq_some_iff.mp hx).1
  unfold pyNext
  refine wpAny_bind (wpAny_attempt (wpAny_callSpecial?_slot (name := Str.ofString "__next__") hit.typeIs F.slot_next (wpAny_call_entry F.slot_next hit.typeIs F.entry_next ?_ (F.args_next _))))
  unfold Builtin.«set_iterator.__next__»
  refine wpAny_bind (m := slotArgs _ _ _) (wpAny_pure ?_)
  refine wpAny_bind (wpAny_fieldsOf hoi hd ?_)
  dsimp only
  refine wpAny_bind (wpAny_setEntries_of ho rfl B.fits ?_)
  rw [if_neg (by simp)]
  simp only [Int.toNat_natCast]
  refine wpAny_bind (next_ok ho B (by omega) (fun e' he' => ?_) fun hn => ?_)
  · rw [hx] at he'; cases he'
    dsimp only
    refine wpAny_bind (wpAny_setField hoi hd (by simp) ?_)
    have ho2 := Heap.get?_update_self (Obj.mapFields (·.setIfInBounds 0 (rawInt ((sl w t (i + 1) : Nat) : Int)))) hoi (Obj.isFreed_of_fields (Obj.data_mapFields hd _))
    have hd2 := Obj.data_mapFields hd (·.setIfInBounds 0 (rawInt ((sl w t (i + 1) : Nat) : Int)))
    refine wpAny_bind (wpAny_setField ho2 hd2 (by simp) ?_)
    refine wpAny_pure ⟨_, rfl, wpAny_pure (hQ _ ⟨_, Heap.get?_update_self _ ho2 (Obj.isFreed_of_fields (Obj.data_mapFields hd2 _)), ?_, ?_⟩ ((Heap.SameBut.update ..).trans (Heap.SameBut.update ..)))⟩
    · rw [Obj.cls_mapFields, Obj.cls_mapFields]; exact hc
    · rw [Obj.data_mapFields hd2]; simp [rawInt]
  · rw [hx] at hn; cases hn
theorem next_end {Q : Option Value → Shared → Prop} (hh : A.handled = none) (hit : IsSetIter s.heap it a (sl w t es.size) es.size es.size ep) (ho : s.heap.get? a = some (setObj es ep t)) (B : SBody prog w s.heap es t L)
    (hQ : ∀ h', Heap.ExtBut it s.heap h' → Q none { s with heap := h' }) : wpAny (model prog w) A (pyNext (.ref it)) Q E s := by
  obtain ⟨o, hoi, hc, hd⟩ := id hit
  unfold pyNext
  refine wpAny_bind (wpAny_attempt (wpAny_callSpecial?_slot (name := Str.ofString "__next__") hit.typeIs F.slot_next (wpAny_call_entry F.slot_next hit.typeIs F.entry_next ?_ (F.args_next _))))
  unfold Builtin.«set_iterator.__next__»
  refine wpAny_bind (m := slotArgs _ _ _) (wpAny_pure ?_)
  refine wpAny_bind (wpAny_fieldsOf hoi hd ?_)
  dsimp only
  refine wpAny_bind (wpAny_setEntries_of ho rfl B.fits ?_)
  rw [if_neg (by simp)]
  simp only [Int.toNat_natCast]
  have hnone : (ord w a ep es)[es.size]? = none := by rw [Array.getElem?_eq_none]; rw [ord_size]; exact Nat.le_refl _
  refine wpAny_bind (next_ok ho B (Nat.le_refl _) (fun e' he' => ?_) fun hn => ?_)
  · rw [hnone] at he'; cases he'
  · dsimp only
    refine wpAny_bind (wpAny_setField hoi hd (by simp) ?_)
    refine wpAny_bind ?_
    simp only [newExc, newTuple]
    refine wpAny_bind (wpAny_newObj_type ?_ (by size_fits))
    refine wpAny_bind (m := firstArgMember _ _) (wpAny_of_eq (a := Value.none) (by first | rfl | (simp only [firstArgMember]; rfl)) ?_)
    refine wpAny_newObj_type ?_ (by size_fits)
    simp only [raiseNew]
    refine wpAny_bind (wpAny_handled ?_)
    rw [show A.in1.handled = none from hh]
    refine wpAny_bind (wpAny_pure (wpAny_throw ?_))
    refine wpAny_bind (wpAny_isInstance (T := "StopIteration") (b := true) ⟨_, Heap.get?_push_size _ rfl, rfl⟩ isSubtype_stop ?_)
    exact wpAny_pure (hQ _ (((Heap.SameBut.update ..).extBut.push _).push _))
theorem iter_self {slot i n : Nat} {Q : Value → Shared → Prop} (hit : IsSetIter s.heap it a slot i n ep) (h : Q (.ref it) s) : wpAny (model prog w) A (pyIter (.ref it)) Q E s := by
  refine wpAny_pyIter_slot hit.typeIs F.slot_self (wpAny_call_entry F.slot_self hit.typeIs F.entry_self ?_ (F.args_self _))
  show wpAny _ _ (ret (.ref it)) _ _ s
  exact wpAny_pure ⟨_, rfl, "set_iterator", _, hit.typeIs, F.slot_next.lookup, h⟩
theorem iter_set {Q : Value → Shared → Prop} (ho : s.heap.get? a = some (setObj es ep t)) (B : SBody prog w s.heap es t L)
    (hQ : Q (.ref s.heap.objs.size) { s with heap := s.heap.push { cls := .type "set_iterator", data := .fields #[.int 0 0, .int 0 0, .ref a, .int es.size 0, .int ep 0] } }) : wpAny (model prog w) A (pyIter (.ref a)) Q E s := by
  have hT : s.TypeIs (.ref a) "set" := ⟨_, ho, rfl⟩
  refine wpAny_pyIter_slot hT PySem.F.slot_set_iter (wpAny_call_entry PySem.F.slot_set_iter hT F.entry_iter ?_ (PySem.F.args_set_iter_1 _))
  unfold Builtin.«frozenset.__iter__» Builtin.Frozenset.slot0 Builtin.Frozenset.sizeOf setDrawn
  refine wpAny_bind (wpAny_bind (m := slotArgs _ _ _) (wpAny_pure (wpAny_pure ?_)))
  refine wpAny_bind (wpAny_bind (wpAny_setEntries_of ho rfl B.fits (wpAny_pure ?_)))
  refine wpAny_bind (wpAny_bind (wpAny_setState_of ho rfl B.fits ?_))
  dsimp only
  refine wpAny_bind (byText_ask (wpAny_pure ?_))
  rw [if_neg (by show ¬ ((!byText w && (!t.plain && decide (es.size > 1))) = true); rw [B.pln]; simp)]
  refine wpAny_bind (wpAny_pure ?_)
  refine wpAny_bind (wpAny_setEpoch_of ho rfl B.fits ?_)
  refine wpAny_bind (wpAny_newObj_type (wpAny_pure ⟨_, rfl, "set_iterator", _, ⟨_, Heap.get?_push_size _ rfl, rfl⟩, F.slot_next.lookup, ?_⟩))
  simpa [rawInt] using hQ
theorem walks_set (hh : A.handled = none) (I : Addr) (hne : a ≠ I) (fp : List Addr) (hfp : ∀ z ∈ L, ∀ b, z.1 = .ref b → b ∈ fp ∧ b ≠ I) :
    Walks prog w A I (I :: a :: fp) [I] es.size (fun i v => ((ord w a ep es)[i]?).map (·.2) = some v) (fun i h => IsSetIter h I a (sl w t i) i es.size ep ∧ h.get? a = some (setObj es ep t) ∧ SBody prog w h es t L) where
  sub := fun b hb => by simp at hb; simp [hb]
  frame := fun i h h' st hk => by
    obtain ⟨⟨o, e, r⟩, ho, B⟩ := st
    refine ⟨⟨o, hk I (by simp) o e, r⟩, hk a (by simp) _ ho, ⟨B.el, B.tok, B.pln, B.ld, fun z hz => ?_, B.nd, B.few⟩⟩
    obtain ⟨b, o, t, u, n, e1, e2, e3⟩ := B.sp z hz
    exact ⟨b, o, t, u, n, e1, hk b (by simp [(hfp z hz b e1).1]) o e2, e3⟩
  item := fun i s Q E hi st hQ => by
    obtain ⟨hit, ho, B⟩ := st
    obtain ⟨e, he⟩ : ∃ e, (ord w a ep es)[i]? = some e := ⟨(ord w a ep es)[i]'(by rw [ord_size]; exact hi), by simp [ord_size, hi]⟩
    refine next_item hit ho B he fun h' hit' hs' => ?_
    refine hQ _ h' s.toks (by rw [he]; rfl) ⟨hit', (hs'.2 a hne).trans ho, ⟨B.el, B.tok, B.pln, B.ld, fun z hz => ?_, B.nd, B.few⟩⟩ fun b o hb e => hs'.extBut b o (fun h => hb (by simp [h])) e
    obtain ⟨b, o, t, u, n, e1, e2, e3⟩ := B.sp z hz
    exact ⟨b, o, t, u, n, e1, (hs'.2 b (hfp z hz b e1).2).trans e2, e3⟩
  done := fun s Q E st hQ => by
    obtain ⟨hit, ho, B⟩ := st
    exact next_end hh hit ho B fun h' he' => hQ h' s.toks fun b o hb e => he' b o (fun h => hb (by simp [h])) e
  self := fun _ _ _ _ st hQ => iter_self st.1 hQ
end
end SetX
set_option linter.all false
set_option maxRecDepth 100000
set_option maxHeartbeats 8000000
namespace SetX
open PySem PySem.W PyProof.Rows Hull SortM SetM
section
variable {prog : Program} {w : World} {A : Around} {E : Value → Shared → Prop} {s : Shared} {a it : Addr} {es : Array (Int × Value)} {ep : Nat} {t : SetTable} {L : List VP}
def refs (L : List VP) : List Addr := L.filterMap fun z => match z.1 with | .ref b => some b | _ => none
theorem mem_refs {z : VP} {b : Addr} (hz : z ∈ L) (e : z.1 = .ref b) : b ∈ refs L := List.mem_filterMap.mpr ⟨z, hz, by rw [e]⟩
theorem collect_set {Q : List Value → Shared → Prop} (hh : A.handled = none) (ho : s.heap.get? a = some (setObj es ep t)) (B : SBody prog w s.heap es t L) (hlen : L.length ≤ 12)
    (hQ : ∀ (h' : Heap) (tk : Nat) (L' : List VP), (∀ b o, s.heap.get? b = some o → h'.get? b = some o) → s.heap.objs.size ≤ h'.objs.size → L'.Perm L → Q (L'.map (·.1)) { s with heap := h', toks := tk }) :
    wpAny (model prog w) A (collect (.ref a)) Q E s := by
  have ha : a < s.heap.objs.size := Heap.lt_size ho
  have hsz := B.size
  unfold collect
  refine wpAny_bind (wpAny_runValue (codeAny_builtin PySem.F.entry_proto_collect ?_))
  rw [Around.under_plainId PySem.F.plain_proto_collect _]
  show wpAny _ A.in1 (newList [] >>= fun l => again (.builtin "list.__iadd__" ⟨[l, .ref a], []⟩)) _ _ s
  refine wpAny_bind (wpAny_newObj_type ?_)
  refine wpAny_pure ⟨plainId_quiet PySem.F.plain_list_iadd _, codeAny_builtin PySem.F.entry_list_iadd ?_⟩
  rw [Around.under_plainId PySem.F.plain_list_iadd _]
  have ho1 : (s.heap.push { cls := .type "list", data := .seq ([] : List Value).toArray }).get? a = some (setObj es ep t) := Heap.get?_push_of_some _ ho
  have B1 : SBody prog w (s.heap.push { cls := .type "list", data := .seq ([] : List Value).toArray }) es t L := B.kept fun b o _ e => Heap.get?_push_of_some _ e
  have hT1 : Shared.TypeIs { s with heap := s.heap.push { cls := .type "list", data := .seq ([] : List Value).toArray } } (.ref a) "set" := ⟨_, ho1, rfl⟩
  show wpAny _ A.in1 (Builtin.List.listExtendWith (.ref s.heap.objs.size) (.ref a) (.ref s.heap.objs.size)) _ _ _
  unfold Builtin.List.listExtendWith
  refine wpAny_bind (wpAny_typeOf hT1 ?_)
  have h1 : Builtin.List.listSameRef (.ref s.heap.objs.size) (.ref a) = false := by simp [Builtin.List.listSameRef, Nat.ne_of_gt ha]
  have h2 : (Value.type "set" == Value.type "list") = false := by decide
  have h3 : (Value.type "set" == Value.type "tuple") = false := by decide
  simp only [h1, h2, h3, Bool.or_false, Bool.false_eq_true, if_false]
  refine wpAny_bind (iter_set (s := { s with heap := s.heap.push { cls := .type "list", data := .seq ([] : List Value).toArray } }) ho1 B1 ?_)
  refine wpAny_bind (wpAny_holding ?_)
  generalize hI : (s.heap.push { cls := .type "list", data := .seq ([] : List Value).toArray }).objs.size = I
  have hI' : I = s.heap.objs.size + 1 := by rw [← hI, Heap.size_push]
  have ho2 : ((s.heap.push { cls := .type "list", data := .seq ([] : List Value).toArray }).push { cls := .type "set_iterator", data := .fields #[.int 0 0, .int 0 0, .ref a, .int es.size 0, .int ep 0] }).get? a = some (setObj es ep t) := Heap.get?_push_of_some _ ho1
  have hT2 : Shared.TypeIs { s with heap := ((s.heap.push { cls := .type "list", data := .seq ([] : List Value).toArray }).push { cls := .type "set_iterator", data := .fields #[.int 0 0, .int 0 0, .ref a, .int es.size 0, .int ep 0] }) } (.ref a) "set" := ⟨_, ho2, rfl⟩
  unfold Builtin.List.listLengthHint
  refine wpAny_bind (wpAny_specialOf hT2 PySem.F.slot_set_len.lookup ?_)
  dsimp only
  have hsp : splitId "set.__len__" = some ("set", "__len__") := by decide +kernel
  rw [hsp]
  dsimp only
  refine wpAny_bind (wpAny_isInstance hT2 sub_set_self ?_)
  simp only [Bool.not_true, Bool.false_eq_true, if_false]
  rw [if_pos (by decide +kernel)]
  refine wpAny_bind (wpAny_typeOf hT2 (wpAny_pure ?_))
  rw [if_pos (by decide +kernel)]
  refine wpAny_bind (wpAny_rule ?_)
  have hS₁ : ((s.heap.push { cls := .type "list", data := .seq ([] : List Value).toArray }).push { cls := .type "set_iterator", data := .fields #[.int 0 0, .int 0 0, .ref a, .int es.size 0, .int ep 0] }).get? s.heap.objs.size = some { cls := .type "list", data := .seq ([] : List Value).toArray } := Heap.get?_push_of_some _ (Heap.get?_push_size _ rfl)
  refine wpAny_bind ?_
  show wpAny _ A.in1 (updateSeq s.heap.objs.size (·.push .none) >>= fun _ => updateSeq s.heap.objs.size (·.pop)) _ _ _
  refine wpAny_bind (wpAny_updateSeq hS₁ rfl ?_)
  have hS₂ := Heap.get?_update_self (Obj.mapSeq (·.push Value.none)) hS₁ rfl
  refine wpAny_updateSeq hS₂ rfl ?_
  have hS₃ := Heap.get?_update_self (Obj.mapSeq (·.pop)) hS₂ rfl
  generalize hH : ((((s.heap.push { cls := .type "list", data := .seq ([] : List Value).toArray }).push { cls := .type "set_iterator", data := .fields #[.int 0 0, .int 0 0, .ref a, .int es.size 0, .int ep 0] }).update s.heap.objs.size (Obj.mapSeq (·.push Value.none))).update s.heap.objs.size (Obj.mapSeq (·.pop))) = H at *
  have oth : ∀ b o, b ≠ s.heap.objs.size → ((s.heap.push { cls := .type "list", data := .seq ([] : List Value).toArray }).push { cls := .type "set_iterator", data := .fields #[.int 0 0, .int 0 0, .ref a, .int es.size 0, .int ep 0] }).get? b = some o → H.get? b = some o := fun b o hb e => by
    rw [← hH]; exact (Heap.get?_update_other _ _ (Ne.symm hb)).trans ((Heap.get?_update_other _ _ (Ne.symm hb)).trans e)
  have old : ∀ b o, s.heap.get? b = some o → H.get? b = some o := fun b o e => oth b o (Nat.ne_of_lt (Heap.lt_size e)) (Heap.get?_push_of_some _ (Heap.get?_push_of_some _ e))
  have hIt : H.get? I = some { cls := .type "set_iterator", data := .fields #[.int 0 0, .int 0 0, .ref a, .int es.size 0, .int ep 0] } := oth I _ (by rw [hI']; exact Nat.ne_of_gt (Nat.lt_succ_self _)) (by rw [← hI]; exact Heap.get?_push_size _ rfl)
  have hh1 : A.in1.handled = none := by simp [hh]
  have hneI : a ≠ I := by rw [hI']; exact Nat.ne_of_lt (Nat.lt_succ_of_lt ha)
  have hrl : ∀ z ∈ L, ∀ b, z.1 = .ref b → b < s.heap.objs.size := fun z hz b e => by
    obtain ⟨b', o, _, _, _, e1, e2, _⟩ := B.sp z hz
    rw [e] at e1; cases e1; exact Heap.lt_size e2
  have W := (walks_set (prog := prog) (w := w) (A := A.in1) (es := es) (ep := ep) (t := t) (L := L) hh1 I hneI (refs L) (fun z hz b e => ⟨mem_refs hz e, by rw [hI']; exact Nat.ne_of_lt (Nat.lt_succ_of_lt (hrl z hz b e))⟩)).toS
  have hSf : s.heap.objs.size ∉ I :: a :: refs L := by
    intro hm
    rcases List.mem_cons.mp hm with e | hm
    · rw [hI'] at e; exact Nat.ne_of_lt (Nat.lt_succ_self _) e
    · rcases List.mem_cons.mp hm with e | hm
      · exact Nat.ne_of_gt ha e
      · obtain ⟨z, hz, hz2⟩ := List.mem_filterMap.mp hm
        obtain ⟨b, hb⟩ := SpotAt.ref (B.sp z hz)
        rw [hb] at hz2
        cases hz2
        exact Nat.lt_irrefl _ (hrl z hz _ hb)
  have hst0 : IsSetIter H I a (sl w t 0) 0 es.size ep ∧ H.get? a = some (setObj es ep t) ∧ SBody prog w H es t L := by
    refine ⟨⟨_, hIt, rfl, ?_⟩, old a _ ho, B.kept fun b o _ e => old b o e⟩
    have : sl w t 0 = 0 := by unfold sl; split <;> rfl
    rw [this]; rfl
  refine wpAny_pure ⟨plainId_quiet PySem.F.plain_extend_loop _, codeAny_extend_loopS W (by rw [sizeLine_eq]; omega) _ hSf _ es.size 0 _ _ _ rfl (Nat.zero_le _) hst0 hS₃ (ItemsOf.nil _) fun s' acc' c' hm hS' hacc => ?_⟩
  show wpAny _ A (load s.heap.objs.size >>= _) _ _ s'
  refine wpAny_bind (wpAny_load hS' ?_)
  obtain ⟨h', g', d', tk', os'⟩ := s'
  have eg : g' = s.gens := hm.gens
  have ed : d' = s.drawn := hm.drawn
  have eo : os' = s.os := hm.os
  subst eg; subst ed; subst eo
  obtain ⟨L', p1, p2⟩ := perm_map_inv (f := ent prog w) (ord_perm w a ep es) L B.el
  have hvs : acc'.toList = L'.map (·.1) := by
    have hl' : L'.length = es.size := by rw [p1.length_eq, hsz]
    apply List.ext_getElem?
    intro j
    rcases Nat.lt_or_ge j es.size with g | g
    · have hj : j < acc'.size := by rw [hacc.1]; exact g
      have h1 : ((ord w a ep es)[j]?).map (·.2) = some acc'[j] := hacc.2 j acc'[j] (by simp [hj])
      have h2 : (ord w a ep es)[j]? = (L'.map (ent prog w))[j]? := by rw [← p2]; simp
      rw [h2] at h1
      rw [List.getElem?_map] at h1 ⊢
      have hj2 : j < L'.length := by omega
      rw [List.getElem?_eq_getElem hj2] at h1 ⊢
      simp only [Option.map_some] at h1 ⊢
      have h3 : L'[j].1 = acc'[j] := Option.some.inj h1
      rw [h3]; simp [hj]
    · rw [List.getElem?_eq_none (by rw [Array.length_toList, hacc.1]; exact g), List.getElem?_eq_none (by rw [List.length_map, hl']; exact g)]
  refine wpAny_pure ?_
  show Q acc'.toList _
  rw [hvs]
  refine hQ h' tk' L' (fun b o e => ?_) (Nat.le_of_lt (Heap.lt_size hS')) p1
  refine hm.heap b o ?_ (old b o e)
  have hlt := Heap.lt_size e
  simp only [List.mem_cons, List.mem_singleton, List.not_mem_nil, or_false, not_or]
  exact ⟨Nat.ne_of_lt hlt, by rw [hI']; exact Nat.ne_of_lt (Nat.lt_succ_of_lt hlt)⟩
end
end SetX
set_option linter.all false
set_option maxRecDepth 100000
set_option maxHeartbeats 4000000
namespace SpotC
open PySem PySem.W PyProof.Rows Hull SortM
section
variable {prog : Program} {w : World} {A : Around} {E : Value → Shared → Prop} {s : Shared}
end
end SpotC
set_option linter.all false
set_option maxRecDepth 100000
set_option maxHeartbeats 4000000
namespace SpotC
open PySem PySem.W PyProof.Rows Hull SortM
end SpotC
set_option linter.all false
set_option maxRecDepth 100000
set_option maxHeartbeats 8000000
namespace RevX
open PySem PySem.W PyProof.Rows
namespace F
theorem mro : mroOf (.type "reversed") = pure [.type "reversed", .type "object"] := by rw [mroOf_type]; kernel_rfl
theorem lookup_new : typeLookup (.type "reversed") "__new__" = pure (some (.builtin "reversed.__new__")) := by rw [typeLookup_type, builtinLookup_eq_fast]; kernel_rfl
theorem notType : (Value.type "reversed" == Value.type "type") = false := by decide +kernel
theorem canCreate : ((Manifest.find? "reversed").bind (·.mro.findSome? fun t => (Manifest.find? t).bind fun b => if b.noNew then some true else if b.attrs.any (·.1 == "__new__") then some false else none)).getD false = false := by decide +kernel
theorem made : Bind.madeBy (.type "reversed") = pure (some "reversed.__new__") := madeBy_type mro lookup_new (by decide +kernel)
theorem plain_new : plainId "reversed.__new__" = true := by decide +kernel
theorem sub : isSubtype (.type "reversed") (.type "reversed") = pure true := by rw [isSubtype_type]; kernel_rfl
theorem sub_other : isSubtype (.type "list_reverseiterator") (.type "reversed") = pure false := by rw [isSubtype_type]; kernel_rfl
theorem typeCall (a : Value) : checkTypeCall "reversed" ⟨[a], []⟩ = pure () := by kernel_rfl
theorem newCall (a : Value) : checkBuiltinCall "reversed.__new__" ⟨[.type "reversed", a], []⟩ = pure () := by kernel_rfl
theorem entry_new : entryFor table "reversed.__new__" = some Builtin.«reversed.__new__» := entryFor_of_tree (by kernel_rfl)
end F
def revObj (l : Addr) (i : Int) : Obj := { cls := .type "list_reverseiterator", data := .fields #[.ref l, .int i 0] }
section
variable {prog : Program} {w : World} {A : Around} {E : Value → Shared → Prop} {s : Shared}
theorem rev_new {l : Addr} {items : Array Value} {n : Nat} {Q₁ : Value → Shared → Prop} (hl : s.heap.get? l = some { cls := .type "list", dict := none, data := .seq items n, slots := #[] })
    (h : Q₁ (.ref s.heap.objs.size) { s with heap := s.heap.push (revObj l ((items.size : Int) - 1)) }) :
    codeAny (model prog w) A (.call (.builtin "reversed.__new__") ⟨[.type "reversed", .ref l], []⟩) (wants Q₁ E) s := by
  refine codeAny_of_tree ?_
  show wpAny _ A.in1 (do checkBuiltinCall "reversed.__new__" ⟨[.type "reversed", .ref l], []⟩; again (.builtin "reversed.__new__" ⟨[.type "reversed", .ref l], []⟩)) _ _ s
  refine wpAny_bind (wpAny_of_eq (F.newCall _) (wpAny_pure ⟨plainId_quiet F.plain_new _, codeAny_builtin F.entry_new ?_⟩))
  rw [Around.under_plainId F.plain_new _]
  have hT : s.TypeIs (.ref l) "list" := ⟨_, hl, rfl⟩
  have hsub := F.sub
  unfold Builtin.«reversed.__new__» Builtin.SmallTypes.newClass Builtin.SmallTypes.refuseKeywords
  wp_walk
  refine wpAny_of_eq PySem.F.slot_list_reversed.lookup ?_
  dsimp only
  refine wpAny_bind (wpAny_of_eq (PySem.F.slot_list_reversed.bind (.ref l)) ?_)
  dsimp only
  rw [if_neg (by decide)]
  refine wpAny_bind (wpAny_rule ?_)
  show wpAny _ _ (call (.builtin "list.__reversed__") [.ref l] >>= _) _ _ _
  refine wpAny_bind (call_meets PySem.F.slot_list_reversed hT PySem.F.entry_list_reversed (PySem.F.args_list_reversed_1 _) (AutoListH.list___reversed___list_0 l items n) ⟨hl, ?_⟩)
  exact wpAny_pure h
theorem call_rev {l : Addr} {items : Array Value} {n : Nat} {Q : Value → Shared → Prop} (hl : s.heap.get? l = some { cls := .type "list", dict := none, data := .seq items n, slots := #[] })
    (h : Q (.ref s.heap.objs.size) { s with heap := s.heap.push (revObj l ((items.size : Int) - 1)) }) :
    wpAny (model prog w) A (call (.type "reversed") [.ref l]) Q E s := by
  have hmro := F.mro
  have hmade := F.made
  have hsub := F.sub
  refine wpAny_call (codeAny_of_tree ?_)
  show wpAny _ _ (callAny (.type "reversed") _) _ _ _
  refine wpAny_pure ⟨Code.quiet_builtin _ (by decide +kernel), codeAny_builtin PySem.F.entry_type_call ?_⟩
  rw [Around.under_plain (weight_type_call_type "reversed" [.ref l] []) rfl]
  have h1 := F.notType
  have h2 := F.canCreate
  have hct := F.typeCall (.ref l)
  repeat (any_goals (first | assumption | wp_step))
  refine codeAny_mono (rev_new (E := E) (Q₁ := fun obj s₁ => obj = .ref s.heap.objs.size ∧ s₁ = { s with heap := s.heap.push (revObj l ((items.size : Int) - 1)) }) hl ⟨rfl, rfl⟩) fun r s₁ hr => ?_
  cases r with
  | error e => exact hr
  | ok fl =>
    cases fl with
    | ret obj =>
      obtain ⟨rfl, rfl⟩ := hr
      have hT : Shared.TypeIs { s with heap := s.heap.push (revObj l ((items.size : Int) - 1)) } (.ref s.heap.objs.size) "list_reverseiterator" := ⟨_, Heap.get?_push_size _ rfl, rfl⟩
      have hso := F.sub_other
      repeat (any_goals (first | assumption | wp_step))
    | _ => exact hr.elim
end
end RevX
set_option linter.all false
set_option maxRecDepth 100000
set_option maxHeartbeats 8000000
namespace RevX
open PySem PySem.W PyProof.Rows
namespace F
theorem slot_next : Slot "list_reverseiterator" "__next__" "list_reverseiterator.__next__" :=
  .of (owner := "list_reverseiterator") (n := "__next__") (by rw [typeLookup_type, builtinLookup_eq_fast]; kernel_rfl) (by decide +kernel) (by decide +kernel) (by decide +kernel)
    (by first | exact .inl (by decide +kernel) | exact .inr (by decide +kernel)) (by rw [isSubtype_type]; kernel_rfl)
theorem entry_next : entryFor table "list_reverseiterator.__next__" = some Builtin.«list_reverseiterator.__next__» := entryFor_of_tree (by kernel_rfl)
theorem args_next (a : Value) : argsOk "list_reverseiterator.__next__" ⟨[a], []⟩ := by unfold argsOk; kernel_rfl
theorem slot_self : Slot "list_reverseiterator" "__iter__" "list_reverseiterator.__iter__" :=
  .of (owner := "list_reverseiterator") (n := "__iter__") (by rw [typeLookup_type, builtinLookup_eq_fast]; kernel_rfl) (by decide +kernel) (by decide +kernel) (by decide +kernel)
    (by first | exact .inl (by decide +kernel) | exact .inr (by decide +kernel)) (by rw [isSubtype_type]; kernel_rfl)
theorem args_self (a : Value) : argsOk "list_reverseiterator.__iter__" ⟨[a], []⟩ := by unfold argsOk; kernel_rfl
theorem nolen : typeLookup (.type "list_reverseiterator") "__len__" = pure none := by rw [typeLookup_type, builtinLookup_eq_fast]; kernel_rfl
theorem hint : typeLookup (.type "list_reverseiterator") "__length_hint__" = pure (some (.builtin "list_reverseiterator.__length_hint__")) := by rw [typeLookup_type, builtinLookup_eq_fast]; kernel_rfl
end F
end RevX
set_option linter.all false
set_option maxRecDepth 100000
set_option maxHeartbeats 8000000
namespace RevX
open PySem PySem.W PyProof.Rows
theorem F.entry_self : entryFor table "list_reverseiterator.__iter__" = some Builtin.«dict_keyiterator.__iter__» :=
  entryFor_alias (id' := "dict_keyiterator.__iter__") (by kernel_rfl) rfl (by decide +kernel) (by kernel_rfl)
def IsRev (h : Heap) (it l : Addr) (i : Int) : Prop := ∃ o, h.get? it = some o ∧ o.cls = .type "list_reverseiterator" ∧ o.data = .fields #[.ref l, .int i 0]
section
variable {prog : Program} {w : World} {A : Around} {E : Value → Shared → Prop} {s : Shared} {it l : Addr} {items : Array Value}
theorem IsRev.typeIs {i : Int} (x : IsRev s.heap it l i) : s.TypeIs (.ref it) "list_reverseiterator" := let ⟨o, ho, hc, _⟩ := x; ⟨o, ho, hc⟩
theorem rev_item {i : Nat} {v : Value} {Q : Option Value → Shared → Prop} (hit : IsRev s.heap it l i) (hl : s.heap.IsList l items) (hv : items[i]? = some v)
    (hQ : ∀ h', IsRev h' it l ((i : Int) - 1) → Heap.SameBut it s.heap h' → Q (some v) { s with heap := h' }) : wpAny (model prog w) A (pyNext (.ref it)) Q E s := by
  obtain ⟨o, ho, hc, hd⟩ := id hit
  obtain ⟨ol, hol, hcl, n, hdl⟩ := hl
  unfold pyNext
  refine wpAny_bind (wpAny_attempt (wpAny_callSpecial?_slot (name := Str.ofString "__next__") hit.typeIs F.slot_next (wpAny_call_entry F.slot_next hit.typeIs F.entry_next ?_ (F.args_next _))))
  unfold Builtin.«list_reverseiterator.__next__»
  refine wpAny_bind (m := slotArgs _ _ _) (wpAny_pure ?_)
  refine wpAny_bind (wpAny_field (x := .int i 0) ho hd rfl ?_)
  dsimp only
  rw [if_neg (by omega)]
  refine wpAny_bind (wpAny_field (x := .ref l) ho hd rfl ?_)
  refine wpAny_bind (wpAny_seqItems hol hdl ?_)
  dsimp only
  rw [Int.toNat_natCast, hv]
  dsimp only
  refine wpAny_bind (wpAny_setField ho hd (by simp) ?_)
  refine wpAny_pure ⟨_, rfl, wpAny_pure (hQ _ ⟨_, Heap.get?_update_self _ ho (Obj.isFreed_of_fields (Obj.data_mapFields hd _)), ?_, ?_⟩ (Heap.SameBut.update ..))⟩
  · rw [Obj.cls_mapFields]; exact hc
  · rw [Obj.data_mapFields hd]; simp [rawInt]
theorem rev_end {Q : Option Value → Shared → Prop} (hh : A.handled = none) (hit : IsRev s.heap it l (-1))
    (hQ : ∀ h', Heap.ExtBut it s.heap h' → Q none { s with heap := h' }) : wpAny (model prog w) A (pyNext (.ref it)) Q E s := by
  obtain ⟨o, ho, hc, hd⟩ := id hit
  unfold pyNext
  refine wpAny_bind (wpAny_attempt (wpAny_callSpecial?_slot (name := Str.ofString "__next__") hit.typeIs F.slot_next (wpAny_call_entry F.slot_next hit.typeIs F.entry_next ?_ (F.args_next _))))
  unfold Builtin.«list_reverseiterator.__next__»
  refine wpAny_bind (m := slotArgs _ _ _) (wpAny_pure ?_)
  refine wpAny_bind (wpAny_field (x := .int (-1) 0) ho hd rfl ?_)
  dsimp only
  rw [if_pos (by decide)]
  refine wpAny_bind (wpAny_rule ?_)
  refine wpAny_bind ?_
  unfold Builtin.SmallTypes.stopIteration
  refine wpAny_bind ?_
  simp only [newExc, newTuple]
  refine wpAny_bind (wpAny_newObj_type ?_ (by size_fits))
  refine wpAny_bind (m := firstArgMember _ _) (wpAny_of_eq (a := Value.none) (by first | rfl | (simp only [firstArgMember]; rfl)) ?_)
  refine wpAny_newObj_type ?_ (by size_fits)
  simp only [raiseNew]
  refine wpAny_bind (wpAny_handled ?_)
  rw [show A.in1.handled = none from hh]
  refine wpAny_bind (wpAny_pure (wpAny_throw ?_))
  refine wpAny_bind (wpAny_isInstance (T := "StopIteration") (b := true) ⟨_, Heap.get?_push_size _ rfl, rfl⟩ isSubtype_stop ?_)
  exact wpAny_pure (hQ _ (((Heap.ExtBut.refl _ _).push _).push _))
theorem rev_self {i : Int} {Q : Value → Shared → Prop} (hit : IsRev s.heap it l i) (h : Q (.ref it) s) : wpAny (model prog w) A (pyIter (.ref it)) Q E s := by
  refine wpAny_pyIter_slot hit.typeIs F.slot_self (wpAny_call_entry F.slot_self hit.typeIs F.entry_self ?_ (F.args_self _))
  show wpAny _ _ (ret (.ref it)) _ _ s
  exact wpAny_pure ⟨_, rfl, "list_reverseiterator", _, hit.typeIs, F.slot_next.lookup, h⟩
theorem walks_rev (hh : A.handled = none) (I : Addr) (hne : l ≠ I) :
    Walks prog w A I [I, l] [I] items.size (fun i v => items[items.size - 1 - i]? = some v) (fun i h => IsRev h I l ((items.size : Int) - 1 - i) ∧ h.IsList l items) where
  sub := fun b hb => by simp at hb; simp [hb]
  frame := fun i h h' st hk => by
    obtain ⟨⟨o, e, r⟩, hl⟩ := st
    exact ⟨⟨o, hk I (by simp) o e, r⟩, hl.at fun o e => hk l (by simp) o e⟩
  item := fun i s Q E hi st hQ => by
    obtain ⟨hit, hl⟩ := st
    have e : ((items.size : Int) - 1 - i) = ((items.size - 1 - i : Nat) : Int) := by omega
    rw [e] at hit
    refine rev_item hit hl (v := items[items.size - 1 - i]'(by omega)) (by simp) fun h' hit' hs' => ?_
    have e2 : (((items.size - 1 - i : Nat) : Int) - 1) = (items.size : Int) - 1 - (i + 1 : Nat) := by omega
    rw [e2] at hit'
    exact hQ _ h' s.toks (by simp) ⟨hit', hl.extBut hs'.extBut hne⟩ fun b o hb e => hs'.extBut b o (fun h => hb (by simp [h])) e
  done := fun s Q E st hQ => by
    obtain ⟨hit, hl⟩ := st
    have e : ((items.size : Int) - 1 - (items.size : Nat)) = -1 := by omega
    rw [e] at hit
    exact rev_end hh hit fun h' he' => hQ h' s.toks fun b o hb e => he' b o (fun h => hb (by simp [h])) e
  self := fun _ _ _ _ st hQ => rev_self st.1 hQ
theorem list_rev {Q : Value → Shared → Prop} (hh : A.handled = none) (hit : IsRev s.heap it l ((items.size : Int) - 1)) (hl : s.heap.IsList l items) (hne : l ≠ it) (hsz : items.size ≤ sizeLine)
    (hQ : ∀ h' tk c', (∀ b o', b ≠ it → s.heap.get? b = some o' → h'.get? b = some o') → h'.get? s.heap.objs.size = some { cls := .type "list", dict := none, data := .seq items.reverse c', slots := #[] } → Q (.ref s.heap.objs.size) { s with heap := h', toks := tk }) :
    wpAny (model prog w) A (call (.type "list") [.ref it]) Q E s := by
  have hlt : it < s.heap.objs.size := let ⟨_, ho, _⟩ := hit; Heap.lt_size ho
  have hll : l < s.heap.objs.size := let ⟨_, ho, _⟩ := hl; Heap.lt_size ho
  have hneS : it ≠ s.heap.objs.size := Nat.ne_of_lt hlt
  refine callType_codes (Q₁ := fun obj s₁ => obj = .ref s.heap.objs.size ∧ s₁ = { s with heap := s.heap.push { cls := .type "list", data := .seq #[] } }) PySem.F.called_list (PySem.F.typeCall_list_1 _) PySem.F.entry_list_init
    (code_list_new _ ⟨rfl, rfl⟩) fun obj s₁ h₁ => ?_
  obtain ⟨rfl, rfl⟩ := h₁
  have hS : (s.heap.push { cls := .type "list", data := .seq #[] }).get? s.heap.objs.size = some { cls := .type "list", data := .seq #[] } := Heap.get?_push_size _ rfl
  refine ⟨⟨_, hS, rfl⟩, PySem.F.args_list_init_2 _ _, ?_⟩
  show wpAny _ _ (do let old ← Builtin.List.listItems (.ref s.heap.objs.size); Builtin.List.listUpdate (.ref s.heap.objs.size) (fun _ => #[]); letGo old.toList.reverse; Builtin.List.listExtendWith (.ref s.heap.objs.size) (.ref it) .none) _ _ _
  refine wpAny_bind ?_
  unfold Builtin.List.listItems
  refine wpAny_bind (wpAny_seqItems hS rfl (wpAny_pure ?_))
  show wpAny _ _ (updateSeq s.heap.objs.size (fun _ => #[]) >>= fun _ => letGo (#[] : Array Value).toList.reverse >>= fun _ => Builtin.List.listExtendWith (.ref s.heap.objs.size) (.ref it) .none) _ _ _
  refine wpAny_bind (wpAny_updateSeq hS rfl ?_)
  have hS₂ := Heap.get?_update_self (Obj.mapSeq (fun _ => (#[] : Array Value))) hS rfl
  refine wpAny_bind (wpAny_letGo ?_)
  generalize hH : (s.heap.push { cls := .type "list", data := .seq #[] }).update s.heap.objs.size (Obj.mapSeq (fun _ => (#[] : Array Value))) = H at *
  have old : ∀ b o, s.heap.get? b = some o → H.get? b = some o := fun b o e => by
    rw [← hH]; exact (Heap.get?_update_other _ _ (Ne.symm (Nat.ne_of_lt (Heap.lt_size e)))).trans (Heap.get?_push_of_some _ e)
  have hit1 : IsRev H it l ((items.size : Int) - 1) := let ⟨o, ho, r⟩ := hit; ⟨o, old _ _ ho, r⟩
  have hl1 : H.IsList l items := hl.at fun o e => old _ _ e
  have hT : Shared.TypeIs { s with heap := H } (.ref it) "list_reverseiterator" := IsRev.typeIs (s := { s with heap := H }) hit1
  have h1 : Builtin.List.listSameRef (.ref s.heap.objs.size) (.ref it) = false := by simp [Builtin.List.listSameRef, Ne.symm hneS]
  unfold Builtin.List.listExtendWith
  refine wpAny_bind (wpAny_typeOf hT ?_)
  rw [if_neg (by rw [h1]; decide)]
  refine wpAny_bind (rev_self (s := { s with heap := H }) hit1 ?_)
  refine wpAny_bind (wpAny_holding ?_)
  unfold Builtin.List.listLengthHint
  refine wpAny_bind (wpAny_specialOf hT F.nolen ?_)
  show wpAny _ _ (specialOf (Value.ref it) (Str.ofString "__length_hint__") >>= _) _ _ _
  refine wpAny_bind (wpAny_specialOf hT F.hint ?_)
  generalize hid : ("list_reverseiterator.__length_hint__" : String) = id0
  dsimp only
  rw [show splitId id0 = some ("list_reverseiterator", "__length_hint__") from by subst hid; decide +kernel]
  subst hid
  dsimp only
  refine wpAny_bind (wpAny_isInstance (b := true) hT (by rw [isSubtype_type]; kernel_rfl) ?_)
  refine wpAny_pure ?_
  rw [if_neg (by decide)]
  have hSf : s.heap.objs.size ∉ [it, l] := by
    simp only [List.mem_cons, List.mem_singleton, List.not_mem_nil, or_false, not_or]
    exact ⟨Ne.symm hneS, Nat.ne_of_gt hll⟩
  have hst : IsRev H it l ((items.size : Int) - 1 - (0 : Nat)) ∧ H.IsList l items := ⟨by simpa using hit1, hl1⟩
  refine wpAny_pure ⟨plainId_quiet PySem.F.plain_extend_loop _, codeAny_extend_loopS ((walks_rev (by simp [hh]) it hne).toS) hsz _ hSf _ items.size 0 { s with heap := H } _ _ rfl (Nat.zero_le _) hst hS₂ (ItemsOf.nil _) fun s' acc' c' hm hS' hacc => ?_⟩
  obtain ⟨h', g', d', tk', os'⟩ := s'
  have eg : g' = s.gens := hm.gens
  have ed : d' = s.drawn := hm.drawn
  have eo : os' = s.os := hm.os
  subst eg; subst ed; subst eo
  refine ⟨rfl, hQ h' tk' c' (fun b o hb e => hm.heap b o ?_ (old b o e)) ?_⟩
  · simp only [List.mem_cons, List.mem_singleton, List.not_mem_nil, or_false, not_or]
    exact ⟨Nat.ne_of_lt (Heap.lt_size e), hb⟩
  · have : acc' = items.reverse := by
      apply Array.ext_getElem?
      intro j
      rcases Nat.lt_or_ge j items.size with g | g
      · have hj : j < acc'.size := by rw [hacc.1]; exact g
        have hx : items[items.size - 1 - j]? = some acc'[j] := hacc.2 j acc'[j] (by simp [hj])
        rw [Array.getElem?_reverse g, hx]; simp [hj]
      · rw [Array.getElem?_eq_none (by rw [hacc.1]; exact g), Array.getElem?_eq_none (by simpa using g)]
    rw [← this]; exact hS'
end
end RevX
set_option Elab.async false
set_option linter.all false
set_option maxRecDepth 100000
set_option maxHeartbeats 4000000
namespace L2
open PySem PySem.Spec PyProof.Rows

theorem cells_look : ∀ (names : List (Str × NameKind)) (h : Heap) (acc : List (Str × Addr)) (x : Str) (c : Addr), (cellsFrom h.objs.size names acc).lookup x = some c →
    acc.lookup x = some c ∨ ((pushCells h names).IsCell c none ∧ h.objs.size ≤ c)
  | [], _, _, _, _, e => .inl e
  | (name, kind) :: r, h, acc, x, c, e => by
    unfold cellsFrom at e
    unfold pushCells
    split at e
    · rename_i hk
      rw [if_pos hk]
      have q := cells_look r (h.push { cls := .type "cell", data := .cell none }) ((name, h.objs.size) :: acc) x c (by rw [Heap.size_push]; exact e)
      rcases q with q | ⟨q, z⟩
      · rw [List.lookup_cons] at q
        cases hb : x == name with
        | true =>
          rw [hb] at q; cases q
          exact .inr ⟨⟨_, pushCells_keeps r _ _ _ (Heap.get?_push_size _ rfl), rfl⟩, Nat.le_refl _⟩
        | false => rw [hb] at q; exact .inl q
      · exact .inr ⟨q, by rw [Heap.size_push] at z; omega⟩
    · rename_i hk
      rw [if_neg hk]
      exact cells_look r h acc x c e
theorem cells_inj : ∀ (names : List (Str × NameKind)) (n : Nat) (acc : List (Str × Addr)), (∀ x c, acc.lookup x = some c → c < n) → (∀ x y c, acc.lookup x = some c → acc.lookup y = some c → x = y) →
    ∀ x y c, (cellsFrom n names acc).lookup x = some c → (cellsFrom n names acc).lookup y = some c → x = y
  | [], _, _, _, h => h
  | (name, kind) :: r, n, acc, hl, h => by
    unfold cellsFrom
    split
    · refine cells_inj r (n + 1) ((name, n) :: acc) (fun x c e => ?_) (fun x y c e1 e2 => ?_)
      · rw [List.lookup_cons] at e
        cases hb : x == name with
        | true => rw [hb] at e; cases e; exact Nat.lt_succ_self _
        | false => rw [hb] at e; exact Nat.lt_succ_of_lt (hl x c e)
      · rw [List.lookup_cons] at e1 e2
        cases hb : x == name with
        | true =>
          rw [hb] at e1; cases e1
          cases hb' : y == name with
          | true => rw [beq_iff_eq.mp hb, beq_iff_eq.mp hb']
          | false => rw [hb'] at e2; exact absurd (hl y _ e2) (Nat.lt_irrefl _)
        | false =>
          rw [hb] at e1
          cases hb' : y == name with
          | true => rw [hb'] at e2; cases e2; exact absurd (hl x _ e1) (Nat.lt_irrefl _)
          | false => rw [hb'] at e2; exact h x y c e1 e2
    · exact cells_inj r n acc hl h
theorem cells_own : ∀ (names : List (Str × NameKind)) (n : Nat) (acc : List (Str × Addr)) (x : Str) (c : Addr), (names.lookup x = some .cell ∨ ∀ c, acc.lookup x = some c → n ≤ c) → (cellsFrom n names acc).lookup x = some c → n ≤ c
  | [], _, _, x, c, h, e => by
    rcases h with h | h
    · cases h
    · exact h c e
  | (name, kind) :: r, n, acc, x, c, h, e => by
    unfold cellsFrom at e
    rw [List.lookup_cons] at h
    split at e
    · rename_i hk
      have : n ≤ c := by
        have q := cells_low r (n + 1) ((name, n) :: acc) n x c (by omega) ?_ e
        · exact q
        · cases hb : x == name with
          | true => exact .inr fun c' e' => by rw [List.lookup_cons, hb] at e'; cases e'; exact Nat.le_refl _
          | false =>
            rw [hb] at h
            rcases h with h | h
            · exact .inl h
            · exact .inr fun c' e' => by rw [List.lookup_cons, hb] at e'; exact h c' e'
      exact this
    · rename_i hk
      refine cells_own r n acc x c ?_ e
      cases hb : x == name with
      | true =>
        rw [hb] at h
        rcases h with h | h
        · cases h; exact absurd rfl hk
        · exact .inr h
      | false => rw [hb] at h; exact h
where
  cells_low : ∀ (names : List (Str × NameKind)) (n : Nat) (acc : List (Str × Addr)) (lo : Nat) (x : Str) (c : Addr), lo ≤ n → (names.lookup x = some .cell ∨ ∀ c, acc.lookup x = some c → lo ≤ c) → (cellsFrom n names acc).lookup x = some c → lo ≤ c
  | [], _, _, _, x, c, _, h, e => by
    rcases h with h | h
    · cases h
    · exact h c e
  | (name, kind) :: r, n, acc, lo, x, c, hl, h, e => by
    unfold cellsFrom at e
    rw [List.lookup_cons] at h
    split at e
    · refine cells_low r (n + 1) ((name, n) :: acc) lo x c (by omega) ?_ e
      cases hb : x == name with
      | true => exact .inr fun c' e' => by rw [List.lookup_cons, hb] at e'; cases e'; exact hl
      | false =>
        rw [hb] at h
        rcases h with h | h
        · exact .inl h
        · exact .inr fun c' e' => by rw [List.lookup_cons, hb] at e'; exact h c' e'
    · rename_i hk
      refine cells_low r n acc lo x c hl ?_ e
      cases hb : x == name with
      | true =>
        rw [hb] at h
        rcases h with h | h
        · cases h; exact absurd rfl hk
        · exact .inr h
      | false => rw [hb] at h; exact h
theorem cells_old : ∀ (names : List (Str × NameKind)) (n : Nat) (acc : List (Str × Addr)) (x : Str), (∀ k, (x, k) ∈ names → k ≠ .cell) → (cellsFrom n names acc).lookup x = acc.lookup x
  | [], _, _, _, _ => rfl
  | (name, kind) :: r, n, acc, x, h => by
    unfold cellsFrom
    split
    · rename_i hk
      rw [cells_old r (n + 1) _ x fun k hm => h k (List.mem_cons_of_mem _ hm), List.lookup_cons]
      cases hb : x == name with
      | true => exact absurd (beq_iff_eq.mp hk) (h kind (by rw [beq_iff_eq.mp hb]; exact List.mem_cons_self))
      | false => rfl
    · exact cells_old r n acc x fun k hm => h k (List.mem_cons_of_mem _ hm)

theorem newEnv_comp {M : Model} {A : Around} {E : Value → Shared → Prop} {s : Shared} {scope : Scope} {env : Env} {cl : List (Str × Addr)} {Q : Env → Shared → Prop}
    (hQ : ∀ h', (∀ b o, s.heap.get? b = some o → h'.get? b = some o) → h'.Ns s.heap.objs.size (fun _ => none) →
      (∀ x c, (cellsFrom (s.heap.objs.size + 1) scope.names cl).lookup x = some c → cl.lookup x = some c ∨ (h'.IsCell c none ∧ s.heap.objs.size + 1 ≤ c)) →
      Q (newEnv scope s.heap.objs.size env.globals (cellsFrom (s.heap.objs.size + 1) scope.names cl) env.qual none .none (some env) builtinsNs) { s with heap := h' }) :
    wpAny M A (newFunctionEnv scope env.globals cl [] env.qual none .none (some env)) Q E s := by
  simp only [newFunctionEnv, Option.isSome_some, if_true]
  refine wpAny_bind (wpAny_alloc ?_)
  refine wpAny_bind (wpAny_layCells _ (fun name kind cells => by cases hkc : kind == NameKind.cell <;> simp [hkc]) _ _ _ _ ?_)
  rw [show ({ s with heap := s.heap.push { cls := .type "dict", data := .dict #[] } } : Shared).heap.objs.size = s.heap.objs.size + 1 from Heap.size_push ..]
  refine wpAny_bind (wpAny_pure (wpAny_pure ?_))
  have look := cells_look scope.names (s.heap.push { cls := .type "dict", data := .dict #[] }) cl
  rw [Heap.size_push] at look
  exact hQ _ (fun b o e => pushCells_keeps _ _ b o (Heap.get?_push_of_some _ e)) ((Heap.Ns.new s.heap (.type "dict")).keeps (pushCells_keeps _ _)) look

structure CompSc (env : Env) (scope : Scope) (cl : List (Str × Addr)) : Prop where
  kind : scope.kind = .function
  names : ∀ y ∈ scope.names, y.2 = .local → scope.names.lookup y.1 = some .local
  clos : closureFor scope env = pure cl
  sub : ∀ x c, cl.lookup x = some c → env.cells.lookup x = some c
  has : ∀ x, scope.names.lookup x = some .free → ∃ c, cl.lookup x = some c
  nocell : ∀ x, scope.names.lookup x = some .free → ∀ k, (x, k) ∈ scope.names → k ≠ .cell

def clOf (env : Env) : List (Str × NameKind) → List (Str × Addr) → List (Str × Addr)
  | [], acc => acc
  | (n, k) :: r, acc => if k == .free then clOf env r ((n, (env.cells.lookup n).getD 0) :: acc) else clOf env r acc
def freeB (env : Env) (names : List (Str × NameKind)) : Bool := names.all fun y => !(y.2 == .free) || (env.cells.lookup y.1).isSome
def nameB (names : List (Str × NameKind)) : Bool := names.all fun y => (!(y.2 == .local) || names.lookup y.1 == some .local) && (!(y.2 == .cell) || !(names.lookup y.1 == some .free))
theorem closureFor_go (env : Env) (f : Str × NameKind → List (Str × Addr) → Sem (ForInStep (List (Str × Addr))))
    (hf : ∀ name kind cs, f (name, kind) cs = if kind == .free then (do let c ← cellOf env name; pure (.yield ((name, c) :: cs))) else pure (.yield cs)) : ∀ (names : List (Str × NameKind)) (acc : List (Str × Addr)), freeB env names = true →
    (forIn names acc f : Sem (List (Str × Addr))) = pure (clOf env names acc)
  | [], acc, _ => rfl
  | (n, k) :: r, acc, h => by
    have h' : ((!(k == .free) || (env.cells.lookup n).isSome) && freeB env r) = true := h
    obtain ⟨h1, h2⟩ := Bool.and_eq_true_iff.mp h'
    rw [List.forIn_cons, hf]
    unfold clOf
    by_cases hk : (k == NameKind.free) = true
    · rw [hk, Bool.not_true, Bool.false_or] at h1
      obtain ⟨c, hc⟩ := Option.isSome_iff_exists.mp h1
      have e : cellOf env n = pure c := by unfold cellOf; rw [hc]
      rw [if_pos hk, if_pos hk, e, pure_bind, pure_bind]
      have := closureFor_go env f hf r ((n, c) :: acc) h2
      rw [hc]
      exact this
    · rw [if_neg hk, if_neg hk, pure_bind]
      exact closureFor_go env f hf r acc h2
theorem closureFor_all {env : Env} {scope : Scope} (h : freeB env scope.names = true) : closureFor scope env = pure (clOf env scope.names []) := by
  unfold closureFor
  dsimp only
  rw [closureFor_go env _ (fun name kind cs => by cases hk : kind == NameKind.free <;> simp [hk]) scope.names [] h, pure_bind]
theorem clOf_look (env : Env) : ∀ (names : List (Str × NameKind)) (acc : List (Str × Addr)), freeB env names = true → (∀ x c, acc.lookup x = some c → env.cells.lookup x = some c) → ∀ x c, (clOf env names acc).lookup x = some c → env.cells.lookup x = some c
  | [], _, _, h, x, c, e => h x c e
  | (n, k) :: r, acc, hf, h, x, c, e => by
    have h' : ((!(k == .free) || (env.cells.lookup n).isSome) && freeB env r) = true := hf
    obtain ⟨h1, h2⟩ := Bool.and_eq_true_iff.mp h'
    unfold clOf at e
    split at e
    · rename_i hk
      rw [hk, Bool.not_true, Bool.false_or] at h1
      obtain ⟨c0, hc0⟩ := Option.isSome_iff_exists.mp h1
      refine clOf_look env r _ h2 (fun y d q => ?_) x c e
      rw [List.lookup_cons] at q
      cases hb : y == n with
      | true => rw [hb] at q; rw [beq_iff_eq.mp hb, hc0]; rw [hc0] at q; exact q
      | false => rw [hb] at q; exact h y d q
    · exact clOf_look env r _ h2 h x c e
theorem clOf_has (env : Env) (x : Str) : ∀ (names : List (Str × NameKind)) (acc : List (Str × Addr)), (names.lookup x = some .free ∨ ∃ c, acc.lookup x = some c) → ∃ c, (clOf env names acc).lookup x = some c
  | [], _, h => by
    rcases h with h | h
    · cases h
    · exact h
  | (n, k) :: r, acc, h => by
    unfold clOf
    split
    · refine clOf_has env x r _ ?_
      rw [List.lookup_cons] at h
      cases hb : x == n with
      | true => exact .inr ⟨_, by rw [List.lookup_cons, hb]⟩
      | false =>
        rw [hb] at h
        rcases h with h | ⟨c, h⟩
        · exact .inl h
        · exact .inr ⟨c, by rw [List.lookup_cons, hb]; exact h⟩
    · rename_i hk
      refine clOf_has env x r _ ?_
      rw [List.lookup_cons] at h
      cases hb : x == n with
      | true =>
        rw [hb] at h
        rcases h with h | h
        · cases h; exact absurd rfl hk
        · exact .inr h
      | false => rw [hb] at h; exact h
theorem comp_sc {env : Env} {scope : Scope} (hk : scope.kind = .function) (hn : nameB scope.names = true) (hf : freeB env scope.names = true) : CompSc env scope (clOf env scope.names []) := by
  have hn' : ∀ y ∈ scope.names, ((!(y.2 == .local) || scope.names.lookup y.1 == some .local) && (!(y.2 == .cell) || !(scope.names.lookup y.1 == some .free))) = true := List.all_eq_true.mp hn
  refine ⟨hk, fun y hy e => ?_, closureFor_all hf, clOf_look env scope.names [] hf (fun x c h => by cases h), fun x h => clOf_has env x scope.names [] (.inl h), fun x h k hm e => ?_⟩
  · have := (Bool.and_eq_true_iff.mp (hn' y hy)).1
    rw [e] at this
    simpa using this
  · have := (Bool.and_eq_true_iff.mp (hn' (x, k) hm)).2
    subst e
    rw [h] at this
    simp at this

def cxComp (X : Cx) (Nc : List Str) (scope : Scope) (cl : List (Str × Addr)) (fp : List Addr) (pins : List (Addr × Obj)) (s3 : Shared) (H3 : Hp) : Cx where
  prog := X.prog
  w := X.w
  K := X.K
  mg := X.mg
  base := X.base
  A := X.A
  N := Nc
  s₀ := s3
  H₀ := H3
  env := compEnvC scope (cellsFrom (s3.heap.objs.size + 1) scope.names cl) s3.heap.objs.size X.env
  outer := X.stack
  stack := X.stack
  ex := fp
  calm := X.calm
  fn := fun x => decide (scope.names.lookup x = some .cell)
  pn := X.pn ++ pins
  xe := fun _ _ => False

theorem relabel_look {env : Env} : ∀ {names : List (Str × NameKind)} {x : Str} {k : NameKind}, (names.map fun (n, k) => if (k == NameKind.free && env.scope.kind == .function && env.kindOf n == some .cell) then (n, NameKind.cell) else (n, k)).lookup x = some k →
    names.lookup x = some k ∨ names.lookup x = some .free
  | [], _, _, h => by simp at h
  | (n, j) :: r, x, k, h => by
    have ih := @relabel_look env r x k
    rw [List.map_cons] at h
    by_cases hc : (j == NameKind.free && env.scope.kind == .function && env.kindOf n == some .cell) = true
    · simp only [hc, if_true] at h
      rw [List.lookup_cons] at h ⊢
      cases hx : x == n with
      | true =>
        simp only [Bool.and_eq_true] at hc
        right
        rw [beq_iff_eq.mp hc.1.1]
      | false => rw [hx] at h; exact ih h
    · have hc' : (j == NameKind.free && env.scope.kind == .function && env.kindOf n == some .cell) = false := by simpa using hc
      simp only [hc', Bool.false_eq_true, if_false] at h
      rw [List.lookup_cons] at h ⊢
      cases hx : x == n with
      | true => rw [hx] at h; exact .inl h
      | false => rw [hx] at h; exact ih h

section
variable {X : Cx} {pins : List (Addr × Obj)} {σ : St} {H : Hp} {s : Shared} {scope : Scope} {cl : List (Str × Addr)} {fp : List Addr} {Nc : List Str} {σc : St}

theorem comp_ok (S : CompSc X.env scope cl) (I : Inv X pins σ H s) (hf : ∀ b ∈ fp, FpOk X pins H b) (hfp : ∀ b ∈ fp, b < s.heap.objs.size) : (cxComp X Nc scope cl fp pins s H).Ok := by
  have clt : ∀ x c, cl.lookup x = some c → c < s.heap.objs.size + 1 := fun x c e => by
    obtain ⟨v, q⟩ := I.cell x c (S.sub x c e)
    exact Nat.lt_succ_of_lt q.lt
  refine ⟨I.ok.mod, S.kind, I.ok.glob, I.ok.blt, Nat.le_refl _, ?_, ?_, ?_, I.ok.hd, I.ok.frames, .inl rfl, ?_, I.bs, Nat.le_trans I.ok.bsz I.sz, ?_, ?_, I.stack, I.stkFree⟩
  · exact cells_inj scope.names _ cl clt fun x y c e1 e2 => I.ok.inj x y c (S.sub x c e1) (S.sub y c e2)
  · intro x hx
    have hx' : (relabel scope X.env).names.lookup x = some .cell ∨ (relabel scope X.env).names.lookup x = some .free := hx
    have : scope.names.lookup x = some .cell ∨ scope.names.lookup x = some .free := by
      rcases hx' with h | h
      · exact relabel_look h
      · rcases relabel_look h with h | h <;> exact .inr h
    rcases this with h | h
    · exact Option.isSome_iff_exists.mp (PySem.W.cellsFrom_some scope.names _ cl (.inl h))
    · obtain ⟨c, e⟩ := S.has x h
      exact Option.isSome_iff_exists.mp (PySem.W.cellsFrom_some scope.names _ cl (.inr (by rw [e]; rfl)))
  · intro x c hx e
    have hx' : scope.names.lookup x = some .cell := of_decide_eq_true hx
    have := cells_own scope.names _ cl x c (.inl hx') e
    exact Nat.le_of_succ_le this
  · intro b hb
    obtain ⟨f0, f1, f2, f3, f4, f5⟩ := hf b hb
    refine ⟨Nat.ne_of_lt (hfp b hb), fun x c e => ?_⟩
    have e' : (cellsFrom (s.heap.objs.size + 1) scope.names cl).lookup x = some c := e
    rcases cells_look scope.names (s.heap.push { cls := .type "dict", data := .dict #[] }) cl x c (by rw [Heap.size_push]; exact e') with q | ⟨_, q⟩
    · exact f4 x c (S.sub x c q)
    · rw [Heap.size_push] at q
      exact fun e => absurd (Nat.lt_of_lt_of_le (hfp b hb) (Nat.le_of_succ_le q)) (by rw [e]; exact Nat.lt_irrefl _)
  · intro b o e hb
    obtain ⟨f0, f1, f2, f3, f4, f5⟩ := hf b hb
    rcases f3 with z | z
    · exact I.ok.noex b o e z
    · exact absurd (Nat.lt_of_lt_of_le (Heap.lt_size e) (Nat.le_trans I.ok.bsz z)) (Nat.lt_irrefl _)
  · intro b hb hs
    obtain ⟨f0, f1, f2, f3, f4, f5⟩ := hf b hb
    rcases List.mem_cons.mp (I.stkSub b hs) with z | z
    · exact f1 z
    · exact f2 z

theorem comp_inv (S : CompSc X.env scope cl) (I : Inv X pins σ H s) (hf : ∀ b ∈ fp, FpOk X pins H b) (hfp : ∀ b ∈ fp, b < s.heap.objs.size) (hlen : σc.length = Nc.length)
    (hσ : ∀ (i : Nat) (x : Str) (v : V), Nc[i]? = some x → σc[i]? = some (some v) → scope.names.lookup x = some .free ∧ X.env.kindOf x ≠ some .local ∧ Vis X.env.scope x ∧ ∃ j : Nat, X.N[j]? = some x ∧ σ[j]? = some (some v))
    {h' : Heap} (hk : ∀ b o, s.heap.get? b = some o → h'.get? b = some o) (hns : h'.Ns s.heap.objs.size (fun _ => none))
    (hcl : ∀ x c, (cellsFrom (s.heap.objs.size + 1) scope.names cl).lookup x = some c → cl.lookup x = some c ∨ (h'.IsCell c none ∧ s.heap.objs.size + 1 ≤ c)) :
    Inv (cxComp X Nc scope cl fp pins s H) [] σc H { s with heap := h' } := by
  have cellOf : ∀ x c, cl.lookup x = some c → ∃ v, h'.IsCell c v ∧ H c = none := fun x c e => by
    obtain ⟨v, q⟩ := I.cell x c (S.sub x c e)
    exact ⟨v, q.keeps hk, I.freeC x c (S.sub x c e)⟩
  refine ⟨comp_ok S I hf hfp, rfl, I.bare, Un.kept hk, ⟨_, hns, fun i x v e1 e2 e3 => ?_⟩, fun x c e => ?_, I.hok.fresh (Nat.le_refl _), fun x c e => ?_, fun p hp => ?_, I.hok.kept hk, hlen⟩
  · obtain ⟨hx, hnl, hv, j, j1, j2⟩ := hσ i x v e1 e2
    obtain ⟨m, hn, hl⟩ := I.loc
    obtain ⟨u, r, l⟩ := hl j x v j1 j2 hv
    refine ⟨u, r, ?_⟩
    rcases l with ⟨k, _⟩ | ⟨k, c, ec, q⟩
    · exact absurd k hnl
    · obtain ⟨c', ec'⟩ := S.has x hx
      have := S.sub x c' ec'
      rw [ec] at this; cases this
      refine .inr ⟨?_, c, ?_, q.keeps hk⟩
      · -- its kind: relabelled, or free
        show (relabel scope X.env).names.lookup x = some .cell ∨ (relabel scope X.env).names.lookup x = some .free
        have look : ∀ {names : List (Str × NameKind)}, names.lookup x = some .free → (names.map fun (n, k) => if (k == NameKind.free && X.env.scope.kind == .function && X.env.kindOf n == some .cell) then (n, NameKind.cell) else (n, k)).lookup x = some .cell ∨
            (names.map fun (n, k) => if (k == NameKind.free && X.env.scope.kind == .function && X.env.kindOf n == some .cell) then (n, NameKind.cell) else (n, k)).lookup x = some .free := by
          intro names
          induction names with
          | nil => intro h; cases h
          | cons y r ih =>
            obtain ⟨n, j⟩ := y
            intro h
            rw [List.lookup_cons] at h
            rw [List.map_cons]
            cases hx : x == n with
            | true =>
              rw [hx] at h; cases h
              by_cases hc : (NameKind.free == NameKind.free && X.env.scope.kind == .function && X.env.kindOf n == some .cell) = true
              · simp only [hc, if_true, List.lookup_cons, hx]; exact .inl trivial
              · have hc' : (NameKind.free == NameKind.free && X.env.scope.kind == .function && X.env.kindOf n == some .cell) = false := by simpa using hc
                simp only [hc', Bool.false_eq_true, if_false, List.lookup_cons, hx]; exact .inr trivial
            | false =>
              rw [hx] at h
              have q := ih h
              by_cases hc : (j == NameKind.free && X.env.scope.kind == .function && X.env.kindOf n == some .cell) = true
              · simp only [hc, if_true, List.lookup_cons, hx]; exact q
              · have hc' : (j == NameKind.free && X.env.scope.kind == .function && X.env.kindOf n == some .cell) = false := by simpa using hc
                simp only [hc', Bool.false_eq_true, if_false, List.lookup_cons, hx]; exact q
        exact look hx
      · show (cellsFrom (s.heap.objs.size + 1) scope.names cl).lookup x = some c
        rw [cells_old _ _ _ _ (S.nocell x hx)]; exact ec'
  · rcases hcl x c e with q | q
    · obtain ⟨v, z, _⟩ := cellOf x c q
      exact ⟨v, z⟩
    · exact ⟨none, q.1⟩
  · rcases hcl x c e with q | q
    · obtain ⟨v, _, z⟩ := cellOf x c q
      exact z
    · exact I.hok.fresh (Nat.le_of_succ_le q.2)
  · have hp' : p ∈ X.pn ++ pins := by
      have : p ∈ (X.pn ++ pins) ++ [] := hp
      simpa using this
    obtain ⟨e, n, ne, nf, d⟩ := I.pin p hp'
    refine ⟨hk _ _ e, n, Nat.ne_of_lt (Heap.lt_size e), fun z => ?_, d⟩
    rcases List.mem_cons.mp (I.stkSub p.1 z) with z | z
    · exact ne z
    · exact nf z
end

def PF (X : Cx) (ifs : List Expr) (t : TT) : Prop :=
  ∀ (pins : List (Addr × Obj)) (s : Shared) (σ : St) (H : Hp) (Q : Bool → Hp → Prop), Inv X pins σ H s → t σ H Q →
    wpAny (model X.prog X.w) X.A (forIn ifs true fun c r => if r = true then do let ok ← isTrue c X.env (eval c X.env); pure (ForInStep.yield ok) else pure (ForInStep.yield r)) (TP X pins σ Q) X.xe s
def tYes : TT := fun _ H Q => Q true H
theorem pf_nil {X : Cx} : PF X [] tYes := fun _ _ _ H _ I h => wpAny_pure ⟨H, I, h⟩
theorem pf_one {X : Cx} {c : Expr} {t : TT} (h : PT X c t) : PF X [c] t := by
  intro pins s σ H Q I hq
  simp only [List.forIn_cons, List.forIn_nil, if_true]
  exact wpAny_bind (wpAny_bind (wpAny_mono (h pins s σ H Q I hq) (fun b s' hb => wpAny_pure (wpAny_pure hb)) fun _ _ x => x))

theorem compLoop_gen {prog : Program} {w : World} {A : Around} {R : Result → Shared → Prop} {s : Shared} {elt target iter : Expr} {ifs : List Expr} {scope : Scope} {pos : Pos} {it acc : Value} {env : Env} (I : Nat → Shared → Prop)
    (turn : ∀ n s, I n s → wpAny (model prog w) A (pyNext it) (fun r s₁ => match r with
      | none => R (.ok .next) s₁
      | some v => wpAny (model prog w) A (letOwnedTupleGo target it v) (fun _ s₁' => wpAny (model prog w) A (assign target env v) (fun _ s₂ =>
          wpAny (model prog w) A (forIn ifs true fun c r => if r = true then do let ok ← isTrue c env (eval c env); pure (ForInStep.yield ok) else pure (ForInStep.yield r)) (fun ok s₃ =>
            if ok = true then wpAny (model prog w) A (eval elt env) (fun x s₄ =>
              wpAny (model prog w) A (call (.builtin "list.append") [acc, x]) (fun _ s₅ => ∃ m, m < n ∧ I m s₅) (fun _ _ => False) s₄) (fun _ _ => False) s₃
            else ∃ m, m < n ∧ I m s₃) (fun _ _ => False) s₂) (fun _ _ => False) s₁') (fun _ _ => False) s₁) (fun _ _ => False) s)
    (n : Nat) (h : I n s) :
    codeAny (model prog w) A (.compLoop (.ListComp elt [⟨target, iter, ifs, 0⟩] scope pos) 0 it acc env) R s := by
  refine codeAny_loop rfl I (fun n s hI => ?_) n h
  show wpAny _ A ((compTurn (.ListComp elt [⟨target, iter, ifs, 0⟩] scope pos) 0 it acc env).onRaise (fun x => do noteFrame x env; theTreesLotGoes x)) _ _ s
  refine wpAny_noted ?_
  rw [compTurn_list]
  refine wpAny_bind (wpAny_standAt (wpAny_bind (wpAny_mono (turn n s hI) (fun r s₁ h₁ => ?_) fun _ _ h' => h'.elim)))
  cases r with
  | none => exact wpAny_pure h₁
  | some v =>
    refine wpAny_bind (wpAny_mono h₁ (fun _ s₁' h₁' => ?_) fun _ _ h' => h'.elim)
    refine wpAny_bind (wpAny_mono h₁' (fun _ s₂ h₂ => wpAny_bind (wpAny_mono h₂ (fun ok s₃ h₃ => ?_) fun _ _ h' => h'.elim)) fun _ _ h' => h'.elim)
    cases ok with
    | false => exact wpAny_pure ⟨rfl, h₃⟩
    | true =>
      exact wpAny_bind (wpAny_bind (wpAny_mono h₃ (fun x s₄ h₄ => wpAny_bind (wpAny_mono h₄ (fun _ s₅ h₅ => wpAny_pure (wpAny_pure ⟨rfl, h₅⟩)) fun _ _ h' => h'.elim)) fun _ _ h' => h'.elim))

def compSt (fi : List (Option Nat)) (σ : St) : St := fi.map fun o => match o with
  | none => none
  | some j => (σ[j]?).join
abbrev CT (α : Type) := List Addr → List (Addr × Obj) → Shared → Hp → α
def CompW (J : It) (a : Addr) (σ0 : St) (H1 : Hp) (g : TG) (tc : TT) (te : TE) (Q : VK) : Prop :=
  ∃ W : Nat → Nat → St → Hp → Prop, (∃ m, W 0 m σ0 (upd H1 a (.lst []))) ∧ ∀ i m σc Hc, W i m σc Hc →
    (J.stop i Hc ∧ Q (.ref a) Hc) ∨ (J.go i Hc ∧ ∀ x H', J.yld i Hc x H' → g x σc H' fun σ2 H2 => tc σ2 H2 fun b H3' =>
      if b = true then te σ2 H3' fun y H4 => ∃ ys, H4 a = some (.lst ys) ∧ ys.length < sizeLine ∧ ∃ m', m' < m ∧ W (i + 1) m' σ2 (upd H4 a (.lst (ys ++ [y])))
      else ∃ m', m' < m ∧ W (i + 1) m' σ2 H3')
def tComp (fi : List (Option Nat)) (wi : TI) (g : CT TG) (tc : CT TT) (te : CT TE) : TE := fun σ H Q => wi σ H fun J H1 => ∀ fp pins s3 H3 a, H1 a = none →
  CompW J a (compSt fi σ) H1 (g fp pins s3 H3) (tc fp pins s3 H3) (te fp pins s3 H3) Q
def CompFrom (X : Cx) (scope : Scope) (Nc : List Str) (fi : List (Option Nat)) : Prop :=
  fi.length = Nc.length ∧ ∀ (i : Nat) (x : Str) (j : Nat), Nc[i]? = some x → fi[i]? = some (some j) → scope.names.lookup x = some .free ∧ X.env.kindOf x ≠ some .local ∧ Vis X.env.scope x ∧ X.N[j]? = some x

def cfB (sc : Scope) (env : Env) (N : List Str) : List Str → List (Option Nat) → Bool
  | [], [] => true
  | _ :: xs, none :: os => cfB sc env N xs os
  | x :: xs, some j :: os => (sc.names.lookup x == some .free) && ((env.scope.names.lookup x == some .cell) || (env.scope.names.lookup x == some .free)) && (N[j]? == some x) && cfB sc env N xs os
  | _, _ => false
theorem comp_from_go {X : Cx} {scope : Scope} : ∀ {Nc : List Str} {fi : List (Option Nat)}, cfB scope X.env X.N Nc fi = true → CompFrom X scope Nc fi
  | [], [], _ => ⟨rfl, fun i x j e => by simp at e⟩
  | _ :: xs, none :: os, h => by
    obtain ⟨h1, h2⟩ := comp_from_go (X := X) (scope := scope) (Nc := xs) (fi := os) h
    refine ⟨by rw [List.length_cons, List.length_cons, h1], fun i x j e1 e2 => ?_⟩
    cases i with
    | zero => simp at e2
    | succ i => exact h2 i x j (by simpa using e1) (by simpa using e2)
  | x :: xs, some k :: os, h => by
    have h' : ((scope.names.lookup x == some .free) && ((X.env.scope.names.lookup x == some .cell) || (X.env.scope.names.lookup x == some .free)) && (X.N[k]? == some x) && cfB scope X.env X.N xs os) = true := h
    simp only [Bool.and_eq_true, Bool.or_eq_true, beq_iff_eq] at h'
    obtain ⟨⟨⟨a1, a2⟩, a3⟩, a4⟩ := h'
    obtain ⟨h1, h2⟩ := comp_from_go (X := X) (scope := scope) (Nc := xs) (fi := os) a4
    refine ⟨by rw [List.length_cons, List.length_cons, h1], fun i y j e1 e2 => ?_⟩
    cases i with
    | zero =>
      simp at e1 e2
      subst e1; subst e2
      refine ⟨a1, ?_, ?_, a3⟩
      · show X.env.scope.names.lookup x ≠ some .local
        rcases a2 with a2 | a2 <;> rw [a2] <;> decide
      · rcases a2 with a2 | a2
        · exact .inr (.inl a2)
        · exact .inr (.inr a2)
    | succ i => exact h2 i y j (by simpa using e1) (by simpa using e2)
  | [], _ :: _, h => by cases h
  | _ :: _, [], h => by cases h

section
variable {X : Cx} {elt tg iter : Expr} {ifs : List Expr} {scope : Scope} {pos : Pos} {cl : List (Str × Addr)} {Nc : List Str} {fi : List (Option Nat)} {wi : TI} {g : CT TG} {tc : CT TT} {te : CT TE}

theorem comp_block (S : CompSc X.env scope cl) (hc : X.calm = true) (hfr : CompFrom X scope Nc fi)
    (hb : ∀ fp pins s3 H3, PG (cxComp X Nc scope cl fp pins s3 H3) tg (g fp pins s3 H3) ∧ PF (cxComp X Nc scope cl fp pins s3 H3) ifs (tc fp pins s3 H3) ∧ PE (cxComp X Nc scope cl fp pins s3 H3) elt (te fp pins s3 H3))
    {pins : List (Addr × Obj)} {σ : St} {Q : VK} {itv : Value} {s2 : Shared} {RR : Value → Addr → Result → Shared → Prop}
    (h2 : PIE X pins σ tg (fun J H1 => ∀ fp pins s3 H3 a, H1 a = none → CompW J a (compSt fi σ) H1 (g fp pins s3 H3) (tc fp pins s3 H3) (te fp pins s3 H3) Q) itv s2)
    (hRR : ∀ a C s' H' m, s'.heap.Ns C m → (∀ h', Heap.SameBut C s'.heap h' → Inv X pins σ H' { s' with heap := h' }) → FpOk X pins H' C → Q (.ref a) H' → RR (.ref a) C (.ok .next) s') :
    wpAny (model X.prog X.w) X.A (newList []) (fun acc s₃ => wpAny (model X.prog X.w) X.A (newFunctionEnv scope X.env.globals cl [] X.env.qual none .none (some X.env)) (fun cenv s₄ =>
      codeAny (model X.prog X.w) X.A (.compStart (.ListComp elt [⟨tg, iter, ifs, 0⟩] scope pos) 0 itv acc { cenv with scope := relabel scope X.env }) (RR acc cenv.locals) s₄) X.xe s₃) X.xe s2 := by
  obtain ⟨it, fp, tn, J, H2, e, I2, T, st2, f2, hR⟩ := h2
  subst e
  refine wpAny_newObj_type ?_
  have hfr2 : H2 s2.heap.objs.size = none := I2.hok.fresh (Nat.le_refl _)
  -- the list, tracked
  have I3 : Inv X pins σ (upd H2 s2.heap.objs.size (.lst [])) { s2 with heap := s2.heap.push { cls := .type "list", dict := none, data := .seq ([] : List Value).toArray } } :=
    I2.laid (t' := s2.toks) (fun b u e => Heap.get?_push_of_some _ e) (Nat.le_refl _) ⟨Nat.zero_le _, [], 0, .nil, Heap.get?_push_size _ rfl⟩
  obtain ⟨W, ⟨m0, w0⟩, turn⟩ := hR fp pins { s2 with heap := s2.heap.push { cls := .type "list", dict := none, data := .seq ([] : List Value).toArray } } (upd H2 s2.heap.objs.size (.lst [])) s2.heap.objs.size hfr2
  generalize hH3 : upd H2 s2.heap.objs.size (.lst []) = H3 at I3 w0 turn
  generalize hs3 : ({ s2 with heap := s2.heap.push { cls := .type "list", dict := none, data := .seq ([] : List Value).toArray } } : Shared) = s3 at I3 turn
  have hheap3 : s3.heap = s2.heap.push { cls := .type "list", dict := none, data := .seq ([] : List Value).toArray } := by rw [← hs3]
  have hsz3 : s3.heap.objs.size = s2.heap.objs.size + 1 := by rw [hheap3, Heap.size_push]
  have keep3 : ∀ b o, s2.heap.get? b = some o → s3.heap.get? b = some o := fun b o e => by rw [hheap3]; exact Heap.get?_push_of_some _ e
  have st3 : tn 0 s3.heap := T.keep _ _ _ st2 fun b _ o e => keep3 b o e
  have hfp : ∀ b ∈ fp, b < s2.heap.objs.size := fun b hb => by
    obtain ⟨o, e, _⟩ := T.obj _ _ st2 b hb
    exact Heap.lt_size e
  have f3 : ∀ b ∈ fp, FpOk X pins H3 b := fun b hb => by
    obtain ⟨f0, fr⟩ := f2 b hb
    refine ⟨?_, fr⟩
    rw [← hH3, upd_ne (Nat.ne_of_lt (hfp b hb))]; exact f0
  have hfp3 : ∀ b ∈ fp, b < s3.heap.objs.size := fun b hb => by rw [hsz3]; exact Nat.lt_succ_of_lt (hfp b hb)
  show wpAny _ _ _ _ _ s3
  refine newEnv_comp fun h4 hk4 hns4 hcl4 => ?_
  have hlen : (compSt fi σ).length = Nc.length := by rw [← hfr.1]; simp [compSt]
  have I4 : Inv (cxComp X Nc scope cl fp pins s3 H3) [] (compSt fi σ) H3 { s3 with heap := h4 } := by
    refine comp_inv S I3 f3 hfp3 hlen (fun i x v e1 e2 => ?_) hk4 hns4 hcl4
    unfold compSt at e2
    rw [List.getElem?_map] at e2
    cases ef : fi[i]? with
    | none => rw [ef] at e2; cases e2
    | some o =>
      rw [ef] at e2
      cases o with
      | none => cases e2
      | some j =>
        obtain ⟨q1, q2, q3, q4⟩ := hfr.2 i x j e1 ef
        have e2' : (σ[j]?).join = some v := Option.some.inj e2
        refine ⟨q1, q2, q3, j, q4, ?_⟩
        cases es : σ[j]? with
        | none => rw [es] at e2'; cases e2'
        | some z => rw [es] at e2'; cases z with
          | none => cases e2'
          | some z => cases e2'; rfl
  have st4 : tn 0 h4 := T.keep _ _ _ st3 fun b _ o e => hk4 b o e
  obtain ⟨pg, pf, pe⟩ := hb fp pins s3 H3
  -- the loop
  have loop : codeAny (model X.prog X.w) X.A (.compLoop (.ListComp elt [⟨tg, iter, ifs, 0⟩] scope pos) 0 (.ref it) (.ref s2.heap.objs.size) (cxComp X Nc scope cl fp pins s3 H3).env) (RR (.ref s2.heap.objs.size) s3.heap.objs.size) { s3 with heap := h4 } := by
    have stat : ∀ {H' : Hp}, (∀ b ∈ fp, H' b = none) → ∀ b ∈ fp, FpOk (cxComp X Nc scope cl fp pins s3 H3) [] H' b := fun hn b hb => by
      obtain ⟨f0, f1, f2', f3', f4, f5⟩ := f3 b hb
      have ok := I4.ok
      refine ⟨hn b hb, (ok.exf b hb).1, ok.exfs b hb, .inl hb, (ok.exf b hb).2, fun p hp => ?_⟩
      have : p ∈ X.pn ++ pins := by
        have : p ∈ (X.pn ++ pins) ++ [] := hp
        simpa using this
      exact f5 p this
    refine compLoop_gen (fun n s' => ∃ i σ' H', Inv (cxComp X Nc scope cl fp pins s3 H3) [] σ' H' s' ∧ tn i s'.heap ∧ (∀ b ∈ fp, H' b = none) ∧ W i n σ' H') ?_ m0 ⟨0, _, H3, I4, st4, fun b hb => (f3 b hb).1, w0⟩
    rintro n s5 ⟨i, σ5, H5, I5, st5, fr5, w5⟩
    rcases turn i n σ5 H5 w5 with ⟨stop, q⟩ | ⟨go, step⟩
    · refine thn (T.done (cxComp X Nc scope cl fp pins s3 H3) rfl rfl rfl hc i [] s5 σ5 H5 _ I5 (stat fr5) st5 stop) fun r s6 ⟨hr, I6⟩ => ?_
      subst hr
      obtain ⟨m, hn, _⟩ := id I6.loc
      refine hRR _ _ s6 H5 m hn (fun h' hs' => ?_) (I3.fpOk (Nat.le_refl _) I6.free) q
      · -- back in the body
        have ub : Un (frs X.stack) fp H3 H5 s3.heap s6.heap := I6.base
        have neC : ∀ b o, s3.heap.get? b = some o → b ≠ s3.heap.objs.size := fun b o e => Nat.ne_of_lt (Heap.lt_size e)
        have ub' : Un (frs X.stack) fp H3 H5 s3.heap h' :=
          ⟨fun b o e n hb hx => (hs'.2 b (neC b o e)).trans (ub.keep b o e n hb hx), fun b o e n hb hx => (ub.slot b o e n hb hx).imp fun sl z => (hs'.2 b (neC b o e)).trans z, ub.free, fun b o e hx => (ub.there b o e hx).imp fun o' z => (hs'.2 b (neC b o e)).trans z, ub.tups, ub.frzs, ub.tbls⟩
        have hok' : HOk X.prog X.w H5 h' := fun b ob e => by
          refine (I6.hok b ob e).stay (fun c w' hcc z => (hs'.2 c ?_).trans z) (fun _ z => z) fun _ _ z => z
          rintro rfl
          have hfree : H5 s3.heap.objs.size = none := I6.free
          rcases hcc with z | z
          · have z' : s3.heap.objs.size = b := z
            rw [← z', hfree] at e; cases e
          · have z' : H5 s3.heap.objs.size = some (.own b) := z
            rw [hfree] at z'; cases z'
        exact I3.call' (s' := { s6 with heap := h' }) (ch := fp) I6.os ub' hok' I6.bare fun b hb => by
          obtain ⟨f0, f1, f2', f3', f4, f5⟩ := f3 b hb
          exact ⟨f3', f1, f4, f5⟩
    · refine thn (T.item (cxComp X Nc scope cl fp pins s3 H3) rfl rfl rfl hc i [] s5 σ5 H5 _ I5 (stat fr5) st5 go) fun r s6 ⟨u, hr, h6⟩ => ?_
      subst hr
      refine thn h6 fun _ s7 ⟨x, H7, I7, r7, y7, st7, fr7⟩ => ?_
      have I7' := I7.pinned (stat fr7) (T.obj _ _ st7)
      refine thn (pg _ s7 σ5 H7 x u _ I7' r7 (step x H7 y7)) fun _ s8 ⟨σ8, H8, I8, q8⟩ => ?_
      refine thn (pf _ s8 σ8 H8 _ I8 q8) fun ok s9 ⟨H9, I9, q9⟩ => ?_
      have again : ∀ {σ' : St} {H' : Hp} {s' : Shared}, Inv (cxComp X Nc scope cl fp pins s3 H3) ([] ++ pinsAt fp s7.heap) σ' H' s' → (∃ m', m' < n ∧ W (i + 1) m' σ' H') →
          ∃ m, m < n ∧ ∃ i σ' H', Inv (cxComp X Nc scope cl fp pins s3 H3) [] σ' H' s' ∧ tn i s'.heap ∧ (∀ b ∈ fp, H' b = none) ∧ W i m σ' H' := fun {σ' H' s'} I' ⟨m', hm, w'⟩ => by
        refine ⟨m', hm, i + 1, σ', H', I'.unpinned, T.keep _ _ _ st7 fun b hb o e => (I'.pin (b, o) (List.mem_append_right _ (List.mem_append_right _ (mem_pinsAt hb e)))).1, fun b hb => ?_, w'⟩
        obtain ⟨o, e, d⟩ := T.obj _ _ st7 b hb
        exact (I'.pin (b, o) (List.mem_append_right _ (List.mem_append_right _ (mem_pinsAt hb e)))).2.1
      cases ok with
      | false => exact again I9 q9
      | true =>
        rw [if_pos rfl]
        refine thn (pe _ s9 σ8 H9 _ I9 q9) fun y s10 ⟨yv, H10, I10, r10, ys, ha, hz, q10⟩ => ?_
        refine thn (mt_append _ s10 σ8 H10 (.ref s2.heap.objs.size) [yv] (.ref s2.heap.objs.size) [y] (fun _ H' => ∃ m', m' < n ∧ W (i + 1) m' σ8 H') I10 rfl (.cons r10 .nil) ⟨_, ys, yv, rfl, rfl, ha, hz, q10⟩) fun _ s11 ⟨_, H11, I11, _, q11⟩ => ?_
        exact again I11 q11
  exact codeAny_compStart_list loop (T.self X.A 0 _ _ _ st4 loop)

theorem pe_comp (S : CompSc X.env scope cl) (hc : X.calm = true) (hfr : CompFrom X scope Nc fi) (hi : PI X tg iter wi)
    (hb : ∀ fp pins s3 H3, PG (cxComp X Nc scope cl fp pins s3 H3) tg (g fp pins s3 H3) ∧ PF (cxComp X Nc scope cl fp pins s3 H3) ifs (tc fp pins s3 H3) ∧ PE (cxComp X Nc scope cl fp pins s3 H3) elt (te fp pins s3 H3))
    (hs : ∀ x, foldedSetIterable iter X.env x = pure x := by intro _; rfl) : PE X (.ListComp elt [⟨tg, iter, ifs, 0⟩] scope pos) (tComp fi wi g tc te) := by
  intro pins s σ H Q I h
  rw [eval_ListComp]
  refine wpAny_comprehension_free (use := none) rfl hs S.clos S.kind S.names (thn (hi pins s σ H _ I h) fun v s1 h1 => thn h1 fun itv s2 h2 => ?_)
  refine comp_block (Q := Q) (RR := fun acc C => compPost (model X.prog X.w) X.A X.xe none (EP X pins σ Q) acc C) S hc hfr hb h2 ?_
  intro a C s' H' m hn hI _ q
  exact ⟨m, hn, fun h' hs' => ⟨.ref a, H', hI h' hs', rfl, q⟩⟩

theorem ps_setComp {i : Nat} {y : Str} {py spos : Pos} (S : CompSc X.env scope cl) (hc : X.calm = true) (hfr : CompFrom X scope Nc fi) (hN : X.N.Nodup) (hiy : X.N[i]? = some y) (hy : X.env.kindOf y = some .local) (hi : PI X tg iter wi)
    (hb : ∀ fp pins s3 H3, PG (cxComp X Nc scope cl fp pins s3 H3) tg (g fp pins s3 H3) ∧ PF (cxComp X Nc scope cl fp pins s3 H3) ifs (tc fp pins s3 H3) ∧ PE (cxComp X Nc scope cl fp pins s3 H3) elt (te fp pins s3 H3))
    (hsw : swapsWith (.ListComp elt [⟨tg, iter, ifs, 0⟩] scope pos) (some (.Name y py)) spos.line X.env = pure true)
    (hs : ∀ x, foldedSetIterable iter X.env x = pure x := by intro _; rfl) : PS X (.Assign [.Name y py] (.ListComp elt [⟨tg, iter, ifs, 0⟩] scope pos) spos) (tAsg (tComp fi wi g tc te) (gName i)) := by
  intro pins s σ H D I h
  rw [exec_Assign_Name_used _ _ _ _ hsw]
  refine wpAny_bind (wpAny_standAt (wpAny_bind ?_))
  show wpAny _ X.A (do let _ ← comprehension (.ListComp elt [⟨tg, iter, ifs, 0⟩] scope pos) scope X.env _ (newList []) false (eval iter X.env) (some (assign (.Name y py) X.env))) _ _ s
  refine wpAny_bind (wpAny_mono (wpAny_comprehension_free (use := some (assign (.Name y py) X.env)) (Q := fun _ s' => SP X pins D .next s') rfl hs S.clos S.kind S.names
    (thn (hi pins s σ H _ I h) fun v s1 h1 => thn h1 fun itv s2 h2 => ?_)) (fun _ s' hq => wpAny_pure (wpAny_pure hq)) fun _ _ e => e)
  refine comp_block (Q := fun v H' => gName i v σ H' D.nx) (RR := fun acc C => compPost (model X.prog X.w) X.A X.xe (some (assign (.Name y py) X.env)) (fun _ s' => SP X pins D .next s') acc C) S hc hfr hb h2 ?_
  intro a C s' H' m hn hI ⟨f0, f1, f2, f3, f4, f5⟩ q
  show wpAny _ X.A (assign (.Name y py) X.env (.ref a)) _ _ _
  have I' : Inv X pins σ H' s' := hI s'.heap (Heap.SameBut.refl ..)
  obtain ⟨mL, hnL, _⟩ := id I'.loc
  refine wpAny_assign_Name (store_ok2 I' hN hiy (.inl hy) (v := .ref a) rfl (fun s'' I'' ⟨b, sb, hbL⟩ => ?_) (.inr hy))
  have hb' : b ≠ C := by
    rcases hbL with z | z
    · rw [z]; exact Ne.symm f1
    · intro e
      exact f4 y b z e
  refine ⟨m, hn.sameBut sb (Ne.symm hb'), fun h3 hs3 => ?_⟩
  refine ⟨σ.set i (some (.ref a)), H', ?_, q⟩
  -- the frame of the comprehension changed behind the store
  have keep : ∀ b o, b ≠ C → s''.heap.get? b = some o → h3.get? b = some o := fun b o hb e => (hs3.2 b hb).trans e
  exact Inv.turned (t' := s''.toks) (it := C) I'' keep f0 f1 f3 f4 f5
end
end L2
set_option Elab.async false
set_option linter.all false
set_option maxRecDepth 100000
set_option maxHeartbeats 4000000
namespace PySem.L3
open PySem
theorem boot_len : bootBuiltins "len" = some (.builtin "len") := by decide +kernel
theorem boot_abs : bootBuiltins "abs" = some (.builtin "abs") := by decide +kernel
theorem boot_any : bootBuiltins "any" = some (.builtin "any") := by decide +kernel
theorem boot_all : bootBuiltins "all" = some (.builtin "all") := by decide +kernel
theorem boot_sum : bootBuiltins "sum" = some (.builtin "sum") := by decide +kernel
theorem boot_min : bootBuiltins "min" = some (.builtin "min") := by decide +kernel
theorem boot_max : bootBuiltins "max" = some (.builtin "max") := by decide +kernel
theorem boot_sorted : bootBuiltins "sorted" = some (.builtin "sorted") := by decide +kernel
theorem boot_isinstance : bootBuiltins "isinstance" = some (.builtin "isinstance") := by decide +kernel
theorem boot_tuple : bootBuiltins "tuple" = some (.type "tuple") := by decide +kernel
theorem boot_list : bootBuiltins "list" = some (.type "list") := by decide +kernel
theorem boot_bool : bootBuiltins "bool" = some (.type "bool") := by decide +kernel
theorem boot_int : bootBuiltins "int" = some (.type "int") := by decide +kernel
theorem boot_set : bootBuiltins "set" = some (.type "set") := by decide +kernel
theorem boot_range : bootBuiltins "range" = some (.type "range") := by decide +kernel
theorem boot_reversed : bootBuiltins "reversed" = some (.type "reversed") := by decide +kernel
theorem boot_zip : bootBuiltins "zip" = some (.type "zip") := by decide +kernel
theorem boot_enumerate : bootBuiltins "enumerate" = some (.type "enumerate") := by decide +kernel
end PySem.L3

namespace L2
open PySem PySem.Spec PyProof.Rows

def Cal (P : Program) (w : World) (K : PySem.W.Frag) (mg : Str → Option Value) (base : Heap) (k : Nat) (x : Str) (sp : Sp) : Prop :=
  ∃ f fd ps, FnOk P w K mg base CX0 k f fd ps sp ∧ Binds K fd ps [] ∧ PySem.W.keepIn K (.ref f) = true ∧ mg x = some (.ref f)
def tCl (sp : Sp) (t : TA) : TE := fun σ H Q => t σ H fun vs H1 => sp vs H1 Q E0
section
variable {X : Cx} {k : Nat} {x : Str} {sp : Sp} {p pos : Pos} {e : Expr} {es : List Expr} {t : TA}
theorem pe_c (C : Cal X.prog X.w X.K X.mg X.base k x sp) (hr : Room k X.A) (hg : Gl X x) (ha : PA X (e :: es) t) (hdb : (x == ("__debug__" : Str)) = false := by decide)
    (he : starEach (e :: es) X.env = (false, eval e X.env) :: starEach es X.env := by rfl) (hpl : (backTo pos (starEach es X.env)).any (·.1) = false := by rfl) : PE X (.Call (.Name x p) (e :: es) [] pos) (tCl sp t) := by
  obtain ⟨f, fd, ps, F, hb, hk, hm⟩ := C
  have q := pe_call (dvs := []) (E := E0) (p := p) (pos := pos) F hr hg hm hk hb .nil pass0 ha hdb he hpl
  intro pins s σ H Q I h
  refine q pins s σ H Q I ?_
  show t σ H fun vs H1 => sp (vs ++ []) H1 Q E0
  have e0 : (fun vs H1 => sp (vs ++ []) H1 Q E0) = fun vs H1 => sp vs H1 Q E0 := by funext vs H1; rw [List.append_nil]
  rw [e0]; exact h
end
theorem cal_mk {P : Program} {w : World} {K : PySem.W.Frag} {mg : Str → Option Value} {base : Heap} {k : Nat} {x : Str} {sp : Sp} {f : Addr} {fd : FuncData} {ps : List Str}
    (F : FnOk P w K mg base CX0 k f fd ps sp) (b : Binds K fd ps []) (kp : PySem.W.keepIn K (.ref f) = true) (m : mg x = some (.ref f)) : Cal P w K mg base k x sp := ⟨f, fd, ps, F, b, kp, m⟩

section
variable {X : Cx}
theorem call_isinstance : CallR X (.builtin "isinstance") (fun xs H Q => ∃ x T t b, xs = [x, .ty T] ∧ TyOf X.K H x t ∧ PySem.W.kitOne X.K t (.type T) = some b ∧ Q (.bl b) H) := by
  intro pins s σ H xs us Q I rv h
  obtain ⟨x, T, t, b, rfl, ty, e, q⟩ := h
  obtain ⟨u, u', rfl, rx, rt⟩ := vals2 rv
  cases rt
  exact isinst_ok I rx ty e fun tk => ⟨.bl b, H, I.tok tk, rfl, q⟩

theorem bools_of : ∀ {bs : List Bool} {its : List Value}, Vals (bs.map V.bl) its → its = bs.map Value.bool
  | [], _, r => by cases r; rfl
  | b :: bs, _, r => by
    cases r with
    | cons r1 r2 => cases r1; rw [bools_of r2]; rfl
theorem range_any (bs : List Bool) : (List.range bs.length).any (fun i => bs.getD i false) = bs.any id := by
  induction bs with
  | nil => rfl
  | cons b bs ih =>
    rw [List.length_cons, List.range_succ_eq_map, List.any_cons, List.any_map, List.any_cons]
    simpa [Function.comp_def] using congrArg (b || ·) ih
theorem range_all (bs : List Bool) : (List.range bs.length).all (fun i => bs.getD i false) = bs.all id := by
  induction bs with
  | nil => rfl
  | cons b bs ih =>
    rw [List.length_cons, List.range_succ_eq_map, List.all_cons, List.all_map, List.all_cons]
    simpa [Function.comp_def] using congrArg (b && ·) ih
theorem walk_bools {pins : List (Addr × Obj)} {s : Shared} {σ : St} {H : Hp} {p : Addr} {bs : List Bool} {R : Bool → Bool} {E : Value → Shared → Prop} (hc : X.calm = true) (I : Inv X pins σ H s) (hq : SqL X.K H p (bs.map V.bl))
    {QQ : (Nat → Bool) → Nat → Shared → Prop} (hQ : ∀ h' tk, (∀ b o, s.heap.get? b = some o → h'.get? b = some o) → QQ (fun i => bs.getD i false) bs.length { s with heap := h', toks := tk }) :
    wpAny (model X.prog X.w) X.A.in1 (pyIter (.ref p)) (fun it s₂ => ∃ I fp wr n P St tr, it = .ref I ∧ Walks X.prog X.w X.A.in1 I fp wr n P St ∧ St 0 s₂.heap ∧ TruthOf X.prog X.w X.A.in1 P tr ∧
      ∀ h' tk, (∀ b o, b ∉ wr → s₂.heap.get? b = some o → h'.get? b = some o) → QQ tr n { s₂ with heap := h', toks := tk }) E s := by
  obtain ⟨its, rv, pl, hz⟩ := I.list hq
  have e := bools_of rv
  subst e
  have hl := pl.isList
  have hax : p < s.heap.objs.size := by obtain ⟨_, e, _⟩ := hl; exact Heap.lt_size e
  refine wpAny_pyIter_list hl ?_
  refine ⟨s.heap.objs.size, [s.heap.objs.size, p], [s.heap.objs.size], (bs.map Value.bool).toArray.size, (fun i v => (bs.map Value.bool).toArray[i]? = some v), _, fun i => bs.getD i false, rfl,
    Walks.list (prog := X.prog) (w := X.w) (A := X.A.in1) (I.ok.hd hc) s.heap.objs.size p (Nat.ne_of_lt hax) _, ⟨⟨_, Heap.get?_push_size _ rfl, rfl, rfl⟩, hl.push _⟩, ?_, fun h' tk hk => ?_⟩
  · intro i v s' Q' E' hP hQ'
    have : ∃ b, bs[i]? = some b ∧ v = .bool b := by
      have hP' : (bs.map Value.bool)[i]? = some v := by simpa using hP
      rw [List.getElem?_map] at hP'
      cases hb : bs[i]? with
      | none => rw [hb] at hP'; cases hP'
      | some b => rw [hb] at hP'; exact ⟨b, rfl, (Option.some.inj hP').symm⟩
    obtain ⟨b, hb, rfl⟩ := this
    refine wpAny_truthy_bool ?_
    have : bs.getD i false = b := by rw [List.getD_eq_getElem?_getD, hb]; rfl
    have hQ2 : Q' (bs.getD i false) s' := hQ'
    rw [this] at hQ2; exact hQ2
  · have : (bs.map Value.bool).toArray.size = bs.length := by simp
    rw [this]
    exact hQ h' tk fun b o e => hk b o (by
      intro hm
      have hb : b = s.heap.objs.size := by simpa using hm
      have hlt := Heap.lt_size e
      rw [hb] at hlt
      exact Nat.lt_irrefl _ hlt) (Heap.get?_push_of_some _ e)
theorem call_any (hc : X.calm = true) : CallR X (.builtin "any") (fun xs H Q => ∃ (p : Addr) (bs : List Bool), xs = [.ref p] ∧ SqL X.K H p (bs.map V.bl) ∧ Q (.bl (bs.any id)) H) := by
  intro pins s σ H xs us Q I rv h
  obtain ⟨p, bs, rfl, hq, q⟩ := h
  obtain ⟨u, rfl, rx⟩ := vals1 rv
  cases rx
  refine call_any_walk (walk_bools (R := id) hc I hq (QQ := fun tr n s' => EP X pins σ Q (.bool ((List.range n).any tr)) s') fun h' tk hk => ?_)
  rw [range_any]
  exact ⟨.bl (bs.any id), H, I.kept hk, rfl, q⟩
theorem call_all (hc : X.calm = true) : CallR X (.builtin "all") (fun xs H Q => ∃ (p : Addr) (bs : List Bool), xs = [.ref p] ∧ SqL X.K H p (bs.map V.bl) ∧ Q (.bl (bs.all id)) H) := by
  intro pins s σ H xs us Q I rv h
  obtain ⟨p, bs, rfl, hq, q⟩ := h
  obtain ⟨u, rfl, rx⟩ := vals1 rv
  cases rx
  refine call_all_walk (walk_bools (R := id) hc I hq (QQ := fun tr n s' => EP X pins σ Q (.bool ((List.range n).all tr)) s') fun h' tk hk => ?_)
  rw [range_all]
  exact ⟨.bl (bs.all id), H, I.kept hk, rfl, q⟩
end

theorem comp_by {J : It} {l : Addr} {σ0 : St} {H1 : Hp} {g : TG} {tc : TT} {te : TE} {Q : VK} (n : Nat) (hn : n ≤ sizeLine) (Pv : Nat → List V → St → Hp → Prop) (h0 : Pv 0 [] σ0 (upd H1 l (.lst [])))
    (hl : ∀ i ys σ H, Pv i ys σ H → H l = some (.lst ys) ∧ ys.length ≤ i)
    (hs : ∀ i ys σ H, i < n → Pv i ys σ H → J.go i H ∧ ∀ x H', J.yld i H x H' → ∀ (Kt : St → V → Hp → Prop) (Kf : St → Hp → Prop),
      (∀ σ2 y H4, H4 l = some (.lst ys) → Pv (i + 1) (ys ++ [y]) σ2 (upd H4 l (.lst (ys ++ [y]))) → Kt σ2 y H4) → (∀ σ2 H3, Pv (i + 1) ys σ2 H3 → Kf σ2 H3) →
      g x σ H' fun σ2 H2 => tc σ2 H2 fun b H3 => if b = true then te σ2 H3 (Kt σ2) else Kf σ2 H3)
    (hd : ∀ ys σ H, Pv n ys σ H → J.stop n H ∧ Q (.ref l) H) :
    CompW J l σ0 H1 g tc te Q := by
  refine ⟨fun i m σ H => m = n - i ∧ i ≤ n ∧ ∃ ys, Pv i ys σ H, ⟨n, by simp, Nat.zero_le _, [], h0⟩, ?_⟩
  rintro i m σ H ⟨rfl, hi, ys, p⟩
  by_cases hlt : i < n
  · obtain ⟨go, step⟩ := hs i ys σ H hlt p
    refine .inr ⟨go, fun x H' y => ?_⟩
    refine step x H' y (fun σ2 y H4 => ∃ ys, H4 l = some (.lst ys) ∧ ys.length < sizeLine ∧ ∃ m', m' < n - i ∧ (m' = n - (i + 1) ∧ i + 1 ≤ n ∧ ∃ zs, Pv (i + 1) zs σ2 (upd H4 l (.lst (ys ++ [y]))))) (fun σ2 H3 => ∃ m', m' < n - i ∧ (m' = n - (i + 1) ∧ i + 1 ≤ n ∧ ∃ zs, Pv (i + 1) zs σ2 H3)) ?_ ?_
    · intro σ2 y H4 e q
      have := (hl i ys σ H p).2
      exact ⟨ys, e, by omega, n - (i + 1), by omega, rfl, hlt, _, q⟩
    · intro σ2 H3 q
      exact ⟨n - (i + 1), by omega, rfl, hlt, _, q⟩
  · have e : i = n := by omega
    subst e
    exact .inl (hd ys σ H p)
end L2
set_option Elab.async false
set_option linter.all false
set_option maxRecDepth 100000
set_option maxHeartbeats 4000000
namespace L2
open PySem PySem.Spec PyProof.Rows
section
variable (K : PySem.W.Frag) (H : Hp)
mutual
def Dn : PyData → V → Prop
  | .none, v => v = .non
  | .bool b, v => v = .bl b
  | .int i, v => v = .int i
  | .str x, v => v = .str x
  | .tuple ds, v => ∃ a xs, v = .ref a ∧ SqT K H a xs ∧ Dns ds xs
  | .list ds, v => ∃ a xs, v = .ref a ∧ SqL K H a xs ∧ Dns ds xs
  | .dict _, _ => False
def Dns : List PyData → List V → Prop
  | [], xs => xs = []
  | d :: ds, xs => ∃ x r, xs = x :: r ∧ Dn d x ∧ Dns ds r
end
end
theorem Same.seqT {K : PySem.W.Frag} {H H' : Hp} {a : Addr} {xs : List V} (e : Same H H') (h : SqT K H a xs) : SqT K H' a xs := by
  rcases h with (h | ⟨o, h⟩) | h
  · exact .inl (.inl (e _ _ h))
  · exact .inl (.inr ⟨o, e _ _ h⟩)
  · exact .inr h
section
variable {K : PySem.W.Frag} {H H' : Hp}
theorem dn_int {i : Int} : Dn K H (.int i) (.int i) := by rw [Dn]
theorem dn_tup {a : Addr} {xs : List V} {ds : List PyData} (h : SqT K H a xs) (d : Dns K H ds xs) : Dn K H (.tuple ds) (.ref a) := by rw [Dn]; exact ⟨a, xs, rfl, h, d⟩
theorem dn_lst {a : Addr} {xs : List V} {ds : List PyData} (h : SqL K H a xs) (d : Dns K H ds xs) : Dn K H (.list ds) (.ref a) := by rw [Dn]; exact ⟨a, xs, rfl, h, d⟩
theorem dns_nil : Dns K H [] [] := by rw [Dns]
theorem dns_cons {d : PyData} {ds : List PyData} {x : V} {xs : List V} (h1 : Dn K H d x) (h2 : Dns K H ds xs) : Dns K H (d :: ds) (x :: xs) := by rw [Dns]; exact ⟨x, xs, rfl, h1, h2⟩
theorem Dn.int {i : Int} {v : V} (h : Dn K H (.int i) v) : v = .int i := by rw [Dn] at h; exact h
theorem Dn.bl {b : Bool} {v : V} (h : Dn K H (.bool b) v) : v = .bl b := by rw [Dn] at h; exact h
theorem Dn.tup {ds : List PyData} {v : V} (h : Dn K H (.tuple ds) v) : ∃ a xs, v = .ref a ∧ SqT K H a xs ∧ Dns K H ds xs := by rw [Dn] at h; exact h
theorem Dn.lst {ds : List PyData} {v : V} (h : Dn K H (.list ds) v) : ∃ a xs, v = .ref a ∧ SqL K H a xs ∧ Dns K H ds xs := by rw [Dn] at h; exact h
theorem Dns.nil {xs : List V} (h : Dns K H [] xs) : xs = [] := by rw [Dns] at h; exact h
theorem Dns.cons {d : PyData} {ds : List PyData} {xs : List V} (h : Dns K H (d :: ds) xs) : ∃ x r, xs = x :: r ∧ Dn K H d x ∧ Dns K H ds r := by rw [Dns] at h; exact h
mutual
theorem Same.dn (e : Same H H') : ∀ {d : PyData} {v : V}, Dn K H d v → Dn K H' d v
  | .none, _, h => by rw [Dn] at h ⊢; exact h
  | .bool _, _, h => by rw [Dn] at h ⊢; exact h
  | .int _, _, h => by rw [Dn] at h ⊢; exact h
  | .str _, _, h => by rw [Dn] at h ⊢; exact h
  | .dict _, _, h => by rw [Dn] at h; exact h.elim
  | .tuple ds, _, h => by
    rw [Dn] at h ⊢
    obtain ⟨a, xs, e1, h1, h2⟩ := h
    exact ⟨a, xs, e1, e.seqT h1, Same.dns e h2⟩
  | .list ds, _, h => by
    rw [Dn] at h ⊢
    obtain ⟨a, xs, e1, h1, h2⟩ := h
    exact ⟨a, xs, e1, e.seq h1, Same.dns e h2⟩
theorem Same.dns (e : Same H H') : ∀ {ds : List PyData} {xs : List V}, Dns K H ds xs → Dns K H' ds xs
  | [], _, h => by rw [Dns] at h ⊢; exact h
  | d :: ds, _, h => by
    rw [Dns] at h ⊢
    obtain ⟨x, r, e1, h1, h2⟩ := h
    exact ⟨x, r, e1, Same.dn e h1, Same.dns e h2⟩
end
theorem Dns.length : ∀ {ds : List PyData} {xs : List V}, Dns K H ds xs → xs.length = ds.length
  | [], _, h => by rw [h.nil]; rfl
  | d :: ds, _, h => by
    obtain ⟨x, r, rfl, _, h2⟩ := h.cons
    rw [List.length_cons, List.length_cons, Dns.length h2]
theorem Dns.get : ∀ {ds : List PyData} {xs : List V} {i : Nat} {d : PyData}, Dns K H ds xs → ds[i]? = some d → ∃ x, xs[i]? = some x ∧ Dn K H d x
  | [], _, _, _, _, e => by simp at e
  | d :: ds, _, 0, d', h, e => by
    obtain ⟨x, r, rfl, h1, _⟩ := h.cons
    simp at e; subst e
    exact ⟨x, rfl, h1⟩
  | d :: ds, _, i + 1, d', h, e => by
    obtain ⟨x, r, rfl, _, h2⟩ := h.cons
    obtain ⟨y, h3, h4⟩ := Dns.get (i := i) h2 (by simpa using e)
    exact ⟨y, by simpa using h3, h4⟩
theorem Dns.get' : ∀ {ds : List PyData} {xs : List V} {i : Nat} {x : V}, Dns K H ds xs → xs[i]? = some x → ∃ d, ds[i]? = some d ∧ Dn K H d x := fun {ds xs i x} h e => by
  have hl := h.length
  have hi : i < xs.length := (List.getElem?_eq_some_iff.mp e).1
  obtain ⟨y, h1, h2⟩ := h.get (i := i) (d := ds[i]'(by omega)) (by simp [show i < ds.length by omega])
  rw [e] at h1; cases h1
  exact ⟨_, by simp [show i < ds.length by omega], h2⟩
theorem Dns.append : ∀ {ds es : List PyData} {xs ys : List V}, Dns K H ds xs → Dns K H es ys → Dns K H (ds ++ es) (xs ++ ys)
  | [], _, _, _, h, g => by rw [h.nil]; exact g
  | d :: ds, es, _, ys, h, g => by
    obtain ⟨x, r, rfl, h1, h2⟩ := h.cons
    exact dns_cons h1 (Dns.append h2 g)
theorem Dns.snoc {d : PyData} {x : V} {ds : List PyData} {xs : List V} (h : Dns K H ds xs) (hx : Dn K H d x) : Dns K H (ds ++ [d]) (xs ++ [x]) := h.append (dns_cons hx dns_nil)
theorem Dns.take : ∀ (n : Nat) {ds : List PyData} {xs : List V}, Dns K H ds xs → Dns K H (ds.take n) (xs.take n)
  | 0, _, _, _ => by simp only [List.take_zero]; exact dns_nil
  | _ + 1, [], _, h => by rw [h.nil]; exact dns_nil
  | n + 1, d :: ds, _, h => by
    obtain ⟨x, r, rfl, h1, h2⟩ := h.cons
    exact dns_cons h1 (Dns.take n h2)
theorem Dns.drop : ∀ (n : Nat) {ds : List PyData} {xs : List V}, Dns K H ds xs → Dns K H (ds.drop n) (xs.drop n)
  | 0, _, _, h => h
  | _ + 1, [], _, h => by rw [h.nil]; exact dns_nil
  | n + 1, d :: ds, _, h => by
    obtain ⟨x, r, rfl, h1, h2⟩ := h.cons
    exact Dns.drop n h2
theorem Dns.reverse : ∀ {ds : List PyData} {xs : List V}, Dns K H ds xs → Dns K H ds.reverse xs.reverse
  | [], _, h => by rw [h.nil]; exact dns_nil
  | d :: ds, _, h => by
    obtain ⟨x, r, rfl, h1, h2⟩ := h.cons
    rw [List.reverse_cons, List.reverse_cons]
    exact (Dns.reverse h2).snoc h1
theorem Dns.set {d : PyData} {x : V} (hx : Dn K H d x) : ∀ (i : Nat) {ds : List PyData} {xs : List V}, Dns K H ds xs → Dns K H (ds.set i d) (xs.set i x)
  | _, [], _, h => by rw [h.nil]; exact dns_nil
  | 0, d' :: ds, _, h => by
    obtain ⟨y, r, rfl, h1, h2⟩ := h.cons
    exact dns_cons hx h2
  | i + 1, d' :: ds, _, h => by
    obtain ⟨y, r, rfl, h1, h2⟩ := h.cons
    exact dns_cons h1 (Dns.set hx i h2)
theorem dns_ints : ∀ (ns : List Int), Dns K H (ns.map PyData.int) (ns.map V.int)
  | [] => dns_nil
  | _ :: r => dns_cons dn_int (dns_ints r)
theorem Dns.ints : ∀ {ns : List Int} {xs : List V}, Dns K H (ns.map PyData.int) xs → xs = ns.map V.int
  | [], _, h => h.nil
  | n :: r, _, h => by
    obtain ⟨x, q, rfl, h1, h2⟩ := Dns.cons h
    rw [h1.int, Dns.ints h2]; rfl
end
section
variable {X : Cx} {pins : List (Addr × Obj)} {s : Shared} {σ : St} {H : Hp}
mutual
theorem dn_reads (I : Inv X pins σ H s) : ∀ {d : PyData} {v : V} {u : Value}, Dn X.K H d v → RelV v u → ∃ as, Reads s.heap u d as
  | .none, _, _, h, r => by rw [Dn] at h; subst h; cases r; exact ⟨_, .none⟩
  | .bool b, _, _, h, r => by rw [Dn] at h; subst h; cases r; exact ⟨_, .bool b⟩
  | .int i, _, _, h, r => by rw [Dn] at h; subst h; obtain ⟨t, rfl⟩ := r; exact ⟨_, .int i t⟩
  | .str i, _, _, h, r => by rw [Dn] at h; subst h; obtain ⟨t, rfl⟩ := r; exact ⟨_, .str i t⟩
  | .dict _, _, _, h, _ => by rw [Dn] at h; exact h.elim
  | .tuple ds, _, _, h, r => by
    rw [Dn] at h
    obtain ⟨a, xs, rfl, h1, h2⟩ := h
    cases r
    obtain ⟨us, rx, p, _⟩ := I.tuple h1
    obtain ⟨as, q⟩ := dns_reads I h2 rx
    obtain ⟨o, ho, hc, n, hd⟩ := p
    exact ⟨_, .tuple ho hc hd (by simpa using q)⟩
  | .list ds, _, _, h, r => by
    rw [Dn] at h
    obtain ⟨a, xs, rfl, h1, h2⟩ := h
    cases r
    obtain ⟨us, rx, p, _⟩ := I.list h1
    obtain ⟨as, q⟩ := dns_reads I h2 rx
    obtain ⟨o, ho, hc, n, hd⟩ := p.isList
    exact ⟨_, .list ho hc hd (by simpa using q)⟩
theorem dns_reads (I : Inv X pins σ H s) : ∀ {ds : List PyData} {xs : List V} {us : List Value}, Dns X.K H ds xs → Vals xs us → ∃ as, ReadsAll s.heap us ds as
  | [], _, _, h, r => by rw [Dns] at h; subst h; cases r; exact ⟨_, .nil⟩
  | d :: ds, _, _, h, r => by
    rw [Dns] at h
    obtain ⟨x, q, rfl, h1, h2⟩ := h
    cases r with
    | cons r1 r2 =>
      obtain ⟨as, p1⟩ := dn_reads I h1 r1
      obtain ⟨bs, p2⟩ := dns_reads I h2 r2
      exact ⟨_, .cons p1 p2⟩
end
def rEqD (K : PySem.W.Frag) (neg : Bool) : R2 := fun x y H Q => ∃ d e, Dn K H d x ∧ Dn K H e y ∧ SeqAt.shaped d = true ∧ SeqAt.shaped e = true ∧ Q (.bl (if neg then !PyData.eqv d e else PyData.eqv d e)) H
theorem op_eqD (hu : X.A.units + 64 < cLine) : OpR X (compareOp .Eq) (rEqD X.K false) := by
  intro pins s σ H x y v u Q I rx ry h
  obtain ⟨d, e, h1, h2, s1, s2, q⟩ := h
  obtain ⟨as, r1⟩ := dn_reads I h1 rx
  obtain ⟨bs, r2⟩ := dn_reads I h2 ry
  exact eq_dataH r1 r2 s1 s2 hu ⟨.bl (PyData.eqv d e), H, I, rfl, q⟩
theorem op_neD (hu : X.A.units + 64 < cLine) : OpR X (compareOp .NotEq) (rEqD X.K true) := by
  intro pins s σ H x y v u Q I rx ry h
  obtain ⟨d, e, h1, h2, s1, s2, q⟩ := h
  obtain ⟨as, r1⟩ := dn_reads I h1 rx
  obtain ⟨bs, r2⟩ := dn_reads I h2 ry
  exact ne_dataH r1 r2 s1 s2 hu ⟨.bl (!PyData.eqv d e), H, I, rfl, q⟩
end

end L2
set_option Elab.async false
set_option linter.all false
set_option maxRecDepth 100000
set_option maxHeartbeats 4000000
namespace L2
open PySem PySem.Spec PyProof.Rows
def intsOf : List Expr → Option (List Int)
  | [] => some []
  | .Constant (.int i) _ _ :: r => (intsOf r).map (i :: ·)
  | _ => none
def tInts (ns : List Int) : TA := fun _ H Q => Q (ns.map V.int) H
theorem pa_ints {X : Cx} : ∀ {es : List Expr} {ns : List Int}, intsOf es = some ns → PA X es (tInts ns)
  | [], ns, h => by
    cases h
    exact pa_nil
  | .Constant (.int i) k p :: r, ns, h => by
    unfold intsOf at h
    cases e : intsOf r with
    | none => rw [e] at h; cases h
    | some ms =>
      rw [e] at h; cases h
      have ih := pa_ints (X := X) (es := r) (ns := ms) e
      have q := pa_cons (X := X) (e := .Constant (.int i) k p) (es := r) pe_int ih
      intro pos pins s σ H Q I hq
      exact q pos pins s σ H Q I hq
end L2
namespace L2
open PySem PySem.Spec PyProof.Rows
end L2
set_option Elab.async false
set_option linter.all false
set_option maxRecDepth 100000
set_option maxHeartbeats 4000000
namespace L2
open PySem PySem.Spec PyProof.Rows Hull SortM
def spotD (p : P) : PyData := .tuple [.int p.1, .int p.2]
section
variable {X : Cx} {pins : List (Addr × Obj)} {s : Shared} {σ : St} {H : Hp}
theorem dn_spot {K : PySem.W.Frag} {a : Addr} {p : P} (h : SqT K H a [.int p.1, .int p.2]) : Dn K H (spotD p) (.ref a) := dn_tup h (dns_cons dn_int (dns_cons dn_int dns_nil))
theorem Dn.spot {K : PySem.W.Frag} {v : V} {p : P} (h : Dn K H (spotD p) v) : ∃ a, v = .ref a ∧ SqT K H a [.int p.1, .int p.2] := by
  obtain ⟨a, xs, rfl, h1, h2⟩ := Dn.tup h
  obtain ⟨x, r, rfl, hx, h2⟩ := h2.cons
  obtain ⟨y, r, rfl, hy, h2⟩ := h2.cons
  rw [h2.nil] at h1
  rw [hx.int, hy.int] at h1
  exact ⟨a, rfl, h1⟩
theorem spot_at (I : Inv X pins σ H s) {v : V} {u : Value} {p : P} (h : Dn X.K H (spotD p) v) (r : RelV v u) : SpotAt s.heap u p := by
  obtain ⟨a, rfl, h1⟩ := h.spot
  cases r
  obtain ⟨its, rv, ⟨o, ho, hc, n, hd⟩, _⟩ := I.tuple h1
  cases rv with
  | cons r1 rv =>
    cases rv with
    | cons r2 rv =>
      cases rv
      obtain ⟨t, rfl⟩ := r1
      obtain ⟨t', rfl⟩ := r2
      exact ⟨a, o, t, t', n, rfl, ho, hc, hd⟩
theorem spots_at (I : Inv X pins σ H s) : ∀ {ps : List P} {xs : List V} {us : List Value}, Dns X.K H (ps.map spotD) xs → Vals xs us → Spots s.heap us ps
  | [], _, _, h, r => by
    rw [Dns.nil h] at r; cases r; exact .nil
  | p :: ps, _, _, h, r => by
    obtain ⟨x, q, rfl, h1, h2⟩ := Dns.cons h
    cases r with
    | cons r1 r2 => exact .cons (spot_at I h1 r1) (spots_at I h2 r2)
end
def vIx (xs : List V) (ix : List Nat) : List V := ix.map fun i => xs.getD i .non
theorem vals_ix {xs : List V} {us : List Value} (r : Vals xs us) : ∀ {ix : List Nat}, (∀ i ∈ ix, i < us.length) → Vals (vIx xs ix) (valIx us ix)
  | [], _ => .nil
  | i :: ix, h => by
    have hi : i < us.length := h i (.head _)
    have hx : i < xs.length := by rw [r.length]; exact hi
    obtain ⟨u, h1, h2⟩ := r.get (i := i) (x := xs[i]) (by simp [hx])
    refine .cons ?_ (vals_ix r fun j hj => h j (.tail _ hj))
    have e1 : xs.getD i .non = xs[i] := by simp [hx]
    have e2 : us.getD i .none = u := by rw [List.getD_eq_getElem?_getD, h1]; rfl
    show RelV (xs.getD i .non) (us.getD i .none)
    rw [e1, e2]; exact h2
theorem dns_ix {K : PySem.W.Frag} {H : Hp} {ps : List P} {xs : List V} (h : Dns K H (ps.map spotD) xs) : ∀ {ix : List Nat}, (∀ i ∈ ix, i < ps.length) → Dns K H ((atIx ps ix).map spotD) (vIx xs ix)
  | [], _ => dns_nil
  | i :: ix, g => by
    have hi : i < ps.length := g i (.head _)
    obtain ⟨x, h1, h2⟩ := h.get (i := i) (d := spotD ps[i]) (by simp [hi])
    refine dns_cons ?_ (dns_ix h fun j hj => g j (.tail _ hj))
    have e1 : ps.getD i (0, 0) = ps[i] := by simp [hi]
    have e2 : xs.getD i .non = x := by rw [List.getD_eq_getElem?_getD, h1]; rfl
    show Dn K H (spotD (ps.getD i (0, 0))) (xs.getD i .non)
    rw [e1, e2]; exact h2
theorem mem_ix {ps : List P} {ix : List Nat} (h : ix.Perm (List.range ps.length)) (a : P) : a ∈ atIx ps ix ↔ a ∈ ps := by
  unfold atIx
  constructor
  · intro m
    obtain ⟨i, hi, rfl⟩ := List.mem_map.mp m
    have hi' : i < ps.length := List.mem_range.mp (h.mem_iff.mp hi)
    have e1 : ps.getD i (0, 0) = ps[i] := by simp [hi']
    rw [e1]; exact List.getElem_mem hi'
  · intro m
    obtain ⟨i, hi, rfl⟩ := List.mem_iff_getElem.mp m
    refine List.mem_map.mpr ⟨i, h.mem_iff.mpr (List.mem_range.mpr hi), ?_⟩
    simp [hi]

section
variable {prog : Program} {w : World} {A : Around} {E : Value → Shared → Prop} {s : Shared}
theorem sorted_spots {u : Value} {Q : Value → Shared → Prop}
    (hcol : wpAny (model prog w) A.in1 (collect u) (fun vs s1 => ∃ (ps : List P) (h1 : Heap) (tk : Nat), s1 = { s with heap := h1, toks := tk } ∧ (∀ b o, s.heap.get? b = some o → h1.get? b = some o) ∧ s.heap.objs.size ≤ h1.objs.size ∧ Spots h1 vs ps ∧ ps.Nodup ∧ vs.length < 64 ∧
      ∀ (ix : List Nat) (h' : Heap) (a : Addr) (c : Nat), ix.Perm (List.range vs.length) → (atIx ps ix).Pairwise lt → (∀ b o, s.heap.get? b = some o → h'.get? b = some o) → s.heap.objs.size ≤ a → h'.get? a = some (seqObj "list" (valIx vs ix).toArray c) →
        Q (.ref a) { s with heap := h', toks := tk }) E s) :
    wpAny (model prog w) A (call (.builtin "sorted") [u]) Q E s := by
  refine Calls.call_function_entry kind_sorted plain_sorted entry_sorted (args_sorted1 _) ?_
  unfold Builtin.«sorted»
  refine wpAny_bind (m := checkCount "sorted" 1 1 _) (wpAny_pure ?_)
  refine wpAny_bind (wpAny_mono hcol (fun vs s1 hv => ?_) fun _ _ x => x)
  obtain ⟨ps, h1, tk, rfl, kp, hlt, S, nd, h64, q⟩ := hv
  refine wpAny_bind (wpAny_newList ?_ (by rw [sizeLine_eq]; omega))
  have hoL : (h1.push (seqObj "list" vs.toArray 0)).get? h1.objs.size = some (seqObj "list" vs.toArray 0) := Heap.get?_push_size _ rfl
  show wpAny _ _ _ _ _ { s with heap := h1.push (seqObj "list" vs.toArray 0), toks := tk }
  refine wpAny_bind (wpAny_holding (wpAny_call_entry slot_list_sort ⟨_, hoL, rfl⟩ entry_list_sort
    (list_sort_spots (s := { s with heap := h1.push (seqObj "list" vs.toArray 0), toks := tk }) hoL (S.kept fun b o _ e => Heap.get?_push_of_some _ e) nd h64 fun ix a1 a2 => ⟨_, rfl, ?_⟩) (args_list_sort _)))
  refine wpAny_pure ⟨_, rfl, ?_⟩
  obtain ⟨e1, ho1⟩ : ∃ e1, ((h1.push (seqObj "list" vs.toArray 0)).update h1.objs.size (Obj.mapSeq fun _ => (#[] : Array Value))).get? h1.objs.size = some (seqObj "list" #[] e1) := ⟨_, get?_update_seq hoL (fun _ => #[])⟩
  obtain ⟨c, hc⟩ : ∃ c, (sortedHeap (h1.push (seqObj "list" vs.toArray 0)) h1.objs.size vs (valIx vs ix).toArray).get? h1.objs.size = some (seqObj "list" (valIx vs ix).toArray c) :=
    ⟨_, get?_update_seq (Heap.get?_push_of_some _ (Heap.get?_push_of_some _ ho1)) fun _ => (valIx vs ix).toArray⟩
  refine q ix _ _ c a1 a2 (fun b o e => ?_) hlt hc
  have hb : b ≠ h1.objs.size := Nat.ne_of_lt (Heap.lt_size (kp b o e))
  unfold sortedHeap
  rw [Heap.get?_update_ne _ _ _ _ hb]
  refine Heap.get?_push_of_some _ (Heap.get?_push_of_some _ ?_)
  rw [Heap.get?_update_ne _ _ _ _ hb]
  exact Heap.get?_push_of_some _ (kp b o e)
end
section
variable {X : Cx}
end
end L2
set_option Elab.async false
set_option linter.all false
set_option maxRecDepth 100000
set_option maxHeartbeats 4000000
namespace L2
open PySem PySem.Spec PyProof.Rows Hull SortM SetX
def SetB (prog : Program) (w : World) (es : Array (Int × Value)) (t : SetTable) (L : List VP) : Prop :=
  es.toList = L.map (ent prog w) ∧ (∃ Z, SetM.TOk t es.toList Z) ∧ t.plain = true ∧ t.led = led w ∧ (L.map (·.2)).Nodup ∧ (t.mask = 7 → L.length ≤ 4)
def setO (prog : Program) (w : World) (a : Addr) (L : List VP) : HO := .ext fun h => ∃ es ep t, h.get? a = some (setObj es ep t) ∧ SetB prog w es t L
def Ent (K : PySem.W.Frag) (H : Hp) (L : List VP) : Prop := ∀ z ∈ L, ∃ v, RelV v z.1 ∧ Dn K H (spotD z.2) v
theorem Ent.same {K : PySem.W.Frag} {H H' : Hp} {L : List VP} (e : Same H H') (h : Ent K H L) : Ent K H' L := fun z hz => let ⟨v, a, b⟩ := h z hz; ⟨v, a, e.dn b⟩
theorem Ent.vals {K : PySem.W.Frag} {H : Hp} : ∀ {L : List VP}, Ent K H L → ∃ vs, Vals vs (L.map (·.1)) ∧ Dns K H ((L.map (·.2)).map spotD) vs
  | [], _ => ⟨[], .nil, dns_nil⟩
  | z :: L, h => by
    obtain ⟨v, r, d⟩ := h z (.head _)
    obtain ⟨vs, rs, ds⟩ := Ent.vals (L := L) fun y hy => h y (.tail _ hy)
    exact ⟨v :: vs, .cons r rs, dns_cons d ds⟩
theorem spots_of {h : Heap} : ∀ {L : List VP}, (∀ z ∈ L, SpotAt h z.1 z.2) → Spots h (L.map (·.1)) (L.map (·.2))
  | [], _ => .nil
  | z :: L, h => .cons (h z (.head _)) (spots_of fun y hy => h y (.tail _ hy))
section
variable {X : Cx}
def rSetSp (X : Cx) : List V → Hp → VK → Prop := fun xs H Q => ∃ (p : Addr) (ys : List V) (ps : List P), xs = [.ref p] ∧ SqL X.K H p ys ∧ Dns X.K H (ps.map spotD) ys ∧ ps.length ≤ 12 ∧
  ∀ (L : List VP) (a : Addr), H a = none → Ent X.K H L → (∀ r, r ∈ L.map (·.2) ↔ r ∈ ps) → L.length ≤ ps.length → Q (.ref a) (upd H a (setO X.prog X.w a L))
theorem call_setSp (hc : X.calm = true) (hu : X.A.units + 64 < cLine) : CallR X (.type "set") (rSetSp X) := by
  intro pins s σ H xs us Q I r h
  obtain ⟨p, ys, ps, rfl, hq, hd, h12, q⟩ := h
  obtain ⟨u, rfl, rx⟩ := vals1 r
  cases rx
  obtain ⟨its, rv, pl, hz⟩ := I.list hq
  have S := spots_at I hd rv
  have hl := S.length
  refine call_set_spots (I.ok.hd hc) (by omega) pl.isList S (by omega) fun h' tk L SS hm hlen he kp => ?_
  obtain ⟨es, ep, t, ho, B⟩ := SS
  refine ⟨.ref s.heap.objs.size, _, I.laid (t' := tk) (o := setO X.prog X.w s.heap.objs.size L) (fun b o e => kp b o (Heap.lt_size e) e) (Nat.le_refl _) ?_, rfl, q L _ I.fresh (fun z hz => ?_) hm hlen⟩
  · refine ⟨⟨es, ep, t, ho, B.el, B.tok, B.pln, B.ld, B.nd, B.few⟩, ⟨_, ho⟩, fun h1 h2 hφ k => ?_⟩
    obtain ⟨es, ep, t, ho, b⟩ := hφ
    exact ⟨es, ep, t, k _ ho, b⟩
  · obtain ⟨j, hj, rfl⟩ := he z hz
    have hjp : j < ps.length := by omega
    have e1 : ps.getD j (0, 0) = ps[j] := by simp [hjp]
    obtain ⟨x, h1, h2⟩ := hd.get (i := j) (d := spotD ps[j]) (by simp [hjp])
    obtain ⟨u, h3, h4⟩ := rv.get h1
    have e2 : its.getD j .none = u := by rw [List.getD_eq_getElem?_getD, h3]; rfl
    refine ⟨x, ?_, ?_⟩
    · show RelV x (its.getD j .none)
      rw [e2]; exact h4
    · show Dn X.K H (spotD (ps.getD j (0, 0))) x
      rw [e1]; exact h2
def rSortSp (X : Cx) : List V → Hp → VK → Prop := fun xs H Q => ∃ (a : Addr) (L : List VP), xs = [.ref a] ∧ H a = some (setO X.prog X.w a L) ∧ Ent X.K H L ∧ L.length ≤ 12 ∧
  ∀ (zs : List V) (qs : List P) (l : Addr), H l = none → Dns X.K H (qs.map spotD) zs → qs.Pairwise lt → (∀ r, r ∈ qs ↔ r ∈ L.map (·.2)) → qs.length = L.length → Q (.ref l) (upd H l (.lst zs))
theorem call_sortSp (hc : X.calm = true) : CallR X (.builtin "sorted") (rSortSp X) := by
  intro pins s σ H xs us Q I r h
  obtain ⟨a, L, rfl, ha, he, h12, q⟩ := h
  obtain ⟨u, rfl, rx⟩ := vals1 r
  cases rx
  obtain ⟨⟨es, ep, t, ho, b1, b2, b3, b4, b5, b6⟩, _, _⟩ := I.hok a _ ha
  have B : SBody X.prog X.w s.heap es t L := ⟨b1, b2, b3, b4, fun z hz => let ⟨v, r, d⟩ := he z hz; spot_at I d r, b5, b6⟩
  refine sorted_spots (collect_set (I.ok.hd hc) ho B h12 fun h' tk L' kp hsz pm => ?_)
  have he' : Ent X.K H L' := fun z hz => he z (pm.mem_iff.mp hz)
  obtain ⟨vs, rs, ds⟩ := he'.vals
  have hlv : (L'.map (·.1)).length = L.length := by rw [List.length_map, pm.length_eq]
  refine ⟨L'.map (·.2), h', tk, rfl, kp, hsz, spots_of fun z hz => (B.sp z (pm.mem_iff.mp hz)).kept fun b o _ e => kp b o e, (pm.map _).nodup_iff.mpr b5, by omega, fun ix h'' l c p1 p2 kp2 hla hol => ?_⟩
  have hix : ∀ i ∈ ix, i < (L'.map (·.1)).length := fun i hi => List.mem_range.mp (p1.mem_iff.mp hi)
  have hix' : ∀ i ∈ ix, i < (L'.map (·.2)).length := fun i hi => by have := hix i hi; simpa using this
  have hlen : ix.length = L.length := by rw [p1.length_eq, List.length_range, hlv]
  refine ⟨.ref l, _, I.laid (t' := tk) (o := .lst (vIx vs ix)) kp2 hla ⟨?_, _, c, vals_ix rs hix, hol⟩, rfl, q _ (atIx (L'.map (·.2)) ix) l (I.hok.fresh hla) (dns_ix ds hix') p2 (fun r => ?_) ?_⟩
  · unfold vIx; rw [List.length_map, sizeLine_eq]; omega
  · rw [mem_ix (by have : (L'.map (·.2)).length = (L'.map (·.1)).length := by simp
                   rw [this]; exact p1), (pm.map (·.2)).mem_iff]
  · unfold atIx; rw [List.length_map]; exact hlen
end
end L2
set_option Elab.async false
set_option linter.all false
set_option maxRecDepth 100000
set_option maxHeartbeats 4000000
namespace L2
open PySem PySem.Spec PyProof.Rows Hull SortM SetX
section
variable {X : Cx}
theorem best_lt (bt : Nat → Nat → Bool) : ∀ n, argBest bt n ≤ n
  | 0 => Nat.le_refl _
  | n + 1 => by
    unfold argBest
    split
    · exact Nat.le_refl _
    · exact Nat.le_succ_of_le (best_lt bt n)
theorem best_min (val : Nat → Int) : ∀ n j, j ≤ n → val (argBest (fun i j => decide (val i < val j)) n) ≤ val j
  | 0, j, h => by have : j = 0 := by omega
                  subst this; exact Int.le_refl _
  | n + 1, j, h => by
    unfold argBest
    have ih := best_min val n
    by_cases hc : val (n + 1) < val (argBest (fun i j => decide (val i < val j)) n)
    · rw [if_pos (decide_eq_true hc)]
      rcases Nat.eq_or_lt_of_le h with e | e
      · subst e; exact Int.le_refl _
      · have := ih j (by omega); omega
    · rw [if_neg (by simpa using hc)]
      rcases Nat.eq_or_lt_of_le h with e | e
      · subst e; omega
      · exact ih j (by omega)
theorem best_max (val : Nat → Int) : ∀ n j, j ≤ n → val j ≤ val (argBest (fun i j => decide (val i > val j)) n)
  | 0, j, h => by have : j = 0 := by omega
                  subst this; exact Int.le_refl _
  | n + 1, j, h => by
    unfold argBest
    have ih := best_max val n
    by_cases hc : val (n + 1) > val (argBest (fun i j => decide (val i > val j)) n)
    · rw [if_pos (decide_eq_true hc)]
      rcases Nat.eq_or_lt_of_le h with e | e
      · subst e; exact Int.le_refl _
      · have := ih j (by omega); omega
    · rw [if_neg (by simpa using hc)]
      rcases Nat.eq_or_lt_of_le h with e | e
      · subst e; omega
      · exact ih j (by omega)
theorem ints_at {ns : List Int} {its : List Value} (r : Vals (ns.map V.int) its) (i : Nat) (v : Value) (h : its.toArray[i]? = some v) : ∃ t, v = .int (ns.getD i 0) t := by
  have hi : i < its.length := by
    have h' : its[i]? = some v := by simpa using h
    exact (List.getElem?_eq_some_iff.mp h').1
  have hl : ns.length = its.length := by have := r.length; simpa using this
  have hn : i < ns.length := by omega
  obtain ⟨u, h1, h2⟩ := r.get (i := i) (x := V.int ns[i]) (by simp [hn])
  have h' : its[i]? = some v := by simpa using h
  rw [h'] at h1; cases h1
  obtain ⟨t, e⟩ := h2
  exact ⟨t, by rw [e]; simp [hn]⟩
def rMinL (K : PySem.W.Frag) : List V → Hp → VK → Prop := fun xs H Q => ∃ (p : Addr) (ns : List Int), xs = [.ref p] ∧ SqL K H p (ns.map V.int) ∧ ns ≠ [] ∧ ∀ m, m ∈ ns → (∀ n ∈ ns, m ≤ n) → Q (.int m) H
theorem call_minL (hc : X.calm = true) : CallR X (.builtin "min") (rMinL X.K) := by
  intro pins s σ H xs us Q I r h
  obtain ⟨p, ns, rfl, hq, hne, q⟩ := h
  obtain ⟨u, rfl, rx⟩ := vals1 r
  cases rx
  obtain ⟨its, rv, pl, hz⟩ := I.list hq
  have hl := pl.isList
  have hlen : ns.length = its.length := by have := rv.length; simpa using this
  have hpos : 0 < ns.length := List.length_pos_iff.mpr hne
  have hax : p < s.heap.objs.size := by obtain ⟨_, e, _⟩ := hl; exact Heap.lt_size e
  refine call_min_walk (wpAny_pyIter_list hl ?_)
  refine ⟨s.heap.objs.size, [s.heap.objs.size, p], [s.heap.objs.size], its.toArray.size, (fun i v => its.toArray[i]? = some v), _, _, rfl,
    Walks.list (prog := X.prog) (w := X.w) (A := X.A.in1) (I.ok.hd hc) s.heap.objs.size p (Nat.ne_of_lt hax) _, ⟨⟨_, Heap.get?_push_size _ rfl, rfl, rfl⟩, hl.push _⟩, ?_, by simp; omega, CmpOf.ints_lt (fun i => ns.getD i 0) (fun i v hv => ints_at rv i v hv), fun v h' tk hP hk => ?_⟩
  · intro b hb
    show b < (s.heap.push _).objs.size
    rw [Heap.size_push]
    simp only [List.mem_cons, List.mem_singleton, List.not_mem_nil, or_false] at hb
    rcases hb with rfl | rfl
    · exact Nat.lt_succ_self _
    · exact Nat.lt_succ_of_lt hax
  · obtain ⟨t, rfl⟩ := ints_at rv _ v hP
    have hsz : its.toArray.size - 1 = ns.length - 1 := by simp [hlen]
    rw [hsz] at hP ⊢
    have hb := best_lt (fun i j => decide (ns.getD i 0 < ns.getD j 0)) (ns.length - 1)
    have hm := best_min (fun i => ns.getD i 0) (ns.length - 1)
    generalize argBest (fun i j => decide (ns.getD i 0 < ns.getD j 0)) (ns.length - 1) = k at *
    have hk' : k < ns.length := by omega
    refine ⟨.int (ns.getD k 0), H, I.kept fun b o e => hk b o ?_ (Heap.get?_push_of_some _ e), ⟨t, rfl⟩, q _ ?_ fun n hn => ?_⟩
    · have := Heap.lt_size e
      simp only [List.mem_cons, List.mem_singleton, List.not_mem_nil, or_false]
      exact Nat.ne_of_lt this
    · have : ns.getD k 0 = ns[k] := by simp [hk']
      rw [this]; exact List.getElem_mem hk'
    · obtain ⟨j, hj, rfl⟩ := List.mem_iff_getElem.mp hn
      have := hm j (by omega)
      have e2 : ns.getD j 0 = ns[j] := by simp [hj]
      rw [e2] at this; exact this
def rMaxL (K : PySem.W.Frag) : List V → Hp → VK → Prop := fun xs H Q => ∃ (p : Addr) (ns : List Int), xs = [.ref p] ∧ SqL K H p (ns.map V.int) ∧ ns ≠ [] ∧ ∀ m, m ∈ ns → (∀ n ∈ ns, n ≤ m) → Q (.int m) H
theorem call_maxL (hc : X.calm = true) : CallR X (.builtin "max") (rMaxL X.K) := by
  intro pins s σ H xs us Q I r h
  obtain ⟨p, ns, rfl, hq, hne, q⟩ := h
  obtain ⟨u, rfl, rx⟩ := vals1 r
  cases rx
  obtain ⟨its, rv, pl, hz⟩ := I.list hq
  have hl := pl.isList
  have hlen : ns.length = its.length := by have := rv.length; simpa using this
  have hpos : 0 < ns.length := List.length_pos_iff.mpr hne
  have hax : p < s.heap.objs.size := by obtain ⟨_, e, _⟩ := hl; exact Heap.lt_size e
  refine call_max_walk (wpAny_pyIter_list hl ?_)
  refine ⟨s.heap.objs.size, [s.heap.objs.size, p], [s.heap.objs.size], its.toArray.size, (fun i v => its.toArray[i]? = some v), _, _, rfl,
    Walks.list (prog := X.prog) (w := X.w) (A := X.A.in1) (I.ok.hd hc) s.heap.objs.size p (Nat.ne_of_lt hax) _, ⟨⟨_, Heap.get?_push_size _ rfl, rfl, rfl⟩, hl.push _⟩, ?_, by simp; omega, CmpOf.ints_gt (fun i => ns.getD i 0) (fun i v hv => ints_at rv i v hv), fun v h' tk hP hk => ?_⟩
  · intro b hb
    show b < (s.heap.push _).objs.size
    rw [Heap.size_push]
    simp only [List.mem_cons, List.mem_singleton, List.not_mem_nil, or_false] at hb
    rcases hb with rfl | rfl
    · exact Nat.lt_succ_self _
    · exact Nat.lt_succ_of_lt hax
  · obtain ⟨t, rfl⟩ := ints_at rv _ v hP
    have hsz : its.toArray.size - 1 = ns.length - 1 := by simp [hlen]
    rw [hsz] at hP ⊢
    have hb := best_lt (fun i j => decide (ns.getD i 0 > ns.getD j 0)) (ns.length - 1)
    have hm := best_max (fun i => ns.getD i 0) (ns.length - 1)
    generalize argBest (fun i j => decide (ns.getD i 0 > ns.getD j 0)) (ns.length - 1) = k at *
    have hk' : k < ns.length := by omega
    refine ⟨.int (ns.getD k 0), H, I.kept fun b o e => hk b o ?_ (Heap.get?_push_of_some _ e), ⟨t, rfl⟩, q _ ?_ fun n hn => ?_⟩
    · have := Heap.lt_size e
      simp only [List.mem_cons, List.mem_singleton, List.not_mem_nil, or_false]
      exact Nat.ne_of_lt this
    · have : ns.getD k 0 = ns[k] := by simp [hk']
      rw [this]; exact List.getElem_mem hk'
    · obtain ⟨j, hj, rfl⟩ := List.mem_iff_getElem.mp hn
      have := hm j (by omega)
      have e2 : ns.getD j 0 = ns[j] := by simp [hj]
      rw [e2] at this; exact this
end
end L2
set_option Elab.async false
set_option linter.all false
set_option maxRecDepth 100000
set_option maxHeartbeats 4000000
namespace L2
open PySem PySem.Spec PyProof.Rows Hull SortM SetX
theorem spot_eqv (p q : P) : PyData.eqv (spotD p) (spotD q) = decide (p = q) := by
  unfold spotD
  rw [PyData.eqv, PyData.eqvAll, PyData.eqvAll, PyData.eqvAll, PyData.eqv, PyData.eqv]
  by_cases h : p = q
  · rw [h]; simp
  · rw [decide_eq_false h]
    have : ¬ (p.1 = q.1 ∧ p.2 = q.2) := fun e => h (Prod.ext e.1 e.2)
    rw [Bool.and_true, ← Bool.not_eq_true, Bool.and_eq_true]
    simpa using this
theorem spots_eqvAll : ∀ ps qs : List P, PyData.eqvAll (ps.map spotD) (qs.map spotD) = decide (ps = qs)
  | [], [] => rfl
  | [], _ :: _ => by simp [PyData.eqvAll]
  | _ :: _, [] => by simp [PyData.eqvAll]
  | p :: ps, q :: qs => by
    rw [List.map_cons, List.map_cons, PyData.eqvAll, spots_eqvAll ps qs, spot_eqv]
    by_cases h : p = q <;> by_cases g : ps = qs <;> simp [h, g]
theorem spots_eqv (ps qs : List P) : PyData.eqv (.list (ps.map spotD)) (.list (qs.map spotD)) = decide (ps = qs) := by rw [PyData.eqv, spots_eqvAll]
theorem spot_can (p : P) : (spotD p).canLay0 = true ∧ (spotD p).depth ≤ 2 := by
  unfold spotD
  constructor
  · simp [PyData.canLay0, PyData.canLayAll0]
  · simp [PyData.depth, PyData.depthAll]
theorem spots_can : ∀ ps : List P, PyData.canLayAll0 (ps.map spotD) = true ∧ PyData.depthAll (ps.map spotD) ≤ 2
  | [] => ⟨rfl, Nat.zero_le _⟩
  | p :: ps => by
    obtain ⟨h1, h2⟩ := spots_can ps
    obtain ⟨g1, g2⟩ := spot_can p
    rw [List.map_cons]
    constructor
    · simp [PyData.canLayAll0, h1, g1]
    · rw [PyData.depthAll]; omega
theorem spot_shaped (p : P) : SeqAt.shaped (spotD p) = true := by
  obtain ⟨g1, g2⟩ := spot_can p
  unfold SeqAt.shaped
  rw [g1, decide_eq_true (by omega)]; rfl
theorem spots_shaped (ps : List P) : SeqAt.shaped (.list (ps.map spotD)) = true := by
  obtain ⟨h1, h2⟩ := spots_can ps
  unfold SeqAt.shaped
  have : (PyData.list (ps.map spotD)).depth ≤ 64 := by rw [PyData.depth]; omega
  rw [decide_eq_true this, PyData.canLay0, h1]; rfl
section
variable {X : Cx}
def rNeSp (K : PySem.W.Frag) : R2 := fun x y H Q => ∃ p q, Dn K H (spotD p) x ∧ Dn K H (spotD q) y ∧ Q (.bl (!decide (p = q))) H
theorem op_neSp (hu : X.A.units + 64 < cLine) : OpR X (compareOp .NotEq) (rNeSp X.K) := by
  intro pins s σ H x y v u Q I rx ry h
  obtain ⟨p, q, h1, h2, k⟩ := h
  refine op_neD hu pins s σ H x y v u Q I rx ry ⟨_, _, h1, h2, spot_shaped p, spot_shaped q, ?_⟩
  rw [spot_eqv]; exact k
def rNeSps (K : PySem.W.Frag) : R2 := fun x y H Q => ∃ a b xs ys ps qs, x = .ref a ∧ y = .ref b ∧ SqL K H a xs ∧ SqL K H b ys ∧ Dns K H (List.map spotD ps) xs ∧ Dns K H (List.map spotD qs) ys ∧ Q (.bl (!decide (ps = qs))) H
theorem op_neSps (hu : X.A.units + 64 < cLine) : OpR X (compareOp .NotEq) (rNeSps X.K) := by
  intro pins s σ H x y v u Q I rx ry h
  obtain ⟨a, b, xs, ys, ps, qs, rfl, rfl, h1, h2, d1, d2, k⟩ := h
  refine op_neD hu pins s σ H _ _ v u Q I rx ry ⟨_, _, dn_lst h1 d1, dn_lst h2 d2, spots_shaped ps, spots_shaped qs, ?_⟩
  rw [spots_eqv]; exact k
end
end L2
set_option Elab.async false
set_option linter.all false
set_option maxRecDepth 100000
set_option maxHeartbeats 4000000
namespace L2
open PySem PySem.Spec PyProof.Rows Hull SortM SetX
def revO (X : Cx) (a l : Addr) (n : Nat) : HO := .ext fun h => h.get? a = some (RevX.revObj l ((n : Int) - 1)) ∧ X.s₀.heap.objs.size ≤ a
def del (H : Hp) (a : Addr) : Hp := fun b => if b = a then none else H b
theorem del_ne {H : Hp} {a b : Addr} (h : b ≠ a) : del H a b = H b := by unfold del; rw [if_neg h]
theorem del_same {H : Hp} {a : Addr} : del H a a = none := by unfold del; rw [if_pos rfl]
theorem del_upd {H : Hp} {a : Addr} {o : HO} (h : H a = none) : del (upd H a o) a = H := by
  funext b; unfold del upd
  by_cases e : b = a
  · rw [if_pos e, e, h]
  · rw [if_neg e, if_neg e]
theorem Vals.rev : ∀ {xs : List V} {us : List Value}, Vals xs us → Vals xs.reverse us.reverse
  | _, _, .nil => .nil
  | _, _, .cons r t => by
    rw [List.reverse_cons, List.reverse_cons]
    exact (Vals.rev t).append (.cons r .nil)
section
variable {X : Cx} {pins : List (Addr × Obj)} {σ : St} {H : Hp} {s : Shared}
theorem Inv.forget {a : Addr} {φ : Heap → Prop} (I : Inv X pins σ H s) (h : H a = some (.ext φ)) : Inv X pins σ (del H a) s := by
  have no : ∀ b u, H b = some u → u ≠ .ext φ → b ≠ a := fun b u e d z => by subst z; rw [h] at e; cases e; exact d rfl
  refine I.un (t' := s.toks) (h' := s.heap) ⟨fun b o e _ _ _ => e, fun b o e _ _ _ => ⟨o.slots, e⟩, fun b o e n _ => ?_, fun b o e _ => ⟨o, e⟩, fun b xs e => ?_, fun b o u e => ?_, fun b ps e => ?_⟩ fun b u e => ?_
  · have : b ≠ a := fun z => by subst z; rw [h] at n; cases n
    rw [del_ne this]; exact n
  · rw [del_ne (no b _ e (fun q => by cases q))]; exact e
  · rw [del_ne (no b _ e (fun q => by cases q))]; exact e
  · exact ⟨#[], by rw [del_ne (no b _ e (fun q => by cases q)), Array.append_empty]; exact e⟩
  · have hb : b ≠ a := fun z => by subst z; rw [del_same] at e; cases e
    rw [del_ne hb] at e
    exact (I.hok b u e).stay (fun c v _ q => q) (fun c q => by rw [del_ne (no c _ q (fun z => by cases z))]; exact q) fun c xs q => by rw [del_ne (no c _ q (fun z => by cases z))]; exact q
def rRev (X : Cx) : List V → Hp → VK → Prop := fun xs H Q => ∃ (l : Addr) (ys : List V), xs = [.ref l] ∧ H l = some (.lst ys) ∧ ∀ a, H a = none → Q (.ref a) (upd H a (revO X a l ys.length))
theorem call_rev : CallR X (.type "reversed") (rRev X) := by
  intro pins s σ H xs us Q I r h
  obtain ⟨l, ys, rfl, hH, q⟩ := h
  obtain ⟨u, rfl, rx⟩ := vals1 r
  cases rx
  obtain ⟨z, its, n, rv, hl, e⟩ := I.lstM hH
  refine RevX.call_rev e ?_
  have hsz : ((its.toArray.size : Int) - 1) = ((ys.length : Nat) : Int) - 1 := by rw [List.size_toArray, hl]
  rw [hsz]
  refine ⟨.ref s.heap.objs.size, _, I.laid (t' := s.toks) (o := revO X s.heap.objs.size l ys.length) (fun b o e => Heap.get?_push_of_some _ e) (Nat.le_refl _) ?_, rfl, q _ I.fresh⟩
  exact ⟨⟨Heap.get?_push_size _ rfl, I.sz⟩, ⟨_, Heap.get?_push_size _ rfl⟩, fun h1 h2 hφ k => ⟨k _ hφ.1, hφ.2⟩⟩
def rListRev (X : Cx) : List V → Hp → VK → Prop := fun xs H Q => ∃ (a l : Addr) (ys : List V), xs = [.ref a] ∧ H a = some (revO X a l ys.length) ∧ H l = some (.lst ys) ∧
  ∀ p, H p = none → Q (.ref p) (upd (del H a) p (.lst ys.reverse))
theorem call_listRev (hc : X.calm = true) : CallR X (.type "list") (rListRev X) := by
  intro pins s σ H xs us Q I r h
  obtain ⟨a, l, ys, rfl, hA, hH, q⟩ := h
  obtain ⟨u, rfl, rx⟩ := vals1 r
  cases rx
  obtain ⟨z, its, n, rv, hl, e⟩ := I.lstM hH
  obtain ⟨⟨ha, hs0⟩, _, _⟩ := I.hok a _ hA
  have hne : l ≠ a := by rintro rfl; rw [hA] at hH; cases hH
  have hsz : ((ys.length : Nat) : Int) - 1 = ((its.toArray.size : Nat) : Int) - 1 := by rw [List.size_toArray, hl]
  rw [hsz] at ha
  have halt := Heap.lt_size ha
  refine RevX.list_rev (items := its.toArray) (I.ok.hd hc) ⟨_, ha, rfl, rfl⟩ ⟨_, e, rfl, n, rfl⟩ hne (by rw [List.size_toArray]; omega) fun h' tk c' kp ho => ?_
  have I1 := I.forget hA
  have hp : del H a s.heap.objs.size = none := by rw [del_ne (Nat.ne_of_gt halt)]; exact I.fresh
  have hna : ∀ b u, del H a b = some u → b ≠ a := fun b u e z => by rw [z, del_same] at e; cases e
  have hnp : ∀ b u, del H a b = some u → b ≠ s.heap.objs.size := fun b u e z => by rw [z, hp] at e; cases e
  have hL : X.env.locals ≠ a := fun z => by have := I.free; rw [z, hA] at this; cases this
  have I2 : Inv X pins σ (upd (del H a) s.heap.objs.size (.lst ys.reverse)) { s with heap := h', gens := s.gens, drawn := s.drawn, toks := tk } := by
    refine I1.step (ch := [a]) (fun b hb => ?_) (fun b o _ _ hb e _ => kp b o (by simpa using hb) e) (fun b o _ _ hb e _ => ⟨o.slots, kp b o (by simpa using hb) e⟩) (fun b o hb e n => ?_) (fun b o hb e => ⟨o, kp b o (by simpa using hb) e⟩)
      (fun b xs e => ?_) (fun b o u e => ?_) (fun b ps e => ?_) (fun m hm => ?_) (fun b u e => ?_) I.bare
    · have hb' : b = a := by simpa using hb
      subst hb'
      exact ⟨.inr hs0, fun z => hL z.symm, fun x c ec z => (by have := I.freeC x c ec; rw [z, hA] at this; cases this), fun p hp z => (by have := (I.pin p hp).2.1; rw [z, hA] at this; cases this)⟩
    · rw [upd_ne (Nat.ne_of_lt (Heap.lt_size e))]; exact n
    · rw [upd_ne (hnp b _ e)]; exact e
    · rw [upd_ne (hnp b _ e)]; exact e
    · exact ⟨#[], by rw [upd_ne (hnp b _ e), Array.append_empty]; exact e⟩
    · exact hm.at' fun o e => kp _ o hL e
    · by_cases hb : b = s.heap.objs.size
      · subst hb
        rw [upd_same] at e; cases e
        exact ⟨by rw [List.length_reverse]; exact z, its.reverse, c', Vals.rev rv, by rw [ho]; simp⟩
      · rw [upd_ne hb] at e
        refine (I1.hok b u e).stay (fun c v hc' q' => kp c v ?_ q') (fun c q' => ?_) fun c xs q' => ?_
        · rcases hc' with rfl | hc'
          · exact hna _ _ e
          · exact hna _ _ hc'
        · rw [upd_ne (hnp c _ q')]; exact q'
        · rw [upd_ne (hnp c _ q')]; exact q'
  exact ⟨.ref s.heap.objs.size, _, I2, rfl, q _ I.fresh⟩
end
end L2
set_option Elab.async false
set_option linter.all false
set_option maxRecDepth 100000
set_option maxHeartbeats 4000000
namespace L2
open PySem PySem.Spec PyProof.Rows
section
variable {X : Cx}
def rIsSeq (K : PySem.W.Frag) : List V → Hp → VK → Prop := fun xs H Q => ∃ (a : Addr) (ys : List V) (T : String) (b : Bool), xs = [.ref a, .ty T] ∧
  ((SqT K H a ys ∧ PySem.W.kitOne K (.type "tuple") (.type T) = some b) ∨ (SqL K H a ys ∧ PySem.W.kitOne K (.type "list") (.type T) = some b)) ∧ Q (.bl b) H
theorem call_isSeq : CallR X (.builtin "isinstance") (rIsSeq X.K) := by
  intro pins s σ H xs us Q I rv h
  obtain ⟨a, ys, T, b, rfl, ty, q⟩ := h
  obtain ⟨u, u', rfl, rx, rt⟩ := vals2 rv
  cases rt
  cases rx
  rcases ty with ⟨h1, e⟩ | ⟨h1, e⟩
  · obtain ⟨_, _, ⟨o, h2, h3, _⟩, _⟩ := I.tuple h1
    exact PySem.W.kia_one PySem.W.kitx_tuple I.kIn ⟨o, h2, h3⟩ e (fun z => nomatch z) fun tk => ⟨.bl b, H, I.tok tk, rfl, q⟩
  · obtain ⟨_, _, p, _⟩ := I.list h1
    obtain ⟨o, h2, h3, _⟩ := p.isList
    exact PySem.W.kia_one PySem.W.kitx_list I.kIn ⟨o, h2, h3⟩ e (fun z => nomatch z) fun tk => ⟨.bl b, H, I.tok tk, rfl, q⟩
end
end L2
set_option linter.all false
set_option maxRecDepth 100000
set_option maxHeartbeats 8000000
namespace ZipX
open PySem
abbrev IsZ2 (h : Heap) (z TI TO T0 : Addr) (b : Bool) : Prop :=
  h.get? z = some { cls := .type "zip", dict := none, data := .fields #[rawInt T0, .bool b, .bool false, .ref TI, .ref TO], slots := #[] }
section
variable {prog : Program} {w : World} {A : Around} {E : Value → Shared → Prop} {s : Shared}
theorem wpAny_alive {M : Model} {a : Addr} {Q : Option Obj → Shared → Prop} (h : Q (s.heap.get? a) s) : wpAny M A (loadIfAlive a) Q E s := by
  intro Γ p _
  unfold loadIfAlive
  simp only [Sem.wp_loadIfAlive, Sem.wp_pure]
  exact h
theorem SameBut.refl' {a : Addr} {h : Heap} : Heap.SameBut a h h := ⟨rfl, fun _ _ => rfl⟩
theorem busy {z TI TO T0 : Addr} {bb : Bool} {o0 : Obj} (hz : IsZ2 s.heap z TI TO T0 bb) (ho0 : s.heap.get? T0 = some o0) :
    wpAny (model prog w) A (Builtin.SmallTypes.ownedTupleIsFree (.ref z)) (fun r s' => r = false ∧ ∃ h₁, s' = { s with heap := h₁ } ∧ IsZ2 h₁ z TI TO T0 true ∧ Heap.SameBut z s.heap h₁) E s := by
  unfold Builtin.SmallTypes.ownedTupleIsFree
  refine wpAny_bind (wpAny_field hz rfl (x := rawInt T0) rfl ?_)
  show wpAny _ _ (loadIfAlive (Int.toNat (T0 : Nat)) >>= _) _ _ _
  rw [Int.toNat_natCast]
  refine wpAny_bind (wpAny_alive ?_)
  rw [ho0]
  show wpAny _ _ (field (.ref z) 1 >>= _) _ _ _
  cases bb with
  | true =>
    refine wpAny_bind (wpAny_field hz rfl (x := .bool true) rfl ?_)
    exact wpAny_pure ⟨rfl, s.heap, rfl, hz, SameBut.refl'⟩
  | false =>
    refine wpAny_bind (wpAny_field hz rfl (x := .bool false) rfl ?_)
    show wpAny _ _ (setField (.ref z) 1 (.bool true) >>= _) _ _ _
    refine wpAny_bind (wpAny_setField_rec hz (by simp) fun h' hz' hs' => ?_)
    exact wpAny_pure ⟨rfl, h', rfl, hz', hs'⟩
theorem zip_item2 {z TI TO T0 i1 i2 l1 l2 : Addr} {bb : Bool} {o0 : Obj} {k1 k2 : Nat} {xs ys : Array Value} {x y : Value} {Q : Value → Shared → Prop} (D : ZipApart z TI TO i1 i2 l1 l2)
    (hz : IsZ2 s.heap z TI TO T0 bb) (ho0 : s.heap.get? T0 = some o0) (hTI : IsPair s.heap TI (.ref i1) (.ref i2))
    (h1 : s.heap.IsListIter i1 l1 k1) (h2 : s.heap.IsListIter i2 l2 k2) (hl1 : s.heap.IsList l1 xs) (hl2 : s.heap.IsList l2 ys) (hx : xs[k1]? = some x) (hy : ys[k2]? = some y)
    (hQ : ∀ h', IsZ2 h' z TI TO T0 true → h'.IsListIter i1 l1 (k1 + 1) → h'.IsListIter i2 l2 (k2 + 1) → IsPair h' s.heap.objs.size x y → h'.objs.size = s.heap.objs.size + 1 →
      (∀ c o, c ≠ z → c ≠ i1 → c ≠ i2 → s.heap.get? c = some o → h'.get? c = some o) → Q (.ref s.heap.objs.size) { s with heap := h' }) :
    wpAny (model prog w) A (Builtin.«zip.__next__» ⟨[.ref z], []⟩) (fun fin s' => ∃ v, fin = .done (.ret v) ∧ Q v s') E s := by
  show wpAny _ _ (field (.ref z) 2 >>= _) _ _ _
  refine wpAny_bind (wpAny_field hz rfl (x := .bool false) rfl ?_)
  show wpAny _ _ (field (.ref z) 3 >>= _) _ _ _
  refine wpAny_bind (wpAny_field hz rfl (x := .ref TI) rfl ?_)
  refine wpAny_bind (wpAny_seqItems hTI rfl ?_)
  show wpAny _ _ (Builtin.SmallTypes.ownedTupleIsFree (.ref z) >>= _) _ _ _
  refine wpAny_bind (wpAny_mono (busy hz ho0) (fun r s' hr => ?_) fun _ _ e => e)
  obtain ⟨rfl, h₁, rfl, hz₁, hs₁⟩ := hr
  rw [if_neg (by decide)]
  show wpAny _ _ (forIn (#[Value.ref i1, Value.ref i2] : Array Value) _ _ >>= _) _ _ _
  rw [← Array.forIn_toList]
  simp only [List.forIn_cons, List.forIn_nil]
  refine wpAny_bind (wpAny_bind (wpAny_bind (wpAny_holding ?_)))
  show wpAny _ _ (Builtin.SmallTypes.nextOf (.ref i1) >>= _) _ _ _
  refine wpAny_bind (wpAny_nextOf_list_item (s := { s with heap := h₁ }) (h1.extBut hs₁.extBut D.i1z) (hl1.extBut hs₁.extBut D.l1z) hx fun h₂ h1₂ hs₂ => wpAny_pure (wpAny_pure ?_))
  replace hs₂ : Heap.SameBut i1 h₁ h₂ := hs₂
  refine wpAny_bind (wpAny_bind (wpAny_holding ?_))
  show wpAny _ _ (Builtin.SmallTypes.nextOf (.ref i2) >>= _) _ _ _
  refine wpAny_bind (wpAny_nextOf_list_item (s := { s with heap := h₂ }) ((h2.extBut hs₁.extBut D.i2z).extBut hs₂.extBut D.i12.symm) ((hl2.extBut hs₁.extBut D.l2z).extBut hs₂.extBut D.l2i1) hy fun h₃ h2₃ hs₃ => wpAny_pure (wpAny_pure (wpAny_pure ?_)))
  replace hs₃ : Heap.SameBut i2 h₂ h₃ := hs₃
  show wpAny _ _ (newTuple [x, y] >>= _) _ _ _
  refine wpAny_bind (wpAny_newTuple ?_)
  have hsz : h₃.objs.size = s.heap.objs.size := by rw [hs₃.1, hs₂.1, hs₁.1]
  have hz₃ : IsZ2 h₃ z TI TO T0 true := hs₃.extBut _ _ D.i2z.symm (hs₂.extBut _ _ D.i1z.symm hz₁)
  have h1₃ : h₃.IsListIter i1 l1 (k1 + 1) := h1₂.extBut hs₃.extBut D.i12
  refine wpAny_pure ⟨_, rfl, ?_⟩
  show Q (.ref h₃.objs.size) _
  rw [hsz]
  refine hQ _ (Heap.get?_push_of_some _ hz₃) (h1₃.at fun o e => Heap.get?_push_of_some _ e) (h2₃.at fun o e => Heap.get?_push_of_some _ e) ?_ (by rw [Heap.size_push, hsz]) fun c o c1 c2 c3 e => Heap.get?_push_of_some _ (hs₃.extBut _ _ c3 (hs₂.extBut _ _ c2 (hs₁.extBut _ _ c1 e)))
  show Heap.get? _ _ = _
  rw [← hsz]
  exact Heap.get?_push_size _ rfl
theorem zip_end2 {z TI TO T0 i1 i2 l1 l2 : Addr} {bb : Bool} {o0 : Obj} {k1 k2 : Nat} {xs ys : Array Value} {Q : Fin → Shared → Prop} (hh : A.handled = none) (D : ZipApart z TI TO i1 i2 l1 l2)
    (hz : IsZ2 s.heap z TI TO T0 bb) (ho0 : s.heap.get? T0 = some o0) (hTI : IsPair s.heap TI (.ref i1) (.ref i2))
    (h1 : s.heap.IsListIter i1 l1 k1) (hl1 : s.heap.IsList l1 xs) (hx : xs[k1]? = none)
    (hE : ∀ h' e, (∀ c o, c ≠ z → c ≠ i1 → s.heap.get? c = some o → h'.get? c = some o) → (∃ o, h'.get? e = some o ∧ o.cls = .type "StopIteration") → E (.ref e) { s with heap := h' }) :
    wpAny (model prog w) A (Builtin.«zip.__next__» ⟨[.ref z], []⟩) Q E s := by
  show wpAny _ _ (field (.ref z) 2 >>= _) _ _ _
  refine wpAny_bind (wpAny_field hz rfl (x := .bool false) rfl ?_)
  show wpAny _ _ (field (.ref z) 3 >>= _) _ _ _
  refine wpAny_bind (wpAny_field hz rfl (x := .ref TI) rfl ?_)
  refine wpAny_bind (wpAny_seqItems hTI rfl ?_)
  show wpAny _ _ (Builtin.SmallTypes.ownedTupleIsFree (.ref z) >>= _) _ _ _
  refine wpAny_bind (wpAny_mono (busy hz ho0) (fun r s' hr => ?_) fun _ _ e => e)
  obtain ⟨rfl, h₁, rfl, hz₁, hs₁⟩ := hr
  rw [if_neg (by decide)]
  show wpAny _ _ (forIn (#[Value.ref i1, Value.ref i2] : Array Value) _ _ >>= _) _ _ _
  rw [← Array.forIn_toList]
  simp only [List.forIn_cons, List.forIn_nil]
  refine wpAny_bind (wpAny_bind (wpAny_bind (wpAny_holding ?_)))
  show wpAny _ _ (Builtin.SmallTypes.nextOf (.ref i1) >>= _) _ _ _
  refine wpAny_bind (wpAny_nextOf_list_end (s := { s with heap := h₁ }) hh (h1.extBut hs₁.extBut D.i1z) (hl1.extBut hs₁.extBut D.l1z) hx fun h₂ e hs₂ he => ?_)
  exact hE h₂ e (fun c o c1 c2 q => hs₂ c o c2 (hs₁.extBut _ _ c1 q)) he
theorem next2 {z TI TO T0 i1 i2 l1 l2 : Addr} {bb : Bool} {o0 : Obj} {k1 k2 : Nat} {xs ys : Array Value} {x y : Value} {Q : Option Value → Shared → Prop} (D : ZipApart z TI TO i1 i2 l1 l2)
    (hz : IsZ2 s.heap z TI TO T0 bb) (ho0 : s.heap.get? T0 = some o0) (hTI : IsPair s.heap TI (.ref i1) (.ref i2))
    (h1 : s.heap.IsListIter i1 l1 k1) (h2 : s.heap.IsListIter i2 l2 k2) (hl1 : s.heap.IsList l1 xs) (hl2 : s.heap.IsList l2 ys) (hx : xs[k1]? = some x) (hy : ys[k2]? = some y)
    (hQ : ∀ h', IsZ2 h' z TI TO T0 true → h'.IsListIter i1 l1 (k1 + 1) → h'.IsListIter i2 l2 (k2 + 1) → IsPair h' s.heap.objs.size x y → h'.objs.size = s.heap.objs.size + 1 →
      (∀ c o, c ≠ z → c ≠ i1 → c ≠ i2 → s.heap.get? c = some o → h'.get? c = some o) → Q (some (.ref s.heap.objs.size)) { s with heap := h' }) :
    wpAny (model prog w) A (pyNext (.ref z)) Q E s := by
  have hT : s.TypeIs (.ref z) "zip" := ⟨_, hz, rfl⟩
  unfold pyNext
  exact wpAny_bind (wpAny_attempt (wpAny_callSpecial?_slot (name := Str.ofString "__next__") hT F.slot_zip_next
    (wpAny_call_entry F.slot_zip_next hT F.entry_zip_next
      (zip_item2 D hz ho0 hTI h1 h2 hl1 hl2 hx hy fun h' a1 a2 a3 a4 a5 a6 => wpAny_pure (hQ h' a1 a2 a3 a4 a5 a6)) (F.args_zip_next_1 _))))
theorem end2 {z TI TO T0 i1 i2 l1 l2 : Addr} {bb : Bool} {o0 : Obj} {k1 : Nat} {xs : Array Value} {Q : Option Value → Shared → Prop} (hh : A.handled = none) (D : ZipApart z TI TO i1 i2 l1 l2)
    (hz : IsZ2 s.heap z TI TO T0 bb) (ho0 : s.heap.get? T0 = some o0) (hTI : IsPair s.heap TI (.ref i1) (.ref i2))
    (h1 : s.heap.IsListIter i1 l1 k1) (hl1 : s.heap.IsList l1 xs) (hx : xs[k1]? = none)
    (hQ : ∀ h', (∀ c o, c ≠ z → c ≠ i1 → s.heap.get? c = some o → h'.get? c = some o) → Q none { s with heap := h' }) : wpAny (model prog w) A (pyNext (.ref z)) Q E s := by
  have hT : s.TypeIs (.ref z) "zip" := ⟨_, hz, rfl⟩
  unfold pyNext
  refine wpAny_bind (wpAny_attempt (wpAny_callSpecial?_slot (name := Str.ofString "__next__") hT F.slot_zip_next
    (wpAny_call_entry F.slot_zip_next hT F.entry_zip_next (zip_end2 (k2 := 0) (ys := #[]) hh D hz ho0 hTI h1 hl1 hx fun h' e hk he => ?_) (F.args_zip_next_1 _))))
  obtain ⟨o, ho, hc⟩ := he
  refine wpAny_bind (wpAny_isInstance (T := "StopIteration") (b := true) ⟨o, ho, hc⟩ isSubtype_stop ?_)
  exact wpAny_pure (hQ _ hk)
end
end ZipX
set_option Elab.async false
set_option linter.all false
set_option maxRecDepth 100000
set_option maxHeartbeats 4000000
namespace L2
open PySem PySem.Spec PyProof.Rows
section
variable {X : Cx} {pins : List (Addr × Obj)} {σ : St} {H : Hp} {s : Shared} {h' : Heap}
def rSumL (K : PySem.W.Frag) : List V → Hp → VK → Prop := fun xs H Q => ∃ (p : Addr) (ns : List Int), xs = [.ref p] ∧ SqL K H p (ns.map V.int) ∧ Q (.int ns.sum) H
theorem pre_sum (ns : List Int) : preSum (fun i => ns.getD i 0) ns.length = ns.sum := by
  have key : ∀ n, n ≤ ns.length → preSum (fun i => ns.getD i 0) n = (ns.take n).sum := by
    intro n
    induction n with
    | zero => intro _; simp [preSum]
    | succ n ih =>
      intro h
      rw [preSum, ih (by omega), List.take_add_one]
      have : ns[n]? = some ns[n] := List.getElem?_eq_getElem (by omega)
      rw [this, List.sum_append]
      simp [List.getD, this]
  rw [key _ (Nat.le_refl _), List.take_length]
theorem call_sumL (hc : X.calm = true) : CallR X (.builtin "sum") (rSumL X.K) := by
  intro pins s σ H xs us Q I r h
  obtain ⟨p, ns, rfl, hq, q⟩ := h
  obtain ⟨u, rfl, rx⟩ := vals1 r
  cases rx
  obtain ⟨its, rv, pl, hz⟩ := I.list hq
  have hl := pl.isList
  have hlen : ns.length = its.length := by have := rv.length; simpa using this
  have hax : p < s.heap.objs.size := by obtain ⟨_, e, _⟩ := hl; exact Heap.lt_size e
  refine call_sum_walkG (wpAny_pyIter_list hl ?_)
  refine ⟨s.heap.objs.size, [s.heap.objs.size, p], [s.heap.objs.size], its.toArray.size, (fun i v => its.toArray[i]? = some v), _, (fun i => ns.getD i 0), rfl,
    Walks.list (prog := X.prog) (w := X.w) (A := X.A.in1) (I.ok.hd hc) s.heap.objs.size p (Nat.ne_of_lt hax) _, ⟨⟨_, Heap.get?_push_size _ rfl, rfl, rfl⟩, hl.push _⟩, ?_, fun i v hv => ints_at rv i v hv, fun h' tk t' hk => ?_⟩
  · intro b hb
    show b < (s.heap.push _).objs.size
    rw [Heap.size_push]
    simp only [List.mem_cons, List.mem_singleton, List.not_mem_nil, or_false] at hb
    rcases hb with rfl | rfl
    · exact Nat.lt_succ_self _
    · exact Nat.lt_succ_of_lt hax
  · have hsz : its.toArray.size = ns.length := by simp [hlen]
    rw [hsz, pre_sum]
    refine ⟨.int ns.sum, H, I.kept fun b o e => hk b o ?_ (Heap.get?_push_of_some _ e), ⟨t', rfl⟩, q⟩
    have := Heap.lt_size e
    simp only [List.mem_cons, List.mem_singleton, List.not_mem_nil, or_false]
    exact Nat.ne_of_lt this
theorem Inv.turnedL {t' : Nat} {fp : List Addr} (I : Inv X pins σ H s) (k : ∀ b o, b ∉ fp → s.heap.get? b = some o → h'.get? b = some o) (hf : ∀ b ∈ fp, FpOk X pins H b) : Inv X pins σ H { s with heap := h', toks := t' } := by
  have nit : ∀ b u, H b = some u → b ∉ fp := fun b u e z => by rw [(hf b z).1] at e; cases e
  refine I.step (g' := s.gens) (d' := s.drawn) (ch := fp) (fun b hb => ?_) (fun b o _ _ hc e _ => k b o hc e) (fun b o _ _ hc e _ => ⟨o.slots, k b o hc e⟩) (fun _ _ _ _ n => n)
    (fun b o hc e => ⟨o, k b o hc e⟩) (fun _ _ e => e) (fun _ _ _ e => e) (fun b ps e => ⟨#[], by rw [e]; simp⟩) (fun m hm => ?_) (fun b u e => ?_) I.bare
  · obtain ⟨f0, f1, f2, f3, f4, f5⟩ := hf b hb
    exact ⟨f3, f1, f4, f5⟩
  · obtain ⟨o, es, ep, ho, r⟩ := hm
    exact ⟨o, es, ep, k _ o (fun z => (hf _ z).2.1 rfl) ho, r⟩
  · refine (I.hok b u e).stay (fun c v hc q => k c v ?_ q) (fun _ q => q) fun _ _ q => q
    rcases hc with z | z
    · rw [z]; exact nit b u e
    · exact nit c _ z
theorem Inv.turnedNew {t' : Nat} {fp : List Addr} {a : Addr} {o : HO} (I : Inv X pins σ H s) (k : ∀ b u, b ∉ fp → s.heap.get? b = some u → h'.get? b = some u) (hf : ∀ b ∈ fp, FpOk X pins H b) (hp : s.heap.objs.size ≤ a)
    (new : ObjOk X.prog X.w (upd H a o) h' a o) : Inv X pins σ (upd H a o) { s with heap := h', toks := t' } := by
  have ha : H a = none := I.hok.fresh hp
  have nit : ∀ b u, H b = some u → b ∉ fp := fun b u e z => by rw [(hf b z).1] at e; cases e
  have na : ∀ b u, H b = some u → b ≠ a := fun b u e z => by rw [z, ha] at e; cases e
  refine I.step (g' := s.gens) (d' := s.drawn) (ch := fp) (fun b hb => ?_) (fun b o _ _ hc e _ => k b o hc e) (fun b o _ _ hc e _ => ⟨o.slots, k b o hc e⟩) (fun b u _ e n => ?_)
    (fun b o hc e => ⟨o, k b o hc e⟩) (fun b xs e => by rw [upd_ne (na b _ e)]; exact e) (fun b o u e => by rw [upd_ne (na b _ e)]; exact e) (fun b ps e => ⟨#[], by rw [upd_ne (na b _ e), e]; simp⟩) (fun m hm => ?_) (fun b u e => ?_) I.bare
  · obtain ⟨f0, f1, f2, f3, f4, f5⟩ := hf b hb
    exact ⟨f3, f1, f4, f5⟩
  · rw [upd_ne (Nat.ne_of_lt (Nat.lt_of_lt_of_le (Heap.lt_size e) hp))]; exact n
  · obtain ⟨o, es, ep, ho, r⟩ := hm
    exact ⟨o, es, ep, k _ o (fun z => (hf _ z).2.1 rfl) ho, r⟩
  · by_cases hb : b = a
    · subst hb
      rw [upd_same] at e; cases e
      exact new
    · rw [upd_ne hb] at e
      refine (I.hok b u e).stay (fun c v hc q => k c v ?_ q) (fun c q => by rw [upd_ne (na c _ q)]; exact q) fun c xs q => by rw [upd_ne (na c _ q)]; exact q
      rcases hc with z | z
      · rw [z]; exact nit b u e
      · exact nit c _ z
end
def Ite (K : PySem.W.Frag) (a : Addr) : It :=
  ⟨fun i H => ∃ xs x, SqL K H a xs ∧ xs[i]? = some x, fun i H v H' => ∃ T x, v = .ref T ∧ H T = none ∧ H' = upd H T (.tup [.int i, x]) ∧ ∀ xs, SqL K H a xs → xs[i]? = some x, fun i H => ∃ xs, SqL K H a xs ∧ xs.length ≤ i⟩
theorem turn_enum {P : Program} {w : World} {K : PySem.W.Frag} {elts : List Expr} {kt : Nat} {pos : Pos} (a e it : Addr) (hne : e ≠ it) : Turn P w K (.Tuple elts kt pos) (Ite K a) [e, it] e (fun i h => (∃ old, IsEnum h e it (i : Nat) old) ∧ h.IsListIter it a i) where
  mem := by simp
  obj := fun i h st b hb => by
    obtain ⟨⟨old, h1⟩, o, h2, c, d⟩ := st
    have hb' : b = e ∨ b = it := by simpa using hb
    rcases hb' with rfl | rfl
    · exact ⟨_, h1, fun v z => by cases (show Data.fields _ = Data.cell v from z)⟩
    · exact ⟨o, h2, fun v z => by rw [d] at z; cases z⟩
  keep := fun i h h' st k => ⟨let ⟨old, q⟩ := st.1; ⟨old, k e (by simp) _ q⟩, st.2.at fun o q => k it (by simp) o q⟩
  item := by
    intro X hP hw hK hc i pins s σ H E I hf st hg
    subst hP hw hK
    obtain ⟨xs, x, hq, hx⟩ := hg
    obtain ⟨its, rv, p, hz⟩ := I.list hq
    obtain ⟨u, hu, ru⟩ := rv.get hx
    obtain ⟨⟨old, st1⟩, st2⟩ := st
    refine wpAny_pyNext_enum_item st1 st2 p.isList (x := u) (by simpa using hu) hne fun h1 o1 l1 t1 z1 k1 => ?_
    refine ⟨_, rfl, wpAny_letOwnedTupleGo_enum (s := { s with heap := h1, toks := s.toks + 1 }) o1 fun h2 e2 sb => ?_⟩
    have hT : h2.get? s.heap.objs.size = some { cls := .type "tuple", data := .seq #[.int i s.toks, u] } := by
      have hne2 : s.heap.objs.size ≠ e := Nat.ne_of_gt (Heap.lt_size st1)
      exact sb.extBut _ _ hne2 t1
    have kk : ∀ b o, b ∉ [e, it] → s.heap.get? b = some o → h2.get? b = some o := fun b o hb q => by
      have hb' : b ≠ e ∧ b ≠ it := by simpa using hb
      exact sb.extBut _ _ hb'.1 (k1 b o hb'.1 hb'.2 q)
    refine ⟨.ref s.heap.objs.size, upd H s.heap.objs.size (.tup [.int i, x]), I.turnedNew (t' := s.toks + 1) kk hf (Nat.le_refl _) ⟨by show 2 ≤ sizeLine; decide, [.int i s.toks, u], .cons ⟨_, rfl⟩ (.cons ru .nil), ⟨_, hT, rfl, _, rfl⟩⟩, rfl,
      ⟨_, x, rfl, I.fresh, rfl, fun ys hy => by rw [I.list_inj hy hq]; exact hx⟩, ⟨⟨_, e2⟩, ?_⟩, fun b hb => ?_⟩
    · exact l1.extBut sb.extBut (Ne.symm hne)
    · have := (hf b hb).1
      have hb' : b < s.heap.objs.size := by
        have hb2 : b = e ∨ b = it := by simpa using hb
        rcases hb2 with rfl | rfl
        · exact Heap.lt_size st1
        · obtain ⟨o, q, _⟩ := st2; exact Heap.lt_size q
      rw [upd_ne (Nat.ne_of_lt hb')]; exact this
  done := by
    intro X hP hw hK hc i pins s σ H E I hf st hg
    subst hP hw hK
    obtain ⟨xs, hq, hx⟩ := hg
    obtain ⟨its, rv, p, hz⟩ := I.list hq
    obtain ⟨⟨old, st1⟩, st2⟩ := st
    have hl := rv.length
    exact wpAny_pyNext_enum_end (I.ok.hd hc) st1 st2 p.isList (by simp; omega) fun h' eb => ⟨rfl, I.turnedL (t' := s.toks) (fun b o hb q => eb b o (fun z => hb (by simp [z])) q) hf⟩
  self := fun _ _ _ _ _ st h => let ⟨old, q⟩ := st.1; wpAny_pyIter_enum q h
section
variable {X : Cx}
def iEnum (K : PySem.W.Frag) (ta : TA) : TI := fun σ H R => ta σ H fun vs H1 => ∃ a, vs = [.ref a] ∧ (∃ xs, SqL K H1 a xs) ∧ R (Ite K a) H1
theorem pi_enum {a : Expr} {ta : TA} {p pos ptg : Pos} {elts : List Expr} {kt : Nat} (hg : Gl X "enumerate") (hm : X.mg "enumerate" = none) (ha : PA X [a] ta) (hs : starEach [a] X.env = [(false, eval a X.env)] := by rfl) : PI X (.Tuple elts kt ptg) (.Call (.Name "enumerate" p) [a] [] pos) (iEnum X.K ta) := by
  intro pins s σ H R I h
  refine Call_ (ld_blt I hg hm PySem.L3.boot_enumerate (PyProof.Rows.callWith_type1 (thn (ha pos pins s σ H _ I h) fun us s1 ⟨vs, H1, I1, r1, q1⟩ => ?_) hs rfl))
  obtain ⟨l, e, ⟨xs, hq⟩, q⟩ := q1
  subst e
  cases r1 with
  | cons r rr =>
    cases rr
    cases r
    obtain ⟨its, rv, pl, hz⟩ := I1.list hq
    refine call_enumerate_list pl.isList fun h' he hi hsz hk => ?_
    refine wpAny_pyIter_enum he ?_
    have I2 : Inv X pins σ H1 { s1 with heap := h' } := I1.kept (t' := s1.toks) hk
    refine ⟨s1.heap.objs.size + 1, [s1.heap.objs.size + 1, s1.heap.objs.size], _, _, H1, rfl, I2, turn_enum l _ _ (Nat.succ_ne_self _), ⟨⟨_, he⟩, hi⟩, fun b hb => ?_, q⟩
    have hb' : b = s1.heap.objs.size + 1 ∨ b = s1.heap.objs.size := by simpa using hb
    rcases hb' with rfl | rfl
    · exact I1.fpOk (Nat.le_succ _) (I1.hok.fresh (Nat.le_succ _))
    · exact I1.fpOk (Nat.le_refl _) (I1.hok.fresh (Nat.le_refl _))
end
section
variable {X : Cx}
end
end L2
set_option Elab.async false
set_option linter.all false
set_option maxRecDepth 100000
set_option maxHeartbeats 4000000
namespace L2
open PySem PySem.Spec PyProof.Rows
namespace ZF
theorem nolen : typeLookup (.type "zip") "__len__" = pure none := by rw [typeLookup_type, builtinLookup_eq_fast]; kernel_rfl
theorem nohint : typeLookup (.type "zip") "__length_hint__" = pure none := by rw [typeLookup_type, builtinLookup_eq_fast]; kernel_rfl
end ZF
def ZGo (h : Heap) (H : Hp) (z TI TO : Addr) : Prop := IsZip h z TI TO .none ∨ ∃ T0 b xs, ZipX.IsZ2 h z TI TO T0 b ∧ H T0 = some (.tup xs)
section
variable {X : Cx} {pins : List (Addr × Obj)} {σ : St}
theorem Inv.adopt {H : Hp} {s : Shared} {a : Addr} {o : HO} (I : Inv X pins σ H s) (hf : FpOk X pins H a) (new : ObjOk X.prog X.w (upd H a o) s.heap a o) : Inv X pins σ (upd H a o) s := by
  have na : ∀ b u, H b = some u → b ≠ a := fun b u e z => by rw [z, hf.1] at e; cases e
  obtain ⟨f0, f1, f2, f3, f4, f5⟩ := hf
  have := I.step (h' := s.heap) (H' := upd H a o) (g' := s.gens) (d' := s.drawn) (t' := s.toks) (ch := [a]) (fun b hb => ?_) (fun b o _ _ hc e _ => e) (fun b o _ _ hc e _ => ⟨o.slots, e⟩) (fun b u hc e n => ?_)
    (fun b o hc e => ⟨o, e⟩) (fun b xs e => by rw [upd_ne (na b _ e)]; exact e) (fun b o u e => by rw [upd_ne (na b _ e)]; exact e) (fun b ps e => ⟨#[], by rw [upd_ne (na b _ e), e]; simp⟩) (fun m hm => hm) (fun b u e => ?_) I.bare
  · exact this
  · have e : b = a := by simpa using hb
    subst e
    exact ⟨f3, f1, f4, f5⟩
  · rw [upd_ne (fun z => hc (by simp [z]))]; exact n
  · by_cases hb : b = a
    · subst hb
      rw [upd_same] at e; cases e
      exact new
    · rw [upd_ne hb] at e
      exact (I.hok b u e).stay (fun c v hc q => q) (fun c q => by rw [upd_ne (na c _ q)]; exact q) fun c xs q => by rw [upd_ne (na c _ q)]; exact q
theorem same_newL {H : Hp} {p : Addr} (h : H p = none) (o : HO) : Same H (upd H p o) := fun b u q => by rw [upd_ne (ne_of_none q h)]; exact q
theorem FpOk.upd {H : Hp} {b a : Addr} {o : HO} (h : FpOk X pins H b) (hb : b ≠ a) : FpOk X pins (upd H a o) b := ⟨by rw [upd_ne hb]; exact h.1, h.2⟩
theorem loop_zip {A : Around} {R : Result → Shared → Prop} {res : Value} (hh : A.handled = none) {z TI TO i1 i2 l1 l2 S : Addr} (D : ZipApart z TI TO i1 i2 l1 l2) (hS1 : S ≠ z) (hS2 : S ≠ TI) (hS3 : S ≠ TO) (hS4 : S ≠ i1) (hS5 : S ≠ i2) {xs ys : List V} (hn : xs.length = ys.length) (hz24 : xs.length ≤ sizeLine) :
    ∀ (k i : Nat) (s : Shared) (H : Hp) (its : List Value) (c : Nat) (zs : List V), xs.length - i = k → i ≤ xs.length → Inv X pins σ H s → (∀ b ∈ [S, z, TI, TO, i1, i2], FpOk X pins H b) → SqL X.K H l1 xs → SqL X.K H l2 ys → ZGo s.heap H z TI TO →
    IsPair s.heap TI (.ref i1) (.ref i2) → (∃ a b, IsPair s.heap TO a b) → s.heap.IsListIter i1 l1 i → s.heap.IsListIter i2 l2 i →
    s.heap.get? S = some { cls := .type "list", dict := none, data := .seq its.toArray c, slots := #[] } → Vals zs its → zs.length = i →
    (∀ (j : Nat) (x y : V), j < i → xs[j]? = some x → ys[j]? = some y → ∃ T, zs[j]? = some (V.ref T) ∧ H T = some (.tup [x, y])) →
    (∀ s' H' its' c' zs', Same H H' → Inv X pins σ H' s' → FpOk X pins H' S → s'.heap.get? S = some { cls := .type "list", dict := none, data := .seq its'.toArray c', slots := #[] } → Vals zs' its' → zs'.length = xs.length →
      (∀ (j : Nat) (x y : V), xs[j]? = some x → ys[j]? = some y → ∃ T, zs'[j]? = some (V.ref T) ∧ H' T = some (.tup [x, y])) → R (.ok (.ret res)) s') →
    codeAny (model X.prog X.w) A (.builtin "list.extend.loop" ⟨[.ref S, .ref z, res], []⟩) R s := by
  intro k
  induction k with
  | zero =>
    intro i s H its c zs hk hi I hf q1 q2 hz hTI hTO t1 t2 hS rz lz hzs hR
    have hin : i = xs.length := by omega
    subst hin
    obtain ⟨a0, b0, hTO'⟩ := hTO
    obtain ⟨v1, r1, p1, _⟩ := I.list q1
    obtain ⟨v2, r2, p2, _⟩ := I.list q2
    have m1 := r1.length
    have m2 := r2.length
    refine codeAny_builtin F.entry_extend_loop ?_
    rw [Around.under_plainId F.plain_extend_loop _]
    show wpAny _ A.in1 (pyNext (.ref z) >>= _) _ _ s
    have fin : ∀ h', (∀ c o, c ≠ z → c ≠ TO → c ≠ i1 → c ≠ i2 → s.heap.get? c = some o → h'.get? c = some o) → R (.ok (.ret res)) { s with heap := h' } := fun h' hk' => by
      refine hR { s with heap := h' } H its c zs (Same.refl _) (I.turnedL (t' := s.toks) (fp := [S, z, TI, TO, i1, i2]) (fun b o hb q => ?_) hf) (hf S (by simp)) (hk' _ _ hS1 hS3 hS4 hS5 hS) rz lz fun j x y h1 h2 => hzs j x y (List.getElem?_eq_some_iff.mp h1).1 h1 h2
      have hb' : b ≠ S ∧ b ≠ z ∧ b ≠ TI ∧ b ≠ TO ∧ b ≠ i1 ∧ b ≠ i2 := by simpa using hb
      exact hk' b o hb'.2.1 hb'.2.2.2.1 hb'.2.2.2.2.1 hb'.2.2.2.2.2 q
    rcases hz with hz | ⟨T0, bb, us, hz, hT0⟩
    · exact wpAny_bind (wpAny_pyNext_zip_end hh D hz hTI hTO' t1 t2 p1.isList p2.isList (.inl (by simp; omega)) fun h' hk' => wpAny_pure (fin h' hk'))
    · obtain ⟨_, _, _, o0, ho0, _⟩ := I.hok T0 _ hT0
      exact wpAny_bind (ZipX.end2 hh D hz ho0 hTI t1 p1.isList (by simp; omega) fun h' hk' => wpAny_pure (fin h' fun c o c1 c2 c3 c4 e => hk' c o c1 c3 e))
  | succ k ih =>
    intro i s H its c zs hk hi I hf q1 q2 hz hTI hTO t1 t2 hS rz lz hzs hR
    have hlt : i < xs.length := by omega
    obtain ⟨a0, b0, hTO'⟩ := hTO
    obtain ⟨v1, r1, p1, _⟩ := I.list q1
    obtain ⟨v2, r2, p2, _⟩ := I.list q2
    obtain ⟨u, hu, ru⟩ := r1.get (List.getElem?_eq_getElem hlt)
    obtain ⟨v, hv, rv⟩ := r2.get (List.getElem?_eq_getElem (show i < ys.length by omega))
    have litz := rz.length
    refine codeAny_builtin F.entry_extend_loop ?_
    rw [Around.under_plainId F.plain_extend_loop _]
    show wpAny _ A.in1 (pyNext (.ref z) >>= _) _ _ s
    have nz : ∀ b ∈ [S, z, TI, TO, i1, i2], b ≠ s.heap.objs.size := fun b hb => by
      have hb' : b = S ∨ b = z ∨ b = TI ∨ b = TO ∨ b = i1 ∨ b = i2 := by simpa using hb
      rcases hb' with rfl | rfl | rfl | rfl | rfl | rfl
      · exact Nat.ne_of_lt (Heap.lt_size hS)
      · rcases hz with hz | ⟨T0, bb, us, hz, hT0⟩
        · exact Nat.ne_of_lt (Heap.lt_size hz)
        · exact Nat.ne_of_lt (Heap.lt_size hz)
      · exact Nat.ne_of_lt (Heap.lt_size hTI)
      · exact Nat.ne_of_lt (Heap.lt_size hTO')
      · obtain ⟨o, q, _⟩ := t1; exact Nat.ne_of_lt (Heap.lt_size q)
      · obtain ⟨o, q, _⟩ := t2; exact Nat.ne_of_lt (Heap.lt_size q)
    -- behind the next pair
    have fin : ∀ h', ZGo h' (upd H s.heap.objs.size (.tup [xs[i], ys[i]])) z TI TO → (∃ a b, IsPair h' TO a b) → h'.IsListIter i1 l1 (i + 1) → h'.IsListIter i2 l2 (i + 1) → IsPair h' s.heap.objs.size u v →
        (∀ c o, c ≠ z → c ≠ TO → c ≠ i1 → c ≠ i2 → s.heap.get? c = some o → h'.get? c = some o) →
        codeAny (model X.prog X.w) A (.builtin "list.extend.loop" ⟨[.ref S, .ref z, res], []⟩) R { s with heap := h'.update S (Obj.mapSeq (·.push (.ref s.heap.objs.size))) } := by
      intro h' hz' hTO2 t1' t2' hT hk'
      have hS' := hk' _ _ hS1 hS3 hS4 hS5 hS
      have oth : ∀ b o, b ≠ S → h'.get? b = some o → (h'.update S (Obj.mapSeq (·.push (.ref s.heap.objs.size)))).get? b = some o := fun b o hb q => (Heap.get?_update_other _ _ (Ne.symm hb)).trans q
      have hfr := I.fresh
      have eN := same_newL hfr (HO.tup [xs[i], ys[i]])
      have TS : s.heap.objs.size ≠ S := Ne.symm (nz S (by simp))
      have I2 : Inv X pins σ (upd H s.heap.objs.size (.tup [xs[i], ys[i]])) { s with heap := h'.update S (Obj.mapSeq (·.push (.ref s.heap.objs.size))) } :=
        I.turnedNew (t' := s.toks) (fp := [S, z, TI, TO, i1, i2]) (fun b o hb q => by
          have hb' : b ≠ S ∧ b ≠ z ∧ b ≠ TI ∧ b ≠ TO ∧ b ≠ i1 ∧ b ≠ i2 := by simpa using hb
          exact oth b o hb'.1 (hk' b o hb'.2.1 hb'.2.2.2.1 hb'.2.2.2.2.1 hb'.2.2.2.2.2 q)) hf (Nat.le_refl _) ⟨by show 2 ≤ sizeLine; decide, [u, v], .cons ru (.cons rv .nil), ⟨_, oth _ _ TS hT, rfl, _, rfl⟩⟩
      obtain ⟨c', hS2'⟩ : ∃ c', (h'.update S (Obj.mapSeq (·.push (.ref s.heap.objs.size)))).get? S = some { cls := .type "list", dict := none, data := .seq (its ++ [Value.ref s.heap.objs.size]).toArray c', slots := #[] } := by
        rw [show (its ++ [Value.ref s.heap.objs.size]).toArray = its.toArray.push (.ref s.heap.objs.size) by simp]
        exact ⟨_, Heap.get?_update_self _ hS' rfl⟩
      refine ih (i + 1) _ (upd H s.heap.objs.size (.tup [xs[i], ys[i]])) (its ++ [.ref s.heap.objs.size]) c' (zs ++ [.ref s.heap.objs.size]) (by omega) hlt I2 (fun b hb => (hf b hb).upd (nz b hb)) (eN.seq q1) (eN.seq q2) ?_ ?_ ?_ ?_ ?_ ?_ ?_ ?_ ?_ ?_
      · rcases hz' with hz' | ⟨T0, bb, us, hz', hT0⟩
        · exact .inl (oth _ _ (Ne.symm hS1) hz')
        · exact .inr ⟨T0, bb, us, oth _ _ (Ne.symm hS1) hz', hT0⟩
      · exact oth _ _ (Ne.symm hS2) (hk' _ _ D.TIz D.TITO D.TIi1 D.TIi2 hTI)
      · obtain ⟨a, b, q⟩ := hTO2; exact ⟨a, b, oth _ _ (Ne.symm hS3) q⟩
      · exact t1'.at fun o q => oth _ _ (Ne.symm hS4) q
      · exact t2'.at fun o q => oth _ _ (Ne.symm hS5) q
      · exact hS2'
      · exact rz.append (.cons rfl .nil)
      · rw [List.length_append, lz]; rfl
      · intro j x y hj h1 h2
        rcases Nat.lt_or_ge j i with g | g
        · obtain ⟨T, k1, k2⟩ := hzs j x y g h1 h2
          exact ⟨T, by rw [List.getElem?_append_left (by omega)]; exact k1, eN _ _ k2⟩
        · have ej : j = i := by omega
          subst ej
          rw [List.getElem?_eq_getElem hlt] at h1
          rw [List.getElem?_eq_getElem (by omega)] at h2
          cases h1; cases h2
          exact ⟨s.heap.objs.size, by rw [List.getElem?_append_right (by omega), lz, Nat.sub_self]; rfl, upd_same⟩
      · intro s' H' its' c' zs' sm
        exact hR s' H' its' c' zs' (eN.trans sm)
    have small : its.toArray.size + 1 ≤ sizeLine := by rw [List.size_toArray]; omega
    rcases hz with hz | ⟨T0, bb, us, hz, hT0⟩
    · refine wpAny_bind (wpAny_pyNext_zip_item D hz hTI hTO' t1 t2 p1.isList p2.isList (x := u) (y := v) (by simpa using hu) (by simpa using hv) fun h' a1 a2 a3 a4 a5 a6 hk' => ?_)
      show wpAny _ A.in1 (updateSeq S (·.push (.ref s.heap.objs.size)) >>= _) _ _ _
      have hS' := hk' _ _ hS1 hS3 hS4 hS5 hS
      refine wpAny_bind (wpAny_updateSeq hS' rfl (wpAny_pure ⟨plainId_quiet F.plain_extend_loop _, fin h' (.inr ⟨_, _, _, a1, upd_same⟩) ⟨_, _, a2⟩ a3 a4 a5 hk'⟩) (by omega) (by show (its.toArray.push _).size ≤ sizeLine + 1; rw [Array.size_push]; omega))
    · obtain ⟨_, _, _, o0, ho0, _⟩ := I.hok T0 _ hT0
      refine wpAny_bind (ZipX.next2 D hz ho0 hTI t1 t2 p1.isList p2.isList (x := u) (y := v) (by simpa using hu) (by simpa using hv) fun h' a1 a3 a4 a5 a6 hk' => ?_)
      show wpAny _ A.in1 (updateSeq S (·.push (.ref s.heap.objs.size)) >>= _) _ _ _
      have hS' := hk' _ _ hS1 hS4 hS5 hS
      have hTO3 : IsPair h' TO a0 b0 := hk' _ _ D.TOz D.TOi1 D.TOi2 hTO'
      have hne : T0 ≠ s.heap.objs.size := Nat.ne_of_lt (Heap.lt_size ho0)
      refine wpAny_bind (wpAny_updateSeq hS' rfl (wpAny_pure ⟨plainId_quiet F.plain_extend_loop _, fin h' (.inr ⟨_, _, _, a1, by rw [upd_ne hne]; exact hT0⟩) ⟨_, _, hTO3⟩ a3 a4 a5 fun c o c1 c2 c3 c4 e => hk' c o c1 c3 c4 e⟩) (by omega) (by show (its.toArray.push _).size ≤ sizeLine + 1; rw [Array.size_push]; omega))
def tListZip (K : PySem.W.Frag) (ta : TA) : TE := fun σ H Q => ta σ H fun vs H1 => ∃ a b xs ys, vs = [.ref a, .ref b] ∧ SqL K H1 a xs ∧ SqL K H1 b ys ∧ xs.length = ys.length ∧
  ∀ l zs H2, Same H1 H2 → H1 l = none → H2 l = some (.lst zs) → zs.length = xs.length → (∀ (j : Nat) (x y : V), xs[j]? = some x → ys[j]? = some y → ∃ T, zs[j]? = some (V.ref T) ∧ H2 T = some (.tup [x, y])) → Q (.ref l) H2
theorem pe_listZip {a b : Expr} {ta : TA} {p p2 pos pos2 : Pos} (hg : Gl X "list") (hm : X.mg "list" = none) (hg2 : Gl X "zip") (hm2 : X.mg "zip" = none) (hc : X.calm = true) (ha : PA X [a, b] ta)
    (h0 : starEach [.Call (.Name "zip" p2) [a, b] [] pos2] X.env = [(false, eval (.Call (.Name "zip" p2) [a, b] [] pos2) X.env)] := by rfl)
    (hs : starEach [a, b] X.env = [(false, eval a X.env), (false, eval b X.env)] := by rfl) (hs2 : starEach [b] X.env = [(false, eval b X.env)] := by rfl) :
    PE X (.Call (.Name "list" p) [.Call (.Name "zip" p2) [a, b] [] pos2] [] pos) (tListZip X.K ta) := by
  intro pins s σ H Q I h
  refine Call_ (ld_blt I hg hm PySem.L3.boot_list (PyProof.Rows.callWith_type1 ?_ (by rw [h0]; rfl) rfl))
  rw [h0]
  show wpAny _ _ (spliced [(false, eval (.Call (.Name "zip" p2) [a, b] [] pos2) X.env)]) _ _ s
  refine Calls.spliced_cons ?_
  refine Call_ (ld_blt I hg2 hm2 PySem.L3.boot_zip (PyProof.Rows.callWith_type1 (thn (ha pos2 pins s σ H _ I h) fun us s1 ⟨vs, H1, I1, r1, q1⟩ => ?_) (by rw [hs, hs2]) (by rw [hs2]; rfl)))
  obtain ⟨l1, l2, xs, ys, e, hq1, hq2, hlen, q⟩ := q1
  subst e
  cases r1 with
  | cons r rr =>
    cases rr with
    | cons r' rr =>
      cases rr
      cases r
      cases r'
      obtain ⟨its1, rv1, p1, hz1⟩ := I1.list hq1
      obtain ⟨its2, rv2, p2', hz2⟩ := I1.list hq2
      have hl1 : l1 < s1.heap.objs.size := by obtain ⟨_, e, _⟩ := p1.isList; exact Heap.lt_size e
      have hl2 : l2 < s1.heap.objs.size := by obtain ⟨_, e, _⟩ := p2'.isList; exact Heap.lt_size e
      refine call_zip_2 p1.isList p2'.isList fun h' hz hTI hTO hi1 hi2 hsz hk => ?_
      refine Calls.spliced_nil ?_
      have D := zipApart_new hl1 hl2
      have I2 : Inv X pins σ H1 { s1 with heap := h' } := I1.kept (t' := s1.toks) hk
      have hT : Shared.TypeIs { s1 with heap := h' } (.ref (s1.heap.objs.size + 4)) "zip" := ⟨_, hz, rfl⟩
      -- the list
      refine callType_codes (Q₁ := fun obj s₁ => obj = .ref h'.objs.size ∧ s₁ = { s1 with heap := h'.push { cls := .type "list", data := .seq #[] } }) PySem.F.called_list (PySem.F.typeCall_list_1 _) PySem.F.entry_list_init
        (code_list_new _ ⟨rfl, rfl⟩) fun obj s₁ h₁ => ?_
      obtain ⟨rfl, rfl⟩ := h₁
      have hS : (h'.push { cls := .type "list", data := .seq #[] }).get? h'.objs.size = some { cls := .type "list", data := .seq #[] } := Heap.get?_push_size _ rfl
      refine ⟨⟨_, hS, rfl⟩, PySem.F.args_list_init_2 _ _, ?_⟩
      show wpAny _ _ (do let old ← Builtin.List.listItems (.ref h'.objs.size); Builtin.List.listUpdate (.ref h'.objs.size) (fun _ => #[]); letGo old.toList.reverse; Builtin.List.listExtendWith (.ref h'.objs.size) (.ref (s1.heap.objs.size + 4)) .none) _ _ _
      refine wpAny_bind ?_
      unfold Builtin.List.listItems
      refine wpAny_bind (wpAny_seqItems hS rfl (wpAny_pure ?_))
      show wpAny _ _ (updateSeq h'.objs.size (fun _ => #[]) >>= fun _ => letGo (#[] : Array Value).toList.reverse >>= fun _ => Builtin.List.listExtendWith (.ref h'.objs.size) (.ref (s1.heap.objs.size + 4)) .none) _ _ _
      refine wpAny_bind (wpAny_updateSeq hS rfl ?_)
      have hS₂ := Heap.get?_update_self (Obj.mapSeq (fun _ => (#[] : Array Value))) hS rfl
      refine wpAny_bind (wpAny_letGo ?_)
      generalize hH : (h'.push { cls := .type "list", data := .seq #[] }).update h'.objs.size (Obj.mapSeq (fun _ => (#[] : Array Value))) = h2 at *
      have old : ∀ b o, h'.get? b = some o → h2.get? b = some o := fun b o e => by
        rw [← hH]; exact (Heap.get?_update_other _ _ (Ne.symm (Nat.ne_of_lt (Heap.lt_size e)))).trans (Heap.get?_push_of_some _ e)
      have hT2 : Shared.TypeIs { s1 with heap := h2 } (.ref (s1.heap.objs.size + 4)) "zip" := ⟨_, old _ _ hz, rfl⟩
      have hne : h'.objs.size ≠ s1.heap.objs.size + 4 := by rw [hsz]; exact Nat.succ_ne_self _
      have h1 : Builtin.List.listSameRef (.ref h'.objs.size) (.ref (s1.heap.objs.size + 4)) = false := by simp [Builtin.List.listSameRef, hne]
      unfold Builtin.List.listExtendWith
      refine wpAny_bind (wpAny_typeOf hT2 ?_)
      rw [if_neg (by rw [h1]; decide)]
      refine wpAny_bind (wpAny_pyIter_zip (s := { s1 with heap := h2 }) (old _ _ hz) ?_)
      refine wpAny_bind (wpAny_holding ?_)
      unfold Builtin.List.listLengthHint
      refine wpAny_bind (wpAny_specialOf hT2 ZF.nolen ?_)
      show wpAny _ _ (specialOf (Value.ref (s1.heap.objs.size + 4)) (Str.ofString "__length_hint__") >>= _) _ _ _
      refine wpAny_bind (wpAny_specialOf hT2 ZF.nohint ?_)
      refine wpAny_pure ?_
      show wpAny _ _ (rule "list.extend.makes-room" >>= fun _ => Builtin.List.listTouch (.ref h'.objs.size) >>= fun _ => again (.builtin "list.extend.loop" ⟨[.ref h'.objs.size, .ref (s1.heap.objs.size + 4), .none], []⟩)) _ _ _
      refine wpAny_bind (wpAny_rule ?_)
      refine wpAny_bind ?_
      show wpAny _ _ (updateSeq h'.objs.size (·.push .none) >>= fun _ => updateSeq h'.objs.size (·.pop)) _ _ _
      refine wpAny_bind (wpAny_updateSeq hS₂ rfl ?_)
      have hS₃ := Heap.get?_update_self (Obj.mapSeq (·.push Value.none)) hS₂ rfl
      refine wpAny_updateSeq hS₃ rfl ?_
      have hS₄ := Heap.get?_update_self (Obj.mapSeq (·.pop)) hS₃ rfl
      have old3 : ∀ b o, h'.get? b = some o → ((h2.update h'.objs.size (Obj.mapSeq (·.push Value.none))).update h'.objs.size (Obj.mapSeq (·.pop))).get? b = some o := fun b o e =>
        (Heap.get?_update_other _ _ (Ne.symm (Nat.ne_of_lt (Heap.lt_size e)))).trans ((Heap.get?_update_other _ _ (Ne.symm (Nat.ne_of_lt (Heap.lt_size e)))).trans (old b o e))
      obtain ⟨c4, hS₅⟩ : ∃ c4, ((h2.update h'.objs.size (Obj.mapSeq (·.push Value.none))).update h'.objs.size (Obj.mapSeq (·.pop))).get? h'.objs.size = some { cls := .type "list", dict := none, data := .seq ([] : List Value).toArray c4, slots := #[] } := ⟨_, hS₄⟩
      generalize (h2.update h'.objs.size (Obj.mapSeq (·.push Value.none))).update h'.objs.size (Obj.mapSeq (·.pop)) = h3 at *
      have I3 : Inv X pins σ H1 { s1 with heap := h3 } := I2.kept (t' := s1.toks) old3
      have ge : ∀ b ∈ [h'.objs.size, s1.heap.objs.size + 4, s1.heap.objs.size + 2, s1.heap.objs.size + 3, s1.heap.objs.size, s1.heap.objs.size + 1], s1.heap.objs.size ≤ b := fun b hb => by
        have hb2 : b = h'.objs.size ∨ b = s1.heap.objs.size + 4 ∨ b = s1.heap.objs.size + 2 ∨ b = s1.heap.objs.size + 3 ∨ b = s1.heap.objs.size ∨ b = s1.heap.objs.size + 1 := by simpa using hb
        rcases hb2 with rfl | rfl | rfl | rfl | rfl | rfl
        · rw [hsz]; exact Nat.le_add_right _ _
        · exact Nat.le_add_right _ _
        · exact Nat.le_add_right _ _
        · exact Nat.le_add_right _ _
        · exact Nat.le_refl _
        · exact Nat.le_add_right _ _
      have hne2 : h'.objs.size ≠ s1.heap.objs.size + 2 := by rw [hsz]; simp
      have hne3 : h'.objs.size ≠ s1.heap.objs.size + 3 := by rw [hsz]; simp
      have hne4 : h'.objs.size ≠ s1.heap.objs.size := by rw [hsz]; simp
      have hne5 : h'.objs.size ≠ s1.heap.objs.size + 1 := by rw [hsz]; simp
      refine wpAny_pure ⟨plainId_quiet F.plain_extend_loop _, loop_zip (X := X) (pins := pins) (σ := σ) (A := X.A.in1) (I1.ok.hd hc) D hne hne2 hne3 hne4 hne5 hlen hz1 xs.length 0 { s1 with heap := h3 } H1 [] c4 [] (by omega) (Nat.zero_le _) I3
        (fun b hb => I1.fpOk (ge b hb) (I1.hok.fresh (ge b hb))) hq1 hq2 (.inl (old3 _ _ hz)) (old3 _ _ hTI) ⟨_, _, old3 _ _ hTO⟩ (hi1.at fun o e => old3 _ _ e) (hi2.at fun o e => old3 _ _ e) hS₅ .nil rfl (fun j x y hj => absurd hj (Nat.not_lt_zero _)) fun s' H' its' c' zs' sm I' hf' hS' rz lz hzs => ?_⟩
      have I4 := I'.adopt (o := .lst zs') hf' ⟨by rw [lz]; exact hz1, its', c', rz, hS'⟩
      have hfr : H1 h'.objs.size = none := I1.hok.fresh (ge _ (by simp))
      have e5 := same_newL hf'.1 (HO.lst zs')
      refine ⟨rfl, .ref h'.objs.size, _, I4, rfl, q _ zs' _ (sm.trans e5) hfr upd_same lz fun j x y h1 h2 => ?_⟩
      obtain ⟨T, k1, k2⟩ := hzs j x y h1 h2
      exact ⟨T, k1, e5 _ _ k2⟩
end
end L2
set_option Elab.async false
set_option linter.all false
set_option maxRecDepth 100000
set_option maxHeartbeats 4000000
namespace L2
open PySem PySem.Spec PyProof.Rows
open Hull (P)
section
variable {X : Cx}
theorem Vals.of_get : ∀ {xs : List V} {us : List Value}, xs.length = us.length → (∀ (i : Nat) (x : V) (u : Value), xs[i]? = some x → us[i]? = some u → RelV x u) → Vals xs us
  | [], [], _, _ => .nil
  | [], _ :: _, h, _ => by simp at h
  | _ :: _, [], h, _ => by simp at h
  | x :: xs, u :: us, h, g => .cons (g 0 x u rfl rfl) (Vals.of_get (by simpa using h) fun i y v a b => g (i + 1) y v (by simpa using a) (by simpa using b))
def rEqSp (K : PySem.W.Frag) : R2 := fun x y H Q => ∃ p q, Dn K H (spotD p) x ∧ Dn K H (spotD q) y ∧ Q (.bl (decide (p = q))) H
theorem op_eqSp (hu : X.A.units + 64 < cLine) : OpR X (compareOp .Eq) (rEqSp X.K) := by
  intro pins s σ H x y v u Q I rx ry h
  obtain ⟨p, q, h1, h2, k⟩ := h
  refine op_eqD hu pins s σ H x y v u Q I rx ry ⟨_, _, h1, h2, spot_shaped p, spot_shaped q, ?_⟩
  rw [spot_eqv]; exact k
def rEqSps (K : PySem.W.Frag) : R2 := fun x y H Q => ∃ a b xs ys ps qs, x = .ref a ∧ y = .ref b ∧ SqL K H a xs ∧ SqL K H b ys ∧ Dns K H (List.map spotD ps) xs ∧ Dns K H (List.map spotD qs) ys ∧ Q (.bl (decide (ps = qs))) H
theorem op_eqSps (hu : X.A.units + 64 < cLine) : OpR X (compareOp .Eq) (rEqSps X.K) := by
  intro pins s σ H x y v u Q I rx ry h
  obtain ⟨a, b, xs, ys, ps, qs, rfl, rfl, h1, h2, d1, d2, k⟩ := h
  refine op_eqD hu pins s σ H _ _ v u Q I rx ry ⟨_, _, dn_lst h1 d1, dn_lst h2 d2, spots_shaped ps, spots_shaped qs, ?_⟩
  rw [spots_eqv]; exact k
theorem ints_eqvAll : ∀ ps qs : List Int, PyData.eqvAll (ps.map PyData.int) (qs.map PyData.int) = decide (ps = qs)
  | [], [] => rfl
  | [], _ :: _ => rfl
  | _ :: _, [] => rfl
  | p :: ps, q :: qs => by
    rw [List.map_cons, List.map_cons, PyData.eqvAll, ints_eqvAll ps qs]
    have : PyData.eqv (.int p) (.int q) = decide (p = q) := by rw [PyData.eqv]; rfl
    rw [this]
    by_cases h : p = q
    · subst h; by_cases g : ps = qs <;> simp [g]
    · simp [h]
theorem ints_can : ∀ ps : List Int, PyData.canLayAll0 (ps.map PyData.int) = true ∧ PyData.depthAll (ps.map PyData.int) ≤ 1
  | [] => ⟨rfl, by rw [List.map_nil, PyData.depthAll]; exact Nat.zero_le _⟩
  | p :: ps => by
    obtain ⟨h1, h2⟩ := ints_can ps
    rw [List.map_cons, PyData.canLayAll0, PyData.depthAll, h1]
    refine ⟨rfl, Nat.max_le.mpr ⟨?_, h2⟩⟩
    rw [PyData.depth]; exact Nat.zero_le _
theorem ints_shaped (ps : List Int) : SeqAt.shaped (.list (ps.map PyData.int)) = true := by
  obtain ⟨h1, h2⟩ := ints_can ps
  unfold SeqAt.shaped
  have : (PyData.list (ps.map PyData.int)).depth ≤ 64 := by rw [PyData.depth]; omega
  rw [decide_eq_true this, PyData.canLay0, h1]; rfl
def rEqIs (K : PySem.W.Frag) (neg : Bool) : R2 := fun x y H Q => ∃ a b ps qs, x = .ref a ∧ y = .ref b ∧ SqL K H a (List.map V.int ps) ∧ SqL K H b (List.map V.int qs) ∧ Q (.bl (if neg then !decide (ps = qs) else decide (ps = qs))) H
theorem op_eqIs (hu : X.A.units + 64 < cLine) : OpR X (compareOp .Eq) (rEqIs X.K false) := by
  intro pins s σ H x y v u Q I rx ry h
  obtain ⟨a, b, ps, qs, rfl, rfl, h1, h2, k⟩ := h
  refine op_eqD hu pins s σ H _ _ v u Q I rx ry ⟨_, _, dn_lst h1 (dns_ints ps), dn_lst h2 (dns_ints qs), ints_shaped ps, ints_shaped qs, ?_⟩
  rw [PyData.eqv, ints_eqvAll]; exact k
theorem op_neIs (hu : X.A.units + 64 < cLine) : OpR X (compareOp .NotEq) (rEqIs X.K true) := by
  intro pins s σ H x y v u Q I rx ry h
  obtain ⟨a, b, ps, qs, rfl, rfl, h1, h2, k⟩ := h
  refine op_neD hu pins s σ H _ _ v u Q I rx ry ⟨_, _, dn_lst h1 (dns_ints ps), dn_lst h2 (dns_ints qs), ints_shaped ps, ints_shaped qs, ?_⟩
  rw [PyData.eqv, ints_eqvAll]; exact k
def tListRng (ta : TA) : TE := fun σ H Q => ta σ H fun vs H1 => ∃ n : Nat, vs = [.int n] ∧ n ≤ 16777216 ∧ ∀ l, H1 l = none → Q (.ref l) (upd H1 l (.lst ((List.range n).map fun (j : Nat) => V.int (j : Int))))
theorem pe_listRng {a : Expr} {ta : TA} {p p2 pos pos2 : Pos} (hg : Gl X "list") (hm : X.mg "list" = none) (hg2 : Gl X "range") (hm2 : X.mg "range" = none) (hc : X.calm = true) (ha : PA X [a] ta)
    (h0 : starEach [.Call (.Name "range" p2) [a] [] pos2] X.env = [(false, eval (.Call (.Name "range" p2) [a] [] pos2) X.env)] := by rfl)
    (hs : starEach [a] X.env = [(false, eval a X.env)] := by rfl) :
    PE X (.Call (.Name "list" p) [.Call (.Name "range" p2) [a] [] pos2] [] pos) (tListRng ta) := by
  intro pins s σ H Q I h
  refine Call_ (ld_blt I hg hm PySem.L3.boot_list (PyProof.Rows.callWith_type1 ?_ (by rw [h0]; rfl) rfl))
  rw [h0]
  show wpAny _ _ (spliced [(false, eval (.Call (.Name "range" p2) [a] [] pos2) X.env)]) _ _ s
  refine Calls.spliced_cons ?_
  refine Call_ (ld_blt I hg2 hm2 PySem.L3.boot_range (PyProof.Rows.callWith_type1 (thn (ha pos2 pins s σ H _ I h) fun us s1 ⟨vs, H1, I1, r1, q1⟩ => ?_) hs rfl))
  obtain ⟨n, e, h24, q⟩ := q1
  subst e
  cases r1 with
  | cons r rr =>
    cases rr
    obtain ⟨t, rfl⟩ := r
    refine call_range_1 ?_
    refine Calls.spliced_nil ?_
    have I2 : Inv X pins σ H1 { s1 with heap := s1.heap.push { cls := .type "range", data := .fields #[.int 0 s1.toks, .int n t, .int 1 (s1.toks + 1)] }, toks := s1.toks + 1 + 1 } := I1.kept fun b o e => Heap.get?_push_of_some _ e
    refine call_list_range (n := n) (I1.ok.hd hc) (IsRange.new ..) (small_one (by omega) (by omega) (by omega) (by omega)) (by rw [rangeSize_one]; split <;> omega) (by omega) fun h' tk acc' c' hk hS' hacc => ?_
    have hsz : acc'.size = n := hacc.1
    refine ⟨.ref (s1.heap.push { cls := .type "range", data := .fields #[.int 0 s1.toks, .int n t, .int 1 (s1.toks + 1)] }).objs.size, _, I2.laid (t' := tk) (o := .lst ((List.range n).map fun (j : Nat) => V.int (j : Int))) hk (Nat.le_refl _) ⟨by rw [List.length_map, List.length_range, sizeLine_eq]; omega, acc'.toList, c', ?_, by simpa using hS'⟩, rfl, q _ I2.fresh⟩
    refine Vals.of_get (by simp [hsz]) fun i x u hx hu => ?_
    have hu' : acc'[i]? = some u := by simpa using hu
    obtain ⟨t', rfl⟩ := hacc.2 i u hu'
    have hi : i < n := by
      have := (Array.getElem?_eq_some_iff.mp hu').1
      omega
    have : x = V.int i := by
      rw [List.getElem?_map, List.getElem?_range hi] at hx
      exact (Option.some.inj hx).symm
    subst this
    exact ⟨t', by rw [Int.mul_one, Int.zero_add]⟩
end
end L2
set_option linter.all false
namespace K9
def g (a b : Int) : Int := (Int.gcd a b : Nat)
def mk (a b : Int) : Int × Int := (a / g a b, b / g a b)
theorem g_step {x y : Int} (hx : 0 ≤ x) (hy : 0 < y) : g y (x % y) = g x y := by
  unfold g
  have e : Int.gcd y (x % y) = Int.gcd x y := by
    have h1 := Int.gcd_sub_mul_left_right y x (x / y)
    rw [show x - y * (x / y) = x % y by rw [Int.emod_def]] at h1
    rw [h1, Int.gcd_comm]
  rw [e]
theorem g_zero {x : Int} (hx : 0 ≤ x) : g x 0 = x := by unfold g; simp; omega
theorem g_abs (a b : Int) : g (if a < 0 then -a else a) (if b < 0 then -b else b) = g a b := by
  unfold g
  split <;> split <;> simp
end K9
set_option linter.all false
namespace Pick
open Hull
def cross (p q : P) : Int := p.1 * q.2 - p.2 * q.1
def gc (p q : P) : Int := (Int.gcd (q.1 - p.1) (q.2 - p.2) : Nat)
def pathSum (f : P → P → Int) : List P → Int
  | a :: b :: r => f a b + pathSum f (b :: r)
  | _ => 0
def pathAll (f : P → P → Prop) : List P → Prop
  | a :: b :: r => f a b ∧ pathAll f (b :: r)
  | _ => True
def sumI (f : Int → Int) (a : Int) : Nat → Int
  | 0 => 0
  | n + 1 => sumI f a n + f (a + n)
theorem sumI_add (f : Int → Int) (a : Int) (n : Nat) : ∀ m : Nat, sumI f a (n + m) = sumI f a n + sumI f (a + n) m
  | 0 => by simp [sumI]
  | m + 1 => by
    show sumI f a (n + m) + f (a + ((n + m : Nat) : Int)) = _
    rw [sumI_add f a n m]
    show _ = sumI f a n + (sumI f (a + n) m + f (a + n + m))
    rw [show a + ((n + m : Nat) : Int) = a + n + m by omega]; omega
theorem sumI_congr {f g : Int → Int} {a : Int} : ∀ {n : Nat}, (∀ i : Nat, i < n → f (a + i) = g (a + i)) → sumI f a n = sumI g a n
  | 0, _ => rfl
  | n + 1, h => by
    show sumI f a n + f (a + n) = sumI g a n + g (a + n)
    rw [sumI_congr fun i hi => h i (by omega), h n (by omega)]
theorem sumI_lin (f g : Int → Int) (a : Int) : ∀ n : Nat, sumI (fun x => f x + g x) a n = sumI f a n + sumI g a n
  | 0 => rfl
  | n + 1 => by
    show sumI (fun x => f x + g x) a n + (f (a + n) + g (a + n)) = sumI f a n + f (a + n) + (sumI g a n + g (a + n))
    rw [sumI_lin f g a n]; omega
theorem sumI_const (c a : Int) : ∀ n : Nat, sumI (fun _ => c) a n = n * c
  | 0 => by simp [sumI]
  | n + 1 => by
    show sumI (fun _ => c) a n + c = _
    rw [sumI_const c a n]
    rw [show ((n + 1 : Nat) : Int) = (n : Int) + 1 by omega]; grind
theorem sumI_rev (f : Int → Int) (a : Int) : ∀ n : Nat, sumI (fun x => f (-x)) (-(a + n - 1)) n = sumI f a n
  | 0 => rfl
  | n + 1 => by
    have h1 := sumI_add (fun x => f (-x)) (-(a + ((n + 1 : Nat) : Int) - 1)) 1 n
    rw [show (n + 1 : Nat) = 1 + n by omega] at *
    rw [h1]
    have h2 := sumI_rev f a n
    rw [show -(a + ((1 + n : Nat) : Int) - 1) + ((1 : Nat) : Int) = -(a + n - 1) by omega, h2]
    rw [show (1 + n : Nat) = n + 1 by omega]
    show (0 + f (-(-(a + ((n + 1 : Nat) : Int) - 1) + ((0 : Nat) : Int)))) + _ = sumI f a n + f (a + n)
    rw [show -(-(a + ((n + 1 : Nat) : Int) - 1) + ((0 : Nat) : Int)) = a + n by omega]; omega
def cdiv (a w : Int) : Int := -((-a) / w)
theorem cdiv_le {a w y : Int} (hw : 0 < w) : cdiv a w ≤ y ↔ a ≤ w * y := by
  unfold cdiv
  have h := Int.le_ediv_iff_mul_le (a := -y) (b := -a) hw
  constructor
  · intro g
    have := h.mp (by omega)
    rw [Int.neg_mul, Int.mul_comm] at this
    omega
  · intro g
    have := h.mpr (by rw [Int.neg_mul, Int.mul_comm]; omega)
    omega
def ceilAt (p q : P) (x : Int) : Int := p.2 + cdiv ((q.2 - p.2) * (x - p.1)) (q.1 - p.1)
theorem ceil_le {p q : P} {x y : Int} (h : p.1 < q.1) : ceilAt p q x ≤ y ↔ 0 ≤ turn p q (x, y) := by
  unfold ceilAt
  have := cdiv_le (a := (q.2 - p.2) * (x - p.1)) (w := q.1 - p.1) (y := y - p.2) (by omega)
  unfold turn
  dsimp only
  constructor
  · intro g
    have := this.mp (by omega)
    omega
  · intro g
    have := this.mpr (by omega)
    omega
theorem ceil_first {p q : P} (h : p.1 < q.1) : ceilAt p q p.1 = p.2 := by
  unfold ceilAt cdiv
  simp
theorem ceil_last {p q : P} (h : p.1 < q.1) : ceilAt p q q.1 = q.2 := by
  unfold ceilAt cdiv
  have : (-((q.2 - p.2) * (q.1 - p.1))) / (q.1 - p.1) = -(q.2 - p.2) := by
    rw [← Int.neg_mul]; exact Int.mul_ediv_cancel _ (by omega)
  rw [this]; omega
def csum (w : Nat) (h : Int) : Int := sumI (fun i => cdiv (h * i) w) 0 w
theorem csum_ok : ∀ w : Fin 18, ∀ k : Fin 37, 2 * csum (w.1 + 1) ((k.1 : Int) - 18) = ((k.1 : Int) - 18) * (w.1 + 1) - ((k.1 : Int) - 18) + (w.1 + 1) - (Int.gcd (w.1 + 1) ((k.1 : Int) - 18) : Nat) := by decide +kernel
theorem csum_eq {w : Nat} {h : Int} (w1 : 1 ≤ w) (w2 : w ≤ 18) (h1 : -18 ≤ h) (h2 : h ≤ 18) : 2 * csum w h = h * w - h + w - (Int.gcd w h : Nat) := by
  have := csum_ok ⟨w - 1, by omega⟩ ⟨(h + 18).toNat, by omega⟩
  simp only at this
  rw [show w - 1 + 1 = w by omega, show (((h + 18).toNat : Nat) : Int) - 18 = h by omega, show (((w - 1 : Nat) : Int) + 1) = (w : Int) by omega] at this
  exact this
end Pick
set_option linter.all false
namespace Pick
open Hull
def psi (v : P) : Int := v.1 + v.2 - v.1 * v.2
def ew (p q : P) : Int := cross p q + gc p q
theorem edge_sum {p q : P} (h : p.1 < q.1) (w2 : q.1 - p.1 ≤ 18) (h1 : -18 ≤ q.2 - p.2) (h2 : q.2 - p.2 ≤ 18) :
    2 * sumI (fun x => 1 - ceilAt p q x) p.1 (q.1 - p.1).toNat = ew p q + psi q - psi p := by
  obtain ⟨w, hw⟩ : ∃ w : Nat, q.1 - p.1 = (w : Int) := ⟨(q.1 - p.1).toNat, by omega⟩
  rw [hw, Int.toNat_natCast]
  have c := csum_eq (w := w) (h := q.2 - p.2) (by omega) (by omega) h1 h2
  have key : ∀ n : Nat, sumI (fun x => 1 - ceilAt p q x) p.1 n = (n : Int) * (1 - p.2) - sumI (fun i => cdiv ((q.2 - p.2) * i) w) 0 n := by
    intro n
    induction n with
    | zero => simp [sumI]
    | succ n ih =>
      show sumI (fun x => 1 - ceilAt p q x) p.1 n + (1 - ceilAt p q (p.1 + n)) = _ - (sumI (fun i => cdiv ((q.2 - p.2) * i) w) 0 n + cdiv ((q.2 - p.2) * (0 + n)) w)
      rw [ih]
      have : ceilAt p q (p.1 + n) = p.2 + cdiv ((q.2 - p.2) * (0 + n)) w := by
        unfold ceilAt
        rw [hw, show p.1 + (n : Int) - p.1 = 0 + n by omega]
      rw [this, show ((n + 1 : Nat) : Int) = (n : Int) + 1 by omega]
      grind
  rw [key]
  have c' : 2 * sumI (fun i => cdiv ((q.2 - p.2) * i) w) 0 w = (q.2 - p.2) * w - (q.2 - p.2) + w - gc p q := by
    have e : gc p q = ((Int.gcd (w : Int) (q.2 - p.2) : Nat) : Int) := by unfold gc; rw [hw]
    rw [e]; exact c
  unfold ew psi cross
  have eq : q.1 = p.1 + w := by omega
  rw [eq]
  grind
def cl : List P → Int → Int
  | p :: q :: r, x => if p.1 = q.1 then p.2 else if x < q.1 then ceilAt p q x else cl (q :: r) x
  | [p], _ => p.2
  | [], _ => 0
def lastP : P → List P → P
  | p, [] => p
  | _, q :: r => lastP q r
def Asc : P → List P → Prop
  | _, [] => True
  | p, q :: r => (p.1 < q.1 ∨ (p.1 = q.1 ∧ p.2 ≤ q.2 ∧ (lastP q r).1 = q.1)) ∧ (q.1 - p.1 ≤ 18 ∧ -18 ≤ q.2 - p.2 ∧ q.2 - p.2 ≤ 18) ∧ Asc q r
theorem Asc.le : ∀ {p : P} {r : List P}, Asc p r → p.1 ≤ (lastP p r).1
  | _, [], _ => Int.le_refl _
  | p, q :: r, h => by
    have := Asc.le h.2.2
    show p.1 ≤ (lastP q r).1
    rcases h.1 with g | g <;> omega
theorem cl_first : ∀ {p : P} {r : List P}, Asc p r → cl (p :: r) p.1 = p.2
  | _, [], _ => rfl
  | p, q :: r, h => by
    unfold cl
    rcases h.1 with g | g
    · rw [if_neg (by omega), if_pos g, ceil_first g]
    · rw [if_pos g.1]
theorem gc_up {p q : P} (h : p.1 = q.1) (g : p.2 ≤ q.2) : gc p q = q.2 - p.2 := by
  unfold gc
  rw [show q.1 - p.1 = 0 by omega, Int.gcd_zero_left]
  omega
theorem low : ∀ {p : P} {r : List P}, Asc p r →
    2 * sumI (fun x => 1 - cl (p :: r) x) p.1 ((lastP p r).1 - p.1 + 1).toNat = pathSum ew (p :: r) + psi (lastP p r) - psi p - 2 * (lastP p r).2 + 2
  | p, [], _ => by
    show 2 * sumI _ p.1 (p.1 - p.1 + 1).toNat = 0 + psi p - psi p - 2 * p.2 + 2
    rw [show (p.1 - p.1 + 1).toNat = 1 by omega]
    show 2 * (0 + (1 - p.2)) = _
    omega
  | p, q :: r, h => by
    have ih := low h.2.2
    have hle := Asc.le h.2.2
    show 2 * sumI _ p.1 ((lastP q r).1 - p.1 + 1).toNat = ew p q + pathSum ew (q :: r) + psi (lastP q r) - psi p - 2 * (lastP q r).2 + 2
    rcases h.1 with g | ⟨g1, g2, g3⟩
    · obtain ⟨w, hw⟩ : ∃ w : Nat, w = (q.1 - p.1).toNat := ⟨_, rfl⟩
      obtain ⟨m, hm⟩ : ∃ m : Nat, m = ((lastP q r).1 - q.1 + 1).toNat := ⟨_, rfl⟩
      rw [show ((lastP q r).1 - p.1 + 1).toNat = w + m by omega, sumI_add]
      rw [show p.1 + (w : Int) = q.1 by omega]
      rw [← hm] at ih
      have e1 := edge_sum g h.2.1.1 h.2.1.2.1 h.2.1.2.2
      rw [← hw] at e1
      have e2 : sumI (fun x => 1 - cl (p :: q :: r) x) p.1 w = sumI (fun x => 1 - ceilAt p q x) p.1 w := sumI_congr fun i hi => by
        show 1 - cl (p :: q :: r) (p.1 + i) = 1 - ceilAt p q (p.1 + i)
        rw [cl, if_neg (by omega), if_pos (by omega)]
      have e3 : sumI (fun x => 1 - cl (p :: q :: r) x) q.1 m = sumI (fun x => 1 - cl (q :: r) x) q.1 m := sumI_congr fun i hi => by
        show 1 - cl (p :: q :: r) (q.1 + i) = 1 - cl (q :: r) (q.1 + i)
        rw [cl, if_neg (by omega), if_neg (by omega)]
      rw [e2, e3]
      omega
    · rw [show ((lastP q r).1 - p.1 + 1).toNat = 1 by omega]
      rw [show ((lastP q r).1 - q.1 + 1).toNat = 1 by omega] at ih
      have i1 : sumI (fun x => 1 - cl (q :: r) x) q.1 1 = 1 - q.2 := by
        show 0 + (1 - cl (q :: r) (q.1 + ((0 : Nat) : Int))) = _
        rw [show q.1 + ((0 : Nat) : Int) = q.1 by omega, cl_first h.2.2]; omega
      have i2 : sumI (fun x => 1 - cl (p :: q :: r) x) p.1 1 = 1 - p.2 := by
        show 0 + (1 - cl (p :: q :: r) (p.1 + ((0 : Nat) : Int))) = _
        rw [cl, if_pos g1]; omega
      rw [i1] at ih
      rw [i2]
      have e : ew p q + psi q - psi p = 2 * (q.2 - p.2) := by
        unfold ew psi cross
        rw [gc_up g1 g2, ← g1]
        grind
      omega
def On2 (path : List P) (a b : P) : Prop := ∃ l r, path = l ++ a :: b :: r
theorem On2.cons {path : List P} {a b c : P} (h : On2 path a b) : On2 (c :: path) a b := by
  obtain ⟨l, r, rfl⟩ := h
  exact ⟨c :: l, r, rfl⟩
theorem col : ∀ {p : P} {r : List P} {x : Int}, Asc p r → p.1 < (lastP p r).1 → p.1 ≤ x → x ≤ (lastP p r).1 → ∃ a b, On2 (p :: r) a b ∧ a.1 < b.1 ∧ a.1 ≤ x ∧ x ≤ b.1 ∧ cl (p :: r) x = ceilAt a b x
  | p, [], x, _, h, _, _ => absurd h (Int.lt_irrefl _)
  | p, q :: r, x, h, h1, h2, h3 => by
    have h1' : p.1 < (lastP q r).1 := h1
    have h3' : x ≤ (lastP q r).1 := h3
    have hle := Asc.le h.2.2
    rcases h.1 with g | g
    · by_cases hx : x < q.1
      · exact ⟨p, q, ⟨[], r, rfl⟩, g, h2, by omega, by rw [cl, if_neg (by omega), if_pos hx]⟩
      · have e : cl (p :: q :: r) x = cl (q :: r) x := by rw [cl, if_neg (by omega), if_neg hx]
        by_cases hq : q.1 < (lastP q r).1
        · obtain ⟨a, b, o, i1, i2, i3, i4⟩ := col h.2.2 hq (by omega) h3'
          exact ⟨a, b, o.cons, i1, i2, i3, by rw [e, i4]⟩
        · have ex : x = q.1 := by omega
          subst ex
          exact ⟨p, q, ⟨[], r, rfl⟩, g, by omega, Int.le_refl _, by rw [e, cl_first h.2.2, ceil_last g]⟩
    · omega
theorem pathAll_on {f : P → P → Prop} : ∀ {path : List P}, pathAll f path ↔ ∀ a b, On2 path a b → f a b
  | [] => ⟨fun _ a b ⟨l, r, e⟩ => by cases l <;> simp at e, fun _ => trivial⟩
  | [p] => ⟨fun _ a b ⟨l, r, e⟩ => by
      cases l with
      | nil => simp at e
      | cons x l => cases l <;> simp at e, fun _ => trivial⟩
  | p :: q :: r => by
    constructor
    · rintro ⟨h1, h2⟩ a b ⟨l, r', e⟩
      cases l with
      | nil => cases e; exact h1
      | cons x l =>
        injection e with e1 e2
        exact pathAll_on.mp h2 a b ⟨l, r', e2⟩
    · intro h
      exact ⟨h p q ⟨[], r, rfl⟩, pathAll_on.mpr fun a b o => h a b o.cons⟩
theorem along (a b p q z : P) : (q.1 - p.1) * turn a b z = (q.1 - z.1) * turn a b p + (z.1 - p.1) * turn a b q + (b.1 - a.1) * turn p q z := by
  unfold turn; grind
theorem col_ok {row : List P} {p : P} {r : List P} (h : Asc p r) (hr : ∀ a b, On2 (p :: r) a b → (a.1 ≤ b.1) ∧ a ∈ row ∧ b ∈ row ∧ ∀ x ∈ row, 0 ≤ turn a b x) (hlt : p.1 < (lastP p r).1) {x : Int} (h2 : p.1 ≤ x) (h3 : x ≤ (lastP p r).1) (y : Int) :
    pathAll (fun a b => 0 ≤ turn a b (x, y)) (p :: r) ↔ cl (p :: r) x ≤ y := by
  obtain ⟨a, b, o, i1, i2, i3, i4⟩ := col h hlt h2 h3
  obtain ⟨_, ha, hb, _⟩ := hr a b o
  rw [i4, ceil_le i1, pathAll_on]
  constructor
  · intro g; exact g a b o
  · intro g c d o'
    obtain ⟨k1, _, _, k2⟩ := hr c d o'
    have e := along c d a b (x, y)
    dsimp only at e
    have t1 := Int.mul_nonneg (show 0 ≤ b.1 - x by omega) (k2 a ha)
    have t2 := Int.mul_nonneg (show 0 ≤ x - a.1 by omega) (k2 b hb)
    have t3 := Int.mul_nonneg (show 0 ≤ d.1 - c.1 by omega) g
    have t4 : 0 ≤ (b.1 - a.1) * turn c d (x, y) := by omega
    exact Int.not_lt.mp fun hn => by have := Int.mul_neg_of_pos_of_neg (show 0 < b.1 - a.1 by omega) hn; omega
end Pick
set_option linter.all false
namespace Pick
open Hull
theorem On2.left {path : List P} {a b : P} (h : On2 path a b) : a ∈ path := by
  obtain ⟨l, r, rfl⟩ := h; simp
theorem On2.right {path : List P} {a b : P} (h : On2 path a b) : b ∈ path := by
  obtain ⟨l, r, rfl⟩ := h; simp
theorem run_count (ylo : Int) : ∀ (n : Nat) (c d : Int) (f : Int → Int), (∀ y, ylo ≤ y → y < ylo + n → f y = if c ≤ y ∧ y ≤ d then 1 else 0) → ylo ≤ c → d < ylo + n → c ≤ d + 1 → sumI f ylo n = d - c + 1
  | 0, c, d, f, _, h1, h2, h3 => by show 0 = d - c + 1; omega
  | n + 1, c, d, f, hf, h1, h2, h3 => by
    show sumI f ylo n + f (ylo + n) = _
    have e := hf (ylo + n) (by omega) (by omega)
    by_cases hd : d = ylo + n
    · by_cases hc : c ≤ d
      · rw [e, if_pos ⟨by omega, by omega⟩, run_count ylo n c (d - 1) f (fun y y1 y2 => ?_) h1 (by omega) (by omega)]
        · omega
        · rw [hf y y1 (by omega)]
          by_cases hy : c ≤ y
          · rw [if_pos ⟨hy, by omega⟩, if_pos ⟨hy, by omega⟩]
          · rw [if_neg (fun g => hy g.1), if_neg (fun g => hy g.1)]
      · have hz : sumI f ylo n = 0 := by
          have := sumI_congr (f := f) (g := fun _ => 0) (a := ylo) (n := n) fun i hi => by
            rw [hf (ylo + i) (by omega) (by omega), if_neg (by omega)]
          rw [this, sumI_const]; omega
        rw [e, if_neg (by omega), hz]; omega
    · rw [e, if_neg (by omega), run_count ylo n c d f (fun y y1 y2 => hf y y1 (by omega)) h1 (by omega) h3]; omega
theorem ceil_ge {a b : P} {x m : Int} (h : a.1 < b.1) (h1 : a.1 ≤ x) (h2 : x ≤ b.1) (ha : m ≤ a.2) (hb : m ≤ b.2) : m ≤ ceilAt a b x := by
  apply Int.not_lt.mp
  intro hn
  have t := (ceil_le (x := x) (y := ceilAt a b x) h).mp (Int.le_refl _)
  have e : turn a b (x, ceilAt a b x) = (b.1 - x) * (ceilAt a b x - a.2) + (x - a.1) * (ceilAt a b x - b.2) := by unfold turn; dsimp only; grind
  rw [e] at t
  have t1 := Int.mul_nonneg (show 0 ≤ b.1 - x by omega) (show 0 ≤ a.2 - ceilAt a b x by omega)
  have t2 := Int.mul_nonneg (show 0 ≤ x - a.1 by omega) (show 0 ≤ b.2 - ceilAt a b x by omega)
  rw [show ceilAt a b x - a.2 = -(a.2 - ceilAt a b x) by omega, show ceilAt a b x - b.2 = -(b.2 - ceilAt a b x) by omega, Int.mul_neg, Int.mul_neg] at t
  by_cases hx : x = b.1
  · have := Int.mul_pos (show 0 < x - a.1 by omega) (show 0 < b.2 - ceilAt a b x by omega)
    omega
  · have := Int.mul_pos (show 0 < b.1 - x by omega) (show 0 < a.2 - ceilAt a b x by omega)
    omega
structure Side (row : List P) (p : P) (r : List P) : Prop where
  asc : Asc p r
  on : ∀ a b, On2 (p :: r) a b → (a.1 ≤ b.1) ∧ a ∈ row ∧ b ∈ row ∧ ∀ x ∈ row, 0 ≤ turn a b x
theorem pathSum_ng (f : P → P → Int) (hf : ∀ a b, f (ng a) (ng b) = f a b) : ∀ l : List P, pathSum f (l.map ng) = pathSum f l
  | [] => rfl
  | [_] => rfl
  | a :: b :: r => by
    show f (ng a) (ng b) + pathSum f ((b :: r).map ng) = _
    rw [hf, pathSum_ng f hf (b :: r)]; rfl
theorem ew_ng (a b : P) : ew (ng a) (ng b) = ew a b := by
  unfold ew cross gc ng
  dsimp only
  rw [show -b.1 - -a.1 = -(b.1 - a.1) by omega, show -b.2 - -a.2 = -(b.2 - a.2) by omega, Int.gcd_neg, Int.neg_gcd, Int.neg_mul_neg, Int.neg_mul_neg]
theorem pathAll_ng (x y : Int) : ∀ l : List P, pathAll (fun a b => 0 ≤ turn a b (-x, -y)) (l.map ng) ↔ pathAll (fun a b => 0 ≤ turn a b (x, y)) l
  | [] => Iff.rfl
  | [_] => Iff.rfl
  | a :: b :: r => by
    have e : turn (ng a) (ng b) (-x, -y) = turn a b (x, y) := turn_ng a b (x, y)
    show (0 ≤ turn (ng a) (ng b) (-x, -y) ∧ pathAll _ ((b :: r).map ng)) ↔ (_ ∧ _)
    rw [e, pathAll_ng x y (b :: r)]
theorem pick {row : List P} {u v : P} {r s : List P} (hu : u.1 < v.1) (A : Side row u r) (B : Side (row.map ng) (ng v) s) (lu : lastP u r = v) (lv : lastP (ng v) s = ng u)
    {ylo : Int} {n : Nat} (hy : ∀ x ∈ u :: r, ylo ≤ x.2 ∧ x.2 < ylo + n) (hy' : ∀ x, ng x ∈ ng v :: s → ylo ≤ x.2 ∧ x.2 < ylo + n) (F : Int → Int → Int)
    (hF : ∀ x y, F x y = 1 ↔ (pathAll (fun a b => 0 ≤ turn a b (x, y)) (u :: r) ∧ pathAll (fun a b => 0 ≤ turn a b (-x, -y)) (ng v :: s))) (hF0 : ∀ x y, F x y = 1 ∨ F x y = 0) :
    2 * sumI (fun x => sumI (F x) ylo n) u.1 (v.1 - u.1 + 1).toNat = pathSum ew (u :: r) + pathSum ew (ng v :: s) + 2 := by
  have colA : ∀ x y, u.1 ≤ x → x ≤ v.1 → (pathAll (fun a b => 0 ≤ turn a b (x, y)) (u :: r) ↔ cl (u :: r) x ≤ y) := fun x y h1 h2 => col_ok A.asc A.on (by rw [lu]; exact hu) h1 (by rw [lu]; exact h2) y
  have colB : ∀ x y, u.1 ≤ x → x ≤ v.1 → (pathAll (fun a b => 0 ≤ turn a b (-x, -y)) (ng v :: s) ↔ y ≤ -cl (ng v :: s) (-x)) := fun x y h1 h2 => by
    rw [col_ok (x := -x) B.asc B.on (by rw [lv]; show -v.1 < -u.1; omega) (show -v.1 ≤ -x by omega) (by rw [lv]; show -x ≤ -u.1; omega) (-y)]
    omega
  have each : ∀ x, u.1 ≤ x → x ≤ v.1 → sumI (F x) ylo n = (1 - cl (u :: r) x) + ((1 - cl (ng v :: s) (-x)) + -1) := fun x h1 h2 => by
    obtain ⟨a, b, o, i1, i2, i3, i4⟩ := col A.asc (by rw [lu]; exact hu) h1 (by rw [lu]; exact h2)
    obtain ⟨c, d, o', j1, j2, j3, j4⟩ := col (x := -x) B.asc (by rw [lv]; show -v.1 < -u.1; omega) (show -v.1 ≤ -x by omega) (by rw [lv]; show -x ≤ -u.1; omega)
    obtain ⟨_, ma, mb, ka⟩ := A.on a b o
    obtain ⟨_, mc, md, kc⟩ := B.on c d o'
    obtain ⟨c', mc', rfl⟩ := List.mem_map.mp mc
    obtain ⟨d', md', rfl⟩ := List.mem_map.mp md
    have b1 := ceil_ge (m := ylo) i1 i2 i3 (hy a o.left).1 (hy b o.right).1
    have b2 := ceil_ge (m := -(ylo + n - 1)) j1 j2 j3 (by have := (hy' c' o'.left).2; show _ ≤ -c'.2; omega) (by have := (hy' d' o'.right).2; show _ ≤ -d'.2; omega)
    rw [← i4] at b1
    rw [← j4] at b2
    have b3 : cl (u :: r) x ≤ -cl (ng v :: s) (-x) + 1 := by
      apply Int.not_lt.mp
      intro hn
      have g1 : ¬ 0 ≤ turn a b (x, cl (u :: r) x - 1) := fun g => by
        have := (ceil_le (x := x) (y := cl (u :: r) x - 1) i1).mpr g
        omega
      have g2 : ¬ 0 ≤ turn (ng c') (ng d') (-x, -(cl (u :: r) x - 1)) := fun g => by
        have := (ceil_le (x := -x) (y := -(cl (u :: r) x - 1)) j1).mpr g
        omega
      have g3 : turn (ng c') (ng d') (-x, -(cl (u :: r) x - 1)) = turn c' d' (x, cl (u :: r) x - 1) := turn_ng c' d' (x, cl (u :: r) x - 1)
      rw [g3] at g2
      have e := along a b d' c' (x, cl (u :: r) x - 1)
      dsimp only at e
      have j1' : -c'.1 < -d'.1 := j1
      have j2' : -c'.1 ≤ -x := j2
      have j3' : -x ≤ -d'.1 := j3
      have t1 := Int.mul_nonneg (show 0 ≤ c'.1 - x by omega) (ka d' md')
      have t2 := Int.mul_nonneg (show 0 ≤ x - d'.1 by omega) (ka c' mc')
      have t3 : 0 < (b.1 - a.1) * turn d' c' (x, cl (u :: r) x - 1) := Int.mul_pos (by omega) (by rw [turn_swap]; omega)
      have t4 := Int.mul_pos (show 0 < c'.1 - d'.1 by omega) (show 0 < -turn a b (x, cl (u :: r) x - 1) by omega)
      rw [Int.mul_neg] at t4
      omega
    rw [run_count ylo n (cl (u :: r) x) (-cl (ng v :: s) (-x)) (F x) (fun y _ _ => ?_) b1 (by omega) b3]
    · omega
    · by_cases hc : cl (u :: r) x ≤ y ∧ y ≤ -cl (ng v :: s) (-x)
      · rw [if_pos hc]
        exact (hF x y).mpr ⟨(colA x y h1 h2).mpr hc.1, (colB x y h1 h2).mpr hc.2⟩
      · rw [if_neg hc]
        rcases hF0 x y with g | g
        · obtain ⟨k1, k2⟩ := (hF x y).mp g
          exact absurd ⟨(colA x y h1 h2).mp k1, (colB x y h1 h2).mp k2⟩ hc
        · exact g
  obtain ⟨m, hm⟩ : ∃ m : Nat, m = (v.1 - u.1 + 1).toNat := ⟨_, rfl⟩
  rw [← hm, sumI_congr (g := fun x => (1 - cl (u :: r) x) + ((fun z => 1 - cl (ng v :: s) z) (-x) + -1)) fun i hi => each _ (by omega) (by omega)]
  rw [sumI_lin (fun x => 1 - cl (u :: r) x), sumI_lin (fun x => (fun z => 1 - cl (ng v :: s) z) (-x)), sumI_const]
  have l1 := low A.asc
  have l2 := low B.asc
  rw [lu, ← hm] at l1
  rw [lv] at l2
  have em : ((ng u).1 - (ng v).1 + 1).toNat = m := by show (-u.1 - -v.1 + 1).toNat = m; omega
  rw [em] at l2
  have rv := sumI_rev (fun z => 1 - cl (ng v :: s) z) (ng v).1 m
  rw [show -((ng v).1 + (m : Int) - 1) = u.1 by show -(-v.1 + (m : Int) - 1) = u.1; omega] at rv
  rw [rv]
  have p1 : psi (ng u) = -u.1 - u.2 - u.1 * u.2 := by unfold psi ng; dsimp only; rw [Int.neg_mul_neg]; omega
  have p2 : psi (ng v) = -v.1 - v.2 - v.1 * v.2 := by unfold psi ng; dsimp only; rw [Int.neg_mul_neg]; omega
  have p3 : (ng u).2 = -u.2 := rfl
  rw [p1, p2, p3] at l2
  unfold psi at l1
  have hm' : (m : Int) = v.1 - u.1 + 1 := by omega
  rw [hm']
  omega
end Pick
set_option linter.all false
namespace Pick
open Hull
theorem last_mem : ∀ (p : P) (r : List P), lastP p r ∈ p :: r
  | p, [] => List.mem_singleton.mpr rfl
  | p, q :: r => List.mem_cons_of_mem _ (last_mem q r)
theorem lastP_eq : ∀ (p : P) (l : List P) (z : P), lastP p (l ++ [z]) = z
  | p, [], z => rfl
  | p, q :: l, z => lastP_eq q l z
def Sm (row : List P) : Prop := ∀ x ∈ row, (-9 ≤ x.1 ∧ x.1 ≤ 9) ∧ -9 ≤ x.2 ∧ x.2 ≤ 9
theorem asc_of {row : List P} (hb : Sm row) : ∀ {r : List P} {p : P}, (p :: r).Pairwise lt → (∀ x ∈ p :: r, x ∈ row) → (∀ a b, On2 (p :: r) a b → ∀ x ∈ row, 0 ≤ turn a b x) → Asc p r
  | [], p, _, _, _ => trivial
  | q :: r, p, hs, hm, he => by
    have ih := asc_of hb (List.pairwise_cons.mp hs).2 (fun x hx => hm x (List.mem_cons_of_mem _ hx)) fun a b o => he a b o.cons
    have hpq : lt p q := (List.pairwise_cons.mp hs).1 q (by simp)
    have bp := hb p (hm p (by simp))
    have bq := hb q (hm q (by simp))
    refine ⟨?_, ⟨by omega, by omega, by omega⟩, ih⟩
    rcases hpq with g | ⟨g1, g2⟩
    · exact .inl g
    · refine .inr ⟨g1, by omega, ?_⟩
      have h1 := ih.le
      have h2 := he p q ⟨[], r, rfl⟩ (lastP q r) (hm _ (List.mem_cons_of_mem _ (last_mem q r)))
      unfold turn at h2
      rw [g1, Int.sub_self, Int.zero_mul] at h2
      have h3 : (q.2 - p.2) * ((lastP q r).1 - q.1) ≤ 0 := by omega
      apply Int.le_antisymm _ h1
      apply Int.not_lt.mp
      intro hn
      have := Int.mul_pos (show 0 < q.2 - p.2 by omega) (show 0 < (lastP q r).1 - q.1 by omega)
      omega
theorem on_lt : ∀ {p : P} {r : List P}, (p :: r).Pairwise lt → ∀ a b, On2 (p :: r) a b → lt a b := by
  rintro p r h a b ⟨l, r', e⟩
  rw [e] at h
  have := (List.pairwise_append.mp h).2.1
  exact (List.pairwise_cons.mp this).1 b (by simp)
theorem side_of {row : List P} (hb : Sm row) {r : List P} {p : P} (hs : (p :: r).Pairwise lt) (hm : ∀ x ∈ p :: r, x ∈ row) (he : ∀ a b, On2 (p :: r) a b → ∀ x ∈ row, 0 ≤ turn a b x) : Side row p r :=
  ⟨asc_of hb hs hm he, fun a b o => ⟨by have := on_lt hs a b o; unfold lt at this; omega, hm a o.left, hm b o.right, he a b o⟩⟩
theorem on_rev {st : List P} {a b : P} (h : On2 st.reverse a b) : ∃ l r, st = l ++ b :: a :: r := by
  obtain ⟨l, r, e⟩ := h
  refine ⟨r.reverse, l.reverse, ?_⟩
  have := congrArg List.reverse e
  simpa using this
theorem on_ng {l : List P} {a b : P} (h : On2 (l.map ng) a b) : ∃ a' b', a = ng a' ∧ b = ng b' ∧ On2 l a' b' := by
  obtain ⟨x, y, e⟩ := h
  obtain ⟨l1, l2, rfl, e1, e2⟩ := List.map_eq_append_iff.mp e
  obtain ⟨a', l3, rfl, e3, e4⟩ := List.map_eq_cons_iff.mp e2
  obtain ⟨b', l4, rfl, e5, e6⟩ := List.map_eq_cons_iff.mp e4
  exact ⟨a', b', e3.symm, e5.symm, l1, l4, rfl⟩
theorem pathSum_app (f : P → P → Int) : ∀ (l : List P) (z : P) (m : List P), pathSum f (l ++ z :: m) = pathSum f (l ++ [z]) + pathSum f (z :: m)
  | [], z, m => by show _ = 0 + _; simp
  | [a], z, m => by show f a z + pathSum f (z :: m) = f a z + 0 + _; omega
  | a :: b :: l, z, m => by
    show f a b + pathSum f ((b :: l) ++ z :: m) = f a b + pathSum f ((b :: l) ++ [z]) + _
    rw [pathSum_app f (b :: l) z m]; omega
theorem pathAll_app (f : P → P → Prop) : ∀ (l : List P) (z : P) (m : List P), pathAll f (l ++ z :: m) ↔ pathAll f (l ++ [z]) ∧ pathAll f (z :: m)
  | [], z, m => by simp [pathAll]
  | [a], z, m => by show (f a z ∧ pathAll f (z :: m)) ↔ (f a z ∧ True) ∧ _; simp
  | a :: b :: l, z, m => by
    show (f a b ∧ pathAll f ((b :: l) ++ z :: m)) ↔ (f a b ∧ pathAll f ((b :: l) ++ [z])) ∧ _
    rw [pathAll_app f (b :: l) z m, and_assoc]
def ring (h : List P) : List P := h ++ h.take 1
theorem hull_count {row : List P} (hrow : row.Pairwise lt) (hb : Sm row) (h2 : 2 ≤ row.length) {xlo ylo : Int} {m n : Nat}
    (hx : ∀ x ∈ hull row, xlo ≤ x.1 ∧ x.1 < xlo + m) (hx1 : ∃ x ∈ hull row, x.1 = xlo) (hx2 : ∃ x ∈ hull row, x.1 = xlo + m - 1)
    (hy : ∀ x ∈ hull row, ylo ≤ x.2 ∧ x.2 < ylo + n) (hy1 : ∃ x ∈ hull row, x.2 = ylo) (hy2 : ∃ x ∈ hull row, x.2 = ylo + n - 1) (F : Int → Int → Int)
    (hF : ∀ x y, F x y = 1 ↔ pathAll (fun a b => 0 ≤ turn a b (x, y)) (ring (hull row))) (hF0 : ∀ x y, F x y = 1 ∨ F x y = 0) :
    2 * sumI (fun x => sumI (F x) ylo n) xlo m = pathSum ew (ring (hull row)) + 2 := by
  obtain ⟨z, y, l, u, e, f, ln, un, ⟨l', el⟩, ⟨u', eu⟩, hz, hy', mz, my, hyz⟩ := tops hrow h2
  have c := chain_ok hrow
  have d := chainU_ok hrow
  have hh := hull_eq hrow h2
  rw [e, f] at hh
  simp only [List.tail_cons] at hh
  have t1 : (hull row).take 1 = [y] := by rw [hh, el]; simp
  have hu : ∀ s, s ∈ hull row ↔ s ∈ chainR row ∨ s ∈ chainR row.reverse := fun s => hull_mem hrow h2
  have zh : z ∈ hull row := (hu z).mpr (.inl (by rw [e]; simp))
  have yh : y ∈ hull row := (hu y).mpr (.inr (by rw [f]; simp))
  have sub : ∀ s ∈ hull row, s ∈ row := fun s hs => (hull_held hrow hs).1
  have exlo : xlo = y.1 := by
    obtain ⟨a, ha, rfl⟩ := hx1
    have := (hx y yh).1
    have := hy' a (sub a ha)
    unfold lt at this
    rcases this with g | g
    · rw [g]
    · omega
  have exhi : xlo + m - 1 = z.1 := by
    obtain ⟨a, ha, e⟩ := hx2
    have := (hx z zh).2
    have := hz a (sub a ha)
    unfold lt at this
    rcases this with g | g
    · rw [← e, g]
    · omega
  have yz : lt y z := by
    rcases hy' z mz with g | g
    · exact absurd g.symm hyz
    · exact g
  -- the lower path and the upper one
  have lo : (chainR row).reverse = y :: (l'.reverse ++ [z]) := by rw [e, el]; simp
  have up : (chainR row.reverse).reverse = z :: (u'.reverse ++ [y]) := by rw [f, eu]; simp
  have er : ring (hull row) = (y :: l'.reverse) ++ z :: (u'.reverse ++ [y]) := by
    unfold ring
    rw [t1, hh, el, eu]; simp
  rw [er] at hF ⊢
  rw [pathSum_app]
  by_cases hlt : y.1 < z.1
  · have A : Side row y (l'.reverse ++ [z]) := by
      refine side_of hb ?_ ?_ ?_
      · rw [← lo, List.pairwise_reverse]; exact c.dec
      · intro x hx; rw [← lo] at hx; exact c.sub x (List.mem_reverse.mp hx)
      · intro a b o x hx
        rw [← lo] at o
        obtain ⟨l1, r1, e1⟩ := on_rev o
        have := c.edges
        rw [e1] at this
        exact EdgesOk.at this x hx
    have B : Side (row.map ng) (ng z) ((u'.reverse ++ [y]).map ng) := by
      have hp : ng z :: (u'.reverse ++ [y]).map ng = ((chainR row.reverse).reverse).map ng := by rw [up]; rfl
      refine side_of ?_ ?_ ?_ ?_
      · intro x hx
        obtain ⟨x', h', rfl⟩ := List.mem_map.mp hx
        have := hb x' h'
        unfold ng; dsimp only; omega
      · rw [hp, List.pairwise_map, List.pairwise_reverse]
        exact d.inc.imp fun g => lt_ng.mpr g
      · intro x hx
        rw [hp] at hx
        obtain ⟨x', h', rfl⟩ := List.mem_map.mp hx
        exact List.mem_map_of_mem (d.sub x' (List.mem_reverse.mp h'))
      · intro a b o x hx
        rw [hp] at o
        obtain ⟨a', b', rfl, rfl, o'⟩ := on_ng o
        obtain ⟨l1, r1, e1⟩ := on_rev o'
        obtain ⟨x', h', rfl⟩ := List.mem_map.mp hx
        have := d.edges
        rw [e1] at this
        rw [turn_ng]
        exact EdgesOk.at this x' h'
    have key := pick (F := F) hlt A B (lastP_eq _ _ _) (by rw [List.map_append]; exact lastP_eq _ _ _) (ylo := ylo) (n := n)
      (fun x hx' => hy x ((hu x).mpr (.inl (by rw [← List.mem_reverse, lo]; exact hx'))))
      (fun x hx' => by
        have : ng x ∈ (z :: (u'.reverse ++ [y])).map ng := hx'
        obtain ⟨x', h', e'⟩ := List.mem_map.mp this
        rw [ng_inj e'] at h'
        exact hy x ((hu x).mpr (.inr (by rw [← List.mem_reverse, up]; exact h'))))
      (fun x y' => by
        rw [hF, pathAll_app]
        have := pathAll_ng x y' (z :: (u'.reverse ++ [y]))
        rw [show (z :: (u'.reverse ++ [y])).map ng = ng z :: (u'.reverse ++ [y]).map ng from rfl] at this
        rw [this]; rfl) hF0
    have e3 : pathSum ew (ng z :: (u'.reverse ++ [y]).map ng) = pathSum ew (z :: (u'.reverse ++ [y])) := pathSum_ng ew ew_ng (z :: (u'.reverse ++ [y]))
    rw [e3] at key
    rw [← exlo, show (z.1 - xlo + 1).toNat = m by omega] at key
    exact key
  · have ex : y.1 = z.1 := by unfold lt at yz; omega
    have yz2 : y.2 < z.2 := by unfold lt at yz; omega
    have all1 : ∀ x ∈ row, x.1 = z.1 := fun x hx => by
      have a1 := hz x hx
      have a2 := hy' x hx
      unfold lt at a1 a2
      rcases a1 with g | g
      · rw [g]
      · rcases a2 with k | k
        · rw [k]; exact ex
        · omega
    have flat : ∀ a b c, a ∈ row → b ∈ row → c ∈ row → turn a b c = 0 := fun a b c ha hb' hc => by
      unfold turn; rw [all1 a ha, all1 b hb', all1 c hc]; simp
    have three : ∀ st : List P, Conv st → (∀ x ∈ st, x ∈ row) → st.length ≤ 2 := fun st hc hs => by
      match st, hc, hs with
      | [], _, _ => simp
      | [_], _, _ => simp
      | [_, _], _, _ => simp
      | a :: b :: c' :: r, hc, hs =>
        have := flat c' b a (hs _ (by simp)) (hs _ (by simp)) (hs _ (by simp))
        have := hc.1
        omega
    have l0 : l' = [] := by
      have := three _ c.conv c.sub
      rw [e, el] at this
      simp only [List.length_cons, List.length_append, List.length_nil] at this
      exact List.eq_nil_of_length_eq_zero (by omega)
    have u0 : u' = [] := by
      have := three _ d.conv d.sub
      rw [f, eu] at this
      simp only [List.length_cons, List.length_append, List.length_nil] at this
      exact List.eq_nil_of_length_eq_zero (by omega)
    subst l0 u0
    have m1 : m = 1 := by omega
    subst m1
    have hul : hull row = [y, z] := by rw [hh, el, eu]; rfl
    have b1 := (hy y yh)
    have b2 := (hy z zh)
    have c1 : ylo = y.2 := by
      obtain ⟨a, ha, q⟩ := hy1
      rw [hul] at ha
      rcases List.mem_cons.mp ha with g | g
      · rw [← q, g]
      · rw [List.mem_singleton.mp g] at q; omega
    have c2 : ylo + n - 1 = z.2 := by
      obtain ⟨a, ha, q⟩ := hy2
      rw [hul] at ha
      rcases List.mem_cons.mp ha with g | g
      · rw [g] at q; omega
      · rw [List.mem_singleton.mp g] at q; omega
    have cnt : sumI (F xlo) ylo n = n := by
      have : sumI (F xlo) ylo n = sumI (fun _ => 1) ylo n := sumI_congr fun i hi => by
        refine (hF xlo (ylo + i)).mpr ⟨?_, ?_, trivial⟩
        · show 0 ≤ turn y z (xlo, ylo + i)
          unfold turn; dsimp only; rw [exlo, ex]; simp
        · show 0 ≤ turn z y (xlo, ylo + i)
          unfold turn; dsimp only; rw [exlo, ex]; simp
      rw [this, sumI_const]; omega
    show 2 * (0 + sumI (F (xlo + ((0 : Nat) : Int))) ylo n) = (ew y z + 0) + (ew z y + 0) + 2
    rw [show xlo + ((0 : Nat) : Int) = xlo by omega, cnt]
    have g1 : gc y z = z.2 - y.2 := gc_up ex (by omega)
    have g2 : gc z y = z.2 - y.2 := by
      unfold gc at g1 ⊢
      rw [show y.1 - z.1 = -(z.1 - y.1) by omega, show y.2 - z.2 = -(z.2 - y.2) by omega, Int.gcd_neg, Int.neg_gcd, g1]
    unfold ew cross
    rw [g1, g2, ex, Int.mul_comm z.1, Int.mul_comm z.1]
    omega
end Pick
set_option linter.all false
namespace Pick
open Hull
def ab (a : Int) : Int := if a < 0 then -a else a
theorem ab_neg (a : Int) : ab (-a) = ab a := by unfold ab; split <;> split <;> omega
theorem ab_nn (a : Int) : 0 ≤ ab a := by unfold ab; split <;> omega
def far (p q : P) : Int := ab (q.1 - p.1) + ab (q.2 - p.2)
def nextStep (s f x : P) : P := if f = s ∨ turn s f x < 0 then x else if turn s f x = 0 ∧ far s f < far s x then x else f
def nextOf (row : List P) (s : P) : P := row.foldl (nextStep s) s
theorem turn_sw (s f c : P) : turn s f c = - turn s c f := by unfold turn; grind
theorem next_stay {row : List P} {s c : P} (hs : c ≠ s) (he : Edge row s c) (hf : ∀ x ∈ row, turn s c x = 0 → x = c ∨ far s x < far s c) : ∀ l : List P, (∀ x ∈ l, x ∈ row) → l.foldl (nextStep s) c = c
  | [], _ => rfl
  | x :: l, h => by
    have hx := h x (by simp)
    have : nextStep s c x = c := by
      unfold nextStep
      rw [if_neg (by have := he x hx; rintro (g | g); exact hs g; omega)]
      split
      · rename_i g
        rcases hf x hx g.1 with k | k
        · exact k
        · omega
      · rfl
    show l.foldl (nextStep s) (nextStep s c x) = c
    rw [this]
    exact next_stay hs he hf l fun y hy => h y (by simp [hy])
theorem next_at {row : List P} {s c : P} (hc : c ∈ row) (hs : c ≠ s) (he : Edge row s c) (hf : ∀ x ∈ row, turn s c x = 0 → x = c ∨ far s x < far s c) : ∀ (l : List P) (f : P), (∀ x ∈ l, x ∈ row) → c ∈ l → (f = s ∨ f ∈ row) → l.foldl (nextStep s) f = c
  | [], _, _, h, _ => absurd h (by simp)
  | x :: l, f, h, hm, hfr => by
    show l.foldl (nextStep s) (nextStep s f x) = c
    have hl : ∀ y ∈ l, y ∈ row := fun y hy => h y (by simp [hy])
    by_cases ex : c = x
    · subst ex
      have : nextStep s f c = c := by
        unfold nextStep
        split
        · rfl
        · rename_i g
          have g1 : f ≠ s := fun k => g (.inl k)
          have hfr' : f ∈ row := hfr.resolve_left g1
          have g2 : turn s f c = 0 := by
            have := turn_sw s f c
            have := he f hfr'
            have : ¬ turn s f c < 0 := fun k => g (.inr k)
            omega
          have g3 : turn s c f = 0 := by have := turn_sw s f c; omega
          split
          · rfl
          · rename_i k
            rcases hf f hfr' g3 with e | e
            · exact e
            · exact absurd ⟨g2, e⟩ k
      rw [this]
      exact next_stay hs he hf l hl
    · refine next_at hc hs he hf l _ hl ((List.mem_cons.mp hm).resolve_left ex) ?_
      unfold nextStep
      split
      · exact .inr (h x (by simp))
      · split
        · exact .inr (h x (by simp))
        · exact hfr
theorem seg_far {A B a b : Int} (e : A * b = B * a) (h1 : pos (a, b)) (h2 : pos (A - a, B - b)) : ab a + ab b < ab A + ab B := by
  unfold pos at h1 h2
  dsimp only at h1 h2
  by_cases hA : A = 0
  · have ha : a = 0 := by omega
    subst hA ha
    unfold ab; split <;> split <;> split <;> omega
  · have hA' : 0 < A := by omega
    have ha : 0 ≤ a := by omega
    have hle : a ≤ A := by omega
    have hb : ab b ≤ ab B := by
      apply Int.not_lt.mp
      intro hn
      have k1 : ab b * A = ab B * a := by
        unfold ab
        by_cases b0 : b < 0
        · have : B * a < 0 := by rw [← e]; exact Int.mul_neg_of_pos_of_neg hA' b0
          have : B < 0 := by
            apply Int.not_le.mp; intro k
            have := Int.mul_nonneg k ha; omega
          rw [if_pos b0, if_pos this, Int.neg_mul, Int.neg_mul, ← e, Int.mul_comm]
        · have : 0 ≤ B * a := by rw [← e]; exact Int.mul_nonneg (by omega) (by omega)
          by_cases B0 : B < 0
          · have : a = 0 := by
              apply Int.le_antisymm _ ha
              apply Int.not_lt.mp; intro k
              have := Int.mul_neg_of_neg_of_pos B0 k; omega
            subst this
            have : b = 0 := by
              have : A * b = 0 := by rw [e]; simp
              rcases Int.mul_eq_zero.mp this with k | k
              · omega
              · exact k
            subst this
            simp
          · rw [if_neg b0, if_neg B0, ← e, Int.mul_comm]
      have k2 : ab B * a ≤ ab B * A := Int.mul_le_mul_of_nonneg_left hle (ab_nn B)
      have k3 : ab B * A < ab b * A := Int.mul_lt_mul_of_pos_right hn hA'
      omega
    by_cases hlt : a < A
    · have : ab a = a := by unfold ab; rw [if_neg (by omega)]
      have : ab A = A := by unfold ab; rw [if_neg (by omega)]
      omega
    · have ea : a = A := by omega
      subst ea
      have : b = B := by
        have : a * (b - B) = 0 := by rw [Int.mul_sub, e, Int.mul_comm]; omega
        rcases Int.mul_eq_zero.mp this with k | k <;> omega
      omega
section
variable {row : List P} (hrow : row.Pairwise lt)
include hrow
theorem far_ok {s c x : P} (hs : s ∈ hull row) (hc : c ∈ hull row) (sc : c ≠ s) (hx : x ∈ row) (t : turn s c x = 0) : x = c ∨ far s x < far s c := by
  obtain ⟨ms, ns⟩ := hull_held hrow hs
  obtain ⟨mc, nc⟩ := hull_held hrow hc
  by_cases xc : x = c
  · exact .inl xc
  refine .inr ?_
  have e : (c.1 - s.1) * (x.2 - s.2) = (c.2 - s.2) * (x.1 - s.1) := by unfold turn at t; omega
  by_cases xs : x = s
  · subst xs
    unfold far
    have : c.1 ≠ x.1 ∨ c.2 ≠ x.2 := by
      by_cases h : c.1 = x.1
      · exact .inr fun h' => sc (Prod.ext h h')
      · exact .inl h
    have a0 : ab (x.1 - x.1) = 0 := by unfold ab; simp
    have a1 : ab (x.2 - x.2) = 0 := by unfold ab; simp
    rw [a0, a1]
    unfold ab; split <;> split <;> omega
  have z1 : turn x c s = 0 := by rw [← turn_rot, turn_swap] at *; have := turn_rot s c x; have := turn_swap s c x; have := turn_sw s c x; unfold turn at *; grind
  have z2 : turn c x s = 0 := by rw [turn_swap]; omega
  have z3 : turn s x c = 0 := by rw [turn_sw]; omega
  have z4 : turn x s c = 0 := by rw [turn_swap]; omega
  rcases lt_tri s c with g | g | g
  · have h1 : lt s x := by
      rcases lt_tri s x with k | k | k
      · exact k
      · exact absurd k.symm xs
      · exact absurd (.inl ⟨x, hx, c, mc, z1, k, g⟩) ns
    have h2 : lt x c := by
      rcases lt_tri x c with k | k | k
      · exact k
      · exact absurd k xc
      · exact absurd (.inl ⟨s, ms, x, hx, z3, g, k⟩) nc
    refine seg_far e ?_ ?_
    · unfold lt at h1; unfold pos; dsimp only; omega
    · unfold lt at h2; unfold pos; dsimp only; omega
  · exact absurd g.symm sc
  · have h1 : lt x s := by
      rcases lt_tri x s with k | k | k
      · exact k
      · exact absurd k xs
      · exact absurd (.inl ⟨c, mc, x, hx, z2, g, k⟩) ns
    have h2 : lt c x := by
      rcases lt_tri c x with k | k | k
      · exact k
      · exact absurd k.symm xc
      · exact absurd (.inl ⟨x, hx, s, ms, z4, k, g⟩) nc
    have := seg_far (A := -(c.1 - s.1)) (B := -(c.2 - s.2)) (a := -(x.1 - s.1)) (b := -(x.2 - s.2)) (by rw [Int.neg_mul_neg, Int.neg_mul_neg, e]) (by unfold lt at h1; unfold pos; dsimp only; omega) (by unfold lt at h2; unfold pos; dsimp only; omega)
    rw [ab_neg, ab_neg, ab_neg, ab_neg] at this
    exact this
theorem ring_ne {i : Nat} {p q : P} (h2 : 2 ≤ (hull row).length) (hp : (ring (hull row))[i]? = some p) (hq : (ring (hull row))[i + 1]? = some q) : p ∈ hull row ∧ q ∈ hull row ∧ q ≠ p ∧ (i + 1 < (hull row).length → (hull row)[i + 1]? = some q) ∧ (hull row)[i]? = some p := by
  have nd := hull_nodup hrow
  generalize hull row = h at *
  have lr : (ring h).length = h.length + 1 := by unfold ring; simp; omega
  have hi : i + 1 < h.length + 1 := by rw [← lr]; exact (List.getElem?_eq_some_iff.mp hq).1
  have e1 : h[i]? = some p := by
    unfold ring at hp; rw [List.getElem?_append_left (by omega)] at hp; exact hp
  have mp := List.mem_of_getElem? e1
  by_cases hl : i + 1 < h.length
  · have e2 : h[i + 1]? = some q := by
      unfold ring at hq; rw [List.getElem?_append_left hl] at hq; exact hq
    refine ⟨mp, List.mem_of_getElem? e2, fun e => ?_, fun _ => e2, e1⟩
    subst e
    have := (List.getElem?_inj hl nd).mp (e2.trans e1.symm)
    omega
  · have e2 : h[0]? = some q := by
      unfold ring at hq
      rw [List.getElem?_append_right (by omega), show i + 1 - h.length = 0 by omega] at hq
      rw [List.getElem?_take] at hq
      simpa using hq
    refine ⟨mp, List.mem_of_getElem? e2, fun e => ?_, fun g => absurd g hl, e1⟩
    subst e
    have := (List.getElem?_inj (by omega) nd).mp (e2.trans e1.symm)
    omega
theorem hull_two (h2 : 2 ≤ row.length) : 2 ≤ (hull row).length := by
  obtain ⟨z, y, l, u, e, f, ln, un, ⟨l', el⟩, ⟨u', eu⟩, _⟩ := tops hrow h2
  rw [hull_eq hrow h2, e, f, el, eu]; simp; omega
theorem next_hull (h2 : 2 ≤ row.length) {i : Nat} {p q : P} (hp : (ring (hull row))[i]? = some p) (hq : (ring (hull row))[i + 1]? = some q) : nextOf row p = q := by
  obtain ⟨mp, mq, ne, _⟩ := ring_ne hrow (hull_two hrow h2) hp hq
  exact next_at (hull_held hrow mq).1 ne (hull_next hrow h2 i p q hp hq) (fun x hx t => far_ok hrow mp mq ne hx t) row p (fun _ h => h) (hull_held hrow mq).1 (.inl rfl)
end
theorem fan (a : P) : ∀ (b : P) (t : List P), pathSum cross (b :: t ++ [a]) = pathSum (turn a) (b :: t) - cross a b
  | b, [] => by show cross b a + 0 = 0 - cross a b; unfold cross; grind
  | b, c :: t => by
    show cross b c + pathSum cross (c :: t ++ [a]) = turn a b c + pathSum (turn a) (c :: t) - cross a b
    rw [fan a c t]
    have : turn a b c = cross a b + cross b c - cross a c := by unfold turn cross; grind
    omega
theorem fan_ring (a b : P) (t : List P) : pathSum cross (ring (a :: b :: t)) = pathSum (turn a) (b :: t) := by
  show cross a b + pathSum cross (b :: t ++ [a]) = _
  rw [fan]; omega
theorem sum_take (f : P → P → Int) : ∀ (l : List P) (j : Nat) (b c : P), l[j]? = some b → l[j + 1]? = some c → pathSum f (l.take (j + 2)) = pathSum f (l.take (j + 1)) + f b c
  | [], j, b, c, h, _ => by simp at h
  | [x], 0, b, c, _, h => by simp at h
  | x :: y :: l, 0, b, c, h1, h2 => by
    simp at h1 h2; subst h1 h2
    show f x y + pathSum f [y] = 0 + f x y
    show f x y + 0 = _
    omega
  | [x], j + 1, b, c, h, _ => by simp at h
  | x :: y :: l, j + 1, b, c, h1, h2 => by
    have ih := sum_take f (y :: l) j b c h1 h2
    show f x y + pathSum f ((y :: l).take (j + 2)) = f x y + pathSum f ((y :: l).take (j + 1)) + f b c
    rw [ih]; omega
theorem ring_sum (f : P → P → Int) (h : List P) (a z : P) (ha : h[0]? = some a) (hz : h.getLast? = some z) : pathSum f (ring h) = f z a + pathSum f h := by
  obtain ⟨l, rfl⟩ := List.getLast?_eq_some_iff.mp hz
  have : (l ++ [z]).take 1 = [a] := by
    cases l with
    | nil => simp at ha ⊢; exact ha
    | cons x l => simp at ha ⊢; exact ha
  unfold ring
  rw [this, List.append_assoc, show [z] ++ [a] = z :: [a] from rfl, pathSum_app]
  show _ + (f z a + 0) = _
  omega
theorem zip_sum (f : P → P → Int) : ∀ (h : List P) (a : P), (List.zipWith f h (h.drop 1 ++ [a])).sum = pathSum f (h ++ [a])
  | [], a => rfl
  | [x], a => by simp [pathSum]
  | x :: y :: h, a => by
    have := zip_sum f (y :: h) a
    show f x y + (List.zipWith f (y :: h) ((y :: h).drop 1 ++ [a])).sum = f x y + pathSum f (y :: h ++ [a])
    rw [this]
theorem zip_ring (f : P → P → Int) (h : List P) : (List.zipWith f h (h.drop 1 ++ h.take 1)).sum = pathSum f (ring h) := by
  cases h with
  | nil => rfl
  | cons a h => exact zip_sum f (a :: h) a
theorem ew_sum : ∀ l : List P, pathSum ew l = pathSum cross l + pathSum gc l
  | [] => rfl
  | [_] => rfl
  | a :: b :: l => by
    show cross a b + gc a b + pathSum ew (b :: l) = cross a b + pathSum cross (b :: l) + (gc a b + pathSum gc (b :: l))
    rw [ew_sum (b :: l)]; omega
end Pick
namespace Pick
open Hull
theorem zip_take (g : P → P → Int) : ∀ {ps L : List P} {i : Nat} {p q : P}, ps[i]? = some p → L[i]? = some q → List.zipWith g (ps.take (i + 1)) L = List.zipWith g (ps.take i) L ++ [g p q]
  | [], _, _, _, _, h, _ => by simp at h
  | _ :: _, [], _, _, _, _, h => by simp at h
  | a :: ps, b :: L, 0, p, q, h1, h2 => by
    simp at h1 h2; subst h1 h2; simp
  | a :: ps, b :: L, i + 1, p, q, h1, h2 => by
    have := zip_take g (ps := ps) (L := L) (i := i) (p := p) (q := q) (by simpa using h1) (by simpa using h2)
    simp [this]
end Pick
namespace Pick
open Hull
theorem ring_lt {h : List P} {i : Nat} (hi : i < h.length) : (ring h)[i]? = h[i]? := by unfold ring; rw [List.getElem?_append_left hi]
theorem ring_at {h : List P} (h0 : 0 < h.length) : (ring h)[h.length]? = h[0]? := by
  unfold ring; rw [List.getElem?_append_right (Nat.le_refl _), Nat.sub_self, List.getElem?_take]; simp
theorem wrap_next {row : List P} (hrow : row.Pairwise lt) {p0 : P} (h0 : (hull row)[0]? = some p0) {i : Nat} (hi : i < (hull row).length) :
    (i + 1 < (hull row).length → (hull row)[i + 1]? = some (nextOf row (hull row)[i]) ∧ nextOf row (hull row)[i] ≠ p0) ∧ (¬ i + 1 < (hull row).length → nextOf row (hull row)[i] = p0) := by
  have nd := hull_nodup hrow
  have hc : (hull row)[i]? = some (hull row)[i] := List.getElem?_eq_getElem hi
  by_cases h2 : 2 ≤ row.length
  · have a1 : (ring (hull row))[i]? = some (hull row)[i] := by rw [ring_lt hi]; exact hc
    constructor
    · intro g
      have a2 : (ring (hull row))[i + 1]? = some (hull row)[i + 1] := by rw [ring_lt g]; exact List.getElem?_eq_getElem g
      have e := next_hull hrow h2 a1 a2
      rw [e]
      refine ⟨List.getElem?_eq_getElem g, fun z => ?_⟩
      have := (List.getElem?_inj g nd).mp ((List.getElem?_eq_getElem g).trans (by rw [z, h0]))
      omega
    · intro g
      have en : i + 1 = (hull row).length := by omega
      have a2 : (ring (hull row))[i + 1]? = some p0 := by rw [en, ring_at (by omega)]; exact h0
      exact next_hull hrow h2 a1 a2
  · have e1 : row.length = 1 := by
      match row, h2, hi with
      | [], _, hi => simp [hull, chainR] at hi
      | [_], _, _ => rfl
      | _ :: _ :: _, h2, _ => exact absurd (by simp) h2
    have eh : hull row = row := by unfold hull; rw [if_pos e1]
    match row, e1 with
    | [a], _ =>
      constructor
      · intro g; rw [eh] at g; simp at g
      · intro _
        have ea : p0 = a := by rw [eh] at h0; simpa using h0.symm
        have : (hull [a])[i] = a := by
          have hm := List.getElem_mem hi
          generalize (hull [a])[i] = z at hm
          rw [eh] at hm
          exact List.mem_singleton.mp hm
        rw [this, ea]
        show nextStep a a a = a
        unfold nextStep; rw [if_pos (.inl rfl)]
end Pick
set_option linter.all false
namespace SepM
open Hull Pick
def dot (w x : P) : Int := w.1 * x.1 + w.2 * x.2
end SepM
set_option linter.all false
namespace Pick
open Hull
theorem count_all {row : List P} (hrow : row.Pairwise lt) (hb : Sm row) (h1 : 1 ≤ row.length) {xlo ylo : Int} {m n : Nat}
    (hx : ∀ x ∈ hull row, xlo ≤ x.1 ∧ x.1 < xlo + m) (hx1 : ∃ x ∈ hull row, x.1 = xlo) (hx2 : ∃ x ∈ hull row, x.1 = xlo + m - 1)
    (hy : ∀ x ∈ hull row, ylo ≤ x.2 ∧ x.2 < ylo + n) (hy1 : ∃ x ∈ hull row, x.2 = ylo) (hy2 : ∃ x ∈ hull row, x.2 = ylo + n - 1) (F : Int → Int → Int)
    (hF : ∀ x y, F x y = 1 ↔ pathAll (fun a b => 0 ≤ turn a b (x, y)) (ring (hull row))) (hF0 : ∀ x y, F x y = 1 ∨ F x y = 0) :
    2 * sumI (fun x => sumI (F x) ylo n) xlo m = pathSum ew (ring (hull row)) + 2 := by
  by_cases h2 : 2 ≤ row.length
  · exact hull_count hrow hb h2 hx hx1 hx2 hy hy1 hy2 F hF hF0
  · match row, h1, h2 with
    | [a], _, _ =>
      have eh : hull [a] = [a] := rfl
      rw [eh] at *
      obtain ⟨x1, e1, f1⟩ := hx1
      obtain ⟨x2, e2, f2⟩ := hx2
      obtain ⟨y1, e3, f3⟩ := hy1
      obtain ⟨y2, e4, f4⟩ := hy2
      rw [List.mem_singleton.mp e1] at f1
      rw [List.mem_singleton.mp e2] at f2
      rw [List.mem_singleton.mp e3] at f3
      rw [List.mem_singleton.mp e4] at f4
      have m1 : m = 1 := by omega
      have n1 : n = 1 := by omega
      subst m1 n1
      have f : F (xlo + ((0 : Nat) : Int)) (ylo + ((0 : Nat) : Int)) = 1 := (hF _ _).mpr ⟨by show 0 ≤ turn a a _; rw [turn_aab]; exact Int.le_refl _, trivial⟩
      show 2 * (0 + (0 + F (xlo + ((0 : Nat) : Int)) (ylo + ((0 : Nat) : Int)))) = (ew a a + 0) + 2
      rw [f]
      have : ew a a = 0 := by unfold ew cross gc; simp; rw [Int.mul_comm]; omega
      omega
    | _ :: _ :: _, _, h2 => exact absurd (by simp) h2
def pr (h : List P) (k : Nat) : P := if k = 0 then h.getLastD (0, 0) else h.getD (k - 1) (0, 0)
def sd (h : List P) (t : P) (i : Nat) : List Int := (List.range i).map fun k => turn (pr h k) (h.getD k (0, 0)) t
theorem sd_succ (h : List P) (t : P) (i : Nat) : sd h t (i + 1) = sd h t i ++ [turn (pr h i) (h.getD i (0, 0)) t] := by
  unfold sd; rw [List.range_succ, List.map_append]; rfl
theorem on2_ring {h : List P} {a b : P} (o : On2 (ring h) a b) : ∃ i, (ring h)[i]? = some a ∧ (ring h)[i + 1]? = some b := by
  obtain ⟨l, r, e⟩ := o
  exact ⟨l.length, by rw [e]; simp, by rw [e, List.getElem?_append_right (by omega)]; simp⟩
theorem ring_on2 {h : List P} {a b : P} {i : Nat} (h1 : (ring h)[i]? = some a) (h2 : (ring h)[i + 1]? = some b) : On2 (ring h) a b := by
  generalize ring h = L at *
  obtain ⟨b1, c1⟩ := List.getElem?_eq_some_iff.mp h1
  obtain ⟨b2, c2⟩ := List.getElem?_eq_some_iff.mp h2
  refine ⟨L.take i, L.drop (i + 2), ?_⟩
  rw [← c1, ← c2, ← List.drop_eq_getElem_cons, ← List.drop_eq_getElem_cons, List.take_append_drop]
theorem sd_all {h : List P} (h0 : 0 < h.length) (t : P) : (∀ n ∈ sd h t h.length, 0 ≤ n) ↔ pathAll (fun a b => 0 ≤ turn a b t) (ring h) := by
  have lr : (ring h).length = h.length + 1 := by unfold ring; simp; omega
  rw [pathAll_on]
  have gd : ∀ i, i < h.length → h[i]? = some (h.getD i (0, 0)) := fun i hi => by
    rw [List.getD_eq_getElem?_getD, List.getElem?_eq_getElem hi]; rfl
  have gl : h[h.length - 1]? = some (h.getLastD (0, 0)) := by
    rw [List.getLastD_eq_getLast?, List.getLast?_eq_getElem?, List.getElem?_eq_getElem (by omega)]; rfl
  constructor
  · intro hn a b o
    obtain ⟨i, e1, e2⟩ := on2_ring o
    have hi : i + 1 < h.length + 1 := by rw [← lr]; exact (List.getElem?_eq_some_iff.mp e2).1
    rw [ring_lt (by omega)] at e1
    by_cases g : i + 1 < h.length
    · rw [ring_lt g] at e2
      have := hn (turn (pr h (i + 1)) (h.getD (i + 1) (0, 0)) t) (List.mem_map.mpr ⟨i + 1, by simp [g], rfl⟩)
      have k1 : pr h (i + 1) = a := by
        unfold pr; rw [if_neg (by omega)]
        have := gd i (by omega); rw [e1] at this; exact (Option.some.inj this).symm
      have k2 : h.getD (i + 1) (0, 0) = b := by have := gd (i + 1) g; rw [e2] at this; exact (Option.some.inj this).symm
      rw [k1, k2] at this; exact this
    · have en : i + 1 = h.length := by omega
      rw [en, ring_at h0] at e2
      have := hn (turn (pr h 0) (h.getD 0 (0, 0)) t) (List.mem_map.mpr ⟨0, by simp [h0], rfl⟩)
      have k1 : pr h 0 = a := by
        unfold pr; rw [if_pos rfl]
        have i0 : i = h.length - 1 := by omega
        rw [i0, gl] at e1; exact Option.some.inj e1
      have k2 : h.getD 0 (0, 0) = b := by have := gd 0 h0; rw [e2] at this; exact (Option.some.inj this).symm
      rw [k1, k2] at this; exact this
  · intro ha n hn
    obtain ⟨k, hk, rfl⟩ := List.mem_map.mp hn
    have hk' : k < h.length := List.mem_range.mp hk
    cases k with
    | zero =>
      refine ha _ _ (ring_on2 (i := h.length - 1) ?_ ?_)
      · rw [ring_lt (by omega)]; unfold pr; rw [if_pos rfl]; exact gl
      · rw [show h.length - 1 + 1 = h.length by omega, ring_at h0]; exact gd 0 h0
    | succ k =>
      refine ha _ _ (ring_on2 (i := k) ?_ ?_)
      · rw [ring_lt (by omega)]; unfold pr; rw [if_neg (by omega)]; exact gd k (by omega)
      · rw [ring_lt hk']; exact gd (k + 1) hk'
theorem least_of : ∀ {ns : List Int}, ns ≠ [] → ∃ m ∈ ns, ∀ n ∈ ns, m ≤ n
  | [], h => absurd rfl h
  | [a], _ => ⟨a, by simp, fun n hn => by rw [List.mem_singleton.mp hn]; exact Int.le_refl _⟩
  | a :: b :: r, _ => by
    obtain ⟨m, hm, hl⟩ := least_of (ns := b :: r) (by simp)
    by_cases h : a ≤ m
    · exact ⟨a, by simp, fun n hn => by
        rcases List.mem_cons.mp hn with e | e
        · rw [e]; exact Int.le_refl _
        · exact Int.le_trans h (hl n e)⟩
    · exact ⟨m, List.mem_cons_of_mem _ hm, fun n hn => by
        rcases List.mem_cons.mp hn with e | e
        · rw [e]; omega
        · exact hl n e⟩
theorem most_of {ns : List Int} (h : ns ≠ []) : ∃ m ∈ ns, ∀ n ∈ ns, n ≤ m := by
  obtain ⟨m, hm, hl⟩ := least_of (ns := ns.map fun x => -x) (by simpa using h)
  obtain ⟨x, hx, rfl⟩ := List.mem_map.mp hm
  exact ⟨x, hx, fun n hn => by have := hl (-n) (List.mem_map.mpr ⟨n, hn, rfl⟩); omega⟩
end Pick
set_option Elab.async false
set_option linter.all false
set_option maxRecDepth 100000
set_option maxHeartbeats 4000000

namespace K5a
open PySem L2 Hull SortM Pick SepM
seal L2.PE L2.PT L2.PW L2.PA L2.PS L2.PSs L2.PG L2.PGs L2.PF L2.PI L2.PO
def top (i : Nat) : Stmt := PySem.Challenge.pw_herdline_k05_land_and_spots.main.body.getD i (.Pass ⟨0, 0, 0, 0⟩)
abbrev s_common_divisor : Stmt := top 5
abbrev s_is_number : Stmt := top 9
abbrev s_is_pair : Stmt := top 10
abbrev s_is_herd : Stmt := top 11
abbrev s_check_herd : Stmt := top 12
abbrev s_check_way : Stmt := top 13
abbrev s_leftness : Stmt := top 15
abbrev s_reach : Stmt := top 16
abbrev s_left_chain : Stmt := top 17
abbrev s_corners : Stmt := top 18
abbrev s_sides : Stmt := top 19
abbrev s_twice_area : Stmt := top 20
abbrev s_steps_round : Stmt := top 21
abbrev s_land : Stmt := top 22
abbrev s_spots : Stmt := top 23
abbrev s_farthest : Stmt := top 24
abbrev s__law_cell_at : Stmt := top 26
abbrev s__law_draw : Stmt := top 27
abbrev s__law_spot : Stmt := top 28
abbrev s__law_herd : Stmt := top 29
abbrev s__law_turn : Stmt := top 30
abbrev s__law_far : Stmt := top 31
abbrev s__law_next : Stmt := top 32
abbrev s__law_round : Stmt := top 33
abbrev s__law_common : Stmt := top 34
abbrev s__law_edge : Stmt := top 35
abbrev s__law_counted : Stmt := top 36
abbrev s_law : Stmt := top 37
theorem sc_common_divisor : FnScope ["a", "b", "one", "other", "rest"] ["a", "b"] (defScope s_common_divisor) := ⟨rfl, rfl, rfl, by decide +kernel, rfl, by decide +kernel, by decide +kernel⟩
theorem sc_is_number : FnScope ["value"] ["value"] (defScope s_is_number) := ⟨rfl, rfl, rfl, by decide +kernel, rfl, by decide +kernel, by decide +kernel⟩
theorem sc_is_pair : FnScope ["value"] ["value"] (defScope s_is_pair) := ⟨rfl, rfl, rfl, by decide +kernel, rfl, by decide +kernel, by decide +kernel⟩
theorem sc_is_herd : FnScope ["value"] ["value"] (defScope s_is_herd) := ⟨rfl, rfl, rfl, by decide +kernel, rfl, by decide +kernel, by decide +kernel⟩
theorem sc_check_herd : FnScope ["herd"] ["herd"] (defScope s_check_herd) := ⟨rfl, rfl, rfl, by decide +kernel, rfl, by decide +kernel, by decide +kernel⟩
theorem sc_check_way : FnScope ["way"] ["way"] (defScope s_check_way) := ⟨rfl, rfl, rfl, by decide +kernel, rfl, by decide +kernel, by decide +kernel⟩
theorem sc_leftness : FnScope ["start", "end", "spot", "along", "across"] ["start", "end", "spot"] (defScope s_leftness) := ⟨rfl, rfl, rfl, by decide +kernel, rfl, by decide +kernel, by decide +kernel⟩
theorem sc_reach : FnScope ["way", "spot"] ["way", "spot"] (defScope s_reach) := ⟨rfl, rfl, rfl, by decide +kernel, rfl, by decide +kernel, by decide +kernel⟩
theorem sc_left_chain : FnScope ["row", "chain", "spot"] ["row"] (defScope s_left_chain) := ⟨rfl, rfl, rfl, by decide +kernel, rfl, by decide +kernel, by decide +kernel⟩
theorem sc_corners : FnScope ["herd", "row", "below", "above"] ["herd"] (defScope s_corners) := ⟨rfl, rfl, rfl, by decide +kernel, rfl, by decide +kernel, by decide +kernel⟩
theorem sc_sides : FnScope ["around"] ["around"] (defScope s_sides) := ⟨rfl, rfl, rfl, by decide +kernel, rfl, by decide +kernel, by decide +kernel⟩
theorem sc_twice_area : FnScope ["around"] ["around"] (defScope s_twice_area) := ⟨rfl, rfl, rfl, by decide +kernel, rfl, by decide +kernel, by decide +kernel⟩
theorem sc_steps_round : FnScope ["around"] ["around"] (defScope s_steps_round) := ⟨rfl, rfl, rfl, by decide +kernel, rfl, by decide +kernel, by decide +kernel⟩
theorem sc_land : FnScope ["herd"] ["herd"] (defScope s_land) := ⟨rfl, rfl, rfl, by decide +kernel, rfl, by decide +kernel, by decide +kernel⟩
theorem sc_spots : FnScope ["herd", "around", "steps", "held"] ["herd"] (defScope s_spots) := ⟨rfl, rfl, rfl, by decide +kernel, rfl, by decide +kernel, by decide +kernel⟩
theorem sc_farthest : FnScope ["herd", "way", "reaches", "greatest"] ["herd", "way"] (defScope s_farthest) := ⟨rfl, rfl, rfl, by decide +kernel, rfl, by decide +kernel, by decide +kernel⟩
theorem sc__law_cell_at : FnScope ["_law_script", "_law_k"] ["_law_script", "_law_k"] (defScope s__law_cell_at) := ⟨rfl, rfl, rfl, by decide +kernel, rfl, by decide +kernel, by decide +kernel⟩
theorem sc__law_draw : FnScope ["_law_cell", "_law_k", "_law_many", "_law_primes"] ["_law_cell", "_law_k", "_law_many"] (defScope s__law_draw) := ⟨rfl, rfl, rfl, by decide +kernel, rfl, by decide +kernel, by decide +kernel⟩
theorem sc__law_spot : FnScope ["_law_cell", "_law_most", "_law_line", "_law_one", "_law_other"] ["_law_cell", "_law_most", "_law_line"] (defScope s__law_spot) := ⟨rfl, rfl, rfl, by decide +kernel, rfl, by decide +kernel, by decide +kernel⟩
theorem sc__law_herd : FnScope ["_law_cell", "_law_most_spots", "_law_many", "_law_most", "_law_line", "_law_found", "_law_k"] ["_law_cell", "_law_most_spots"] (defScope s__law_herd) := ⟨rfl, rfl, rfl, by decide +kernel, rfl, by decide +kernel, by decide +kernel⟩
theorem sc__law_turn : FnScope ["_law_one", "_law_two", "_law_three", "_law_ahead"] ["_law_one", "_law_two", "_law_three"] (defScope s__law_turn) := ⟨rfl, rfl, rfl, by decide +kernel, rfl, by decide +kernel, by decide +kernel⟩
theorem sc__law_far : FnScope ["_law_one", "_law_other"] ["_law_one", "_law_other"] (defScope s__law_far) := ⟨rfl, rfl, rfl, by decide +kernel, rfl, by decide +kernel, by decide +kernel⟩
theorem sc__law_next : FnScope ["_law_each", "_law_spot_here", "_law_found", "_law_other", "_law_turn_here"] ["_law_each", "_law_spot_here"] (defScope s__law_next) := ⟨rfl, rfl, rfl, by decide +kernel, rfl, by decide +kernel, by decide +kernel⟩
theorem sc__law_round : FnScope ["_law_herd_here", "_law_each", "_law_found", "_law_spot_here"] ["_law_herd_here"] (defScope s__law_round) := ⟨rfl, rfl, rfl, by decide +kernel, rfl, by decide +kernel, by decide +kernel⟩
theorem sc__law_common : FnScope ["_law_one", "_law_other"] ["_law_one", "_law_other"] (defScope s__law_common) := ⟨rfl, rfl, rfl, by decide +kernel, rfl, by decide +kernel, by decide +kernel⟩
theorem sc__law_edge : FnScope ["_law_found", "_law_total", "_law_k", "_law_one", "_law_other"] ["_law_found"] (defScope s__law_edge) := ⟨rfl, rfl, rfl, by decide +kernel, rfl, by decide +kernel, by decide +kernel⟩
theorem sc__law_counted : FnScope ["_law_found", "_law_many", "_law_wide", "_law_high", "_law_one", "_law_other", "_law_sides"] ["_law_found"] (defScope s__law_counted) := ⟨rfl, rfl, rfl, by decide +kernel, rfl, by decide +kernel, by decide +kernel⟩
theorem sc_law : FnScope ["_law_script", "_law_herd_here", "_law_handed", "_law_found", "_law_twice", "_law_k", "_law_edge_here", "_law_all_held", "_law_told", "_law_cell", "_law_way", "_law_most", "_law_due", "_law_again", "_law_places"] ["_law_script"] (defScope s_law) := ⟨rfl, rfl, rfl, by decide +kernel, rfl, by decide +kernel, by decide +kernel⟩
structure Bl (mg : Str → Option Value) : Prop where
  len : mg "len" = none
  all : mg "all" = none
  any : mg "any" = none
  abs : mg "abs" = none
  sum : mg "sum" = none
  isinstance : mg "isinstance" = none
  tuple : mg "tuple" = none
  list : mg "list" = none
  bool : mg "bool" = none
  int : mg "int" = none
  set : mg "set" = none
  range : mg "range" = none
  reversed : mg "reversed" = none
  sorted : mg "sorted" = none
  min : mg "min" = none
  max : mg "max" = none
  zip : mg "zip" = none
  enumerate : mg "enumerate" = none
  g_BOUND : ∃ t, mg "BOUND" = some (.int 1000 t)
  g_MOST_SPOTS : ∃ t, mg "MOST_SPOTS" = some (.int 8 t)
def Bd (p : P) : Prop := (-1000 ≤ p.1 ∧ p.1 ≤ 1000) ∧ -1000 ≤ p.2 ∧ p.2 ≤ 1000
def Sp (K : PySem.W.Frag) (H : Hp) (v : V) (p : P) : Prop := Dn K H (spotD p) v ∧ Bd p
theorem Sp.same {K : PySem.W.Frag} {H H' : Hp} {v : V} {p : P} (e : Same H H') (h : Sp K H v p) : Sp K H' v p := ⟨e.dn h.1, h.2⟩
theorem same_new {H : Hp} {p : Addr} (h : H p = none) (o : HO) : Same H (upd H p o) := fun b u q => by rw [upd_ne (ne_of_none q h)]; exact q
def sp_cell (K : PySem.W.Frag) : L2.Sp := fun vs H Q _ => ∃ (a : Addr) (ns : List Int) (k : Nat), vs = [.ref a, .int k] ∧ SqL K H a (ns.map V.int) ∧ ∀ c : Int, Q (.int c) H
def sp_draw : L2.Sp := fun vs H Q _ => ∃ c k m : Int, vs = [.int c, .int k, .int m] ∧ 0 < m ∧ ∀ (r : Int) H', 0 ≤ r → r < m → Same H H' → Q (.int r) H'
def sp_spot (K : PySem.W.Frag) : L2.Sp := fun vs H Q _ => ∃ c m l : Int, vs = [.int c, .int m, .int l] ∧ 1 ≤ m ∧ m ≤ 1000 ∧ ∀ v H' p, Same H H' → Sp K H' v p → Q v H'
def sp_chain (K : PySem.W.Frag) : L2.Sp := fun vs H Q _ => ∃ (r : Addr) (xs : List V) (row : List P), vs = [.ref r] ∧ SqL K H r xs ∧ Dns K H (row.map spotD) xs ∧ (∀ p ∈ row, Bd p) ∧ row.length ≤ 8 ∧
  ∀ l zs, H l = none → Dns K H ((chainR row).reverse.map spotD) zs → Q (.ref l) (upd H l (.lst zs))
def sp_herd (K : PySem.W.Frag) : L2.Sp := fun vs H Q _ => ∃ c : Int, vs = [.int c, .int 8] ∧ ∀ l ys ps H', Same H H' → H l = none → H' l = some (.lst ys) → Dns K H' (List.map spotD ps) ys → (∀ p ∈ ps, Bd p) → 1 ≤ ps.length → ps.length ≤ 8 → Q (.ref l) H'
def sp_num : L2.Sp := fun vs H Q _ => ∃ i : Int, vs = [.int i] ∧ Q (.bl true) H
def sp_pair (K : PySem.W.Frag) : L2.Sp := fun vs H Q _ => ∃ x p, vs = [x] ∧ Sp K H x p ∧ ∀ H', Same H H' → Q (.bl true) H'
def sp_isherd (K : PySem.W.Frag) : L2.Sp := fun vs H Q _ => ∃ (o : Addr) (ys : List V) (ps : List P), vs = [.ref o] ∧ SqL K H o ys ∧ Dns K H (ps.map spotD) ys ∧ (∀ p ∈ ps, Bd p) ∧ 1 ≤ ps.length ∧ ps.length ≤ 8 ∧ ∀ H', Same H H' → Q (.bl true) H'
def sp_check (K : PySem.W.Frag) : L2.Sp := fun vs H Q _ => ∃ (o : Addr) (ys : List V) (ps : List P), vs = [.ref o] ∧ SqL K H o ys ∧ Dns K H (ps.map spotD) ys ∧ (∀ p ∈ ps, Bd p) ∧ 1 ≤ ps.length ∧ ps.length ≤ 8 ∧ ∀ H', Same H H' → Q .non H'
def sp_corners (K : PySem.W.Frag) : L2.Sp := fun vs H Q _ => ∃ (o : Addr) (ys : List V) (ps : List P), vs = [.ref o] ∧ SqL K H o ys ∧ Dns K H (ps.map spotD) ys ∧ (∀ p ∈ ps, Bd p) ∧ 1 ≤ ps.length ∧ ps.length ≤ 8 ∧
  ∀ l zs row H', Same H H' → H l = none → H' l = some (.lst zs) → row.Pairwise lt → (∀ p, p ∈ row ↔ p ∈ ps) → Dns K H' ((hull row).map spotD) zs → Q (.ref l) H'
def sp_left (K : PySem.W.Frag) : L2.Sp := fun vs H Q _ => ∃ x y z a b c, vs = [x, y, z] ∧ Sp K H x a ∧ Sp K H y b ∧ Sp K H z c ∧ Q (.int (turn a b c)) H
def sp_turn (K : PySem.W.Frag) : L2.Sp := fun vs H Q _ => ∃ x y z a b c, vs = [x, y, z] ∧ Sp K H x a ∧ Sp K H y b ∧ Sp K H z c ∧ ∀ H', Same H H' → Q (.int (turn a b c)) H'
section
variable {P : Program} {w : World} {K : PySem.W.Frag} {mg : Str → Option Value} {base : Heap} {f : Addr} {fd : FuncData}
theorem ok_left (F : Fun K "leftness" "leftness" s_leftness f fd) : FnOk P w K mg base CX0 1 f fd ["start", "end", "spot"] (sp_left K) := by
  refine F.ok sc_leftness (fun vs H Q E h => ?_) (fun cdv A outer s H vs Q E hr h => ?_)
  · obtain ⟨x, y, z, a, b, c, rfl, _⟩ := h
    rfl
  obtain ⟨x, y, z, a, b, c, rfl, ⟨ha, ha1, ha2⟩, ⟨hb, hb1, hb2⟩, ⟨hc, hc1, hc2⟩, q⟩ := h
  obtain ⟨x, rfl, ta⟩ := ha.spot
  obtain ⟨y, rfl, tb⟩ := hb.spot
  obtain ⟨z, rfl, tc⟩ := hc.spot
  refine ⟨_, (pss_cons (ps_set (i := 3) sc_leftness.nd rfl (Or.inl rfl) (pe_op op_mul (pe_op op_sub (pe_ix ix_tup (pv 1) pe_int (fun _ _ => rfl)) (pe_ix ix_tup (pv 0) pe_int (fun _ _ => rfl))) (pe_op op_sub (pe_ix ix_tup (pv 2) pe_int (fun _ _ => rfl)) (pe_ix ix_tup (pv 0) pe_int (fun _ _ => rfl)))))
    (pss_cons (ps_set (i := 4) sc_leftness.nd rfl (Or.inl rfl) (pe_op op_mul (pe_op op_sub (pe_ix ix_tup (pv 1) pe_int (fun _ _ => rfl)) (pe_ix ix_tup (pv 0) pe_int (fun _ _ => rfl))) (pe_op op_sub (pe_ix ix_tup (pv 2) pe_int (fun _ _ => rfl)) (pe_ix ix_tup (pv 0) pe_int (fun _ _ => rfl)))))
    (pss_one (ps_ret (pe_op op_sub (pv 3) (pv 4)))))), ?_⟩
  refine ⟨_, rfl, y, _, _, _, rfl, rfl, tb, rfl, _, rfl, x, _, _, _, rfl, rfl, ta, rfl, _, _, rfl, rfl, _, rfl, z, _, _, _, rfl, rfl, tc, rfl, _, rfl, x, _, _, _, rfl, rfl, ta, rfl, _, _, rfl, rfl, _, _, rfl, rfl, .inr ⟨by omega, by omega⟩, ?_⟩
  refine ⟨_, rfl, y, _, _, _, rfl, rfl, tb, rfl, _, rfl, x, _, _, _, rfl, rfl, ta, rfl, _, _, rfl, rfl, _, rfl, z, _, _, _, rfl, rfl, tc, rfl, _, rfl, x, _, _, _, rfl, rfl, ta, rfl, _, _, rfl, rfl, _, _, rfl, rfl, .inr ⟨by omega, by omega⟩, ?_⟩
  exact ⟨_, rfl, _, rfl, _, _, rfl, rfl, q⟩
theorem ok_turn (F : Fun K "_law_turn" "_law_turn" s__law_turn f fd) : FnOk P w K mg base CX0 1 f fd ["_law_one", "_law_two", "_law_three"] (sp_turn K) := by
  refine F.ok sc__law_turn (fun vs H Q E h => ?_) (fun cdv A outer s H vs Q E hr h => ?_)
  · obtain ⟨x, y, z, a, b, c, rfl, _⟩ := h
    rfl
  obtain ⟨x, y, z, a, b, c, rfl, ⟨ha, ha1, ha2⟩, ⟨hb, hb1, hb2⟩, ⟨hc, hc1, hc2⟩, q⟩ := h
  obtain ⟨x, rfl, ta⟩ := ha.spot
  obtain ⟨y, rfl, tb⟩ := hb.spot
  obtain ⟨z, rfl, tc⟩ := hc.spot
  refine ⟨_, (pss_cons (ps_set (i := 3) sc__law_turn.nd rfl (Or.inl rfl) (pe_tup (pa_cons (pe_op op_sub (pe_ix ix_tup (pv 1) pe_int (fun _ _ => rfl)) (pe_ix ix_tup (pv 0) pe_int (fun _ _ => rfl))) (pa_cons (pe_op op_sub (pe_ix ix_tup (pv 1) pe_int (fun _ _ => rfl)) (pe_ix ix_tup (pv 0) pe_int (fun _ _ => rfl))) pa_nil))))
    (pss_one (ps_ret (pe_op op_sub (pe_op op_mul (pe_ix ix_tup (pv 3) pe_int (fun _ _ => rfl)) (pe_op op_sub (pe_ix ix_tup (pv 2) pe_int (fun _ _ => rfl)) (pe_ix ix_tup (pv 0) pe_int (fun _ _ => rfl)))) (pe_op op_mul (pe_ix ix_tup (pv 3) pe_int (fun _ _ => rfl)) (pe_op op_sub (pe_ix ix_tup (pv 2) pe_int (fun _ _ => rfl)) (pe_ix ix_tup (pv 0) pe_int (fun _ _ => rfl)))))))), ?_⟩
  refine ⟨_, rfl, y, _, _, _, rfl, rfl, tb, rfl, _, rfl, x, _, _, _, rfl, rfl, ta, rfl, _, _, rfl, rfl, _, rfl, y, _, _, _, rfl, rfl, tb, rfl, _, rfl, x, _, _, _, rfl, rfl, ta, rfl, _, _, rfl, rfl, (by show 2 ≤ sizeLine; decide), fun t ht => ?_⟩
  have e := same_new ht (HO.tup [V.int (b.1 - a.1), V.int (b.2 - a.2)])
  have ha' := e.seqT ta
  have hb' := e.seqT tb
  have hc' := e.seqT tc
  refine ⟨_, rfl, t, _, _, _, rfl, rfl, SqT.of upd_same, rfl, _, rfl, z, _, _, _, rfl, rfl, hc', rfl, _, rfl, x, _, _, _, rfl, rfl, ha', rfl, _, _, rfl, rfl, _, _, rfl, rfl, .inr ⟨by omega, by omega⟩, ?_⟩
  refine ⟨_, rfl, t, _, _, _, rfl, rfl, SqT.of upd_same, rfl, _, rfl, z, _, _, _, rfl, rfl, hc', rfl, _, rfl, x, _, _, _, rfl, rfl, ha', rfl, _, _, rfl, rfl, _, _, rfl, rfl, .inr ⟨by omega, by omega⟩, ?_⟩
  exact ⟨_, _, rfl, rfl, q _ e⟩
theorem ok_cell (B : Bl mg) (F : Fun K "_law_cell_at" "_law_cell_at" s__law_cell_at f fd) : FnOk P w K mg base CX0 1 f fd ["_law_script", "_law_k"] (sp_cell K) := by
  refine F.ok sc__law_cell_at (fun vs H Q E h => ?_) (fun cdv A outer s H vs Q E hr h => ?_)
  · obtain ⟨a, ns, k, rfl, _⟩ := h
    rfl
  obtain ⟨a, ns, k, rfl, hS, q⟩ := h
  refine ⟨_, (pss_cons (ps_if (pt_cmpR op_lt (pv 1) (pe_callB call_len_seq (by rfl) B.len PySem.L3.boot_len (pa_cons (pv 0) pa_nil)) (nomark _)) (pss_one (ps_ret (pe_ix ix_list (pv 0) (pv 1) (fun _ _ => rfl)))) pss_nil)
    (pss_one (ps_ret pe_int))), ?_⟩
  refine ⟨_, rfl, _, rfl, a, _, rfl, .inl hS, _, _, rfl, rfl, _, rfl, ite2 (fun c => ?_) (fun c => ?_)⟩
  · have c' : (k : Int) < (((ns.map V.int).length : Nat) : Int) := of_decide_eq_true c
    have hk : k < ns.length := by rw [List.length_map] at c'; omega
    exact ⟨_, rfl, _, rfl, a, _, _, _, rfl, rfl, hS, atI_nat (v := .int ns[k]) (by rw [List.getElem?_map, List.getElem?_eq_getElem hk]; rfl), q _⟩
  · exact q _
def primes : List Int := [1000003, 1000033, 1000037, 1000039, 1000081, 1000099, 1000117, 1000121, 1000133, 1000151, 1000159, 1000171, 1000183, 1000187, 1000193, 1000199]
theorem prime_at (k : Int) : ∃ p, atI (primes.map V.int) (k % 16) = some (.int p) ∧ 0 < p := by
  have h0 := Int.emod_nonneg k (show (16 : Int) ≠ 0 by decide)
  have h1 := Int.emod_lt_of_pos k (show (0 : Int) < 16 by decide)
  obtain ⟨n, hn⟩ : ∃ n : Nat, k % 16 = (n : Int) := ⟨(k % 16).toNat, by omega⟩
  rw [hn]
  have hn16 : n < 16 := by omega
  have all : ∀ i : _root_.Fin 16, ∃ p, primes[i.1]? = some p ∧ 0 < p := by decide +kernel
  obtain ⟨p, e, hp⟩ := all ⟨n, hn16⟩
  refine ⟨p, atI_nat ?_, hp⟩
  rw [List.getElem?_map, e]; rfl
theorem ok_draw (F : Fun K "_law_draw" "_law_draw" s__law_draw f fd) : FnOk P w K mg base CX0 1 f fd ["_law_cell", "_law_k", "_law_many"] sp_draw := by
  refine F.ok sc__law_draw (fun vs H Q E h => ?_) (fun cdv A outer s H vs Q E hr h => ?_)
  · obtain ⟨c, k, m, rfl, _⟩ := h
    rfl
  obtain ⟨c, k, m, rfl, hm, q⟩ := h
  obtain ⟨p, hp, hp0⟩ := prime_at k
  refine ⟨_, (pss_cons (ps_set (i := 3) sc__law_draw.nd rfl (Or.inl rfl) (pe_tup (pa_ints (by rfl))))
    (pss_one (ps_ret (pe_op op_mod (pe_op op_mod (pe_op op_add (pe_op op_mul (pv 0) pe_int) (pe_op op_mul (pv 1) pe_int)) (pe_ix ix_tup (pv 3) (pe_op op_mod (pv 1) pe_int) (fun _ _ => rfl))) (pv 2))))), ?_⟩
  refine ⟨(by show 16 ≤ sizeLine; decide), fun t ht => ?_⟩
  refine ⟨_, rfl, _, _, rfl, rfl, .inr ⟨by omega, by omega⟩, _, rfl, _, _, rfl, rfl, .inr ⟨by omega, by omega⟩, _, _, rfl, rfl, ?_⟩
  refine ⟨_, rfl, _, rfl, _, _, rfl, rfl, by omega, t, _, _, _, rfl, rfl, SqT.of upd_same, hp, _, _, rfl, rfl, hp0, _, rfl, _, _, rfl, rfl, hm, ?_⟩
  exact q _ _ (Int.emod_nonneg _ (by omega)) (Int.emod_lt_of_pos _ hm) (same_new ht _)
theorem ok_spot (C__law_draw : Cal P w K mg base 1 "_law_draw" sp_draw) (F : Fun K "_law_spot" "_law_spot" s__law_spot f fd) : FnOk P w K mg base CX0 2 f fd ["_law_cell", "_law_most", "_law_line"] (sp_spot K) := by
  refine F.ok sc__law_spot (fun vs H Q E h => ?_) (fun cdv A outer s H vs Q E hr h => ?_)
  · obtain ⟨c, m, l, rfl, _⟩ := h
    rfl
  obtain ⟨c, m, l, rfl, m1, m2, q⟩ := h
  refine ⟨_, (pss_cons (ps_set (i := 3) sc__law_spot.nd rfl (Or.inl rfl) (pe_op op_sub (pe_c C__law_draw (hr.mono (by decide)) (by rfl) (pa_cons (pv 0) (pa_cons pe_int (pa_cons (pe_op op_add (pe_op op_mul pe_int (pv 1)) pe_int) pa_nil)))) (pv 1)))
    (pss_cons (ps_set (i := 4) sc__law_spot.nd rfl (Or.inl rfl) (pe_op op_sub (pe_c C__law_draw (hr.mono (by decide)) (by rfl) (pa_cons (pe_op op_fdiv (pv 0) pe_int) (pa_cons pe_int (pa_cons (pe_op op_add (pe_op op_mul pe_int (pv 1)) pe_int) pa_nil)))) (pv 1)))
    (pss_cons (ps_if (pt_cmpR op_eq (pv 2) pe_int (nomark _)) (pss_one (ps_ret (pe_tup (pa_cons (pv 3) (pa_cons (pe_un un_neg (pv 3)) pa_nil))))) pss_nil)
    (pss_cons (ps_if (pt_cmpR op_eq (pv 2) pe_int (nomark _)) (pss_one (ps_ret (pe_tup (pa_cons (pe_op op_mod (pv 3) pe_int) (pa_cons (pe_op op_add (pe_op op_mul (pe_op op_mod (pv 3) pe_int) pe_int) pe_int) pa_nil))))) pss_nil)
    (pss_one (ps_ret (pe_tup (pa_cons (pv 3) (pa_cons (pv 4) pa_nil))))))))), ?_⟩
  refine ⟨_, rfl, _, rfl, _, _, rfl, rfl, .inr ⟨by omega, by omega⟩, _, _, rfl, rfl, c, 1, 2 * m + 1, rfl, by omega, fun r H1 r0 r1 e1 => ?_⟩
  refine ⟨_, rfl, _, _, rfl, rfl, ?_⟩
  refine ⟨_, rfl, _, _, rfl, rfl, ⟨by decide, by decide⟩, _, rfl, _, _, rfl, rfl, .inr ⟨by omega, by omega⟩, _, _, rfl, rfl, c / 3, 2, 2 * m + 1, rfl, by omega, fun r2 H2 p0 p1 e2 => ?_⟩
  refine ⟨_, rfl, _, _, rfl, rfl, ?_⟩
  refine ⟨_, rfl, rfl, _, rfl, ite2 (fun _ => ?_) (fun _ => ?_)⟩
  · refine ⟨_, rfl, _, rfl, _, rfl, (by show 2 ≤ sizeLine; decide), fun t ht => ?_⟩
    exact q _ _ (r - m, -(r - m)) ((e1.trans e2).trans (same_new ht _)) ⟨dn_spot (SqT.of upd_same), ⟨by show -1000 ≤ r - m; omega, by show r - m ≤ 1000; omega⟩, by show -1000 ≤ -(r - m); omega, by show -(r - m) ≤ 1000; omega⟩
  · refine ⟨_, rfl, rfl, _, rfl, ite2 (fun _ => ?_) (fun _ => ?_)⟩
    · have h0 := Int.emod_nonneg (r - m) (show (3 : Int) ≠ 0 by decide)
      have h1 := Int.emod_lt_of_pos (r - m) (show (0 : Int) < 3 by decide)
      refine ⟨_, rfl, _, _, rfl, rfl, (show (0 : Int) < 3 by decide), _, rfl, _, _, rfl, rfl, (show (0 : Int) < 3 by decide), _, _, rfl, rfl, .inr ⟨by omega, by omega⟩, _, _, rfl, rfl, (by show 2 ≤ sizeLine; decide), fun t ht => ?_⟩
      exact q _ _ ((r - m) % 3, (r - m) % 3 * 2 + 1) ((e1.trans e2).trans (same_new ht _)) ⟨dn_spot (SqT.of upd_same), ⟨by show -1000 ≤ (r - m) % 3; omega, by show (r - m) % 3 ≤ 1000; omega⟩, by show -1000 ≤ (r - m) % 3 * 2 + 1; omega, by show (r - m) % 3 * 2 + 1 ≤ 1000; omega⟩
    · refine ⟨_, rfl, _, rfl, (by show 2 ≤ sizeLine; decide), fun t ht => ?_⟩
      exact q _ _ (r - m, r2 - m) ((e1.trans e2).trans (same_new ht _)) ⟨dn_spot (SqT.of upd_same), ⟨by show -1000 ≤ r - m; omega, by show r - m ≤ 1000; omega⟩, by show -1000 ≤ r2 - m; omega, by show r2 - m ≤ 1000; omega⟩
theorem Dns.split {K : PySem.W.Frag} {H : Hp} : ∀ {ds es : List PyData} {zs : List V}, Dns K H (ds ++ es) zs → ∃ ys ws, zs = ys ++ ws ∧ Dns K H ds ys ∧ Dns K H es ws
  | [], es, zs, h => ⟨[], zs, rfl, dns_nil, h⟩
  | d :: ds, es, zs, h => by
    obtain ⟨x, r, rfl, h1, h2⟩ := L2.Dns.cons h
    obtain ⟨ys, ws, rfl, h3, h4⟩ := Dns.split h2
    exact ⟨x :: ys, ws, rfl, dns_cons h1 h3, h4⟩
theorem fold_mem : ∀ (row st : List Hull.P) (p : Hull.P), p ∈ row.foldl push st → p ∈ st ∨ p ∈ row
  | [], st, p, h => .inl h
  | t :: row, st, p, h => by
    rcases fold_mem row (push st t) p h with g | g
    · unfold push at g
      rcases List.mem_cons.mp g with e | e
      · exact .inr (e ▸ List.mem_cons_self)
      · obtain ⟨l, hl⟩ := pops_suffix t st
        exact .inl (by rw [hl]; exact List.mem_append_right _ e)
    · exact .inr (List.mem_cons_of_mem _ g)
theorem fold_len : ∀ (row st : List Hull.P), (row.foldl push st).length ≤ st.length + row.length
  | [], st => Nat.le_refl _
  | t :: row, st => by
    have h1 := fold_len row (push st t)
    have h2 : (push st t).length ≤ st.length + 1 := by
      obtain ⟨l, hl⟩ := pops_suffix t st
      have := congrArg List.length hl
      rw [List.length_append] at this
      show (pops t st).length + 1 ≤ _
      omega
    show (row.foldl push (push st t)).length ≤ st.length + (row.length + 1)
    omega
theorem atI_last2 {α : Type} (xs : List α) (u v : α) : atI (xs ++ [u] ++ [v]) (-2) = some u := by
  have hl : (xs ++ [u] ++ [v]).length = xs.length + 2 := by simp
  have e : ixN (xs ++ [u] ++ [v]).length (-2) = some xs.length := by
    unfold ixN
    rw [hl]
    rw [if_neg (by omega), if_pos (by omega)]
    congr 1; omega
  unfold atI
  rw [e]
  simp
theorem ok_chain (B : Bl mg) (C_leftness : Cal P w K mg base 1 "leftness" (sp_left K)) (F : Fun K "left_chain" "left_chain" s_left_chain f fd) : FnOk P w K mg base CX0 2 f fd ["row"] (sp_chain K) := by
  refine F.ok sc_left_chain (fun vs H Q E h => ?_) (fun cdv A outer s H vs Q E hr h => ?_)
  · obtain ⟨r, xs, row, rfl, _⟩ := h
    rfl
  obtain ⟨r, xs, row, rfl, hr1, hd, hb, h8, q⟩ := h
  refine ⟨_, (pss_cons (ps_set (i := 1) sc_left_chain.nd rfl (Or.inl rfl) (pe_lst pa_nil))
    (pss_cons (ps_for PassesOwn.never rfl (pi_list (pv 0)) (pg_name (i := 2) sc_left_chain.nd rfl (Or.inl rfl)) (pss_cons (ps_while PassesOwn.never (PW.pt (pw_and (pt_cmpR op_gt (pe_callB call_len_seq (by rfl) B.len PySem.L3.boot_len (pa_cons (pv 1) pa_nil)) pe_int (nomark _)) (pw_and1 (pt_cmpR op_le (pe_c C_leftness (hr.mono (by decide)) (by rfl) (pa_cons (pe_ix ix_list (pv 1) (pe_un un_neg pe_int) (fun _ _ => rfl)) (pa_cons (pe_ix ix_list (pv 1) (pe_un un_neg pe_int) (fun _ _ => rfl)) (pa_cons (pv 2) pa_nil)))) pe_int (nomark _))))) (pss_one (ps_expr (pe_bm0 PySem.F.plainAttrs_list PySem.F.slot_list_pop PySem.F.type_list_pop mt_pop (pv 1)))))
    (pss_one (ps_expr (pe_bm PySem.F.plainAttrs_list PySem.F.slot_list_append PySem.F.type_list_append mt_append (pv 1) (pa_cons (pv 2) pa_nil))))))
    (pss_one (ps_ret (pv 1))))), ?_⟩
  refine ⟨Nat.zero_le _, fun l hl => ?_⟩
  have hrl : SqL K (upd H l (.lst [])) r xs := (same_new hl _).seq hr1
  refine ⟨_, rfl, r, rfl, ⟨xs, hrl⟩, ?_⟩
  refine for_list (xs := xs) (fun i σ' H' => ∃ zs o, σ' = [some (.ref r), some (.ref l), o] ∧ H' = upd H l (.lst zs) ∧ Dns K H (((row.take i).foldl push []).reverse.map spotD) zs) ⟨[], _, rfl, rfl, dns_nil⟩ (fun i σ' H' _ p => ?_) ?_ ?_
  · obtain ⟨zs, o, rfl, rfl, _⟩ := p
    exact (same_new hl _).seq hr1
  · rintro i x σ' H' hx ⟨zs0, o, rfl, rfl, dz0⟩
    obtain ⟨d, hd1, hd2⟩ := hd.get' hx
    rw [List.getElem?_map] at hd1
    obtain ⟨t, ht, rfl⟩ := Option.map_eq_some_iff.mp hd1
    have htr : t ∈ row := List.mem_of_getElem? ht
    have hi : i < row.length := (List.getElem?_eq_some_iff.mp ht).1
    refine ⟨fun m σ' H' => ∃ zs st, σ' = [some (.ref r), some (.ref l), some x] ∧ H' = upd H l (.lst zs) ∧ Dns K H (st.reverse.map spotD) zs ∧ pops t st = pops t ((row.take i).foldl push []) ∧ (∀ p ∈ st, p ∈ row) ∧ st.length ≤ 8 ∧ m = st.length,
      ⟨_, zs0, (row.take i).foldl push [], rfl, rfl, dz0, rfl, fun p hp => ?_, ?_, rfl⟩, ?_⟩
    · rcases fold_mem _ _ p hp with g | g
      · cases g
      · exact List.mem_of_mem_take g
    · have h1 := fold_len (row.take i) []
      rw [List.length_take] at h1
      simp only [List.length_nil] at h1
      omega
    · rintro m σ' H' ⟨zs, st, rfl, rfl, dz, hpp, hmem, hs8, rfl⟩
      have hlen : zs.length = st.length := by have := dz.length; simpa using this
      -- the end of the while: t is put on top
      have fin : pops t st = st → zs.length < sizeLine ∧ ∃ zs' o', [some (V.ref r), some (V.ref l), some x] = [some (.ref r), some (.ref l), o'] ∧ upd (upd H l (.lst zs)) l (.lst (zs ++ [x])) = upd H l (.lst zs') ∧ Dns K H (((row.take (i + 1)).foldl push []).reverse.map spotD) zs' := fun e => by
        refine ⟨by rw [sizeLine_eq]; omega, zs ++ [x], _, rfl, upd_upd, ?_⟩
        have e1 : (row.take (i + 1)).foldl push [] = t :: st := by
          rw [List.take_add_one, ht, List.foldl_append]
          show t :: pops t ((row.take i).foldl push []) = _
          rw [← hpp, e]
        rw [e1, List.reverse_cons, List.map_append]
        exact dz.append (dns_cons hd2 dns_nil)
      refine ⟨_, rfl, l, zs, rfl, .inl (SqL.of upd_same), _, _, rfl, rfl, _, rfl, ite2 (fun c0 => ?_) (fun c0 => ?_)⟩
      · have c1 : (1 : Int) < ((zs.length : Nat) : Int) := of_decide_eq_true c0
        obtain ⟨b, a, r', rfl⟩ : ∃ b a r', st = b :: a :: r' := by
          match st, hlen with
          | [], hlen => rw [hlen] at c1; simp at c1
          | [_], hlen => rw [hlen] at c1; simp at c1
          | b :: a :: r', _ => exact ⟨b, a, r', rfl⟩
        have er : (b :: a :: r').reverse.map spotD = (r'.reverse.map spotD ++ [spotD a]) ++ [spotD b] := by simp
        rw [er] at dz
        obtain ⟨ys, wb, rfl, d1, d2⟩ := Dns.split dz
        obtain ⟨vb, w1, rfl, db, d3⟩ := L2.Dns.cons d2
        obtain rfl := d3.nil
        obtain ⟨ys', wa, rfl, d4, d5⟩ := Dns.split d1
        obtain ⟨va, w2, rfl, da, d6⟩ := L2.Dns.cons d5
        obtain rfl := d6.nil
        have sm := same_new hl (HO.lst (ys' ++ [va] ++ [vb]))
        refine ⟨_, rfl, _, rfl, l, _, _, va, rfl, rfl, SqL.of upd_same, atI_last2 ys' va vb, _, rfl, _, rfl, l, _, _, vb, rfl, rfl, SqL.of upd_same, atI_last (ys' ++ [va]) vb, _, rfl, va, vb, x, a, b, t, rfl, ⟨sm.dn da, hb a (hmem a (by simp))⟩, ⟨sm.dn db, hb b (hmem b (by simp))⟩, ⟨sm.dn hd2, hb t htr⟩, _, _, rfl, rfl, _, rfl, ite2 (fun c2 => ?_) (fun c2 => ?_)⟩
        · have c3 : turn a b t ≤ 0 := of_decide_eq_true c2
          refine ⟨fun σ' H' => σ' = [some (.ref r), some (.ref l), some x] ∧ H' = upd H l (.lst (ys' ++ [va])), ?_, ?_⟩
          · rintro σ'' H'' ⟨rfl, rfl⟩
            refine ⟨(a :: r').length, by simp, ys' ++ [va], a :: r', rfl, rfl, ?_, ?_, fun p hp => hmem p (List.mem_cons_of_mem _ hp), by simp at hs8 ⊢; omega, rfl⟩
            · have : (a :: r').reverse.map spotD = r'.reverse.map spotD ++ [spotD a] := by simp
              rw [this]; exact d4.append (dns_cons da dns_nil)
            · rw [← hpp]
              conv => rhs; unfold pops
              rw [if_pos c3]
          · refine ⟨_, rfl, .inl ⟨rfl, _, SqL.of upd_same⟩, l, _, vb, rfl, rfl, upd_same, by simp, ?_⟩
            exact ⟨rfl, by rw [upd_upd, List.dropLast_concat]⟩
        · have c3 : ¬ turn a b t ≤ 0 := of_decide_eq_false (Bool.eq_false_iff.mpr c2)
          obtain ⟨z1, z2⟩ := fin (by unfold pops; rw [if_neg c3])
          exact ⟨_, rfl, .inl ⟨rfl, _, SqL.of upd_same⟩, _, rfl, l, _, x, rfl, rfl, upd_same, z1, z2⟩
      · have c1 : ¬ (1 : Int) < ((zs.length : Nat) : Int) := of_decide_eq_false (Bool.eq_false_iff.mpr c0)
        obtain ⟨z1, z2⟩ := fin (by
          match st, hlen with
          | [], _ => rfl
          | [_], _ => rfl
          | b :: a :: r', hlen => rw [hlen] at c1; simp at c1; omega)
        exact ⟨_, rfl, .inl ⟨rfl, _, SqL.of upd_same⟩, _, rfl, l, _, x, rfl, rfl, upd_same, z1, z2⟩
  · rintro σ' H' ⟨zs, o, rfl, rfl, dz⟩
    have hxl : xs.length = row.length := by have := hd.length; simpa using this
    rw [hxl, List.take_length] at dz
    exact ⟨_, rfl, q l zs hl dz⟩
theorem most_at (r : Int) (h0 : 0 ≤ r) (h1 : r < 4) : ∃ b : Int, atI [V.int 2, V.int 4, V.int 9, V.int 1000] r = some (.int b) ∧ 1 ≤ b ∧ b ≤ 1000 := by
  obtain ⟨n, rfl⟩ : ∃ n : Nat, r = (n : Int) := ⟨r.toNat, by omega⟩
  have hn : n < 4 := by omega
  match n, hn with
  | 0, _ => exact ⟨2, rfl, by decide, by decide⟩
  | 1, _ => exact ⟨4, rfl, by decide, by decide⟩
  | 2, _ => exact ⟨9, rfl, by decide, by decide⟩
  | 3, _ => exact ⟨1000, rfl, by decide, by decide⟩
theorem line_at (r : Int) (h0 : 0 ≤ r) (h1 : r < 6) : ∃ b : Int, atI [V.int 0, V.int 0, V.int 0, V.int 0, V.int 1, V.int 2] r = some (.int b) := by
  obtain ⟨n, rfl⟩ : ∃ n : Nat, r = (n : Int) := ⟨r.toNat, by omega⟩
  have hn : n < 6 := by omega
  match n, hn with
  | 0, _ => exact ⟨0, rfl⟩
  | 1, _ => exact ⟨0, rfl⟩
  | 2, _ => exact ⟨0, rfl⟩
  | 3, _ => exact ⟨0, rfl⟩
  | 4, _ => exact ⟨1, rfl⟩
  | 5, _ => exact ⟨2, rfl⟩
theorem spot_upd {H : Hp} {l : Addr} {zs : List V} {o : HO} (hl : H l = some (.lst zs)) {p : Hull.P} {v : V} (h : Dn K H (spotD p) v) : Dn K (upd H l o) (spotD p) v := by
  obtain ⟨a, rfl, h1⟩ := h.spot
  refine dn_spot ?_
  rcases h1 with (h1 | ⟨ob, h1⟩) | h1
  · exact .inl (.inl (by rw [upd_ne (by rintro rfl; rw [hl] at h1; cases h1)]; exact h1))
  · exact .inl (.inr ⟨ob, by rw [upd_ne (by rintro rfl; rw [hl] at h1; cases h1)]; exact h1⟩)
  · exact .inr h1
theorem spots_upd {H : Hp} {l : Addr} {zs : List V} {o : HO} (hl : H l = some (.lst zs)) : ∀ {ps : List Hull.P} {ys : List V}, Dns K H (ps.map spotD) ys → Dns K (upd H l o) (ps.map spotD) ys
  | [], _, h => by rw [L2.Dns.nil h]; exact dns_nil
  | p :: ps, _, h => by
    obtain ⟨x, r, rfl, h1, h2⟩ := L2.Dns.cons h
    exact dns_cons (spot_upd hl h1) (spots_upd hl h2)
theorem same_upd {H H' : Hp} {l : Addr} {o : HO} (h : H l = none) (e : Same H H') : Same H (upd H' l o) := fun b u q => by
  rw [upd_ne (ne_of_none q h)]; exact e b u q
theorem ok_herd (B : Bl mg) (C__law_draw : Cal P w K mg base 1 "_law_draw" sp_draw) (C__law_spot : Cal P w K mg base 2 "_law_spot" (sp_spot K)) (F : Fun K "_law_herd" "_law_herd" s__law_herd f fd) : FnOk P w K mg base CX0 3 f fd ["_law_cell", "_law_most_spots"] (sp_herd K) := by
  refine F.ok sc__law_herd (fun vs H Q E h => ?_) (fun cdv A outer s H vs Q E hr h => ?_)
  · obtain ⟨c, rfl, _⟩ := h
    rfl
  obtain ⟨c, rfl, q⟩ := h
  refine ⟨_, (pss_cons (ps_set (i := 2) sc__law_herd.nd rfl (Or.inl rfl) (pe_op op_add pe_int (pe_c C__law_draw (hr.mono (by decide)) (by rfl) (pa_cons (pv 0) (pa_cons pe_int (pa_cons (pv 1) pa_nil))))))
    (pss_cons (ps_set (i := 3) sc__law_herd.nd rfl (Or.inl rfl) (pe_ix ix_tup (pe_tup (pa_ints (by rfl))) (pe_c C__law_draw (hr.mono (by decide)) (by rfl) (pa_cons (pv 0) (pa_cons pe_int (pa_cons pe_int pa_nil)))) (fun _ _ => rfl)))
    (pss_cons (ps_set (i := 4) sc__law_herd.nd rfl (Or.inl rfl) (pe_ix ix_tup (pe_tup (pa_ints (by rfl))) (pe_c C__law_draw (hr.mono (by decide)) (by rfl) (pa_cons (pv 0) (pa_cons pe_int (pa_cons pe_int pa_nil)))) (fun _ _ => rfl)))
    (pss_cons (ps_set (i := 5) sc__law_herd.nd rfl (Or.inl rfl) (pe_lst pa_nil))
    (pss_cons (ps_for PassesOwn.never rfl (pi_range1 (by rfl) B.range (pa_cons (pv 2) pa_nil)) (pg_name (i := 6) sc__law_herd.nd rfl (Or.inl rfl)) (pss_one (ps_expr (pe_bm PySem.F.plainAttrs_list PySem.F.slot_list_append PySem.F.type_list_append mt_append (pv 5) (pa_cons (pe_c C__law_spot (hr.mono (by decide)) (by rfl) (pa_cons (pe_op op_mul (pe_op op_add (pv 0) (pe_op op_mul pe_int (pv 6))) (pe_op op_add (pv 6) pe_int)) (pa_cons (pv 3) (pa_cons (pv 4) pa_nil)))) pa_nil)))))
    (pss_cons (ps_if (PW.pt (pw_and (pt_cmpR op_gt (pv 2) pe_int (nomark _)) (pw_and1 (pt_cmpR op_eq (pe_c C__law_draw (hr.mono (by decide)) (by rfl) (pa_cons (pv 0) (pa_cons pe_int (pa_cons pe_int pa_nil)))) pe_int (nomark _))))) (pss_one (ps_asg (pe_ix ix_list (pv 5) pe_int (fun _ _ => rfl)) (pg_sub (pv 5) (pe_op op_sub (pv 2) pe_int) set_list))) pss_nil)
    (pss_one (ps_ret (pv 5))))))))), ?_⟩
  refine ⟨_, rfl, _, rfl, c, 3, 8, rfl, by decide, fun r H1 r0 r1 e1 => ?_⟩
  refine ⟨_, _, rfl, rfl, ?_⟩
  refine ⟨(by show 4 ≤ sizeLine; decide), fun t1 ht1 => ?_⟩
  refine ⟨_, rfl, c, 4, 4, rfl, by decide, fun r2 H2 p0 p1 e2 => ?_⟩
  obtain ⟨m, hm, m1, m2⟩ := most_at r2 p0 p1
  refine ⟨t1, _, _, _, rfl, rfl, SqT.of (e2 _ _ upd_same), hm, ?_⟩
  refine ⟨(by show 6 ≤ sizeLine; decide), fun t2 ht2 => ?_⟩
  refine ⟨_, rfl, c, 5, 6, rfl, by decide, fun r3 H3 s0 s1 e3 => ?_⟩
  obtain ⟨ln, hln⟩ := line_at r3 s0 s1
  refine ⟨t2, _, _, _, rfl, rfl, SqT.of (e3 _ _ upd_same), hln, ?_⟩
  have g3 : Same H H3 := (e1.trans (same_new ht1 _)).trans (e2.trans ((same_new ht2 _).trans e3))
  refine ⟨Nat.zero_le _, fun l hl => ?_⟩
  have hl0 : H l = none := g3.free hl
  refine ⟨_, rfl, _, rfl, by omega, by omega, ?_⟩
  refine for_range (fun i σ' H' => ∃ ck ys ps, σ' = [some (.int c), some (.int 8), some (.int (1 + r)), some (.int m), some (.int ln), some (.ref l), ck] ∧ Same H H' ∧ H' l = some (.lst ys) ∧ Dns K H' (List.map spotD ps) ys ∧ (∀ p ∈ ps, Bd p) ∧ ps.length = i)
    ⟨_, [], [], rfl, g3.trans (same_new hl _), upd_same, dns_nil, (fun _ h => absurd h (List.not_mem_nil)), rfl⟩ ?_ ?_
  · rintro i σ' H4 hi ⟨ck, ys, ps, rfl, e4, h4, d4, b4, l4⟩
    refine ⟨_, rfl, .inl ⟨rfl, _, SqL.of h4⟩, _, rfl, _, rfl, _, _, rfl, rfl, .inl ⟨by omega, by omega⟩, _, _, rfl, rfl, _, rfl, _, _, rfl, rfl, _, _, rfl, rfl, .inr ⟨by omega, by omega⟩, _, rfl, _, rfl, _, m, ln, rfl, m1, m2, fun v H5 p e5 sp5 => ?_⟩
    have h5 := e5 _ _ h4
    have hz : ys.length = i := by have := d4.length; rw [List.length_map] at this; omega
    refine ⟨l, ys, v, rfl, rfl, h5, by rw [sizeLine_eq]; omega, ?_⟩
    refine ⟨_, ys ++ [v], ps ++ [p], rfl, same_upd hl0 (e4.trans e5), upd_same, ?_, fun p' hp' => ?_, by rw [List.length_append, l4]; rfl⟩
    · rw [List.map_append]
      exact (spots_upd h5 (e5.dns d4)).append (dns_cons (spot_upd h5 sp5.1) dns_nil)
    · rcases List.mem_append.mp hp' with g | g
      · exact b4 p' g
      · rw [List.mem_singleton.mp g]; exact sp5.2
  · rintro σ' H4 ⟨ck, ys, ps, rfl, e4, h4, d4, b4, l4⟩
    have lps : ps.length = (1 + r).toNat := l4
    have hz : ys.length = ps.length := by have := d4.length; rwa [List.length_map] at this
    have out : ∀ H', Same H H' → ∀ zs rs, H' l = some (.lst zs) → Dns K H' (List.map spotD rs) zs → (∀ p ∈ rs, Bd p) → rs.length = ps.length → Q (.ref l) H' := fun H' e zs rs h d b g => q l zs rs H' e hl0 h d b (by omega) (by omega)
    refine ⟨_, rfl, _, _, rfl, rfl, _, rfl, ite2 (fun c0 => ?_) (fun c0 => ?_)⟩
    · have c1 : (2 : Int) < 1 + r := of_decide_eq_true c0
      refine ⟨_, rfl, c, 6, 4, rfl, by decide, fun r6 H5 u0 u1 e5 => ?_⟩
      refine ⟨rfl, _, rfl, ite2 (fun _ => ?_) (fun _ => ?_)⟩
      · have h5 := e5 _ _ h4
        have hp0 : 0 < ps.length := by omega
        obtain ⟨v0, a1, a2⟩ := d4.get (i := 0) (d := spotD ps[0]) (by simp [hp0])
        have hj : ixN ys.length (1 + r - 1) = some (1 + r - 1).toNat := by
          unfold ixN; rw [if_pos (by omega), if_pos (by omega)]
        refine ⟨_, rfl, l, ys, 0, v0, rfl, rfl, SqL.of h5, atI_nat (j := 0) a1, ?_⟩
        refine ⟨_, rfl, _, rfl, _, _, rfl, rfl, l, ys, _, _, rfl, rfl, h5, hj, ?_⟩
        refine ⟨_, rfl, out _ (same_upd hl0 (e4.trans e5)) _ (ps.set (1 + r - 1).toNat ps[0]) upd_same ?_ (fun p hp => ?_) (by simp)⟩
        · have := (spots_upd (o := HO.lst (ys.set (1 + r - 1).toNat v0)) h5 (e5.dns d4)).set (spot_upd h5 (e5.dn a2)) (1 + r - 1).toNat
          rw [← List.map_set] at this
          exact this
        · rcases List.mem_or_eq_of_mem_set hp with g | g
          · exact b4 p g
          · rw [g]; exact b4 _ (List.getElem_mem hp0)
      · exact ⟨_, rfl, out _ (e4.trans e5) _ _ (e5 _ _ h4) (e5.dns d4) b4 rfl⟩
    · refine ite2 (fun h => by cases h) (fun _ => ?_)
      exact ⟨_, rfl, out _ e4 _ _ h4 d4 b4 rfl⟩
theorem ok_num (B : Bl mg) (F : Fun K "is_number" "is_number" s_is_number f fd) : FnOk P w K mg base CX0 1 f fd ["value"] sp_num := by
  refine F.ok sc_is_number (fun vs H Q E h => ?_) (fun cdv A outer s H vs Q E hr h => ?_)
  · obtain ⟨i, rfl, _⟩ := h
    rfl
  obtain ⟨i, rfl, q⟩ := h
  refine ⟨_, (pss_one (ps_ret (pe_and (pe_callB call_isinstance (by rfl) B.isinstance PySem.L3.boot_isinstance (pa_cons (pv 0) (pa_cons (pe_bltn (v := .ty "int") (by rfl) B.int PySem.L3.boot_int rfl) pa_nil))) (pe_one (pe_not (pe_callB call_isinstance (by rfl) B.isinstance PySem.L3.boot_isinstance (pa_cons (pv 0) (pa_cons (pe_bltn (v := .ty "bool") (by rfl) B.bool PySem.L3.boot_bool rfl) pa_nil)))))))), ?_⟩
  refine ⟨_, rfl, _, "int", _, true, rfl, .int i, rfl, ?_⟩
  refine ⟨true, rfl, ?_⟩
  refine ite2 (fun _ => ?_) (fun h => absurd rfl h)
  exact ⟨_, rfl, _, "bool", _, false, rfl, .int i, rfl, _, rfl, q⟩
theorem ok_check (C_is_herd : Cal P w K mg base 3 "is_herd" (sp_isherd K)) (F : Fun K "check_herd" "check_herd" s_check_herd f fd) : FnOk P w K mg base CX0 4 f fd ["herd"] (sp_check K) := by
  refine F.ok sc_check_herd (fun vs H Q E h => ?_) (fun cdv A outer s H vs Q E hr h => ?_)
  · obtain ⟨o, ys, ps, rfl, _⟩ := h
    rfl
  obtain ⟨o, ys, ps, rfl, h1, h2, h3, h4, h5, q⟩ := h
  refine ⟨_, (pss_one (ps_if (pt_not (pt_val (pe_c C_is_herd (hr.mono (by decide)) (by rfl) (pa_cons (pv 0) pa_nil)))) (pss_one ps_never) pss_nil)), ?_⟩
  refine ⟨_, rfl, o, ys, ps, rfl, h1, h2, h3, h4, h5, fun H' e => ?_⟩
  exact ⟨_, rfl, ite2 (fun c => by cases c) fun _ => q _ e⟩
theorem ok_pair (B : Bl mg) (C_is_number : Cal P w K mg base 1 "is_number" sp_num) (F : Fun K "is_pair" "is_pair" s_is_pair f fd) : FnOk P w K mg base CX0 2 f fd ["value"] (sp_pair K) := by
  refine F.ok sc_is_pair (fun vs H Q E h => ?_) (fun cdv A outer s H vs Q E hr h => ?_)
  · obtain ⟨x, p, rfl, _⟩ := h
    rfl
  obtain ⟨x, p, rfl, ⟨hx, ⟨b1, b2⟩, b3, b4⟩, q⟩ := h
  obtain ⟨t, rfl, ht⟩ := hx.spot
  refine ⟨_, (pss_cons (ps_if (PW.pt (pw_or (pt_not (pt_val (pe_callB call_isSeq (by rfl) B.isinstance PySem.L3.boot_isinstance (pa_cons (pv 0) (pa_cons (pe_bltn (v := .ty "tuple") (by rfl) B.tuple PySem.L3.boot_tuple rfl) pa_nil))))) (pw_or1 (pt_cmpR op_ne (pe_callB call_len_seq (by rfl) B.len PySem.L3.boot_len (pa_cons (pv 0) pa_nil)) pe_int (nomark _))))) (pss_one (ps_ret pe_bl)) pss_nil)
    (pss_one (ps_ret (pe_callB (call_all rfl) (by rfl) B.all PySem.L3.boot_all (pa_cons (pe_comp (Nc := ["part"]) (fi := [none]) (comp_sc rfl rfl rfl) rfl (comp_from_go rfl) (pi_tup (pv 0)) (fun _ _ _ _ => ⟨(pg_name (i := 0) (show (["part"] : List Str).Nodup by decide +kernel) rfl (Or.inl rfl)), pf_nil, (pe_and (pe_c C_is_number (hr.mono (by decide)) (by rfl) (pa_cons (pv 0) pa_nil)) (pe_one (pe_chain op_le op_le (pe_un un_neg (pe_glob (v := .int 1000) (by rfl) B.g_BOUND.choose_spec ⟨_, rfl⟩)) (pv 0) (pe_glob (v := .int 1000) (by rfl) B.g_BOUND.choose_spec ⟨_, rfl⟩))))⟩)) pa_nil))))), ?_⟩
  refine ⟨_, rfl, t, _, "tuple", true, rfl, .inl ⟨ht, rfl⟩, _, rfl, ?_⟩
  refine iteF ⟨_, rfl, t, _, rfl, .inr ht, rfl, _, rfl, ?_⟩
  refine iteF ?_
  refine ⟨_, rfl, t, rfl, ⟨_, ht⟩, fun _ _ _ _ l hl => ?_⟩
  refine comp_by 2 (by show 2 ≤ sizeLine; decide) (fun i ys σ' Hc => Same H Hc ∧ Hc l = some (.lst ys) ∧ ys = List.replicate i (V.bl true) ∧ σ'.length = 1) ?_ (fun i ys σ' Hc ⟨_, e, y, _⟩ => ⟨e, by rw [y]; simp⟩) ?_ ?_
  · exact ⟨same_new hl _, upd_same, rfl, rfl⟩
  · rintro i ys σ' Hc hi ⟨e, el, rfl, hσ⟩
    have ht' := e.seqT ht
    refine ⟨⟨_, if i = 0 then .int p.1 else .int p.2, ht', by match i, hi with | 0, _ => rfl | 1, _ => rfl⟩, fun x H' y Kt Kf k1 _ => ?_⟩
    obtain ⟨rfl, hx⟩ := y
    have hx' := hx _ ht'
    obtain ⟨z, rfl, z1, z2⟩ : ∃ z : Int, x = .int z ∧ -1000 ≤ z ∧ z ≤ 1000 := by
      match i, hi, hx' with
      | 0, _, h => exact ⟨p.1, (Option.some.inj h).symm, b1, b2⟩
      | 1, _, h => exact ⟨p.2, (Option.some.inj h).symm, b3, b4⟩
    match σ', hσ with
    | [o], _ =>
      simp only [gName, tYes, ↓reduceIte]
      refine ⟨_, rfl, z, rfl, true, rfl, iteT ?_⟩
      refine ⟨_, rfl, _, rfl, _, _, rfl, rfl, _, rfl, ite2 (fun _ => ?_) (fun h => absurd (decide_eq_true (show (-1000 : Int) ≤ z by omega)) h)⟩
      refine ⟨_, _, rfl, rfl, ?_⟩
      have hz : decide (z ≤ 1000) = true := decide_eq_true z2
      show Kt _ (.bl (decide (z ≤ 1000))) _
      rw [hz]
      refine k1 _ _ _ el ⟨fun b o h => ?_, upd_same, by rw [List.replicate_succ'], rfl⟩
      rw [upd_ne (ne_of_none h hl)]; exact e _ _ h
  · rintro ys σ' Hc ⟨e, el, rfl, _⟩
    exact ⟨⟨_, e.seqT ht, Nat.le_refl _⟩, l, [true, true], rfl, SqL.of el, q _ e⟩
theorem ok_isherd (B : Bl mg) (C_is_pair : Cal P w K mg base 2 "is_pair" (sp_pair K)) (F : Fun K "is_herd" "is_herd" s_is_herd f fd) : FnOk P w K mg base CX0 3 f fd ["value"] (sp_isherd K) := by
  refine F.ok sc_is_herd (fun vs H Q E h => ?_) (fun cdv A outer s H vs Q E hr h => ?_)
  · obtain ⟨o, ys, ps, rfl, _⟩ := h
    rfl
  obtain ⟨o, ys, ps, rfl, ho, hd, hb, l1, l2, q⟩ := h
  have hz : ys.length = ps.length := by have := hd.length; rwa [List.length_map] at this
  refine ⟨_, (pss_cons (ps_if (PW.pt (pw_or (pt_not (pt_val (pe_callB call_isSeq (by rfl) B.isinstance PySem.L3.boot_isinstance (pa_cons (pv 0) (pa_cons (pe_bltn (v := .ty "list") (by rfl) B.list PySem.L3.boot_list rfl) pa_nil))))) (pw_or1 (pt_not (pt_chain op_le op_le pe_int (pe_callB call_len_seq (by rfl) B.len PySem.L3.boot_len (pa_cons (pv 0) pa_nil)) (pe_glob (v := .int 8) (by rfl) B.g_MOST_SPOTS.choose_spec ⟨_, rfl⟩)))))) (pss_one (ps_ret pe_bl)) pss_nil)
    (pss_one (ps_ret (pe_callB (call_all rfl) (by rfl) B.all PySem.L3.boot_all (pa_cons (pe_comp (Nc := ["spot"]) (fi := [none]) (comp_sc rfl rfl rfl) rfl (comp_from_go rfl) (pi_list (pv 0)) (fun _ _ _ _ => ⟨(pg_name (i := 0) (show (["spot"] : List Str).Nodup by decide +kernel) rfl (Or.inl rfl)), pf_nil, (pe_c C_is_pair (hr.mono (by decide)) (by rfl) (pa_cons (pv 0) pa_nil))⟩)) pa_nil))))), ?_⟩
  refine ⟨_, rfl, o, _, "list", true, rfl, .inr ⟨ho, rfl⟩, _, rfl, ?_⟩
  refine iteF ?_
  refine ⟨_, rfl, o, ys, rfl, .inl ho, _, _, rfl, rfl, _, rfl, ite2 (fun _ => ?_) (fun h => absurd (decide_eq_true (show (1 : Int) ≤ (ys.length : Nat) by omega)) h)⟩
  refine ⟨_, _, rfl, rfl, _, rfl, ?_⟩
  have h8 : decide (((ys.length : Nat) : Int) ≤ 8) = true := decide_eq_true (by omega)
  refine ite2 (fun h => ?_) (fun _ => ?_)
  · exfalso
    have h' : (!decide (((ys.length : Nat) : Int) ≤ 8)) = true := h
    rw [h8] at h'; cases h'
  refine ⟨_, rfl, o, rfl, ⟨_, ho⟩, fun _ _ _ _ l hl => ?_⟩
  refine comp_by ys.length (by rw [sizeLine_eq]; omega) (fun i zs σ' Hc => Same H Hc ∧ Hc l = some (.lst zs) ∧ zs = List.replicate i (V.bl true) ∧ σ'.length = 1) ?_ (fun i zs σ' Hc ⟨_, e, y, _⟩ => ⟨e, by rw [y]; simp⟩) ?_ ?_
  · exact ⟨same_new hl _, upd_same, rfl, rfl⟩
  · rintro i zs σ' Hc hi ⟨e, el, rfl, hσ⟩
    refine ⟨⟨_, ys[i], e.seq ho, by simp [hi]⟩, fun x H' y Kt Kf k1 _ => ?_⟩
    obtain ⟨rfl, hx⟩ := y
    have hx' := hx _ (e.seq ho)
    obtain ⟨d, hd1, hd2⟩ := hd.get' hx'
    rw [List.getElem?_map] at hd1
    obtain ⟨p, hp, rfl⟩ := Option.map_eq_some_iff.mp hd1
    match σ', hσ with
    | [c], _ =>
      simp only [gName, tYes, ↓reduceIte]
      refine ⟨_, rfl, x, p, rfl, ⟨e.dn hd2, hb p (List.mem_of_getElem? hp)⟩, fun H2 e2 => ?_⟩
      refine k1 _ _ _ (e2 _ _ el) ⟨fun b o h => ?_, upd_same, by rw [List.replicate_succ'], rfl⟩
      rw [upd_ne (ne_of_none h hl)]; exact e2 _ _ (e _ _ h)
  · rintro zs σ' Hc ⟨e, el, rfl, _⟩
    refine ⟨⟨_, e.seq ho, Nat.le_refl _⟩, l, List.replicate ys.length true, rfl, SqL.of (by rw [List.map_replicate]; exact el), ?_⟩
    have : (List.replicate ys.length true).all id = true := by simp
    rw [this]; exact q _ e
theorem ok_corners (B : Bl mg) (C_check_herd : Cal P w K mg base 4 "check_herd" (sp_check K)) (C_left_chain : Cal P w K mg base 2 "left_chain" (sp_chain K)) (F : Fun K "corners" "corners" s_corners f fd) : FnOk P w K mg base CX0 5 f fd ["herd"] (sp_corners K) := by
  refine F.ok sc_corners (fun vs H Q E h => ?_) (fun cdv A outer s H vs Q E hr h => ?_)
  · obtain ⟨o, ys, ps, rfl, _⟩ := h
    rfl
  obtain ⟨o, ys, ps, rfl, ho, hd, hb, l1, l2, q⟩ := h
  have hz : ys.length = ps.length := by have := hd.length; rwa [List.length_map] at this
  have hu := hr.units
  refine ⟨_, (pss_cons (ps_expr (pe_c C_check_herd (hr.mono (by decide)) (by rfl) (pa_cons (pv 0) pa_nil)))
    (pss_cons (ps_set (i := 1) sc_corners.nd rfl (Or.inl rfl) (pe_callB (call_sortSp rfl) (by rfl) B.sorted PySem.L3.boot_sorted (pa_cons (pe_callTy (call_setSp rfl hu) (by rfl) B.set PySem.L3.boot_set (pa_cons (pe_comp (Nc := ["spot"]) (fi := [none]) (comp_sc rfl rfl rfl) rfl (comp_from_go rfl) (pi_list (pv 0)) (fun _ _ _ _ => ⟨(pg_name (i := 0) (show (["spot"] : List Str).Nodup by decide +kernel) rfl (Or.inl rfl)), pf_nil, (pe_tup (pa_cons (pe_ix ix_tup (pv 0) pe_int (fun _ _ => rfl)) (pa_cons (pe_ix ix_tup (pv 0) pe_int (fun _ _ => rfl)) pa_nil)))⟩)) pa_nil)) pa_nil)))
    (pss_cons (ps_if (pt_cmpR op_eq (pe_callB call_len_seq (by rfl) B.len PySem.L3.boot_len (pa_cons (pv 1) pa_nil)) pe_int (nomark _)) (pss_one (ps_ret (pv 1))) pss_nil)
    (pss_cons (ps_set (i := 2) sc_corners.nd rfl (Or.inl rfl) (pe_c C_left_chain (hr.mono (by decide)) (by rfl) (pa_cons (pv 1) pa_nil)))
    (pss_cons (ps_set (i := 3) sc_corners.nd rfl (Or.inl rfl) (pe_c C_left_chain (hr.mono (by decide)) (by rfl) (pa_cons (pe_callTy (call_listRev rfl) (by rfl) B.list PySem.L3.boot_list (pa_cons (pe_callTy call_rev (by rfl) B.reversed PySem.L3.boot_reversed (pa_cons (pv 1) pa_nil)) pa_nil)) pa_nil)))
    (pss_one (ps_ret (pe_op op_cat (pe_slice sl_list (pv 2) po_none (po_some (pe_un un_neg pe_int))) (pe_slice sl_list (pv 3) po_none (po_some (pe_un un_neg pe_int))))))))))), ?_⟩
  refine ⟨_, rfl, o, ys, ps, rfl, ho, hd, hb, l1, l2, fun H1 e1 => ?_⟩
  refine ⟨_, rfl, o, rfl, ⟨_, e1.seq ho⟩, fun _ _ _ _ l hl => ?_⟩
  refine comp_by ys.length (by rw [sizeLine_eq]; omega) (fun i zs σ' Hc => Same H1 Hc ∧ Hc l = some (.lst zs) ∧ Dns K Hc ((ps.take i).map spotD) zs ∧ zs.length = i ∧ σ'.length = 1) ?_ (fun i zs σ' Hc ⟨_, e, _, y, _⟩ => ⟨e, by rw [y]; exact Nat.le_refl _⟩) ?_ ?_
  · exact ⟨same_new hl _, upd_same, dns_nil, rfl, rfl⟩
  · rintro i zs σ' Hc hi ⟨e, el, dz, lz, hσ⟩
    have eo := (e1.trans e).seq ho
    refine ⟨⟨_, ys[i], eo, by simp [hi]⟩, fun x H' y Kt Kf k1 _ => ?_⟩
    obtain ⟨rfl, hx⟩ := y
    have hx' := hx _ eo
    obtain ⟨d, hd1, hd2⟩ := hd.get' hx'
    rw [List.getElem?_map] at hd1
    obtain ⟨p, hp, rfl⟩ := Option.map_eq_some_iff.mp hd1
    obtain ⟨t, rfl, ht⟩ := ((e1.trans e).dn hd2).spot
    match σ', hσ with
    | [c], _ =>
      simp only [gName, tYes, ↓reduceIte]
      refine ⟨_, rfl, t, _, _, _, rfl, rfl, ht, rfl, _, rfl, t, _, _, _, rfl, rfl, ht, rfl, (by show 2 ≤ sizeLine; decide), fun u hu' => ?_⟩
      have eu := same_new hu' (HO.tup [V.int p.1, V.int p.2])
      refine k1 _ _ _ (eu _ _ el) ⟨same_upd hl (e.trans eu), upd_same, ?_, by rw [List.length_append, lz]; rfl, rfl⟩
      rw [List.take_add_one, hp, List.map_append]
      exact (spots_upd (eu _ _ el) (eu.dns dz)).append (dns_cons (spot_upd (eu _ _ el) (dn_spot (SqT.of upd_same))) dns_nil)
  · rintro zs σ' H2 ⟨e2, el, dz, lz, _⟩
    rw [hz, List.take_length] at dz
    refine ⟨⟨_, (e1.trans e2).seq ho, Nat.le_refl _⟩, ?_⟩
    refine ⟨l, zs, ps, rfl, SqL.of el, dz, by omega, fun L a ha he hm hlL => ?_⟩
    refine ⟨a, L, rfl, upd_same, he.same (same_new ha _), by omega, fun rs row r hr' dr sr mr lr => ?_⟩
    have h3 : upd (upd H2 a (setO P w a L)) r (.lst rs) r = some (.lst rs) := upd_same
    have e3 : Same H (upd (upd H2 a (setO P w a L)) r (.lst rs)) := (e1.trans e2).trans ((same_new ha _).trans (same_new hr' _))
    have d3 : Dns K (upd (upd H2 a (setO P w a L)) r (.lst rs)) (row.map spotD) rs := (same_new hr' _).dns dr
    have hr0 : H r = none := ((e1.trans e2).trans (same_new ha _)).free hr'
    show gName 1 (V.ref r) _ (upd (upd H2 a (setO P w a L)) r (.lst rs)) _
    generalize upd (upd H2 a (setO P w a L)) r (.lst rs) = H3 at *
    have lrs : rs.length = row.length := by have := d3.length; rwa [List.length_map] at this
    have mem : ∀ p, p ∈ row ↔ p ∈ ps := fun p => (mr p).trans (hm p)
    have brow : ∀ p ∈ row, Bd p := fun p hp => hb p ((mem p).mp hp)
    refine ⟨_, rfl, r, rs, rfl, .inl (SqL.of h3), rfl, _, rfl, ite2 (fun c0 => ?_) (fun c0 => ?_)⟩
    · have c1 : row.length = 1 := by
        have : ((rs.length : Nat) : Int) = 1 := by simpa using c0
        omega
      refine ⟨_, rfl, q r rs row H3 e3 hr0 h3 sr mem ?_⟩
      unfold hull; rw [if_pos c1]; exact d3
    · have c1 : row.length ≠ 1 := by
        have : ¬ ((rs.length : Nat) : Int) = 1 := by simpa using c0
        omega
      refine ⟨_, rfl, r, rs, row, rfl, SqL.of h3, d3, brow, by omega, fun b zb hb0 db => ?_⟩
      have e4 := same_new hb0 (HO.lst zb)
      refine ⟨_, rfl, r, rs, rfl, e4 _ _ h3, fun a2 ha2 => ?_⟩
      refine ⟨a2, r, rs, rfl, upd_same, (same_new ha2 _) _ _ (e4 _ _ h3), fun p hp => ?_⟩
      rw [del_upd ha2]
      have hp' : upd H3 b (.lst zb) p = none := (same_new ha2 _).free hp
      have e5 := same_new hp' (HO.lst rs.reverse)
      refine ⟨p, rs.reverse, row.reverse, rfl, SqL.of upd_same, ?_, fun x hx => brow x (List.mem_reverse.mp hx), by rw [List.length_reverse]; omega, fun c zc hc0 dc => ?_⟩
      · rw [List.map_reverse]; exact (e5.dns (e4.dns d3)).reverse
      have e6 := same_new hc0 (HO.lst zc)
      have hb6 : upd (upd (upd H3 b (.lst zb)) p (.lst rs.reverse)) c (.lst zc) b = some (.lst zb) := e6 _ _ (e5 _ _ upd_same)
      have s6 : Same H3 (upd (upd (upd H3 b (.lst zb)) p (.lst rs.reverse)) c (.lst zc)) := e4.trans (e5.trans e6)
      have hcut : ∀ zs : List V, cutV zs none (some (-1)) = zs.dropLast := fun zs => by
        unfold cutV HT.sIx
        rw [List.dropLast_eq_take]
        simp
        congr 1
        omega
      have lb : zb.length ≤ 8 := by
        have h1 := db.length
        have h2 := fold_len row []
        have h3' : (chainR row).length = (row.foldl push []).length := rfl
        simp only [List.length_map, List.length_reverse, List.length_nil] at h1 h2
        omega
      have lc : zc.length ≤ 8 := by
        have h1 := dc.length
        have h2 := fold_len row.reverse []
        have h3' : (chainR row.reverse).length = (row.reverse.foldl push []).length := rfl
        simp only [List.length_map, List.length_reverse, List.length_nil] at h1 h2
        omega
      have dl : ∀ {H' : Hp} {qs : List Hull.P} {zs : List V}, Dns K H' (qs.map spotD) zs → Dns K H' (qs.dropLast.map spotD) zs.dropLast := fun {H' qs zs} d => by
        have hq : zs.length = qs.length := by have := d.length; rwa [List.length_map] at this
        have := d.take (qs.length - 1)
        rw [List.dropLast_eq_take, List.dropLast_eq_take, hq, List.map_take]
        exact this
      refine ⟨_, rfl, _, rfl, _, rfl, b, zb, rfl, SqL.of hb6, fun s1 hs1 => ?_⟩
      have e7 := same_new hs1 (HO.lst (cutV zb none (some (-1))))
      refine ⟨_, rfl, _, rfl, _, rfl, c, zc, rfl, SqL.of (e7 _ _ upd_same), fun s2 hs2 => ?_⟩
      have e8 := same_new hs2 (HO.lst (cutV zc none (some (-1))))
      refine ⟨s1, s2, _, _, rfl, rfl, e8 _ _ upd_same, upd_same, ?_, fun l hl2 => ?_⟩
      · rw [hcut, hcut, List.length_dropLast, List.length_dropLast, sizeLine_eq]; omega
      · have e9 := same_new hl2 (HO.lst (cutV zb none (some (-1)) ++ cutV zc none (some (-1))))
        refine q l _ row _ (e3.trans (s6.trans (e7.trans (e8.trans e9)))) ((e3.trans (s6.trans (e7.trans e8))).free hl2) upd_same sr mem ?_
        have fin := ((s6.trans (e7.trans (e8.trans e9))).dns (dl db)).append ((e6.trans (e7.trans (e8.trans e9))).dns (dl dc))
        have eh : (hull row).map spotD = (chainR row).reverse.dropLast.map spotD ++ (chainR row.reverse).reverse.dropLast.map spotD := by unfold hull; rw [if_neg c1, List.map_append]
        rw [eh]
        have ez : cutV zb none (some (-1)) ++ cutV zc none (some (-1)) = zb.dropLast ++ zc.dropLast := by rw [hcut, hcut]
        rw [← ez] at fin
        exact fin

def sp_cd : L2.Sp := fun vs H Q _ => ∃ a b : Int, vs = [.int a, .int b] ∧ Q (.int (K9.g a b)) H
theorem ok_cd (B : Bl mg) (F : Fun K "common_divisor" "common_divisor" s_common_divisor f fd) : FnOk P w K mg base CX0 1 f fd ["a", "b"] sp_cd := by
  refine F.ok sc_common_divisor (fun vs H Q E h => ?_) (fun cdv A outer s H vs Q E hr h => ?_)
  · obtain ⟨a, b, rfl, _⟩ := h
    rfl
  obtain ⟨a, b, rfl, q⟩ := h
  refine ⟨_, (pss_cons (ps_set (i := 2) sc_common_divisor.nd rfl (Or.inl rfl) (pe_callB call_abs (by rfl) B.abs PySem.L3.boot_abs (pa_cons (pv 0) pa_nil)))
    (pss_cons (ps_set (i := 3) sc_common_divisor.nd rfl (Or.inl rfl) (pe_callB call_abs (by rfl) B.abs PySem.L3.boot_abs (pa_cons (pv 1) pa_nil)))
    (pss_cons (ps_while PassesOwn.never (pt_cmpR op_gt (pv 3) pe_int (nomark _)) (pss_cons (ps_set (i := 4) sc_common_divisor.nd rfl (Or.inl rfl) (pe_op op_mod (pv 2) (pv 3)))
    (pss_cons (ps_set (i := 2) sc_common_divisor.nd rfl (Or.inl rfl) (pv 3))
    (pss_one (ps_set (i := 3) sc_common_divisor.nd rfl (Or.inl rfl) (pv 4))))))
    (pss_one (ps_ret (pv 2)))))), ?_⟩
  refine ⟨_, rfl, a, rfl, _, rfl, b, rfl, ?_⟩
  refine ⟨fun m σ' H' => H' = H ∧ ∃ (x y : Int) (r : Option V), σ' = [some (.int a), some (.int b), some (.int x), some (.int y), r] ∧ 0 ≤ x ∧ 0 ≤ y ∧ K9.g x y = K9.g a b ∧ m = y.toNat, ⟨_, rfl, _, _, _, rfl, by split <;> omega, by split <;> omega, K9.g_abs a b, rfl⟩, ?_⟩
  rintro m σ' H' ⟨rfl, x, y, r, rfl, hx, hy, hg, rfl⟩
  refine ⟨_, rfl, _, _, rfl, rfl, _, rfl, ite2 (fun c => ?_) (fun c => ?_)⟩
  · have c' : 0 < y := of_decide_eq_true c
    refine ⟨fun σ' H'' => H'' = H' ∧ σ' = [some (.int a), some (.int b), some (.int y), some (.int (x % y)), some (.int (x % y))], ?_, ?_⟩
    · rintro σ'' H'' ⟨rfl, rfl⟩
      have h1 := Int.emod_nonneg x (show y ≠ 0 by omega)
      have h2 := Int.emod_lt_of_pos x c'
      exact ⟨(x % y).toNat, by omega, rfl, y, x % y, _, rfl, by omega, h1, by rw [K9.g_step hx c', hg], rfl⟩
    · exact ⟨_, rfl, _, rfl, _, _, rfl, rfl, c', _, rfl, _, rfl, rfl, rfl⟩
  · have c' : ¬ 0 < y := of_decide_eq_false (Bool.eq_false_iff.mpr c)
    have hy0 : y = 0 := by omega
    subst hy0
    rw [K9.g_zero hx] at hg
    refine ⟨_, rfl, ?_⟩
    show Q (.int x) _
    rw [hg]; exact q
def sp_way (K : PySem.W.Frag) : L2.Sp := fun vs H Q _ => ∃ x p, vs = [x] ∧ Sp K H x p ∧ ∀ H', Same H H' → Q .non H'
theorem ok_way (C_is_pair : Cal P w K mg base 2 "is_pair" (sp_pair K)) (F : Fun K "check_way" "check_way" s_check_way f fd) : FnOk P w K mg base CX0 3 f fd ["way"] (sp_way K) := by
  refine F.ok sc_check_way (fun vs H Q E h => ?_) (fun cdv A outer s H vs Q E hr h => ?_)
  · obtain ⟨x, p, rfl, _⟩ := h
    rfl
  obtain ⟨x, p, rfl, h1, q⟩ := h
  refine ⟨_, (pss_one (ps_if (pt_not (pt_val (pe_c C_is_pair (hr.mono (by decide)) (by rfl) (pa_cons (pv 0) pa_nil)))) (pss_one ps_never) pss_nil)), ?_⟩
  refine ⟨_, rfl, x, p, rfl, h1, fun H' e => ?_⟩
  exact ⟨_, rfl, ite2 (fun c => by cases c) fun _ => q _ e⟩
def sp_reach (K : PySem.W.Frag) : L2.Sp := fun vs H Q _ => ∃ x y a b, vs = [x, y] ∧ Sp K H x a ∧ Sp K H y b ∧ Q (.int (dot a b)) H
theorem ok_reach (F : Fun K "reach" "reach" s_reach f fd) : FnOk P w K mg base CX0 1 f fd ["way", "spot"] (sp_reach K) := by
  refine F.ok sc_reach (fun vs H Q E h => ?_) (fun cdv A outer s H vs Q E hr h => ?_)
  · obtain ⟨x, y, a, b, rfl, _⟩ := h
    rfl
  obtain ⟨x, y, a, b, rfl, ⟨ha, ha1, ha2⟩, ⟨hb, hb1, hb2⟩, q⟩ := h
  obtain ⟨x, rfl, ta⟩ := ha.spot
  obtain ⟨y, rfl, tb⟩ := hb.spot
  refine ⟨_, (pss_one (ps_ret (pe_op op_add (pe_op op_mul (pe_ix ix_tup (pv 0) pe_int (fun _ _ => rfl)) (pe_ix ix_tup (pv 1) pe_int (fun _ _ => rfl))) (pe_op op_mul (pe_ix ix_tup (pv 0) pe_int (fun _ _ => rfl)) (pe_ix ix_tup (pv 1) pe_int (fun _ _ => rfl)))))), ?_⟩
  refine ⟨_, rfl, x, _, _, _, rfl, rfl, ta, rfl, _, rfl, y, _, _, _, rfl, rfl, tb, rfl, _, _, rfl, rfl, .inr ⟨by omega, by omega⟩, ?_⟩
  exact ⟨_, rfl, x, _, _, _, rfl, rfl, ta, rfl, _, rfl, y, _, _, _, rfl, rfl, tb, rfl, _, _, rfl, rfl, .inr ⟨by omega, by omega⟩, _, _, rfl, rfl, q⟩
def Prs (K : PySem.W.Frag) (H : Hp) (zs : List V) (ps : List Hull.P) : Prop := zs.length = ps.length ∧ ∀ (j : Nat) (p q : Hull.P), ps[j]? = some p → (ps.drop 1 ++ ps.take 1)[j]? = some q → ∃ T x y, zs[j]? = some (V.ref T) ∧ H T = some (.tup [x, y]) ∧ Dn K H (spotD p) x ∧ Dn K H (spotD q) y
def sp_sides (K : PySem.W.Frag) : L2.Sp := fun vs H Q _ => ∃ (o : Addr) (ys : List V) (ps : List Hull.P), vs = [.ref o] ∧ SqL K H o ys ∧ Dns K H (ps.map spotD) ys ∧ ps.length ≤ 8 ∧ ∀ l zs H', Same H H' → H l = none → H' l = some (.lst zs) → Prs K H' zs ps → Q (.ref l) H'
theorem ok_sides (B : Bl mg) (F : Fun K "sides" "sides" s_sides f fd) : FnOk P w K mg base CX0 1 f fd ["around"] (sp_sides K) := by
  refine F.ok sc_sides (fun vs H Q E h => ?_) (fun cdv A outer s H vs Q E hr h => ?_)
  · obtain ⟨o, ys, ps, rfl, _⟩ := h
    rfl
  obtain ⟨o, ys, ps, rfl, ho, hd, h8, q⟩ := h
  have hz : ys.length = ps.length := by have := hd.length; rwa [List.length_map] at this
  refine ⟨_, (pss_one (ps_ret (pe_listZip (by rfl) B.list (by rfl) B.zip rfl (pa_cons (pv 0) (pa_cons (pe_op op_cat (pe_slice sl_list (pv 0) (po_some pe_int) po_none) (pe_slice sl_list (pv 0) po_none (po_some pe_int))) pa_nil))))), ?_⟩
  have c1 : cutV ys (some 1) none = ys.drop 1 := by
    unfold cutV HT.sIx
    match ys with
    | [] => rfl
    | a :: r => simp
  have c2 : cutV ys none (some 1) = ys.take 1 := by
    unfold cutV HT.sIx
    match ys with
    | [] => rfl
    | a :: r => simp
  refine ⟨_, rfl, _, rfl, _, rfl, o, ys, rfl, ho, fun a ha => ?_⟩
  have e1 := same_new ha (HO.lst (cutV ys (some 1) none))
  refine ⟨_, rfl, _, rfl, o, ys, rfl, e1.seq ho, fun b hb => ?_⟩
  have e2 := same_new hb (HO.lst (cutV ys none (some 1)))
  refine ⟨a, b, _, _, rfl, rfl, e2 _ _ upd_same, upd_same, ?_, fun c hc => ?_⟩
  · rw [c1, c2, List.length_drop, List.length_take, sizeLine_eq]; omega
  have e3 := same_new hc (HO.lst (cutV ys (some 1) none ++ cutV ys none (some 1)))
  have e13 := e1.trans (e2.trans e3)
  refine ⟨o, c, ys, _, rfl, e13.seq ho, SqL.of upd_same, ?_, fun l zs H' e hl hl' lz hzs => ?_⟩
  · rw [c1, c2, List.length_append, List.length_drop, List.length_take]; omega
  refine q l zs H' (e13.trans e) (e13.free hl) hl' ⟨by omega, fun j p r hp hr' => ?_⟩
  have hd' : Dns K H ((ps.drop 1 ++ ps.take 1).map spotD) (ys.drop 1 ++ ys.take 1) := by
    rw [List.map_append, List.map_drop, List.map_take]; exact (hd.drop 1).append (hd.take 1)
  obtain ⟨x, x1, x2⟩ := hd.get (i := j) (d := spotD p) (by rw [List.getElem?_map, hp]; rfl)
  obtain ⟨y, y1, y2⟩ := hd'.get (i := j) (d := spotD r) (by rw [List.getElem?_map, hr']; rfl)
  obtain ⟨T, t1, t2⟩ := hzs j x y x1 (by rw [c1, c2]; exact y1)
  exact ⟨T, x, y, t1, t2, (e13.trans e).dn x2, (e13.trans e).dn y2⟩
theorem next_is {ps : List Hull.P} {j : Nat} (hj : j < ps.length) : ∃ q, (ps.drop 1 ++ ps.take 1)[j]? = some q ∧ q ∈ ps := by
  have hl : (ps.drop 1 ++ ps.take 1).length = ps.length := by rw [List.length_append, List.length_drop, List.length_take]; omega
  have hj' : j < (ps.drop 1 ++ ps.take 1).length := by omega
  refine ⟨_, List.getElem?_eq_getElem hj', ?_⟩
  have := List.getElem_mem hj'
  rcases List.mem_append.mp this with g | g
  · exact List.mem_of_mem_drop g
  · exact List.mem_of_mem_take g
def sp_sumr (K : PySem.W.Frag) (g : Hull.P → Hull.P → Int) : L2.Sp := fun vs H Q _ => ∃ (o : Addr) (ys : List V) (ps : List Hull.P), vs = [.ref o] ∧ SqL K H o ys ∧ Dns K H (ps.map spotD) ys ∧ (∀ p ∈ ps, Bd p) ∧ ps.length ≤ 8 ∧ ∀ H', Same H H' → Q (.int (pathSum g (ring ps))) H'
theorem ok_area (B : Bl mg) (C_sides : Cal P w K mg base 1 "sides" (sp_sides K)) (F : Fun K "twice_area" "twice_area" s_twice_area f fd) : FnOk P w K mg base CX0 2 f fd ["around"] (sp_sumr K cross) := by
  refine F.ok sc_twice_area (fun vs H Q E h => ?_) (fun cdv A outer s H vs Q E hr h => ?_)
  · obtain ⟨o, ys, ps, rfl, _⟩ := h
    rfl
  obtain ⟨o, ys, ps, rfl, ho, hd, hb, h8, q⟩ := h
  refine ⟨_, (pss_one (ps_ret (pe_callB (call_sumL rfl) (by rfl) B.sum PySem.L3.boot_sum (pa_cons (pe_comp (Nc := ["start", "end"]) (fi := [none, none]) (comp_sc rfl rfl rfl) rfl (comp_from_go rfl) (pi_list (pe_c C_sides (hr.mono (by decide)) (by rfl) (pa_cons (pv 0) pa_nil))) (fun _ _ _ _ => ⟨(pg_tup rfl (pgs_cons (pg_name (i := 0) (show (["start", "end"] : List Str).Nodup by decide +kernel) rfl (Or.inl rfl)) (pgs_cons (pg_name (i := 1) (show (["start", "end"] : List Str).Nodup by decide +kernel) rfl (Or.inl rfl)) pgs_nil))), pf_nil, (pe_op op_sub (pe_op op_mul (pe_ix ix_tup (pv 0) pe_int (fun _ _ => rfl)) (pe_ix ix_tup (pv 1) pe_int (fun _ _ => rfl))) (pe_op op_mul (pe_ix ix_tup (pv 0) pe_int (fun _ _ => rfl)) (pe_ix ix_tup (pv 1) pe_int (fun _ _ => rfl))))⟩)) pa_nil)))), ?_⟩
  refine ⟨_, rfl, o, ys, ps, rfl, ho, hd, h8, fun lz zs H1 e1 hlz0 hlz hz => ?_⟩
  refine ⟨lz, rfl, ⟨_, SqL.of hlz⟩, fun _ _ _ _ l hl => ?_⟩
  refine comp_by zs.length (by rw [sizeLine_eq, hz.1]; omega) (fun i vs σ' Hc => Same H1 Hc ∧ Hc l = some (.lst vs) ∧ vs = (List.zipWith cross (ps.take i) (ps.drop 1 ++ ps.take 1)).map V.int ∧ i ≤ ps.length ∧ σ'.length = 2) ?_ (fun i vs σ' Hc ⟨_, e, y, hi, _⟩ => ⟨e, by rw [y]; simp; omega⟩) ?_ ?_
  · exact ⟨same_new hl _, upd_same, rfl, Nat.zero_le _, rfl⟩
  · rintro i vs σ' Hc hi ⟨e, el, rfl, hi', hσ⟩
    have hip : i < ps.length := by rw [← hz.1]; exact hi
    obtain ⟨r, hr1, hr2⟩ := next_is hip
    have hp : ps[i]? = some ps[i] := List.getElem?_eq_getElem hip
    obtain ⟨T, x, y, t1, t2, dx, dy⟩ := hz.2 i ps[i] r hp hr1
    refine ⟨⟨_, .ref T, e.seq (SqL.of hlz), t1⟩, fun v H' y' Kt Kf k1 _ => ?_⟩
    obtain ⟨rfl, hv⟩ := y'
    have hv' := hv _ (e.seq (SqL.of hlz))
    rw [t1] at hv'; cases hv'
    obtain ⟨xa, rfl, ta⟩ := (e.dn dx).spot
    obtain ⟨ya, rfl, tb⟩ := (e.dn dy).spot
    have b1 := hb _ (List.getElem_mem hip)
    have b2 := hb r hr2
    unfold Bd at b1 b2
    match σ', hσ with
    | [o1, o2], _ =>
      refine ⟨T, _, rfl, SqT.of (e _ _ t2), rfl, _, _, rfl, _, _, rfl, rfl, ?_⟩
      simp only [tYes, ↓reduceIte]
      refine ⟨_, rfl, xa, _, _, _, rfl, rfl, ta, rfl, _, rfl, ya, _, _, _, rfl, rfl, tb, rfl, _, _, rfl, rfl, .inr ⟨by omega, by omega⟩, ?_⟩
      refine ⟨_, rfl, xa, _, _, _, rfl, rfl, ta, rfl, _, rfl, ya, _, _, _, rfl, rfl, tb, rfl, _, _, rfl, rfl, .inr ⟨by omega, by omega⟩, _, _, rfl, rfl, ?_⟩
      refine k1 _ _ _ el ⟨same_upd hl e, upd_same, ?_, by omega, rfl⟩
      rw [zip_take cross hp hr1, List.map_append]; rfl
  · rintro vs σ' H2 ⟨e, el, rfl, hi', _⟩
    refine ⟨⟨_, e.seq (SqL.of hlz), Nat.le_refl _⟩, l, _, rfl, SqL.of el, ?_⟩
    have := q _ (e1.trans e)
    rw [← zip_ring] at this
    rw [hz.1, List.take_length]
    exact this
theorem ok_steps (B : Bl mg) (C_sides : Cal P w K mg base 1 "sides" (sp_sides K)) (C_common_divisor : Cal P w K mg base 1 "common_divisor" sp_cd) (F : Fun K "steps_round" "steps_round" s_steps_round f fd) : FnOk P w K mg base CX0 2 f fd ["around"] (sp_sumr K gc) := by
  refine F.ok sc_steps_round (fun vs H Q E h => ?_) (fun cdv A outer s H vs Q E hr h => ?_)
  · obtain ⟨o, ys, ps, rfl, _⟩ := h
    rfl
  obtain ⟨o, ys, ps, rfl, ho, hd, hb, h8, q⟩ := h
  refine ⟨_, (pss_one (ps_ret (pe_callB (call_sumL rfl) (by rfl) B.sum PySem.L3.boot_sum (pa_cons (pe_comp (Nc := ["start", "end"]) (fi := [none, none]) (comp_sc rfl rfl rfl) rfl (comp_from_go rfl) (pi_list (pe_c C_sides (hr.mono (by decide)) (by rfl) (pa_cons (pv 0) pa_nil))) (fun _ _ _ _ => ⟨(pg_tup rfl (pgs_cons (pg_name (i := 0) (show (["start", "end"] : List Str).Nodup by decide +kernel) rfl (Or.inl rfl)) (pgs_cons (pg_name (i := 1) (show (["start", "end"] : List Str).Nodup by decide +kernel) rfl (Or.inl rfl)) pgs_nil))), pf_nil, (pe_c C_common_divisor (hr.mono (by decide)) (by rfl) (pa_cons (pe_op op_sub (pe_ix ix_tup (pv 1) pe_int (fun _ _ => rfl)) (pe_ix ix_tup (pv 0) pe_int (fun _ _ => rfl))) (pa_cons (pe_op op_sub (pe_ix ix_tup (pv 1) pe_int (fun _ _ => rfl)) (pe_ix ix_tup (pv 0) pe_int (fun _ _ => rfl))) pa_nil)))⟩)) pa_nil)))), ?_⟩
  refine ⟨_, rfl, o, ys, ps, rfl, ho, hd, h8, fun lz zs H1 e1 hlz0 hlz hz => ?_⟩
  refine ⟨lz, rfl, ⟨_, SqL.of hlz⟩, fun _ _ _ _ l hl => ?_⟩
  refine comp_by zs.length (by rw [sizeLine_eq, hz.1]; omega) (fun i vs σ' Hc => Same H1 Hc ∧ Hc l = some (.lst vs) ∧ vs = (List.zipWith gc (ps.take i) (ps.drop 1 ++ ps.take 1)).map V.int ∧ i ≤ ps.length ∧ σ'.length = 2) ?_ (fun i vs σ' Hc ⟨_, e, y, hi, _⟩ => ⟨e, by rw [y]; simp; omega⟩) ?_ ?_
  · exact ⟨same_new hl _, upd_same, rfl, Nat.zero_le _, rfl⟩
  · rintro i vs σ' Hc hi ⟨e, el, rfl, hi', hσ⟩
    have hip : i < ps.length := by rw [← hz.1]; exact hi
    obtain ⟨r, hr1, hr2⟩ := next_is hip
    have hp : ps[i]? = some ps[i] := List.getElem?_eq_getElem hip
    obtain ⟨T, x, y, t1, t2, dx, dy⟩ := hz.2 i ps[i] r hp hr1
    refine ⟨⟨_, .ref T, e.seq (SqL.of hlz), t1⟩, fun v H' y' Kt Kf k1 _ => ?_⟩
    obtain ⟨rfl, hv⟩ := y'
    have hv' := hv _ (e.seq (SqL.of hlz))
    rw [t1] at hv'; cases hv'
    obtain ⟨xa, rfl, ta⟩ := (e.dn dx).spot
    obtain ⟨ya, rfl, tb⟩ := (e.dn dy).spot
    match σ', hσ with
    | [o1, o2], _ =>
      refine ⟨T, _, rfl, SqT.of (e _ _ t2), rfl, _, _, rfl, _, _, rfl, rfl, ?_⟩
      simp only [tYes, ↓reduceIte]
      refine ⟨_, rfl, ya, _, _, _, rfl, rfl, tb, rfl, _, rfl, xa, _, _, _, rfl, rfl, ta, rfl, _, _, rfl, rfl, ?_⟩
      refine ⟨_, rfl, ya, _, _, _, rfl, rfl, tb, rfl, _, rfl, xa, _, _, _, rfl, rfl, ta, rfl, _, _, rfl, rfl, ?_⟩
      refine ⟨_, _, rfl, ?_⟩
      refine k1 _ _ _ el ⟨same_upd hl e, upd_same, ?_, by omega, rfl⟩
      rw [zip_take gc hp hr1, List.map_append]; rfl
  · rintro vs σ' H2 ⟨e, el, rfl, hi', _⟩
    refine ⟨⟨_, e.seq (SqL.of hlz), Nat.le_refl _⟩, l, _, rfl, SqL.of el, ?_⟩
    have := q _ (e1.trans e)
    rw [← zip_ring] at this
    rw [hz.1, List.take_length]
    exact this
def Of (row ps : List Hull.P) : Prop := row.Pairwise lt ∧ ∀ p, p ∈ row ↔ p ∈ ps
def sp_land (K : PySem.W.Frag) : L2.Sp := fun vs H Q _ => ∃ (o : Addr) (ys : List V) (ps : List Hull.P), vs = [.ref o] ∧ SqL K H o ys ∧ Dns K H (ps.map spotD) ys ∧ (∀ p ∈ ps, Bd p) ∧ 1 ≤ ps.length ∧ ps.length ≤ 8 ∧
  ∀ row H', Same H H' → Of row ps → Q (.int (pathSum cross (ring (hull row)))) H'
theorem hull_bd {row ps : List Hull.P} (h : Of row ps) (hb : ∀ p ∈ ps, Bd p) : ∀ p ∈ hull row, Bd p := fun p hp => hb p ((h.2 p).mp (hull_held h.1 hp).1)
theorem sorted_len : ∀ {row ps : List Hull.P}, row.Nodup → (∀ p ∈ row, p ∈ ps) → row.length ≤ ps.length
  | [], _, _, _ => Nat.zero_le _
  | a :: row, ps, nd, h => by
    have ha : a ∈ ps := h a (by simp)
    have ih := sorted_len (row := row) (ps := ps.erase a) (List.nodup_cons.mp nd).2 fun p hp => (List.mem_erase_of_ne (fun e => (List.nodup_cons.mp nd).1 (by rw [← e]; exact hp))).mpr (h p (by simp [hp]))
    rw [List.length_erase_of_mem ha] at ih
    have := List.length_pos_of_mem ha
    show row.length + 1 ≤ _
    omega
theorem hull_le {row ps : List Hull.P} (h : Of row ps) : (hull row).length ≤ ps.length := sorted_len (hull_nodup h.1) fun p hp => (h.2 p).mp (hull_held h.1 hp).1
theorem ok_land (C_corners : Cal P w K mg base 5 "corners" (sp_corners K)) (C_twice_area : Cal P w K mg base 2 "twice_area" (sp_sumr K cross)) (F : Fun K "land" "land" s_land f fd) : FnOk P w K mg base CX0 6 f fd ["herd"] (sp_land K) := by
  refine F.ok sc_land (fun vs H Q E h => ?_) (fun cdv A outer s H vs Q E hr h => ?_)
  · obtain ⟨o, ys, ps, rfl, _⟩ := h
    rfl
  obtain ⟨o, ys, ps, rfl, ho, hd, hb, l1, l8, q⟩ := h
  refine ⟨_, (pss_one (ps_ret (pe_c C_twice_area (hr.mono (by decide)) (by rfl) (pa_cons (pe_c C_corners (hr.mono (by decide)) (by rfl) (pa_cons (pv 0) pa_nil)) pa_nil)))), ?_⟩
  refine ⟨_, rfl, o, ys, ps, rfl, ho, hd, hb, l1, l8, fun l zs row H' e hl0 hl sr mem dz => ?_⟩
  refine ⟨l, zs, hull row, rfl, SqL.of hl, dz, hull_bd ⟨sr, mem⟩ hb, Nat.le_trans (hull_le ⟨sr, mem⟩) l8, fun H2 e2 => ?_⟩
  exact q row H2 (e.trans e2) ⟨sr, mem⟩
def held2 (h : List Hull.P) : Int := (pathSum cross (ring h) + pathSum gc (ring h)) / 2 + 1
def edge2 (h : List Hull.P) : Int := if h.length < 3 then held2 h else pathSum gc (ring h)
def sp_spots (K : PySem.W.Frag) : L2.Sp := fun vs H Q _ => ∃ (o : Addr) (ys : List V) (ps : List Hull.P), vs = [.ref o] ∧ SqL K H o ys ∧ Dns K H (ps.map spotD) ys ∧ (∀ p ∈ ps, Bd p) ∧ 1 ≤ ps.length ∧ ps.length ≤ 8 ∧
  ∀ row t H', Same H H' → Of row ps → H' t = some (.tup [.int (held2 (hull row)), .int (edge2 (hull row))]) → Q (.ref t) H'
theorem ok_spots (B : Bl mg) (C_corners : Cal P w K mg base 5 "corners" (sp_corners K)) (C_twice_area : Cal P w K mg base 2 "twice_area" (sp_sumr K cross)) (C_steps_round : Cal P w K mg base 2 "steps_round" (sp_sumr K gc)) (F : Fun K "spots" "spots" s_spots f fd) : FnOk P w K mg base CX0 6 f fd ["herd"] (sp_spots K) := by
  refine F.ok sc_spots (fun vs H Q E h => ?_) (fun cdv A outer s H vs Q E hr h => ?_)
  · obtain ⟨o, ys, ps, rfl, _⟩ := h
    rfl
  obtain ⟨o, ys, ps, rfl, ho, hd, hb, l1, l8, q⟩ := h
  refine ⟨_, (pss_cons (ps_set (i := 1) sc_spots.nd rfl (Or.inl rfl) (pe_c C_corners (hr.mono (by decide)) (by rfl) (pa_cons (pv 0) pa_nil)))
    (pss_cons (ps_set (i := 2) sc_spots.nd rfl (Or.inl rfl) (pe_c C_steps_round (hr.mono (by decide)) (by rfl) (pa_cons (pv 1) pa_nil)))
    (pss_cons (ps_set (i := 3) sc_spots.nd rfl (Or.inl rfl) (pe_op op_add (pe_op op_fdiv (pe_op op_add (pe_c C_twice_area (hr.mono (by decide)) (by rfl) (pa_cons (pv 1) pa_nil)) (pv 2)) pe_int) pe_int))
    (pss_cons (ps_if (pt_cmpR op_lt (pe_callB call_len_seq (by rfl) B.len PySem.L3.boot_len (pa_cons (pv 1) pa_nil)) pe_int (nomark _)) (pss_one (ps_ret (pe_tup (pa_cons (pv 3) (pa_cons (pv 3) pa_nil))))) pss_nil)
    (pss_one (ps_ret (pe_tup (pa_cons (pv 3) (pa_cons (pv 2) pa_nil))))))))), ?_⟩
  refine ⟨_, rfl, o, ys, ps, rfl, ho, hd, hb, l1, l8, fun l zs row H1 e1 hl0 hl sr mem dz => ?_⟩
  have hbd := hull_bd ⟨sr, mem⟩ hb
  have hle := Nat.le_trans (hull_le ⟨sr, mem⟩) l8
  have lz : zs.length = (hull row).length := by have := dz.length; rwa [List.length_map] at this
  refine ⟨_, rfl, l, zs, hull row, rfl, SqL.of hl, dz, hbd, hle, fun H2 e2 => ?_⟩
  refine ⟨_, rfl, l, zs, hull row, rfl, e2.seq (SqL.of hl), e2.dns dz, hbd, hle, fun H3 e3 => ?_⟩
  refine ⟨_, rfl, _, _, rfl, rfl, _, _, rfl, rfl, ⟨by decide, by decide⟩, _, _, rfl, rfl, ?_⟩
  refine ⟨_, rfl, l, zs, rfl, .inl ((e2.trans e3).seq (SqL.of hl)), _, _, rfl, rfl, _, rfl, ite2 (fun c => ?_) (fun c => ?_)⟩
  · have c' : ((zs.length : Nat) : Int) < 3 := of_decide_eq_true c
    refine ⟨_, rfl, _, rfl, (by show 2 ≤ sizeLine; decide), fun t ht => ?_⟩
    refine q row t _ (e1.trans (e2.trans (e3.trans (same_new ht _)))) ⟨sr, mem⟩ ?_
    have : edge2 (hull row) = held2 (hull row) := by unfold edge2; rw [if_pos (by omega)]
    rw [this]; exact upd_same
  · have c' : ¬ ((zs.length : Nat) : Int) < 3 := of_decide_eq_false (Bool.eq_false_iff.mpr c)
    refine ⟨_, rfl, _, rfl, (by show 2 ≤ sizeLine; decide), fun t ht => ?_⟩
    refine q row t _ (e1.trans (e2.trans (e3.trans (same_new ht _)))) ⟨sr, mem⟩ ?_
    have : edge2 (hull row) = pathSum gc (ring (hull row)) := by unfold edge2; rw [if_neg (by omega)]
    rw [this]; exact upd_same
def farIx (ns : List Int) (m : Int) : List Nat := (List.range ns.length).filter fun j => decide (ns.getD j 0 = m)
def sp_farthest (K : PySem.W.Frag) : L2.Sp := fun vs H Q _ => ∃ (o : Addr) (x : V) (ys : List V) (ps : List Hull.P) (p : Hull.P), vs = [.ref o, x] ∧ SqL K H o ys ∧ Dns K H (ps.map spotD) ys ∧ (∀ p ∈ ps, Bd p) ∧ 1 ≤ ps.length ∧ ps.length ≤ 8 ∧ Sp K H x p ∧
  ∀ l m H', Same H H' → H l = none → m ∈ ps.map (dot p) → (∀ n ∈ ps.map (dot p), n ≤ m) → H' l = some (.lst ((farIx (ps.map (dot p)) m).map fun (j : Nat) => V.int (j : Int))) → Q (.ref l) H'
theorem range_filter (f : Nat → Bool) (i : Nat) : (List.range (i + 1)).filter f = (List.range i).filter f ++ (if f i = true then [i] else []) := by
  rw [List.range_succ, List.filter_append]
  by_cases h : f i = true
  · rw [if_pos h, List.filter_cons, if_pos h]; rfl
  · rw [if_neg h, List.filter_cons, if_neg h]; rfl
theorem ok_farthest (B : Bl mg) (C_check_herd : Cal P w K mg base 4 "check_herd" (sp_check K)) (C_check_way : Cal P w K mg base 3 "check_way" (sp_way K)) (C_reach : Cal P w K mg base 1 "reach" (sp_reach K)) (F : Fun K "farthest" "farthest" s_farthest f fd) : FnOk P w K mg base CX0 5 f fd ["herd", "way"] (sp_farthest K) := by
  refine F.ok sc_farthest (fun vs H Q E h => ?_) (fun cdv A outer s H vs Q E hr h => ?_)
  · obtain ⟨o, x, ys, ps, p, rfl, _⟩ := h
    rfl
  obtain ⟨o, x, ys, ps, p, rfl, ho, hd, hb, l1, l8, hx, q⟩ := h
  have hz : ys.length = ps.length := by have := hd.length; rwa [List.length_map] at this
  refine ⟨_, (pss_cons (ps_expr (pe_c C_check_herd (hr.mono (by decide)) (by rfl) (pa_cons (pv 0) pa_nil)))
    (pss_cons (ps_expr (pe_c C_check_way (hr.mono (by decide)) (by rfl) (pa_cons (pv 1) pa_nil)))
    (pss_cons (ps_setComp (i := 2) (Nc := ["spot", "way"]) (fi := [none, some 1]) (comp_sc rfl rfl rfl) rfl (comp_from_go rfl) sc_farthest.nd rfl rfl (pi_list (pv 0)) (fun _ _ _ _ => ⟨(pg_name (i := 0) (show (["spot", "way"] : List Str).Nodup by decide +kernel) rfl (Or.inl rfl)), pf_nil, (pe_c C_reach (hr.mono (by decide)) (by rfl) (pa_cons (pv 1) (pa_cons (pv 0) pa_nil)))⟩) rfl)
    (pss_cons (ps_set (i := 3) sc_farthest.nd rfl (Or.inr rfl) (pe_callB (call_maxL rfl) (by rfl) B.max PySem.L3.boot_max (pa_cons (pv 2) pa_nil)))
    (pss_one (ps_ret (pe_comp (Nc := ["place", "far", "greatest"]) (fi := [none, none, some 3]) (comp_sc rfl rfl rfl) rfl (comp_from_go rfl) (pi_enum (by rfl) B.enumerate (pa_cons (pv 2) pa_nil)) (fun _ _ _ _ => ⟨(pg_tup rfl (pgs_cons (pg_name (i := 0) (show (["place", "far", "greatest"] : List Str).Nodup by decide +kernel) rfl (Or.inl rfl)) (pgs_cons (pg_name (i := 1) (show (["place", "far", "greatest"] : List Str).Nodup by decide +kernel) rfl (Or.inl rfl)) pgs_nil))), (pf_one (pt_cmpR op_eq (pv 1) (pv 2) (nomark _))), (pv 0)⟩)))))))), ?_⟩
  refine ⟨_, rfl, o, ys, ps, rfl, ho, hd, hb, l1, l8, fun H1 e1 => ?_⟩
  refine ⟨_, rfl, x, p, rfl, hx.same e1, fun H2 e2 => ?_⟩
  have e12 := e1.trans e2
  refine ⟨_, rfl, o, rfl, ⟨_, e12.seq ho⟩, fun _ _ _ _ l hl => ?_⟩
  refine comp_by ys.length (by rw [sizeLine_eq]; omega) (fun i vs σ' Hc => Same H2 Hc ∧ Hc l = some (.lst vs) ∧ vs = ((ps.take i).map (dot p)).map V.int ∧ i ≤ ps.length ∧ ∃ o1, σ' = [o1, some x]) ?_ (fun i vs σ' Hc ⟨_, e, y, hi, _⟩ => ⟨e, by rw [y]; simp; omega⟩) ?_ ?_
  · exact ⟨same_new hl _, upd_same, rfl, Nat.zero_le _, _, rfl⟩
  · rintro i vs σ' Hc hi ⟨e, el, rfl, hi', o1, rfl⟩
    have hip : i < ps.length := by omega
    have hp : ps[i]? = some ps[i] := List.getElem?_eq_getElem hip
    obtain ⟨v, v1, v2⟩ := hd.get (i := i) (d := spotD ps[i]) (by simp [hip])
    refine ⟨⟨_, v, (e12.trans e).seq ho, v1⟩, fun v' H' y' Kt Kf k1 _ => ?_⟩
    obtain ⟨rfl, hv⟩ := y'
    have hv' := hv _ ((e12.trans e).seq ho)
    rw [v1] at hv'; cases hv'
    simp only [gName, tYes, ↓reduceIte]
    refine ⟨_, rfl, _, rfl, x, v, p, ps[i], rfl, hx.same (e12.trans e), ⟨(e12.trans e).dn v2, hb _ (List.getElem_mem hip)⟩, ?_⟩
    refine k1 _ _ _ el ⟨same_upd hl e, upd_same, ?_, by omega, _, rfl⟩
    rw [List.take_add_one, hp, List.map_append, List.map_append]; rfl
  · rintro vs σ' H3 ⟨e, el, rfl, hi', _⟩
    rw [hz, List.take_length] at el
    refine ⟨⟨_, (e12.trans e).seq ho, Nat.le_refl _⟩, ?_⟩
    refine ⟨_, rfl, l, ps.map (dot p), rfl, SqL.of el, by intro z; rw [List.map_eq_nil_iff] at z; subst z; simp at l1, fun m hm hmx => ?_⟩
    refine ⟨_, rfl, l, rfl, ⟨_, SqL.of el⟩, fun _ _ _ _ l2 hl2 => ?_⟩
    have hl2' : H l2 = none := (e12.trans e).free hl2
    refine comp_by ps.length (by rw [sizeLine_eq]; omega) (fun i vs σ' Hc => Same H3 Hc ∧ Hc l2 = some (.lst vs) ∧ vs = ((List.range i).filter fun j => decide ((ps.map (dot p)).getD j 0 = m)).map (fun (j : Nat) => V.int (j : Int)) ∧ ∃ o1 o2, σ' = [o1, o2, some (.int m)]) ?_ (fun i vs σ' Hc ⟨_, e, y, _⟩ => ⟨e, by rw [y, List.length_map]; exact Nat.le_trans (List.length_filter_le _ _) (by simp)⟩) ?_ ?_
    · exact ⟨same_new hl2 _, upd_same, rfl, _, _, rfl⟩
    · rintro i vs σ' Hc hi ⟨e', el', rfl, o1, o2, rfl⟩
      have hv : ((ps.map (dot p)).map V.int)[i]? = some (.int (dot p ps[i])) := by simp [hi]
      refine ⟨⟨_, _, e'.seq (SqL.of el), hv⟩, fun v H' y' Kt Kf k1 k2 => ?_⟩
      obtain ⟨T, x', rfl, hT, rfl, hx'⟩ := y'
      have hx2 := hx' _ (e'.seq (SqL.of el))
      rw [hv] at hx2; cases hx2
      have eT := same_new hT (HO.tup [.int (i : Int), .int (dot p ps[i])])
      have ed : (ps.map (dot p)).getD i 0 = dot p ps[i] := by simp [hi]
      refine ⟨T, _, rfl, SqT.of upd_same, rfl, _, _, rfl, _, _, rfl, rfl, ?_⟩
      refine ⟨_, rfl, _, rfl, rfl, _, rfl, ite2 (fun c => ?_) (fun c => ?_)⟩
      · have c' : dot p ps[i] = m := by simpa using c
        refine ⟨_, rfl, k1 _ _ _ (eT _ _ el') ⟨same_upd hl2 (e'.trans eT), upd_same, ?_, _, _, rfl⟩⟩
        rw [range_filter, if_pos (decide_eq_true (by rw [ed]; exact c')), List.map_append]; rfl
      · have c' : ¬ dot p ps[i] = m := by simpa using c
        refine k2 _ _ ⟨e'.trans eT, eT _ _ el', ?_, _, _, rfl⟩
        rw [range_filter, if_neg (by rw [ed]; simpa using c'), List.append_nil]
    · rintro vs σ' H4 ⟨e', el', rfl, _⟩
      refine ⟨⟨_, e'.seq (SqL.of el), by simp⟩, ?_⟩
      refine q l2 m H4 ((e12.trans e).trans e') hl2' hm hmx ?_
      unfold farIx
      rw [List.length_map]; exact el'
def sp_lfar (K : PySem.W.Frag) : L2.Sp := fun vs H Q _ => ∃ x y a b, vs = [x, y] ∧ Sp K H x a ∧ Sp K H y b ∧ Q (.int (far a b)) H
theorem ok_lfar (B : Bl mg) (F : Fun K "_law_far" "_law_far" s__law_far f fd) : FnOk P w K mg base CX0 1 f fd ["_law_one", "_law_other"] (sp_lfar K) := by
  refine F.ok sc__law_far (fun vs H Q E h => ?_) (fun cdv A outer s H vs Q E hr h => ?_)
  · obtain ⟨x, y, a, b, rfl, _⟩ := h
    rfl
  obtain ⟨x, y, a, b, rfl, ⟨ha, ha1, ha2⟩, ⟨hb, hb1, hb2⟩, q⟩ := h
  obtain ⟨x, rfl, ta⟩ := ha.spot
  obtain ⟨y, rfl, tb⟩ := hb.spot
  refine ⟨_, (pss_one (ps_ret (pe_op op_add (pe_callB call_abs (by rfl) B.abs PySem.L3.boot_abs (pa_cons (pe_op op_sub (pe_ix ix_tup (pv 1) pe_int (fun _ _ => rfl)) (pe_ix ix_tup (pv 0) pe_int (fun _ _ => rfl))) pa_nil)) (pe_callB call_abs (by rfl) B.abs PySem.L3.boot_abs (pa_cons (pe_op op_sub (pe_ix ix_tup (pv 1) pe_int (fun _ _ => rfl)) (pe_ix ix_tup (pv 0) pe_int (fun _ _ => rfl))) pa_nil))))), ?_⟩
  refine ⟨_, rfl, y, _, _, _, rfl, rfl, tb, rfl, _, rfl, x, _, _, _, rfl, rfl, ta, rfl, _, _, rfl, rfl, _, rfl, ?_⟩
  exact ⟨_, rfl, y, _, _, _, rfl, rfl, tb, rfl, _, rfl, x, _, _, _, rfl, rfl, ta, rfl, _, _, rfl, rfl, _, rfl, _, _, rfl, rfl, q⟩
def sp_next (K : PySem.W.Frag) : L2.Sp := fun vs H Q _ => ∃ (o : Addr) (x : V) (ys : List V) (row : List Hull.P) (s : Hull.P), vs = [.ref o, x] ∧ SqL K H o ys ∧ Dns K H (row.map spotD) ys ∧ (∀ p ∈ row, Bd p) ∧ Sp K H x s ∧
  ∀ v H', Same H H' → Sp K H' v (nextOf row s) → Q v H'
theorem ok_next (B : Bl mg) (C__law_turn : Cal P w K mg base 1 "_law_turn" (sp_turn K)) (C__law_far : Cal P w K mg base 1 "_law_far" (sp_lfar K)) (F : Fun K "_law_next" "_law_next" s__law_next f fd) : FnOk P w K mg base CX0 2 f fd ["_law_each", "_law_spot_here"] (sp_next K) := by
  refine F.ok sc__law_next (fun vs H Q E h => ?_) (fun cdv A outer s H vs Q E hr h => ?_)
  · obtain ⟨o, x, ys, row, sp, rfl, _⟩ := h
    rfl
  obtain ⟨o, x, ys, row, sp, rfl, ho, hd, hb, hx, q⟩ := h
  have hu := hr.units
  refine ⟨_, (pss_cons (ps_set (i := 2) sc__law_next.nd rfl (Or.inl rfl) (pv 1))
    (pss_cons (ps_for PassesOwn.never rfl (pi_list (pv 0)) (pg_name (i := 3) sc__law_next.nd rfl (Or.inl rfl)) (pss_cons (ps_set (i := 4) sc__law_next.nd rfl (Or.inl rfl) (pe_c C__law_turn (hr.mono (by decide)) (by rfl) (pa_cons (pv 1) (pa_cons (pv 2) (pa_cons (pv 3) pa_nil)))))
    (pss_one (ps_if (PW.pt (pw_or (pt_cmpR (op_eqSp hu) (pv 2) (pv 1) (nomark _)) (pw_or1 (pt_cmpR op_lt (pv 4) pe_int (nomark _))))) (pss_one (ps_set (i := 2) sc__law_next.nd rfl (Or.inl rfl) (pv 3))) (pss_one (ps_if (PW.pt (pw_and (pt_cmpR op_eq (pv 4) pe_int (nomark _)) (pw_and1 (pt_cmpR op_gt (pe_c C__law_far (hr.mono (by decide)) (by rfl) (pa_cons (pv 1) (pa_cons (pv 3) pa_nil))) (pe_c C__law_far (hr.mono (by decide)) (by rfl) (pa_cons (pv 1) (pa_cons (pv 2) pa_nil))) (nomark _))))) (pss_one (ps_set (i := 2) sc__law_next.nd rfl (Or.inl rfl) (pv 3))) pss_nil))))))
    (pss_one (ps_ret (pv 2))))), ?_⟩
  refine ⟨_, rfl, _, rfl, o, rfl, ⟨_, ho⟩, ?_⟩
  refine for_list (xs := ys) (fun i σ' H' => ∃ v o3 o4, σ' = [some (.ref o), some x, some v, o3, o4] ∧ Same H H' ∧ Sp K H' v ((row.take i).foldl (nextStep sp) sp)) ⟨x, _, _, rfl, Same.refl _, hx⟩ (fun i σ' H' _ h => ?_) ?_ ?_
  · obtain ⟨v, o3, o4, rfl, e, _⟩ := h
    exact e.seq ho
  · rintro i y σ' H' hy ⟨v, o3, o4, rfl, e, hv⟩
    obtain ⟨d, hd1, hd2⟩ := hd.get' hy
    rw [List.getElem?_map] at hd1
    obtain ⟨t, ht, rfl⟩ := Option.map_eq_some_iff.mp hd1
    have hyt : Sp K H' y t := ⟨e.dn hd2, hb t (List.mem_of_getElem? ht)⟩
    have estep : (row.take (i + 1)).foldl (nextStep sp) sp = nextStep sp ((row.take i).foldl (nextStep sp) sp) t := by rw [List.take_add_one, ht, List.foldl_append]; rfl
    rw [estep]
    generalize (row.take i).foldl (nextStep sp) sp = fnd at *
    refine ⟨_, rfl, _, rfl, _, rfl, x, v, y, sp, fnd, t, rfl, hx.same e, hv, hyt, fun H1 e1 => ?_⟩
    have ee := e.trans e1
    refine ⟨_, rfl, _, rfl, fnd, sp, (hv.same e1).1, (hx.same ee).1, _, rfl, ?_⟩
    have yes : nextStep sp fnd t = t → ∃ v o3 o4, [some (V.ref o), some x, some y, some y, some (V.int (turn sp fnd t))] = [some (.ref o), some x, some v, o3, o4] ∧ Same H H1 ∧ Sp K H1 v (nextStep sp fnd t) := fun h => ⟨y, _, _, rfl, ee, by rw [h]; exact hyt.same e1⟩
    refine ite2 (fun c => ?_) (fun c => ?_)
    · have c' : fnd = sp := by simpa using c
      refine ite2 (fun _ => ?_) (fun h => absurd rfl h)
      refine ⟨_, rfl, yes ?_⟩
      unfold nextStep; rw [if_pos (.inl c')]
    · have c' : ¬ fnd = sp := by simpa using c
      refine ⟨_, rfl, _, _, rfl, rfl, _, rfl, ite2 (fun c1 => ?_) (fun c1 => ?_)⟩
      · have c2 : turn sp fnd t < 0 := of_decide_eq_true c1
        refine ⟨_, rfl, yes ?_⟩
        unfold nextStep; rw [if_pos (.inr c2)]
      · have c2 : ¬ turn sp fnd t < 0 := of_decide_eq_false (Bool.eq_false_iff.mpr c1)
        refine ⟨_, rfl, rfl, _, rfl, ite2 (fun c3 => ?_) (fun c3 => ?_)⟩
        · have c4 : turn sp fnd t = 0 := by simpa using c3
          refine ⟨_, rfl, _, rfl, x, y, sp, t, rfl, hx.same ee, hyt.same e1, ?_⟩
          refine ⟨_, rfl, _, rfl, x, v, sp, fnd, rfl, hx.same ee, hv.same e1, ?_⟩
          refine ⟨_, _, rfl, rfl, _, rfl, ite2 (fun c5 => ?_) (fun c5 => ?_)⟩
          · have c6 : far sp fnd < far sp t := of_decide_eq_true c5
            refine ⟨_, rfl, yes ?_⟩
            unfold nextStep; rw [if_neg (by rintro (g | g); exact c' g; exact c2 g), if_pos ⟨c4, c6⟩]
          · have c6 : ¬ far sp fnd < far sp t := of_decide_eq_false (Bool.eq_false_iff.mpr c5)
            refine ⟨v, _, _, rfl, ee, ?_⟩
            unfold nextStep; rw [if_neg (by rintro (g | g); exact c' g; exact c2 g), if_neg (fun g => c6 g.2)]
            exact hv.same e1
        · have c4 : ¬ turn sp fnd t = 0 := by simpa using c3
          refine ite2 (fun h => by cases h) (fun _ => ?_)
          refine ⟨v, _, _, rfl, ee, ?_⟩
          unfold nextStep; rw [if_neg (by rintro (g | g); exact c' g; exact c2 g), if_neg (fun g => c4 g.1)]
          exact hv.same e1
  · rintro σ' H' ⟨v, o3, o4, rfl, e, hv⟩
    have hyl : ys.length = row.length := by have := hd.length; rwa [List.length_map] at this
    rw [hyl, List.take_length] at hv
    exact ⟨_, rfl, q v H' e hv⟩
def sp_round (K : PySem.W.Frag) : L2.Sp := fun vs H Q _ => ∃ (o : Addr) (ys : List V) (ps : List Hull.P), vs = [.ref o] ∧ SqL K H o ys ∧ Dns K H (ps.map spotD) ys ∧ (∀ p ∈ ps, Bd p) ∧ 1 ≤ ps.length ∧ ps.length ≤ 8 ∧
  ∀ l zs row H', Same H H' → H l = none → H' l = some (.lst zs) → Of row ps → Dns K H' ((hull row).map spotD) zs → Q (.ref l) H'
theorem ok_round (B : Bl mg) (C__law_next : Cal P w K mg base 2 "_law_next" (sp_next K)) (F : Fun K "_law_round" "_law_round" s__law_round f fd) : FnOk P w K mg base CX0 3 f fd ["_law_herd_here"] (sp_round K) := by
  refine F.ok sc__law_round (fun vs H Q E h => ?_) (fun cdv A outer s H vs Q E hr h => ?_)
  · obtain ⟨o, ys, ps, rfl, _⟩ := h
    rfl
  obtain ⟨o, ys, ps, rfl, ho, hd, hb, l1, l8, q⟩ := h
  have hu := hr.units
  have hz : ys.length = ps.length := by have := hd.length; rwa [List.length_map] at this
  refine ⟨_, (pss_cons (ps_set (i := 1) sc__law_round.nd rfl (Or.inl rfl) (pe_callB (call_sortSp rfl) (by rfl) B.sorted PySem.L3.boot_sorted (pa_cons (pe_callTy (call_setSp rfl hu) (by rfl) B.set PySem.L3.boot_set (pa_cons (pv 0) pa_nil)) pa_nil)))
    (pss_cons (ps_set (i := 2) sc__law_round.nd rfl (Or.inl rfl) (pe_lst (pa_cons (pe_ix ix_list (pv 1) pe_int (fun _ _ => rfl)) pa_nil)))
    (pss_cons (ps_while PassesOwn.never (pt_cmpR op_le (pe_callB call_len_seq (by rfl) B.len PySem.L3.boot_len (pa_cons (pv 2) pa_nil)) (pe_callB call_len_seq (by rfl) B.len PySem.L3.boot_len (pa_cons (pv 1) pa_nil)) (nomark _)) (pss_cons (ps_set (i := 3) sc__law_round.nd rfl (Or.inl rfl) (pe_c C__law_next (hr.mono (by decide)) (by rfl) (pa_cons (pv 1) (pa_cons (pe_ix ix_list (pv 2) (pe_un un_neg pe_int) (fun _ _ => rfl)) pa_nil))))
    (pss_cons (ps_if (pt_cmpR (op_eqSp hu) (pv 3) (pe_ix ix_list (pv 1) pe_int (fun _ _ => rfl)) (nomark _)) (pss_one (ps_ret (pv 2))) pss_nil)
    (pss_one (ps_expr (pe_bm PySem.F.plainAttrs_list PySem.F.slot_list_append PySem.F.type_list_append mt_append (pv 2) (pa_cons (pv 3) pa_nil)))))))
    (pss_one (ps_ret (pv 2)))))), ?_⟩
  refine ⟨_, rfl, o, ys, ps, rfl, ho, hd, by omega, fun L a ha he hm hlL => ?_⟩
  refine ⟨a, L, rfl, upd_same, he.same (same_new ha _), by omega, fun rs row r hr' dr sr mr lr => ?_⟩
  have e2 : Same H (upd (upd H a (setO P w a L)) r (.lst rs)) := (same_new ha _).trans (same_new hr' _)
  have hr2 : upd (upd H a (setO P w a L)) r (.lst rs) r = some (.lst rs) := upd_same
  have dr2 : Dns K (upd (upd H a (setO P w a L)) r (.lst rs)) (row.map spotD) rs := (same_new hr' _).dns dr
  show gName 1 (V.ref r) _ (upd (upd H a (setO P w a L)) r (.lst rs)) _
  generalize upd (upd H a (setO P w a L)) r (.lst rs) = H2 at *
  have of : Of row ps := ⟨sr, fun p => (mr p).trans (hm p)⟩
  have brow : ∀ p ∈ row, Bd p := fun p hp => hb p ((of.2 p).mp hp)
  have lrs : rs.length = row.length := by have := dr2.length; rwa [List.length_map] at this
  have nd := hull_nodup sr
  have hhd := hull_head sr
  have hle : (hull row).length ≤ row.length := sorted_len nd fun p hp => (hull_held sr hp).1
  -- the least
  obtain ⟨p0, hp0⟩ : ∃ p0, row[0]? = some p0 := by
    match row, ps, l1, of with
    | [], p :: ps, _, of => exact absurd ((of.2 p).mpr (by simp)) (by simp)
    | a :: _, _, _, _ => exact ⟨a, rfl⟩
  have hh0 : (hull row)[0]? = some p0 := by rw [← List.head?_eq_getElem?, hhd, List.head?_eq_getElem?, hp0]
  have hpos : 0 < (hull row).length := (List.getElem?_eq_some_iff.mp hh0).1
  obtain ⟨v0, hv0, dv0⟩ := dr2.get (i := 0) (d := spotD p0) (by rw [List.getElem?_map, hp0]; rfl)
  refine ⟨_, rfl, r, rs, 0, v0, rfl, rfl, SqL.of hr2, atI_nat (j := 0) hv0, (by show 1 ≤ sizeLine; decide), fun l hl => ?_⟩
  have hl0 : H l = none := e2.free hl
  have e3 := same_new hl (HO.lst [v0])
  refine ⟨fun m σ' H' => ∃ zs i o3, σ' = [some (.ref o), some (.ref r), some (.ref l), o3] ∧ Same H2 H' ∧ H' l = some (.lst zs) ∧ Dns K H' (((hull row).take (i + 1)).map spotD) zs ∧ i < (hull row).length ∧ m = (hull row).length - i, ⟨_, [v0], 0, _, rfl, e3, upd_same, ?_, hpos, rfl⟩, ?_⟩
  · have : (hull row).take 1 = [p0] := by
      match hull row, hh0 with
      | b :: t, hh0 => simp at hh0; subst hh0; rfl
    rw [this]; exact dns_cons (e3.dn dv0) dns_nil
  · rintro m σ' H' ⟨zs, i, o3, rfl, e4, hl4, dz, hi, rfl⟩
    have lz : zs.length = i + 1 := by have := dz.length; rw [List.length_map, List.length_take] at this; omega
    refine ⟨_, rfl, l, zs, rfl, .inl (SqL.of hl4), _, rfl, r, rs, rfl, .inl (e4.seq (SqL.of hr2)), _, _, rfl, rfl, _, rfl, ite2 (fun c => ?_) (fun c => ?_)⟩
    · -- the next one
      refine ⟨fun σ' H' => ∃ zs o3, σ' = [some (.ref o), some (.ref r), some (.ref l), o3] ∧ Same H2 H' ∧ H' l = some (.lst zs) ∧ Dns K H' (((hull row).take (i + 2)).map spotD) zs ∧ i + 1 < (hull row).length, ?_, ?_⟩
      · rintro σ'' H'' ⟨zs', o3', rfl, a1, a2, a3, a4⟩
        exact ⟨(hull row).length - (i + 1), by omega, zs', i + 1, o3', rfl, a1, a2, a3, a4, rfl⟩
      have hcur : (hull row)[i]? = some (hull row)[i] := List.getElem?_eq_getElem hi
      obtain ⟨vc, hvc, dvc⟩ := dz.get (i := i) (d := spotD (hull row)[i]) (by rw [List.getElem?_map, List.getElem?_take, if_pos (by omega), hcur]; rfl)
      have hat : atI zs (-1) = some vc := by
        have : zs = zs.dropLast ++ [vc] := by
          have hne : zs ≠ [] := by intro z; rw [z] at lz; simp at lz
          rw [← List.dropLast_concat_getLast hne]
          congr 1
          · simp
          · rw [List.getLast_eq_getElem]
            have : zs[zs.length - 1]? = some vc := by rw [lz]; exact hvc
            rw [List.getElem?_eq_getElem (by omega)] at this
            simpa using this
        rw [this]; exact atI_last _ _
      have bcur := hull_bd of hb _ (List.getElem_mem hi)
      refine ⟨_, rfl, _, rfl, _, rfl, l, zs, _, vc, rfl, rfl, SqL.of hl4, hat, ?_⟩
      refine ⟨r, vc, rs, row, (hull row)[i], rfl, e4.seq (SqL.of hr2), e4.dns dr2, brow, ⟨dvc, bcur⟩, fun v H5 e5 hv => ?_⟩
      have e45 := e4.trans e5
      refine ⟨_, rfl, _, rfl, r, rs, 0, v0, rfl, rfl, e45.seq (SqL.of hr2), atI_nat (j := 0) hv0, _, p0, hv.1, e45.dn dv0, _, rfl, ?_⟩
      -- what it is
      have what := wrap_next sr hh0 hi
      refine ite2 (fun c1 => ?_) (fun c1 => ?_)
      · have c2 : nextOf row (hull row)[i] = p0 := by simpa using c1
        have hi1 : i + 1 = (hull row).length := by
          rcases Nat.lt_or_ge (i + 1) (hull row).length with g | g
          · exact absurd c2 (what.1 g).2
          · omega
        refine ⟨_, rfl, q l zs row H5 (e2.trans e45) hl0 (e5 _ _ hl4) of ?_⟩
        rw [hi1, List.take_length] at dz
        exact e5.dns dz
      · have c2 : ¬ nextOf row (hull row)[i] = p0 := by simpa using c1
        have hi1 : i + 1 < (hull row).length := by
          rcases Nat.lt_or_ge (i + 1) (hull row).length with g | g
          · exact g
          · exact absurd (what.2 (by omega)) c2
        refine ⟨_, rfl, .inl ⟨rfl, _, SqL.of (e5 _ _ hl4)⟩, _, rfl, l, _, v, rfl, rfl, e5 _ _ hl4, by rw [sizeLine_eq]; omega, ?_⟩
        refine ⟨zs ++ [v], _, rfl, same_upd hl e45, upd_same, ?_, hi1⟩
        rw [List.take_add_one, (what.1 hi1).1, List.map_append]
        exact (spots_upd (e5 _ _ hl4) (e5.dns dz)).append (dns_cons (spot_upd (e5 _ _ hl4) hv.1) dns_nil)
    · exfalso
      have c' : ¬ ((zs.length : Nat) : Int) ≤ ((rs.length : Nat) : Int) := of_decide_eq_false (Bool.eq_false_iff.mpr c)
      omega
def sp_common : L2.Sp := fun vs H Q _ => ∃ a b : Int, vs = [.int a, .int b] ∧ 0 ≤ a ∧ 0 ≤ b ∧ Q (.int (K9.g a b)) H
theorem ok_common (F : Fun K "_law_common" "_law_common" s__law_common f fd) : FnOk P w K mg base CX0 1 f fd ["_law_one", "_law_other"] sp_common := by
  refine F.ok sc__law_common (fun vs H Q E h => ?_) (fun cdv A outer s H vs Q E hr h => ?_)
  · obtain ⟨a, b, rfl, _⟩ := h
    rfl
  obtain ⟨a, b, rfl, ha, hb, q⟩ := h
  refine ⟨_, (pss_cons (ps_while PassesOwn.never (pt_cmpR op_gt (pv 1) pe_int (nomark _)) (pss_one (ps_par (i := 0) (j := 1) rfl sc__law_common.nd rfl rfl (by decide) rfl rfl (pa_cons (pv 1) (pa_cons (pe_op op_mod (pv 0) (pv 1)) pa_nil)) (by with_unfolding_all rfl))))
    (pss_one (ps_ret (pv 0)))), ?_⟩
  refine ⟨fun m σ' H' => H' = H ∧ ∃ (x y : Int), σ' = [some (.int x), some (.int y)] ∧ 0 ≤ x ∧ 0 ≤ y ∧ K9.g x y = K9.g a b ∧ m = y.toNat, ⟨_, rfl, _, _, rfl, ha, hb, rfl, rfl⟩, ?_⟩
  rintro m σ' H' ⟨rfl, x, y, rfl, hx, hy, hg, rfl⟩
  refine ⟨_, rfl, _, _, rfl, rfl, _, rfl, ite2 (fun c => ?_) (fun c => ?_)⟩
  · have c' : 0 < y := of_decide_eq_true c
    refine ⟨fun σ' H'' => H'' = H' ∧ σ' = [some (.int y), some (.int (x % y))], ?_, ?_⟩
    · rintro σ'' H'' ⟨rfl, rfl⟩
      have h1 := Int.emod_nonneg x (show y ≠ 0 by omega)
      have h2 := Int.emod_lt_of_pos x c'
      exact ⟨(x % y).toNat, by omega, rfl, y, x % y, rfl, by omega, h1, by rw [K9.g_step hx c', hg], rfl⟩
    · exact ⟨_, rfl, _, rfl, _, rfl, _, _, rfl, rfl, c', _, _, rfl, rfl, rfl⟩
  · have c' : ¬ 0 < y := of_decide_eq_false (Bool.eq_false_iff.mpr c)
    have hy0 : y = 0 := by omega
    subst hy0
    rw [K9.g_zero hx] at hg
    refine ⟨_, rfl, ?_⟩
    show Q (.int x) _
    rw [hg]; exact q
def edgeN (h : List Hull.P) : Int := if h.length = 1 then 1 else if 2 < h.length then pathSum gc (ring h) else pathSum gc (ring h) / 2 + 1
def sp_edge (K : PySem.W.Frag) : L2.Sp := fun vs H Q _ => ∃ (o : Addr) (ys : List V) (ps : List Hull.P), vs = [.ref o] ∧ SqL K H o ys ∧ Dns K H (ps.map spotD) ys ∧ (∀ p ∈ ps, Bd p) ∧ 1 ≤ ps.length ∧ ps.length ≤ 8 ∧ Q (.int (edgeN ps)) H
def soFar (g : Hull.P → Hull.P → Int) (h : List Hull.P) (z : Hull.P) : Nat → Int
  | 0 => 0
  | k + 1 => (match h[0]? with | some a => g z a | none => 0) + pathSum g (h.take (k + 1))
theorem soFar_succ (g : Hull.P → Hull.P → Int) (h : List Hull.P) (z : Hull.P) (k : Nat) : soFar g h z (k + 1) = (match h[0]? with | some a => g z a | none => 0) + pathSum g (h.take (k + 1)) := rfl
theorem ok_edge (B : Bl mg) (C__law_common : Cal P w K mg base 1 "_law_common" sp_common) (F : Fun K "_law_edge" "_law_edge" s__law_edge f fd) : FnOk P w K mg base CX0 2 f fd ["_law_found"] (sp_edge K) := by
  refine F.ok sc__law_edge (fun vs H Q E h => ?_) (fun cdv A outer s H vs Q E hr h => ?_)
  · obtain ⟨o, ys, ps, rfl, _⟩ := h
    rfl
  obtain ⟨o, ys, ps, rfl, ho, hd, hb, l1, l8, q⟩ := h
  have hz : ys.length = ps.length := by have := hd.length; rwa [List.length_map] at this
  refine ⟨_, (pss_cons (ps_if (pt_cmpR op_eq (pe_callB call_len_seq (by rfl) B.len PySem.L3.boot_len (pa_cons (pv 0) pa_nil)) pe_int (nomark _)) (pss_one (ps_ret pe_int)) pss_nil)
    (pss_cons (ps_set (i := 1) sc__law_edge.nd rfl (Or.inl rfl) pe_int)
    (pss_cons (ps_for PassesOwn.never rfl (pi_range1 (by rfl) B.range (pa_cons (pe_callB call_len_seq (by rfl) B.len PySem.L3.boot_len (pa_cons (pv 0) pa_nil)) pa_nil)) (pg_name (i := 2) sc__law_edge.nd rfl (Or.inl rfl)) (pss_cons (ps_par (i := 3) (j := 4) rfl sc__law_edge.nd rfl rfl (by decide) rfl rfl (pa_cons (pe_ix ix_list (pv 0) (pe_op op_sub (pv 2) pe_int) (fun _ _ => rfl)) (pa_cons (pe_ix ix_list (pv 0) (pv 2) (fun _ _ => rfl)) pa_nil)) (by with_unfolding_all rfl))
    (pss_one (ps_set (i := 1) sc__law_edge.nd rfl (Or.inl rfl) (pe_op op_add (pv 1) (pe_c C__law_common (hr.mono (by decide)) (by rfl) (pa_cons (pe_callB call_abs (by rfl) B.abs PySem.L3.boot_abs (pa_cons (pe_op op_sub (pe_ix ix_tup (pv 4) pe_int (fun _ _ => rfl)) (pe_ix ix_tup (pv 3) pe_int (fun _ _ => rfl))) pa_nil)) (pa_cons (pe_callB call_abs (by rfl) B.abs PySem.L3.boot_abs (pa_cons (pe_op op_sub (pe_ix ix_tup (pv 4) pe_int (fun _ _ => rfl)) (pe_ix ix_tup (pv 3) pe_int (fun _ _ => rfl))) pa_nil)) pa_nil))))))))
    (pss_one (ps_ret (pe_ifExp (pt_cmpR op_gt (pe_callB call_len_seq (by rfl) B.len PySem.L3.boot_len (pa_cons (pv 0) pa_nil)) pe_int (nomark _)) (pv 1) (pe_op op_add (pe_op op_fdiv (pv 1) pe_int) pe_int))))))), ?_⟩
  refine ⟨_, rfl, o, ys, rfl, .inl ho, rfl, _, rfl, ite2 (fun c => ?_) (fun c => ?_)⟩
  · have c' : ps.length = 1 := by
      have : ((ys.length : Nat) : Int) = 1 := by simpa using c
      omega
    have : edgeN ps = 1 := by unfold edgeN; rw [if_pos c']
    rw [this] at q; exact q
  · have c' : ps.length ≠ 1 := by
      have : ¬ ((ys.length : Nat) : Int) = 1 := by simpa using c
      omega
    obtain ⟨zl, hzl⟩ : ∃ zl, ps.getLast? = some zl := by
      cases hq : ps.getLast? with
      | none => rw [List.getLast?_eq_none_iff] at hq; subst hq; simp at l1
      | some zl => exact ⟨zl, rfl⟩
    have hps0 : ps[0]? = some ps[0] := List.getElem?_eq_getElem (by omega)
    have at_ : ∀ (i : Nat) (_ : i < ps.length), ∃ v, ys[i]? = some v ∧ Sp K H v ps[i] := fun i hi => by
      obtain ⟨v, h1, h2⟩ := hd.get (i := i) (d := spotD ps[i]) (by simp [hi])
      exact ⟨v, h1, h2, hb _ (List.getElem_mem hi)⟩
    refine ⟨_, rfl, o, ys, rfl, .inl ho, _, rfl, by omega, by omega, ?_⟩
    refine for_range (fun i σ' H' => ∃ o2 o3 o4, σ' = [some (.ref o), some (.int (soFar gc ps zl i)), o2, o3, o4] ∧ H' = H ∧ i ≤ ps.length) ⟨_, _, _, rfl, rfl, Nat.zero_le _⟩ ?_ ?_
    · rintro i σ' H' hi ⟨o2, o3, o4, rfl, rfl, hi'⟩
      have hip : i < ps.length := by omega
      obtain ⟨v, hv, sv⟩ := at_ i hip
      -- the one before
      obtain ⟨u, pu, hu1, su, eu⟩ : ∃ u pu, atI ys (0 + (i : Int) - 1) = some u ∧ Sp K H' u pu ∧ soFar gc ps zl (i + 1) = soFar gc ps zl i + gc pu ps[i] := by
        cases i with
        | zero =>
          obtain ⟨w', hw', sw'⟩ := at_ (ps.length - 1) (by omega)
          have ez : ps[ps.length - 1] = zl := by
            rw [List.getLast?_eq_getElem?] at hzl
            rw [List.getElem?_eq_getElem (by omega)] at hzl
            exact Option.some.inj hzl
          refine ⟨w', zl, ?_, ez ▸ sw', ?_⟩
          · show atI ys (0 + ((0 : Nat) : Int) - 1) = some w'
            unfold atI ixN
            rw [if_neg (by omega), if_pos (by omega)]
            have : (0 + ((0 : Nat) : Int) - 1 + ((ys.length : Nat) : Int)).toNat = ps.length - 1 := by omega
            rw [this]; exact hw'
          · unfold soFar
            rw [hps0]
            show gc zl ps[0] + pathSum gc (ps.take (0 + 1)) = 0 + gc zl ps[0]
            have : pathSum gc (ps.take (0 + 1)) = 0 := by
              match ps, hip with
              | [a], _ => rfl
              | a :: b :: t, _ => rfl
            omega
        | succ k =>
          obtain ⟨w', hw', sw'⟩ := at_ k (by omega)
          refine ⟨w', ps[k], ?_, sw', ?_⟩
          · have : (0 + ((k + 1 : Nat) : Int) - 1) = (k : Int) := by omega
            rw [this]; exact atI_nat hw'
          · rw [soFar_succ, soFar_succ, sum_take gc ps k ps[k] ps[k + 1] (List.getElem?_eq_getElem (by omega)) (List.getElem?_eq_getElem hip)]
            omega
      have hv' : atI ys (0 + (i : Int)) = some v := by rw [Int.zero_add]; exact atI_nat hv
      refine ⟨_, rfl, _, rfl, _, _, rfl, rfl, o, ys, _, u, rfl, rfl, ho, hu1, _, rfl, _, rfl, o, ys, _, v, rfl, rfl, ho, hv', u, v, rfl, ?_⟩
      obtain ⟨⟨du, bu⟩, dv, bv⟩ := And.intro su sv
      obtain ⟨ua, rfl, tu⟩ := du.spot
      obtain ⟨va, rfl, tv⟩ := dv.spot
      refine ⟨_, rfl, ?_⟩
      refine ⟨_, rfl, va, _, _, _, rfl, rfl, tv, rfl, _, rfl, ua, _, _, _, rfl, rfl, tu, rfl, _, _, rfl, rfl, _, rfl, ?_⟩
      refine ⟨_, rfl, va, _, _, _, rfl, rfl, tv, rfl, _, rfl, ua, _, _, _, rfl, rfl, tu, rfl, _, _, rfl, rfl, _, rfl, ?_⟩
      refine ⟨_, _, rfl, by split <;> omega, by split <;> omega, _, _, rfl, rfl, ?_⟩
      rw [eu, K9.g_abs]
      exact ⟨_, _, _, rfl, rfl, by omega⟩
    · rintro σ' H' ⟨o2, o3, o4, rfl, rfl, hi'⟩
      have et : soFar gc ps zl ((ys.length : Nat) : Int).toNat = pathSum gc (ring ps) := by
        rw [Int.toNat_natCast, hz]
        obtain ⟨k, hk⟩ : ∃ k, ps.length = k + 1 := ⟨ps.length - 1, by omega⟩
        rw [hk, soFar_succ, hps0, ← hk, List.take_length, ring_sum gc ps ps[0] zl hps0 hzl]
      rw [et]
      refine ⟨_, rfl, o, ys, rfl, .inl ho, _, _, rfl, rfl, _, rfl, ite2 (fun c2 => ?_) (fun c2 => ?_)⟩
      · have c3 : (2 : Int) < ((ys.length : Nat) : Int) := of_decide_eq_true c2
        refine ⟨_, rfl, ?_⟩
        have : edgeN ps = pathSum gc (ring ps) := by unfold edgeN; rw [if_neg c', if_pos (by omega)]
        rw [this] at q; exact q
      · have c3 : ¬ (2 : Int) < ((ys.length : Nat) : Int) := of_decide_eq_false (Bool.eq_false_iff.mpr c2)
        refine ⟨_, rfl, _, _, rfl, rfl, ⟨by decide, by decide⟩, _, _, rfl, rfl, ?_⟩
        have : edgeN ps = pathSum gc (ring ps) / 2 + 1 := by unfold edgeN; rw [if_neg c', if_neg (by omega)]
        rw [this] at q; exact q
def sp_counted (K : PySem.W.Frag) : L2.Sp := fun vs H Q _ => ∃ (o : Addr) (ys : List V) (row : List Hull.P), vs = [.ref o] ∧ SqL K H o ys ∧ Dns K H ((hull row).map spotD) ys ∧ row.Pairwise lt ∧ Sm row ∧ 1 ≤ row.length ∧ (hull row).length ≤ 8 ∧ 1 ≤ (hull row).length ∧
  ∀ H' c, Same H H' → 2 * c = pathSum ew (ring (hull row)) + 2 → Q (.int c) H'
theorem prev_at {K : PySem.W.Frag} {H : Hp} {h : List Hull.P} {zs : List V} (hd : Dns K H (h.map spotD) zs) (k : Nat) (hk : k < h.length) : ∃ u, atI zs (0 + (k : Int) - 1) = some u ∧ Dn K H (spotD (pr h k)) u ∧ pr h k ∈ h := by
  have hz : zs.length = h.length := by have := hd.length; rwa [List.length_map] at this
  have at_ : ∀ (i : Nat) (_ : i < h.length), ∃ v, zs[i]? = some v ∧ Dn K H (spotD h[i]) v := fun i hi => hd.get (i := i) (d := spotD h[i]) (by simp [hi])
  cases k with
  | zero =>
    obtain ⟨u, h1, h2⟩ := at_ (h.length - 1) (by omega)
    have e : pr h 0 = h[h.length - 1] := by
      unfold pr; rw [if_pos rfl, List.getLastD_eq_getLast?, List.getLast?_eq_getElem?, List.getElem?_eq_getElem (by omega)]; rfl
    rw [e]
    refine ⟨u, ?_, h2, List.getElem_mem _⟩
    unfold atI ixN
    rw [if_neg (by omega), if_pos (by omega)]
    have : (0 + ((0 : Nat) : Int) - 1 + ((zs.length : Nat) : Int)).toNat = h.length - 1 := by omega
    rw [this]; exact h1
  | succ k =>
    obtain ⟨u, h1, h2⟩ := at_ k (by omega)
    have e : pr h (k + 1) = h[k] := by
      unfold pr; rw [if_neg (by omega), show k + 1 - 1 = k by omega, List.getD_eq_getElem?_getD, List.getElem?_eq_getElem (by omega)]; rfl
    rw [e]
    refine ⟨u, ?_, h2, List.getElem_mem _⟩
    have : (0 + ((k + 1 : Nat) : Int) - 1) = (k : Int) := by omega
    rw [this]; exact atI_nat h1
open Classical in
noncomputable def inR (h : List Hull.P) (x y : Int) : Int := if pathAll (fun a b => 0 ≤ turn a b (x, y)) (ring h) then 1 else 0
theorem inR_one (h : List Hull.P) (x y : Int) : inR h x y = 1 ↔ pathAll (fun a b => 0 ≤ turn a b (x, y)) (ring h) := by
  unfold inR; split
  · exact ⟨fun _ => by assumption, fun _ => rfl⟩
  · exact ⟨fun z => (by cases z), fun z => absurd z (by assumption)⟩
theorem inR_or (h : List Hull.P) (x y : Int) : inR h x y = 1 ∨ inR h x y = 0 := by
  unfold inR; split
  · exact .inl rfl
  · exact .inr rfl
theorem ok_counted (B : Bl mg) (C__law_turn : Cal P w K mg base 1 "_law_turn" (sp_turn K)) (F : Fun K "_law_counted" "_law_counted" s__law_counted f fd) : FnOk P w K mg base CX0 2 f fd ["_law_found"] (sp_counted K) := by
  refine F.ok sc__law_counted (fun vs H Q E h => ?_) (fun cdv A outer s H vs Q E hr h => ?_)
  · obtain ⟨o, ys, row, rfl, _⟩ := h
    rfl
  obtain ⟨o, ys, row, rfl, ho, hd, sr, sm, l1, l8, h1, q⟩ := h
  have sub : ∀ p ∈ hull row, p ∈ row := fun p hp => (hull_held sr hp).1
  have cnt := @count_all row sr sm l1
  have smh : Sm (hull row) := fun p hp => sm p (sub p hp)
  clear sm l1 sub
  generalize hull row = h at *
  have hz : ys.length = h.length := by have := hd.length; rwa [List.length_map] at this
  refine ⟨_, (pss_cons (ps_set (i := 1) sc__law_counted.nd rfl (Or.inl rfl) pe_int)
    (pss_cons (ps_par (i := 2) (j := 3) rfl sc__law_counted.nd rfl rfl (by decide) rfl rfl (pa_cons (pe_comp (Nc := ["_law_spot_here"]) (fi := [none]) (comp_sc rfl rfl rfl) rfl (comp_from_go rfl) (pi_list (pv 0)) (fun _ _ _ _ => ⟨(pg_name (i := 0) (show (["_law_spot_here"] : List Str).Nodup by decide +kernel) rfl (Or.inl rfl)), pf_nil, (pe_ix ix_tup (pv 0) pe_int (fun _ _ => rfl))⟩)) (pa_cons (pe_comp (Nc := ["_law_spot_here"]) (fi := [none]) (comp_sc rfl rfl rfl) rfl (comp_from_go rfl) (pi_list (pv 0)) (fun _ _ _ _ => ⟨(pg_name (i := 0) (show (["_law_spot_here"] : List Str).Nodup by decide +kernel) rfl (Or.inl rfl)), pf_nil, (pe_ix ix_tup (pv 0) pe_int (fun _ _ => rfl))⟩)) pa_nil)) (by with_unfolding_all rfl))
    (pss_cons (ps_for PassesOwn.never rfl (pi_range2 (by rfl) B.range (pa_cons (pe_callB (call_minL rfl) (by rfl) B.min PySem.L3.boot_min (pa_cons (pv 2) pa_nil)) (pa_cons (pe_op op_add (pe_callB (call_maxL rfl) (by rfl) B.max PySem.L3.boot_max (pa_cons (pv 2) pa_nil)) pe_int) pa_nil))) (pg_name (i := 4) sc__law_counted.nd rfl (Or.inr rfl)) (pss_one (ps_for PassesOwn.never rfl (pi_range2 (by rfl) B.range (pa_cons (pe_callB (call_minL rfl) (by rfl) B.min PySem.L3.boot_min (pa_cons (pv 3) pa_nil)) (pa_cons (pe_op op_add (pe_callB (call_maxL rfl) (by rfl) B.max PySem.L3.boot_max (pa_cons (pv 3) pa_nil)) pe_int) pa_nil))) (pg_name (i := 5) sc__law_counted.nd rfl (Or.inr rfl)) (pss_cons (ps_setComp (i := 6) (Nc := ["_law_k", "_law_found", "_law_one", "_law_other"]) (fi := [none, some 0, some 4, some 5]) (comp_sc rfl rfl rfl) rfl (comp_from_go rfl) sc__law_counted.nd rfl rfl (pi_range1 (by rfl) B.range (pa_cons (pe_callB call_len_seq (by rfl) B.len PySem.L3.boot_len (pa_cons (pv 0) pa_nil)) pa_nil)) (fun _ _ _ _ => ⟨(pg_name (i := 0) (show (["_law_k", "_law_found", "_law_one", "_law_other"] : List Str).Nodup by decide +kernel) rfl (Or.inl rfl)), pf_nil, (pe_c C__law_turn (hr.mono (by decide)) (by rfl) (pa_cons (pe_ix ix_list (pv 1) (pe_op op_sub (pv 0) pe_int) (fun _ _ => rfl)) (pa_cons (pe_ix ix_list (pv 1) (pv 0) (fun _ _ => rfl)) (pa_cons (pe_tup (pa_cons (pv 2) (pa_cons (pv 3) pa_nil))) pa_nil))))⟩) rfl)
    (pss_one (ps_if (pt_cmpR op_ge (pe_callB (call_minL rfl) (by rfl) B.min PySem.L3.boot_min (pa_cons (pv 6) pa_nil)) pe_int (nomark _)) (pss_one (ps_set (i := 1) sc__law_counted.nd rfl (Or.inl rfl) (pe_op op_add (pv 1) pe_int))) pss_nil))))))
    (pss_one (ps_ret (pv 1)))))), ?_⟩
  -- the first and the second numbers
  refine ⟨_, rfl, o, rfl, ⟨_, ho⟩, fun _ _ _ _ lw hlw => ?_⟩
  refine comp_by ys.length (by rw [sizeLine_eq]; omega) (fun i vs σ' Hc => Same H Hc ∧ Hc lw = some (.lst vs) ∧ vs = ((h.take i).map (·.1)).map V.int ∧ i ≤ h.length ∧ σ'.length = 1) ?_ (fun i vs σ' Hc ⟨_, e, y, hi, _⟩ => ⟨e, by rw [y]; simp; omega⟩) ?_ ?_
  · exact ⟨same_new hlw _, upd_same, rfl, Nat.zero_le _, rfl⟩
  · rintro i vs σ' Hc hi ⟨e, el, rfl, hi', hσ⟩
    have hip : i < h.length := by omega
    have hp : h[i]? = some h[i] := List.getElem?_eq_getElem hip
    obtain ⟨v, v1, v2⟩ := hd.get (i := i) (d := spotD h[i]) (by simp [hip])
    refine ⟨⟨_, v, e.seq ho, v1⟩, fun v' H' y' Kt Kf k1 _ => ?_⟩
    obtain ⟨rfl, hv⟩ := y'
    have hv' := hv _ (e.seq ho)
    rw [v1] at hv'; cases hv'
    obtain ⟨t, rfl, ht⟩ := (e.dn v2).spot
    match σ', hσ with
    | [o1], _ =>
      simp only [gName, tYes, ↓reduceIte]
      refine ⟨_, rfl, t, _, _, _, rfl, rfl, ht, rfl, ?_⟩
      refine k1 _ _ _ el ⟨same_upd hlw e, upd_same, ?_, by omega, rfl⟩
      rw [List.take_add_one, hp, List.map_append, List.map_append]; rfl
  rintro vs σ' H1 ⟨e1, el1, rfl, _, _⟩
  rw [hz, List.take_length] at el1
  refine ⟨⟨_, e1.seq ho, by omega⟩, ?_⟩
  refine ⟨_, rfl, o, rfl, ⟨_, e1.seq ho⟩, fun _ _ _ _ lq hlq => ?_⟩
  refine comp_by ys.length (by rw [sizeLine_eq]; omega) (fun i vs σ' Hc => Same H1 Hc ∧ Hc lq = some (.lst vs) ∧ vs = ((h.take i).map (·.2)).map V.int ∧ i ≤ h.length ∧ σ'.length = 1) ?_ (fun i vs σ' Hc ⟨_, e, y, hi, _⟩ => ⟨e, by rw [y]; simp; omega⟩) ?_ ?_
  · exact ⟨same_new hlq _, upd_same, rfl, Nat.zero_le _, rfl⟩
  · rintro i vs σ' Hc hi ⟨e, el, rfl, hi', hσ⟩
    have hip : i < h.length := by omega
    have hp : h[i]? = some h[i] := List.getElem?_eq_getElem hip
    obtain ⟨v, v1, v2⟩ := hd.get (i := i) (d := spotD h[i]) (by simp [hip])
    refine ⟨⟨_, v, (e1.trans e).seq ho, v1⟩, fun v' H' y' Kt Kf k1 _ => ?_⟩
    obtain ⟨rfl, hv⟩ := y'
    have hv' := hv _ ((e1.trans e).seq ho)
    rw [v1] at hv'; cases hv'
    obtain ⟨t, rfl, ht⟩ := ((e1.trans e).dn v2).spot
    match σ', hσ with
    | [o1], _ =>
      simp only [gName, tYes, ↓reduceIte]
      refine ⟨_, rfl, t, _, _, _, rfl, rfl, ht, rfl, ?_⟩
      refine k1 _ _ _ el ⟨same_upd hlq e, upd_same, ?_, by omega, rfl⟩
      rw [List.take_add_one, hp, List.map_append, List.map_append]; rfl
  rintro vs σ' H2 ⟨e2, el2, rfl, _, _⟩
  rw [hz, List.take_length] at el2
  refine ⟨⟨_, (e1.trans e2).seq ho, by omega⟩, ?_⟩
  have e12 := e1.trans e2
  have ho2 : SqL K H2 o ys := e12.seq ho
  have hd2 := e12.dns hd
  have hw2 : SqL K H2 lw ((h.map (·.1)).map V.int) := e2.seq (SqL.of el1)
  have hq2 : SqL K H2 lq ((h.map (·.2)).map V.int) := SqL.of el2
  have ne1 : h.map (·.1) ≠ [] := by intro z; rw [List.map_eq_nil_iff] at z; subst z; simp at h1
  have ne2 : h.map (·.2) ≠ [] := by intro z; rw [List.map_eq_nil_iff] at z; subst z; simp at h1
  obtain ⟨ylo, hy1, hy2⟩ := least_of ne2
  obtain ⟨yhi, hy3, hy4⟩ := most_of ne2
  have in1 : ∀ {z : Int}, z ∈ h.map (·.1) → -9 ≤ z ∧ z ≤ 9 := fun {z} hz' => by
    obtain ⟨p, hp, rfl⟩ := List.mem_map.mp hz'
    have := smh p hp; exact ⟨this.1.1, this.1.2⟩
  have in2 : ∀ {z : Int}, z ∈ h.map (·.2) → -9 ≤ z ∧ z ≤ 9 := fun {z} hz' => by
    obtain ⟨p, hp, rfl⟩ := List.mem_map.mp hz'
    have := smh p hp; exact ⟨this.2.1, this.2.2⟩
  have by1 := in2 hy1
  have by3 := in2 hy3
  refine ⟨_, _, rfl, ?_⟩
  refine ⟨_, rfl, lw, _, rfl, hw2, ne1, fun xlo hx1 hx2 => ?_⟩
  refine ⟨_, rfl, lw, _, rfl, hw2, ne1, fun xhi hx3 hx4 => ?_⟩
  have bx1 := in1 hx1
  have bx3 := in1 hx3
  refine ⟨_, _, rfl, rfl, _, _, rfl, ⟨by omega, by omega, by omega, by omega⟩, ?_⟩
  have fin := cnt (xlo := xlo) (ylo := ylo) (m := (xhi + 1 - xlo).toNat) (n := (yhi + 1 - ylo).toNat)
    (fun x hx => by have a := hx2 x.1 (List.mem_map_of_mem hx); have b := hx4 x.1 (List.mem_map_of_mem hx); exact ⟨a, by omega⟩)
    (by obtain ⟨p, hp, e⟩ := List.mem_map.mp hx1; exact ⟨p, hp, e⟩)
    (by obtain ⟨p, hp, e⟩ := List.mem_map.mp hx3; have := hx2 xhi hx3; exact ⟨p, hp, by have e' : p.1 = xhi := e; omega⟩)
    (fun x hx => by have a := hy2 x.2 (List.mem_map_of_mem hx); have b := hy4 x.2 (List.mem_map_of_mem hx); exact ⟨a, by omega⟩)
    (by obtain ⟨p, hp, e⟩ := List.mem_map.mp hy1; exact ⟨p, hp, e⟩)
    (by obtain ⟨p, hp, e⟩ := List.mem_map.mp hy3; have := hy2 yhi hy3; exact ⟨p, hp, by have e' : p.2 = yhi := e; omega⟩) (inR h) (inR_one h) (inR_or h)
  refine for_range (fun i σ' H' => ∃ o4 o5 o6, σ' = [some (.ref o), some (.int (sumI (fun x => sumI (inR h x) ylo (yhi + 1 - ylo).toNat) xlo i)), some (.ref lw), some (.ref lq), o4, o5, o6] ∧ Same H2 H') ⟨_, _, _, rfl, Same.refl _⟩ ?_ ?_
  · rintro i σ' H3 hi ⟨o4, o5, o6, rfl, e3⟩
    refine ⟨_, rfl, lq, _, rfl, e3.seq hq2, ne2, fun y1 a1 a2 => ?_⟩
    obtain rfl : y1 = ylo := Int.le_antisymm (a2 _ hy1) (hy2 _ a1)
    refine ⟨_, rfl, lq, _, rfl, e3.seq hq2, ne2, fun y3 a3 a4 => ?_⟩
    obtain rfl : y3 = yhi := Int.le_antisymm (hy4 _ a3) (a4 _ hy3)
    refine ⟨_, _, rfl, rfl, _, _, rfl, ⟨by omega, by omega, by omega, by omega⟩, ?_⟩
    refine for_range (fun j σ' H' => ∃ o5 o6, σ' = [some (.ref o), some (.int (sumI (fun x => sumI (inR h x) y1 (y3 + 1 - y1).toNat) xlo i + sumI (inR h (xlo + i)) y1 j)), some (.ref lw), some (.ref lq), some (.int (xlo + i)), o5, o6] ∧ Same H2 H') ⟨o5, o6, by rw [show sumI (inR h (xlo + i)) y1 0 = 0 from rfl, Int.add_zero]; rfl, e3⟩ ?_ ?_
    · rintro j σ' H4 hj ⟨o5', o6', rfl, e4⟩
      have hy' : -9 ≤ y1 + (j : Int) ∧ y1 + (j : Int) ≤ 9 := ⟨by omega, by omega⟩
      have hx' : -9 ≤ xlo + (i : Int) ∧ xlo + (i : Int) ≤ 9 := ⟨by omega, by omega⟩
      refine ⟨_, rfl, o, ys, rfl, .inl (e4.seq ho2), _, rfl, by omega, by omega, fun _ _ _ _ ls hls => ?_⟩
      refine comp_by h.length (by rw [sizeLine_eq]; omega) (fun k vs σ' Hc => Same H4 Hc ∧ Hc ls = some (.lst vs) ∧ vs = (sd h (xlo + i, y1 + j) k).map V.int ∧ ∃ o1, σ' = [o1, some (.ref o), some (.int (xlo + i)), some (.int (y1 + j))]) ?_ (fun k vs σ' Hc ⟨_, e, y, _⟩ => ⟨e, by rw [y]; unfold sd; simp⟩) ?_ ?_
      · exact ⟨same_new hls _, upd_same, rfl, _, rfl⟩
      · rintro k vs σ' Hc hk ⟨e, el, rfl, o1, rfl⟩
        refine ⟨by show k < _; omega, fun v' H' y' Kt Kf k1 _ => ?_⟩
        obtain ⟨rfl, rfl⟩ := y'
        have e24 := e4.trans e
        have hdc := e24.dns hd2
        have hoc : SqL K H' o ys := e24.seq ho2
        obtain ⟨u, hu1, hu2, hu3⟩ := prev_at hdc k hk
        obtain ⟨v, v1, v2⟩ := hdc.get (i := k) (d := spotD h[k]) (by simp [hk])
        have v1' : atI ys (0 + (k : Int)) = some v := by rw [Int.zero_add]; exact atI_nat v1
        have bdh : ∀ p ∈ h, Bd p := fun p hp => by have := smh p hp; unfold Bd; omega
        simp only [gName, tYes, ↓reduceIte]
        refine ⟨_, rfl, _, rfl, _, _, rfl, rfl, o, ys, _, u, rfl, rfl, hoc, hu1, _, rfl, _, rfl, o, ys, _, v, rfl, rfl, hoc, v1', _, rfl, _, rfl, (by show 2 ≤ sizeLine; decide), fun t ht => ?_⟩
        have et := same_new ht (HO.tup [.int (xlo + i), .int (y1 + j)])
        refine ⟨u, v, .ref t, pr h k, h[k], (xlo + i, y1 + j), rfl, ⟨et.dn hu2, bdh _ hu3⟩, ⟨et.dn v2, bdh _ (List.getElem_mem hk)⟩, ⟨dn_spot (SqT.of upd_same), ⟨by show -1000 ≤ xlo + (i : Int); omega, by show xlo + (i : Int) ≤ 1000; omega⟩, by show -1000 ≤ y1 + (j : Int); omega, by show y1 + (j : Int) ≤ 1000; omega⟩, fun H5 e5 => ?_⟩
        refine k1 _ _ _ (e5 _ _ (et _ _ el)) ⟨same_upd hls (e.trans (et.trans e5)), upd_same, ?_, _, rfl⟩
        rw [sd_succ, List.map_append]
        have : h.getD k (0, 0) = h[k] := by rw [List.getD_eq_getElem?_getD, List.getElem?_eq_getElem hk]; rfl
        rw [this]; rfl
      · rintro vs σ' H5 ⟨e5, el5, rfl, _⟩
        refine ⟨by show _ ≤ h.length; omega, ?_⟩
        have nes : sd h (xlo + i, y1 + j) h.length ≠ [] := by
          intro z; have := congrArg List.length z; unfold sd at this; rw [List.length_map, List.length_range, List.length_nil] at this; omega
        refine ⟨_, rfl, ls, _, rfl, SqL.of el5, nes, fun mn m1 m2 => ?_⟩
        have key := sd_all (h := h) (by omega) (xlo + i, y1 + j)
        have e45 := e4.trans e5
        refine ⟨_, _, rfl, rfl, _, rfl, ite2 (fun c => ?_) (fun c => ?_)⟩
        · have c' : 0 ≤ mn := of_decide_eq_true c
          have one : inR h (xlo + i) (y1 + j) = 1 := (inR_one _ _ _).mpr (key.mp fun n hn => by have := m2 n hn; omega)
          have st : sumI (inR h (xlo + i)) y1 (j + 1) = sumI (inR h (xlo + i)) y1 j + 1 := by show _ + _ = _; rw [one]
          rw [st, ← Int.add_assoc]
          exact ⟨_, rfl, _, _, rfl, rfl, _, _, rfl, e45⟩
        · have c' : ¬ 0 ≤ mn := of_decide_eq_false (Bool.eq_false_iff.mpr c)
          have zero : inR h (xlo + i) (y1 + j) = 0 := by
            rcases inR_or h (xlo + i) (y1 + j) with g | g
            · exact absurd (key.mpr ((inR_one _ _ _).mp g) mn m1) c'
            · exact g
          have st : sumI (inR h (xlo + i)) y1 (j + 1) = sumI (inR h (xlo + i)) y1 j := by show _ + _ = _; rw [zero, Int.add_zero]
          rw [st]
          exact ⟨_, _, rfl, e45⟩
    · rintro σ' H4 ⟨o5', o6', rfl, e4⟩
      exact ⟨_, _, _, rfl, e4⟩
  · rintro σ' H3 ⟨o4, o5, o6, rfl, e3⟩
    exact ⟨_, rfl, q H3 _ (e12.trans e3) fin⟩
theorem fan_all {h : List Hull.P} {a : Hull.P} (h0 : h[0]? = some a) {m : Nat} (hm : m = ((h.length : Int) - 1 - 1).toNat) : pathSum (turn a) ((h.drop 1).take (m + 1)) = pathSum cross (ring h) := by
  match h, h0 with
  | [b], h0 =>
    cases h0
    show pathSum (turn a) (([] : List Hull.P).take (m + 1)) = cross a a + 0
    rw [List.take_nil]
    show 0 = cross a a + 0
    unfold cross; rw [Int.mul_comm]; omega
  | b :: c :: t, h0 =>
    cases h0
    rw [fan_ring]
    show pathSum (turn a) ((c :: t).take (m + 1)) = _
    rw [List.take_of_length_le (by simp at hm ⊢; omega)]
theorem held_edge {h : List Hull.P} (h1 : 1 ≤ h.length) : held2 h = (if 2 < h.length then (pathSum cross (ring h) + edgeN h + 2) / 2 else edgeN h) ∧ edge2 h = edgeN h := by
  match h, h1 with
  | [a], _ =>
    have e1 : pathSum cross (ring [a]) = 0 := by show cross a a + 0 = 0; unfold cross; rw [Int.mul_comm]; omega
    have e2 : pathSum gc (ring [a]) = 0 := by show gc a a + 0 = 0; unfold gc; simp
    unfold edge2 held2 edgeN
    rw [e1, e2]
    exact ⟨rfl, rfl⟩
  | [a, b], _ =>
    have e1 : pathSum cross (ring [a, b]) = 0 := by show cross a b + (cross b a + 0) = 0; unfold cross; rw [Int.mul_comm b.1, Int.mul_comm b.2]; omega
    unfold edge2 held2 edgeN
    rw [e1, if_neg (by simp), if_neg (by simp), if_neg (by simp), if_pos (by simp), Int.zero_add]
    exact ⟨rfl, rfl⟩
  | a :: b :: c :: t, _ =>
    have l3 : (a :: b :: c :: t).length = t.length + 3 := rfl
    unfold edge2 held2 edgeN
    rw [if_pos (by omega), if_neg (by omega), if_pos (by omega), if_neg (by omega)]
    exact ⟨by omega, rfl⟩
theorem if_join {c : Bool} {ta tb : TE} {σ : St} {H : Hp} {Q : VK} (v : V) (h1 : c = true → ∀ R : VK, R v H → ta σ H R) (h2 : ¬ c = true → ∀ R : VK, R v H → tb σ H R) (hq : Q v H) : (if c = true then ta σ H Q else tb σ H Q) := by
  split
  · exact h1 (by assumption) Q hq
  · exact h2 (by assumption) Q hq
theorem and_join {c : Bool} {T : TT} {σ : St} {H : Hp} {Kb : Bool → Hp → Prop} (R0 : Hp → Prop) (h0 : R0 H) (h1 : c = true → ∀ R : Bool → Hp → Prop, (∀ H', R0 H' → R false H') → T σ H R) (hk : ∀ H', R0 H' → Kb false H') : (if c = true then T σ H Kb else Kb false H) := by
  split
  · exact h1 (by assumption) Kb hk
  · exact hk H h0
theorem ifs_join {b : Bool} {t u : TS} {D : Ends} {σ : St} {H : Hp} (N : St → Hp → Prop) (h1 : b = true → ∀ D' : Ends, (∀ σ' H', N σ' H' → D'.nx σ' H') → t D' σ H) (h2 : ¬ b = true → ∀ D' : Ends, (∀ σ' H', N σ' H' → D'.nx σ' H') → u D' σ H) (hk : ∀ σ' H', N σ' H' → D.nx σ' H') : (if b = true then t D σ H else u D σ H) := by
  split
  · exact h1 (by assumption) D hk
  · exact h2 (by assumption) D hk
theorem ints_conv (l : List Nat) : l.map (fun (j : Nat) => V.int (j : Int)) = (l.map fun (j : Nat) => (j : Int)).map V.int := by rw [List.map_map]; rfl
theorem far_zero (ps : List Hull.P) {m : Int} (hm : m ∈ ps.map (dot (0, 0))) : farIx (ps.map (dot (0, 0))) m = List.range ps.length := by
  have z : ∀ p : Hull.P, dot (0, 0) p = 0 := fun p => by unfold dot; simp
  obtain ⟨p, _, rfl⟩ := List.mem_map.mp hm
  unfold farIx
  rw [List.length_map]
  apply List.filter_eq_self.mpr
  intro j hj
  have hj' : j < ps.length := List.mem_range.mp hj
  rw [z p]
  simp [hj', z]
def sp_law (K : PySem.W.Frag) : L2.Sp := fun vs H Q _ => ∃ (a : Addr) (ns : List Int), vs = [.ref a] ∧ SqL K H a (ns.map V.int) ∧ ns.length ≤ 63 ∧ ∀ H', Q (.bl true) H'
theorem ok_law (B : Bl mg) (C_land : Cal P w K mg base 6 "land" (sp_land K)) (C_spots : Cal P w K mg base 6 "spots" (sp_spots K)) (C_farthest : Cal P w K mg base 5 "farthest" (sp_farthest K)) (C__law_cell_at : Cal P w K mg base 1 "_law_cell_at" (sp_cell K)) (C__law_draw : Cal P w K mg base 1 "_law_draw" sp_draw) (C__law_herd : Cal P w K mg base 3 "_law_herd" (sp_herd K))
    (C__law_turn : Cal P w K mg base 1 "_law_turn" (sp_turn K)) (C__law_round : Cal P w K mg base 3 "_law_round" (sp_round K)) (C__law_edge : Cal P w K mg base 2 "_law_edge" (sp_edge K)) (C__law_counted : Cal P w K mg base 2 "_law_counted" (sp_counted K)) (F : Fun K "law" "law" s_law f fd) : FnOk P w K mg base CX0 7 f fd ["_law_script"] (sp_law K) := by
  refine F.ok sc_law (fun vs H Q E h => ?_) (fun cdv A outer s H vs Q E hr h => ?_)
  · obtain ⟨a, ns, rfl, _⟩ := h
    rfl
  obtain ⟨sa, ns, rfl, hS, hlen, q⟩ := h
  have hu := hr.units
  refine ⟨_, (pss_cons (ps_set (i := 1) sc_law.nd rfl (Or.inr rfl) (pe_c C__law_herd (hr.mono (by decide)) (by rfl) (pa_cons (pe_op op_add (pe_c C__law_cell_at (hr.mono (by decide)) (by rfl) (pa_cons (pv 0) (pa_cons pe_int pa_nil))) (pe_op op_mul pe_int (pe_c C__law_cell_at (hr.mono (by decide)) (by rfl) (pa_cons (pv 0) (pa_cons pe_int pa_nil))))) (pa_cons pe_int pa_nil))))
    (pss_cons (ps_par (i := 2) (j := 3) rfl sc_law.nd rfl rfl (by decide) rfl rfl (pa_cons (pe_callTy call_list_of (by rfl) B.list PySem.L3.boot_list (pa_cons (pv 1) pa_nil)) (pa_cons (pe_c C__law_round (hr.mono (by decide)) (by rfl) (pa_cons (pv 1) pa_nil)) pa_nil)) (by with_unfolding_all rfl))
    (pss_cons (ps_set (i := 4) sc_law.nd rfl (Or.inl rfl) pe_int)
    (pss_cons (ps_for PassesOwn.never rfl (pi_range2 (by rfl) B.range (pa_cons pe_int (pa_cons (pe_op op_sub (pe_callB call_len_seq (by rfl) B.len PySem.L3.boot_len (pa_cons (pv 3) pa_nil)) pe_int) pa_nil))) (pg_name (i := 5) sc_law.nd rfl (Or.inl rfl)) (pss_one (ps_set (i := 4) sc_law.nd rfl (Or.inl rfl) (pe_op op_add (pv 4) (pe_c C__law_turn (hr.mono (by decide)) (by rfl) (pa_cons (pe_ix ix_list (pv 3) pe_int (fun _ _ => rfl)) (pa_cons (pe_ix ix_list (pv 3) (pv 5) (fun _ _ => rfl)) (pa_cons (pe_ix ix_list (pv 3) (pe_op op_add (pv 5) pe_int) (fun _ _ => rfl)) pa_nil))))))))
    (pss_cons (ps_set (i := 6) sc_law.nd rfl (Or.inl rfl) (pe_c C__law_edge (hr.mono (by decide)) (by rfl) (pa_cons (pv 3) pa_nil)))
    (pss_cons (ps_set (i := 7) sc_law.nd rfl (Or.inl rfl) (pe_ifExp (pt_cmpR op_gt (pe_callB call_len_seq (by rfl) B.len PySem.L3.boot_len (pa_cons (pv 3) pa_nil)) pe_int (nomark _)) (pe_op op_fdiv (pe_op op_add (pe_op op_add (pv 4) (pv 6)) pe_int) pe_int) (pv 6)))
    (pss_cons (ps_set (i := 8) sc_law.nd rfl (Or.inl rfl) (pe_c C_spots (hr.mono (by decide)) (by rfl) (pa_cons (pv 2) pa_nil)))
    (pss_cons (ps_if (PW.pt (pw_or (pt_cmpR op_ne (pe_c C_land (hr.mono (by decide)) (by rfl) (pa_cons (pv 2) pa_nil)) (pv 4) (nomark _)) (pw_or (pt_val (pe_callB call_isinstance (by rfl) B.isinstance PySem.L3.boot_isinstance (pa_cons (pe_c C_land (hr.mono (by decide)) (by rfl) (pa_cons (pv 2) pa_nil)) (pa_cons (pe_bltn (v := .ty "bool") (by rfl) B.bool PySem.L3.boot_bool rfl) pa_nil)))) (pw_or (pt_not (pt_val (pe_callB call_isSeq (by rfl) B.isinstance PySem.L3.boot_isinstance (pa_cons (pv 8) (pa_cons (pe_bltn (v := .ty "tuple") (by rfl) B.tuple PySem.L3.boot_tuple rfl) pa_nil))))) (pw_or1 (pt_cmpR (op_neSps hu) (pv 2) (pv 1) (nomark _))))))) (pss_one (ps_ret pe_bl)) pss_nil)
    (pss_cons (ps_if (PW.pt (pw_or (pt_cmpR (op_neSp hu) (pv 8) (pe_tup (pa_cons (pv 7) (pa_cons (pv 6) pa_nil))) (nomark _)) (pw_or1 (pt_val (pe_callB (call_any rfl) (by rfl) B.any PySem.L3.boot_any (pa_cons (pe_comp (Nc := ["_law_one"]) (fi := [none]) (comp_sc rfl rfl rfl) rfl (comp_from_go rfl) (pi_tup (pv 8)) (fun _ _ _ _ => ⟨(pg_name (i := 0) (show (["_law_one"] : List Str).Nodup by decide +kernel) rfl (Or.inl rfl)), pf_nil, (pe_callB call_isinstance (by rfl) B.isinstance PySem.L3.boot_isinstance (pa_cons (pv 0) (pa_cons (pe_bltn (v := .ty "bool") (by rfl) B.bool PySem.L3.boot_bool rfl) pa_nil)))⟩)) pa_nil)))))) (pss_one (ps_ret pe_bl)) pss_nil)
    (pss_cons (ps_if (PW.pt (pw_and (pt_cmpR op_lt (pe_callB (call_maxL rfl) (by rfl) B.max PySem.L3.boot_max (pa_cons (pe_comp (Nc := ["_law_spot_here"]) (fi := [none]) (comp_sc rfl rfl rfl) rfl (comp_from_go rfl) (pi_list (pv 1)) (fun _ _ _ _ => ⟨(pg_name (i := 0) (show (["_law_spot_here"] : List Str).Nodup by decide +kernel) rfl (Or.inl rfl)), pf_nil, (pe_callB (call_max2 rfl) (by rfl) B.max PySem.L3.boot_max (pa_cons (pe_callB call_abs (by rfl) B.abs PySem.L3.boot_abs (pa_cons (pe_ix ix_tup (pv 0) pe_int (fun _ _ => rfl)) pa_nil)) (pa_cons (pe_callB call_abs (by rfl) B.abs PySem.L3.boot_abs (pa_cons (pe_ix ix_tup (pv 0) pe_int (fun _ _ => rfl)) pa_nil)) pa_nil)))⟩)) pa_nil)) pe_int (nomark _)) (pw_and1 (pt_cmpR op_ne (pe_c C__law_counted (hr.mono (by decide)) (by rfl) (pa_cons (pv 3) pa_nil)) (pe_ix ix_tup (pv 8) pe_int (fun _ _ => rfl)) (nomark _))))) (pss_one (ps_ret pe_bl)) pss_nil)
    (pss_cons (ps_set (i := 9) sc_law.nd rfl (Or.inl rfl) (pe_c C__law_cell_at (hr.mono (by decide)) (by rfl) (pa_cons (pv 0) (pa_cons pe_int pa_nil))))
    (pss_cons (ps_set (i := 10) sc_law.nd rfl (Or.inr rfl) (pe_tup (pa_cons (pe_op op_sub (pe_c C__law_draw (hr.mono (by decide)) (by rfl) (pa_cons (pv 9) (pa_cons pe_int (pa_cons pe_int pa_nil)))) pe_int) (pa_cons (pe_op op_sub (pe_c C__law_draw (hr.mono (by decide)) (by rfl) (pa_cons (pv 9) (pa_cons pe_int (pa_cons pe_int pa_nil)))) pe_int) pa_nil))))
    (pss_cons (ps_if (pt_cmpR op_eq (pe_c C__law_draw (hr.mono (by decide)) (by rfl) (pa_cons (pv 9) (pa_cons pe_int (pa_cons pe_int pa_nil)))) pe_int (nomark _)) (pss_one (ps_set (i := 10) sc_law.nd rfl (Or.inr rfl) (pe_tup (pa_cons (pe_op op_sub (pe_c C__law_draw (hr.mono (by decide)) (by rfl) (pa_cons (pv 9) (pa_cons pe_int (pa_cons pe_int pa_nil)))) pe_int) (pa_cons (pe_op op_sub (pe_c C__law_draw (hr.mono (by decide)) (by rfl) (pa_cons (pv 9) (pa_cons pe_int (pa_cons pe_int pa_nil)))) pe_int) pa_nil))))) pss_nil)
    (pss_cons (ps_set (i := 11) sc_law.nd rfl (Or.inr rfl) (pe_callB (call_maxL rfl) (by rfl) B.max PySem.L3.boot_max (pa_cons (pe_comp (Nc := ["_law_spot_here", "_law_way"]) (fi := [none, some 10]) (comp_sc rfl rfl rfl) rfl (comp_from_go rfl) (pi_list (pv 1)) (fun _ _ _ _ => ⟨(pg_name (i := 0) (show (["_law_spot_here", "_law_way"] : List Str).Nodup by decide +kernel) rfl (Or.inl rfl)), pf_nil, (pe_op op_add (pe_op op_mul (pe_ix ix_tup (pv 1) pe_int (fun _ _ => rfl)) (pe_ix ix_tup (pv 0) pe_int (fun _ _ => rfl))) (pe_op op_mul (pe_ix ix_tup (pv 1) pe_int (fun _ _ => rfl)) (pe_ix ix_tup (pv 0) pe_int (fun _ _ => rfl))))⟩)) pa_nil)))
    (pss_cons (ps_setComp (i := 12) (Nc := ["_law_place", "_law_way", "_law_herd_here", "_law_most"]) (fi := [none, some 10, some 1, some 11]) (comp_sc rfl rfl rfl) rfl (comp_from_go rfl) sc_law.nd rfl rfl (pi_range1 (by rfl) B.range (pa_cons (pe_callB call_len_seq (by rfl) B.len PySem.L3.boot_len (pa_cons (pv 1) pa_nil)) pa_nil)) (fun _ _ _ _ => ⟨(pg_name (i := 0) (show (["_law_place", "_law_way", "_law_herd_here", "_law_most"] : List Str).Nodup by decide +kernel) rfl (Or.inl rfl)), (pf_one (pt_cmpR op_eq (pe_op op_add (pe_op op_mul (pe_ix ix_tup (pv 1) pe_int (fun _ _ => rfl)) (pe_ix ix_tup (pe_ix ix_list (pv 2) (pv 0) (fun _ _ => rfl)) pe_int (fun _ _ => rfl))) (pe_op op_mul (pe_ix ix_tup (pv 1) pe_int (fun _ _ => rfl)) (pe_ix ix_tup (pe_ix ix_list (pv 2) (pv 0) (fun _ _ => rfl)) pe_int (fun _ _ => rfl)))) (pv 3) (nomark _))), (pv 0)⟩) rfl)
    (pss_cons (ps_for PassesOwn.never rfl (pi_range1 (by rfl) B.range (pa_cons pe_int pa_nil)) (pg_name (i := 13) sc_law.nd rfl (Or.inl rfl)) (pss_cons (ps_set (i := 14) sc_law.nd rfl (Or.inl rfl) (pe_c C_farthest (hr.mono (by decide)) (by rfl) (pa_cons (pv 2) (pa_cons (pv 10) pa_nil))))
    (pss_cons (ps_if (PW.pt (pw_or (pt_not (pt_val (pe_callB call_isSeq (by rfl) B.isinstance PySem.L3.boot_isinstance (pa_cons (pv 14) (pa_cons (pe_bltn (v := .ty "list") (by rfl) B.list PySem.L3.boot_list rfl) pa_nil))))) (pw_or (pt_cmpR (op_neIs hu) (pv 14) (pv 12) (nomark _)) (pw_or1 (pt_val (pe_callB (call_any rfl) (by rfl) B.any PySem.L3.boot_any (pa_cons (pe_comp (Nc := ["_law_place"]) (fi := [none]) (comp_sc rfl rfl rfl) rfl (comp_from_go rfl) (pi_list (pv 14)) (fun _ _ _ _ => ⟨(pg_name (i := 0) (show (["_law_place"] : List Str).Nodup by decide +kernel) rfl (Or.inl rfl)), pf_nil, (pe_callB call_isinstance (by rfl) B.isinstance PySem.L3.boot_isinstance (pa_cons (pv 0) (pa_cons (pe_bltn (v := .ty "bool") (by rfl) B.bool PySem.L3.boot_bool rfl) pa_nil)))⟩)) pa_nil))))))) (pss_one (ps_ret pe_bl)) pss_nil)
    (pss_one (ps_expr (pe_bm PySem.F.plainAttrs_list PySem.F.slot_list_append PySem.F.type_list_append mt_append (pv 14) (pa_cons pe_int pa_nil)))))))
    (pss_one (ps_ret (pe_and (pe_cmpR (op_eqSps hu) (pv 2) (pv 1) (nomark _)) (pe_one (pe_cmpR (op_eqIs hu) (pe_c C_farthest (hr.mono (by decide)) (by rfl) (pa_cons (pv 1) (pa_cons (pe_tup (pa_cons pe_int (pa_cons pe_int pa_nil))) pa_nil))) (pe_listRng (by rfl) B.list (by rfl) B.range rfl (pa_cons (pe_callB call_len_seq (by rfl) B.len PySem.L3.boot_len (pa_cons (pv 1) pa_nil)) pa_nil)) (nomark _)))))))))))))))))))))), ?_⟩
  refine ⟨_, rfl, sa, ns, 0, rfl, hS, fun c0 => ?_⟩
  refine ⟨_, rfl, sa, ns, 1, rfl, hS, fun c1 => ?_⟩
  refine ⟨_, _, rfl, rfl, .inl ⟨by decide, by decide⟩, _, _, rfl, rfl, ?_⟩
  refine ⟨_, rfl, fun lh ys ps H1 e1 hl0 hlh hd hb n1 n8 => ?_⟩
  have lys : ys.length = ps.length := by have := hd.length; rwa [List.length_map] at this
  -- handed, round
  refine ⟨_, rfl, lh, ys, rfl, .inl (SqL.of hlh), fun l2 hl2 => ?_⟩
  have e2 := same_new hl2 (HO.lst ys)
  refine ⟨_, rfl, lh, ys, ps, rfl, e2.seq (SqL.of hlh), e2.dns hd, hb, n1, n8, fun lf zf row H3 e3 hlf0 hlf of df => ?_⟩
  have hlh3 : H3 lh = some (.lst ys) := e3 _ _ (e2 _ _ hlh)
  have hl23 : H3 l2 = some (.lst ys) := e3 _ _ upd_same
  have hd3 : Dns K H3 (ps.map spotD) ys := (e2.trans e3).dns hd
  have e13 : Same H H3 := e1.trans (e2.trans e3)
  clear e2 e3 hl2 hlf0
  have hbd := hull_bd of hb
  have h8 := Nat.le_trans (hull_le of) n8
  have lzf : zf.length = (hull row).length := by have := df.length; rwa [List.length_map] at this
  have hr1 : 1 ≤ row.length := by
    match row, ps, n1, of with
    | [], p :: ps, _, of => exact absurd ((of.2 p).mpr (by simp)) (by simp)
    | a :: _, _, _, _ => simp
  have hh1 : 1 ≤ (hull row).length := by
    have hr0 : row[0]? = some row[0] := List.getElem?_eq_getElem (by omega)
    have : (hull row)[0]? = some row[0] := by rw [← List.head?_eq_getElem?, hull_head of.1, List.head?_eq_getElem?, hr0]
    exact (List.getElem?_eq_some_iff.mp this).1
  have at_ : ∀ {Hx : Hp} (i : Nat) (_ : Same H3 Hx) (_ : i < (hull row).length), ∃ v, zf[i]? = some v ∧ Sp K Hx v (hull row)[i] := fun i e hi => by
    obtain ⟨v, h1, h2⟩ := df.get (i := i) (d := spotD (hull row)[i]) (by simp [hi])
    exact ⟨v, h1, e.dn h2, hbd _ (List.getElem_mem hi)⟩
  refine ⟨_, _, rfl, ?_⟩
  -- the fan
  refine ⟨_, rfl, lf, zf, rfl, .inl (SqL.of hlf), _, _, rfl, rfl, _, _, rfl, ⟨by omega, by omega, by omega, by omega⟩, ?_⟩
  have t0 : ∀ l : List Hull.P, pathSum (turn (hull row)[0]) (l.take 1) = 0 := fun l => by
    match l with
    | [] => rfl
    | [_] => rfl
    | _ :: _ :: _ => rfl
  refine for_range (fun i σ' H' => ∃ c5, σ' = [some (.ref sa), some (.ref lh), some (.ref l2), some (.ref lf), some (.int (pathSum (turn (hull row)[0]) (((hull row).drop 1).take (i + 1)))), c5, none, none, none, none, none, none, none, none, none] ∧ Same H3 H') ?_ ?_ ?_
  · rw [t0]; exact ⟨_, rfl, Same.refl _⟩
  · rintro i σ' H4 hi ⟨c5, rfl, e4⟩
    have hi2 : i + 2 < (hull row).length := by omega
    obtain ⟨v0, a0, s0⟩ := at_ 0 e4 (by omega)
    obtain ⟨v1, a1, s1⟩ := at_ (i + 1) e4 (by omega)
    obtain ⟨v2, a2, s2⟩ := at_ (i + 2) e4 (by omega)
    have b1 : atI zf (1 + (i : Int)) = some v1 := by rw [show 1 + (i : Int) = ((i + 1 : Nat) : Int) by omega]; exact atI_nat a1
    have b2 : atI zf (1 + (i : Int) + 1) = some v2 := by rw [show 1 + (i : Int) + 1 = ((i + 2 : Nat) : Int) by omega]; exact atI_nat a2
    have s4 : SqL K H4 lf zf := e4.seq (SqL.of hlf)
    refine ⟨_, rfl, _, rfl, lf, zf, 0, v0, rfl, rfl, s4, atI_nat (j := 0) a0, _, rfl, _, rfl, lf, zf, _, v1, rfl, rfl, s4, b1, _, rfl, _, rfl, _, _, rfl, rfl, lf, zf, _, v2, rfl, rfl, s4, b2, v0, v1, v2, _, _, _, rfl, s0, s1, s2, fun H5 e5 => ?_⟩
    have st := sum_take (turn (hull row)[0]) ((hull row).drop 1) i (hull row)[i + 1] (hull row)[i + 2] (by rw [List.getElem?_drop, Nat.add_comm 1 i]; exact List.getElem?_eq_getElem _) (by rw [List.getElem?_drop, show 1 + (i + 1) = i + 2 by omega]; exact List.getElem?_eq_getElem _)
    refine ⟨_, _, rfl, rfl, ?_⟩
    show ∃ c5', _ = [_, _, _, _, some (V.int (pathSum (turn (hull row)[0]) (List.take (i + 2) ((hull row).drop 1)))), c5', _, _, _, _, _, _, _, _, _] ∧ _
    rw [st]
    exact ⟨_, rfl, e4.trans e5⟩
  rintro σ' H4 ⟨c5, rfl, e4⟩
  have fa := fan_all (h := hull row) (a := (hull row)[0]) (List.getElem?_eq_getElem (by omega)) (m := (((zf.length : Nat) : Int) - 1 - 1).toNat) (by rw [lzf])
  rw [fa]
  clear t0 fa
  -- the edge
  refine ⟨_, rfl, lf, zf, hull row, rfl, e4.seq (SqL.of hlf), e4.dns df, hbd, hh1, h8, ?_⟩
  obtain ⟨he1, he2⟩ := held_edge hh1
  -- all that are held
  refine ⟨_, rfl, lf, zf, rfl, .inl (e4.seq (SqL.of hlf)), _, _, rfl, rfl, _, rfl, ?_⟩
  refine if_join (.int (held2 (hull row))) (fun c R r => ?_) (fun c R r => ?_) ?_
  · have c' : (2 : Int) < ((zf.length : Nat) : Int) := of_decide_eq_true c
    refine ⟨_, rfl, _, rfl, _, _, rfl, rfl, _, _, rfl, rfl, _, _, rfl, rfl, ⟨by decide, by decide⟩, ?_⟩
    rw [he1, if_pos (by omega)] at r; exact r
  · have c' : ¬ (2 : Int) < ((zf.length : Nat) : Int) := of_decide_eq_false (Bool.eq_false_iff.mpr c)
    refine ⟨_, rfl, ?_⟩
    rw [he1, if_neg (by omega)] at r; exact r
  clear he1
  -- told
  refine ⟨_, rfl, l2, ys, ps, rfl, e4.seq (SqL.of hl23), e4.dns hd3, hb, n1, n8, fun row' t H5 e5 of' ht => ?_⟩
  obtain rfl : row' = row := sorted_eq of'.1 of.1 fun p => (of'.2 p).trans (of.2 p).symm
  rw [he2] at ht
  have e45 := e4.trans e5
  -- land
  refine ⟨_, rfl, l2, ys, ps, rfl, e45.seq (SqL.of hl23), e45.dns hd3, hb, n1, n8, fun row2 H6 e6 of2 => ?_⟩
  obtain rfl : row2 = row' := sorted_eq of2.1 of.1 fun p => (of2.2 p).trans (of.2 p).symm
  have e46 := e45.trans e6
  refine ⟨_, rfl, rfl, _, rfl, ?_⟩
  rw [decide_eq_true (rfl : V.int (pathSum cross (ring (hull row2))) = V.int (pathSum cross (ring (hull row2))))]
  refine iteF ?_
  refine ⟨_, rfl, l2, ys, ps, rfl, e46.seq (SqL.of hl23), e46.dns hd3, hb, n1, n8, fun row3 H7 e7 of3 => ?_⟩
  have e47 := e46.trans e7
  refine ⟨_, "bool", _, false, rfl, .int _, rfl, _, rfl, ?_⟩
  refine iteF ?_
  have ht7 : H7 t = some (.tup [.int (held2 (hull row2)), .int (edgeN (hull row2))]) := e7 _ _ (e6 _ _ ht)
  refine ⟨_, rfl, t, _, "tuple", true, rfl, .inl ⟨SqT.of ht7, rfl⟩, _, rfl, ?_⟩
  refine iteF ?_
  refine ⟨_, rfl, _, rfl, l2, lh, ys, ys, ps, ps, rfl, rfl, e47.seq (SqL.of hl23), e47.seq (SqL.of hlh3), e47.dns hd3, e47.dns hd3, _, rfl, ?_⟩
  rw [decide_eq_true (rfl : ps = ps)]
  refine iteF ?_
  -- what is told
  refine ⟨_, rfl, _, rfl, _, rfl, (by show 2 ≤ sizeLine; decide), fun u hu' => ?_⟩
  have e8 := same_new hu' (HO.tup [.int (held2 (hull row2)), .int (edgeN (hull row2))])
  refine ⟨(held2 (hull row2), edgeN (hull row2)), (held2 (hull row2), edgeN (hull row2)), dn_spot (SqT.of (e8 _ _ ht7)), dn_spot (SqT.of upd_same), _, rfl, ?_⟩
  rw [decide_eq_true (rfl : (held2 (hull row2), edgeN (hull row2)) = (held2 (hull row2), edgeN (hull row2)))]
  refine iteF ?_
  have ht8 := e8 _ _ ht7
  have e48 := e47.trans e8
  clear e8 e47 e46 e45 e4 ht7 ht
  generalize upd H7 u (HO.tup [.int (held2 (hull row2)), .int (edgeN (hull row2))]) = H8 at *
  refine ⟨_, rfl, t, rfl, ⟨_, SqT.of ht8⟩, fun _ _ _ _ lb hlb => ?_⟩
  refine comp_by 2 (by show 2 ≤ sizeLine; decide) (fun i ys σ' Hc => Same H8 Hc ∧ Hc lb = some (.lst ys) ∧ ys = List.replicate i (V.bl false) ∧ σ'.length = 1) ?_ (fun i ys σ' Hc ⟨_, e, y, _⟩ => ⟨e, by rw [y]; simp⟩) ?_ ?_
  · exact ⟨same_new hlb _, upd_same, rfl, rfl⟩
  · rintro i ys σ' Hc hi ⟨e, el, rfl, hσ⟩
    refine ⟨⟨_, if i = 0 then .int (held2 (hull row2)) else .int (edgeN (hull row2)), SqT.of (e _ _ ht8), by match i, hi with | 0, _ => rfl | 1, _ => rfl⟩, fun x H' y Kt Kf k1 _ => ?_⟩
    obtain ⟨rfl, hx⟩ := y
    have hx' := hx _ (SqT.of (e _ _ ht8))
    obtain ⟨z, rfl⟩ : ∃ z : Int, x = .int z := by
      match i, hi, hx' with
      | 0, _, h => exact ⟨_, (Option.some.inj h).symm⟩
      | 1, _, h => exact ⟨_, (Option.some.inj h).symm⟩
    match σ', hσ with
    | [o], _ =>
      simp only [gName, tYes, ↓reduceIte]
      refine ⟨_, rfl, _, "bool", _, false, rfl, .int z, rfl, ?_⟩
      exact k1 _ _ _ el ⟨same_upd hlb e, upd_same, by rw [List.replicate_succ'], rfl⟩
  rintro ys' σ' H9 ⟨e9, el9, rfl, _⟩
  refine ⟨⟨_, SqT.of (e9 _ _ ht8), Nat.le_refl 2⟩, lb, [false, false], rfl, SqL.of el9, _, rfl, ?_⟩
  refine iteF ?_
  have e49 := e48.trans e9
  have ht9 := e9 _ _ ht8
  clear e48 el9 hlb ht8
  -- counted one by one
  refine ⟨_, rfl, lh, rfl, ⟨_, e49.seq (SqL.of hlh3)⟩, fun _ _ _ _ lm hlm => ?_⟩
  refine comp_by ys.length (by rw [sizeLine_eq]; omega) (fun i vs σ' Hc => Same H9 Hc ∧ Hc lm = some (.lst vs) ∧ vs = ((ps.take i).map fun p => if ab p.2 > ab p.1 then ab p.2 else ab p.1).map V.int ∧ i ≤ ps.length ∧ σ'.length = 1) ?_ (fun i vs σ' Hc ⟨_, e, y, hi, _⟩ => ⟨e, by rw [y]; simp; omega⟩) ?_ ?_
  · exact ⟨same_new hlm _, upd_same, rfl, Nat.zero_le _, rfl⟩
  · rintro i vs σ' Hc hi ⟨e, el, rfl, hi', hσ⟩
    have hip : i < ps.length := by omega
    have hp : ps[i]? = some ps[i] := List.getElem?_eq_getElem hip
    obtain ⟨v, v1, v2⟩ := hd3.get (i := i) (d := spotD ps[i]) (by simp [hip])
    have ee := e49.trans e
    refine ⟨⟨_, v, ee.seq (SqL.of hlh3), v1⟩, fun v' H' y' Kt Kf k1 _ => ?_⟩
    obtain ⟨rfl, hv⟩ := y'
    have hv' := hv _ (ee.seq (SqL.of hlh3))
    rw [v1] at hv'; cases hv'
    obtain ⟨x, rfl, hx⟩ := (ee.dn v2).spot
    match σ', hσ with
    | [o1], _ =>
      simp only [gName, tYes, ↓reduceIte]
      refine ⟨_, rfl, x, _, _, _, rfl, rfl, hx, rfl, _, rfl, _, rfl, x, _, _, _, rfl, rfl, hx, rfl, _, rfl, _, _, rfl, ?_⟩
      refine k1 _ _ _ el ⟨same_upd hlm e, upd_same, ?_, by omega, rfl⟩
      rw [List.take_add_one, hp, List.map_append, List.map_append]; rfl
  rintro vs σ' Ha ⟨ea, ela, rfl, _, _⟩
  rw [lys, List.take_length] at ela
  refine ⟨⟨_, (e49.trans ea).seq (SqL.of hlh3), by omega⟩, ?_⟩
  have e4a := e49.trans ea
  refine ⟨lm, _, rfl, SqL.of ela, by intro z; rw [List.map_eq_nil_iff] at z; subst z; simp at n1, fun mx m1 m2 => ?_⟩
  refine ⟨_, _, rfl, rfl, _, rfl, ?_⟩
  refine and_join (fun H' => Same Ha H') (Same.refl _) (fun c R hR => ?_) fun Hb eb => ?_
  · have c' : mx < 10 := of_decide_eq_true c
    have sm : Sm row2 := fun p hp => by
      have := m2 _ (List.mem_map.mpr ⟨p, (of.2 p).mp hp, rfl⟩)
      unfold ab at this
      refine ⟨⟨?_, ?_⟩, ?_, ?_⟩ <;> (split at this <;> split at this <;> split at this <;> omega)
    refine ⟨_, rfl, lf, zf, row2, rfl, e4a.seq (SqL.of hlf), e4a.dns df, of.1, sm, hr1, h8, hh1, fun Hb cn eb hc => ?_⟩
    refine ⟨_, rfl, t, _, _, _, rfl, rfl, SqT.of (eb _ _ (ea _ _ ht9)), rfl, rfl, ?_⟩
    have ecn : cn = held2 (hull row2) := by
      unfold held2
      rw [ew_sum] at hc
      omega
    rw [ecn]
    refine ⟨_, rfl, ?_⟩
    rw [decide_eq_true (rfl : V.int (held2 (hull row2)) = V.int (held2 (hull row2)))]
    exact hR _ eb
  refine iteF ?_
  have e4b := e4a.trans eb
  clear e4a e49 ela ht9 eb ea
  -- the way
  refine ⟨_, rfl, sa, ns, 2, rfl, (e13.trans e4b).seq hS, fun c9 => ?_⟩
  refine ⟨_, rfl, c9, 1, 7, rfl, by decide, fun r1 Hc a0 a1 ec => ?_⟩
  refine ⟨_, _, rfl, rfl, ?_⟩
  refine ⟨_, rfl, c9, 2, 7, rfl, by decide, fun r2 He a2 a3 ee => ?_⟩
  refine ⟨_, _, rfl, rfl, (by show 2 ≤ sizeLine; decide), fun tw htw => ?_⟩
  have ew0 := same_new htw (HO.tup [.int (r1 - 3), .int (r2 - 3)])
  have e4e := e4b.trans (ec.trans (ee.trans ew0))
  refine ⟨_, rfl, c9, 3, 4, rfl, by decide, fun r3 Hf _ _ ef => ?_⟩
  refine ⟨rfl, _, rfl, ?_⟩
  refine ifs_join (fun σ' H' => ∃ tw wp, σ' = [some (.ref sa), some (.ref lh), some (.ref l2), some (.ref lf), some (.int (pathSum cross (ring (hull row2)))), c5, some (.int (edgeN (hull row2))), some (.int (held2 (hull row2))), some (.ref t), some (.int c9), some (.ref tw), none, none, none, none] ∧ Same H3 H' ∧ Sp K H' (.ref tw) wp) (fun _ D' hD => ?_) (fun _ D' hD => ?_) ?_
  · refine ⟨_, rfl, c9, 4, 2001, rfl, by decide, fun r4 Hg b0 b1 eg => ?_⟩
    refine ⟨_, _, rfl, rfl, ?_⟩
    refine ⟨_, rfl, c9, 5, 2001, rfl, by decide, fun r5 Hh b2 b3 eh => ?_⟩
    refine ⟨_, _, rfl, rfl, (by show 2 ≤ sizeLine; decide), fun tv htv => ?_⟩
    have ev := same_new htv (HO.tup [.int (r4 - 1000), .int (r5 - 1000)])
    exact hD _ _ ⟨tv, (r4 - 1000, r5 - 1000), rfl, e4e.trans (ef.trans (eg.trans (eh.trans ev))), dn_spot (SqT.of upd_same), ⟨by show -1000 ≤ r4 - 1000; omega, by show r4 - 1000 ≤ 1000; omega⟩, by show -1000 ≤ r5 - 1000; omega, by show r5 - 1000 ≤ 1000; omega⟩
  · exact hD _ _ ⟨tw, (r1 - 3, r2 - 3), rfl, e4e.trans ef, ef.dn (dn_spot (SqT.of upd_same)), ⟨by show -1000 ≤ r1 - 3; omega, by show r1 - 3 ≤ 1000; omega⟩, by show -1000 ≤ r2 - 3; omega, by show r2 - 3 ≤ 1000; omega⟩
  clear e4e ew0 htw ec ee ef e4b
  rintro σ' Hg ⟨tv, wp, rfl, eg, hw⟩
  obtain ⟨tv', etv, tvs⟩ := hw.1.spot
  cases etv
  have bw := hw.2
  unfold Bd at bw
  -- the most
  refine ⟨_, rfl, lh, rfl, ⟨_, eg.seq (SqL.of hlh3)⟩, fun _ _ _ _ lm hlm => ?_⟩
  refine comp_by ys.length (by rw [sizeLine_eq]; omega) (fun i vs σ' Hc => Same Hg Hc ∧ Hc lm = some (.lst vs) ∧ vs = ((ps.take i).map (dot wp)).map V.int ∧ i ≤ ps.length ∧ ∃ o1, σ' = [o1, some (.ref tv)]) ?_ (fun i vs σ' Hc ⟨_, e, y, hi, _⟩ => ⟨e, by rw [y]; simp; omega⟩) ?_ ?_
  · exact ⟨same_new hlm _, upd_same, rfl, Nat.zero_le _, _, rfl⟩
  · rintro i vs σ' Hc hi ⟨e, el, rfl, hi', o1, rfl⟩
    have hip : i < ps.length := by omega
    have hp : ps[i]? = some ps[i] := List.getElem?_eq_getElem hip
    obtain ⟨v, v1, v2⟩ := hd3.get (i := i) (d := spotD ps[i]) (by simp [hip])
    have ee := eg.trans e
    refine ⟨⟨_, v, ee.seq (SqL.of hlh3), v1⟩, fun v' H' y' Kt Kf k1 _ => ?_⟩
    obtain ⟨rfl, hv⟩ := y'
    have hv' := hv _ (ee.seq (SqL.of hlh3))
    rw [v1] at hv'; cases hv'
    obtain ⟨x, rfl, hx⟩ := (ee.dn v2).spot
    have bp := hb _ (List.getElem_mem hip)
    unfold Bd at bp
    have tvc := e.seqT tvs
    simp only [gName, tYes, ↓reduceIte]
    refine ⟨_, rfl, tv, _, _, _, rfl, rfl, tvc, rfl, _, rfl, x, _, _, _, rfl, rfl, hx, rfl, _, _, rfl, rfl, .inr ⟨by omega, by omega⟩, ?_⟩
    refine ⟨_, rfl, tv, _, _, _, rfl, rfl, tvc, rfl, _, rfl, x, _, _, _, rfl, rfl, hx, rfl, _, _, rfl, rfl, .inr ⟨by omega, by omega⟩, _, _, rfl, rfl, ?_⟩
    refine k1 _ _ _ el ⟨same_upd hlm e, upd_same, ?_, by omega, _, rfl⟩
    rw [List.take_add_one, hp, List.map_append, List.map_append]; rfl
  rintro vs σ' Hh ⟨eh, elh, rfl, _, _⟩
  rw [lys, List.take_length] at elh
  refine ⟨⟨_, (eg.trans eh).seq (SqL.of hlh3), by omega⟩, ?_⟩
  have eg2 := eg.trans eh
  refine ⟨lm, _, rfl, SqL.of elh, by intro z; rw [List.map_eq_nil_iff] at z; subst z; simp at n1, fun mm m3 m4 => ?_⟩
  -- due
  refine ⟨_, rfl, lh, ys, rfl, .inl (eg2.seq (SqL.of hlh3)), _, rfl, by omega, by omega, fun _ _ _ _ ld hld => ?_⟩
  refine comp_by ps.length (by rw [sizeLine_eq]; omega) (fun i vs σ' Hc => Same Hh Hc ∧ Hc ld = some (.lst vs) ∧ vs = ((List.range i).filter fun j => decide ((ps.map (dot wp)).getD j 0 = mm)).map (fun (j : Nat) => V.int (j : Int)) ∧ ∃ o1, σ' = [o1, some (.ref tv), some (.ref lh), some (.int mm)]) ?_ (fun i vs σ' Hc ⟨_, e, y, _⟩ => ⟨e, by rw [y, List.length_map]; exact Nat.le_trans (List.length_filter_le _ _) (by simp)⟩) ?_ ?_
  · exact ⟨same_new hld _, upd_same, rfl, _, rfl⟩
  · rintro i vs σ' Hc hi ⟨e, el, rfl, o1, rfl⟩
    refine ⟨by show i < _; omega, fun v' H' y' Kt Kf k1 k2 => ?_⟩
    obtain ⟨rfl, rfl⟩ := y'
    have hp : ps[i]? = some ps[i] := List.getElem?_eq_getElem hi
    obtain ⟨v, v1, v2⟩ := hd3.get (i := i) (d := spotD ps[i]) (by simp [hi])
    have ee := eg2.trans e
    have v1' : atI ys (0 + (i : Int)) = some v := by rw [Int.zero_add]; exact atI_nat v1
    obtain ⟨x, rfl, hx⟩ := (ee.dn v2).spot
    have bp := hb _ (List.getElem_mem hi)
    unfold Bd at bp
    have tvc := (eh.trans e).seqT tvs
    have sq : SqL K H' lh ys := ee.seq (SqL.of hlh3)
    simp only [gName]
    refine ⟨_, rfl, tv, _, _, _, rfl, rfl, tvc, rfl, _, rfl, _, rfl, lh, ys, _, _, rfl, rfl, sq, v1', x, _, _, _, rfl, rfl, hx, rfl, _, _, rfl, rfl, .inr ⟨by omega, by omega⟩, ?_⟩
    refine ⟨_, rfl, tv, _, _, _, rfl, rfl, tvc, rfl, _, rfl, _, rfl, lh, ys, _, _, rfl, rfl, sq, v1', x, _, _, _, rfl, rfl, hx, rfl, _, _, rfl, rfl, .inr ⟨by omega, by omega⟩, _, _, rfl, rfl, ?_⟩
    have ed : (ps.map (dot wp)).getD i 0 = dot wp ps[i] := by simp [hi]
    refine ⟨_, rfl, rfl, _, rfl, ite2 (fun c => ?_) (fun c => ?_)⟩
    · have c' : dot wp ps[i] = mm := by
        have c2 : V.int (wp.1 * ps[i].1 + wp.2 * ps[i].2) = V.int mm := of_decide_eq_true c
        injection c2
      refine ⟨_, rfl, k1 _ _ _ el ⟨same_upd hld e, upd_same, ?_, _, rfl⟩⟩
      rw [range_filter, if_pos (decide_eq_true (by rw [ed]; exact c')), List.map_append, Int.zero_add]; rfl
    · have c' : ¬ dot wp ps[i] = mm := fun z => by
        have c2 : ¬ V.int (wp.1 * ps[i].1 + wp.2 * ps[i].2) = V.int mm := of_decide_eq_false (Bool.eq_false_iff.mpr c)
        exact c2 (congrArg V.int z)
      refine k2 _ _ ⟨e, el, ?_, _, rfl⟩
      rw [range_filter, if_neg (by rw [ed]; simpa using c'), List.append_nil]
  rintro vs σ' Hi ⟨ei, eli, rfl, _⟩
  refine ⟨by show _ ≤ ps.length; omega, ?_⟩
  have e3i := eg2.trans ei
  have hwi := hw.same (eh.trans ei)
  clear eg2 eg eh ei elh
  refine ⟨2, rfl, by decide, by decide, for_range (n := 2) (fun i σ' H' => ∃ c13 c14, σ' = [some (.ref sa), some (.ref lh), some (.ref l2), some (.ref lf), some (.int (pathSum cross (ring (hull row2)))), c5, some (.int (edgeN (hull row2))), some (.int (held2 (hull row2))), some (.ref t), some (.int c9), some (.ref tv), some (.int mm), some (.ref ld), c13, c14] ∧ Same Hi H') ⟨_, _, rfl, Same.refl _⟩ ?_ ?_⟩
  · rintro i σ' Hj hi ⟨c13, c14, rfl, ej⟩
    have e3j := e3i.trans ej
    refine ⟨_, rfl, _, rfl, l2, .ref tv, ys, ps, wp, rfl, e3j.seq (SqL.of hl23), e3j.dns hd3, hb, n1, n8, hwi.same ej, fun lp m' Hk ek hlp0 m5 m6 hlp => ?_⟩
    obtain rfl : m' = mm := Int.le_antisymm (m4 _ m5) (m6 _ m3)
    have eik := ej.trans ek
    refine ⟨_, rfl, lp, _, "list", true, rfl, .inr ⟨SqL.of hlp, rfl⟩, _, rfl, ?_⟩
    refine iteF ?_
    have edue : ((List.range ps.length).filter fun j => decide ((ps.map (dot wp)).getD j 0 = m')) = farIx (ps.map (dot wp)) m' := by unfold farIx; rw [List.length_map]
    have hlp2 : SqL K Hk lp (((farIx (ps.map (dot wp)) m').map fun (j : Nat) => (j : Int)).map V.int) := by rw [← ints_conv]; exact SqL.of hlp
    have hld2 : SqL K Hk ld (((farIx (ps.map (dot wp)) m').map fun (j : Nat) => (j : Int)).map V.int) := by rw [← ints_conv, ← edue]; exact eik.seq (SqL.of eli)
    refine ⟨_, rfl, _, rfl, lp, ld, _, _, rfl, rfl, hlp2, hld2, _, rfl, ?_⟩
    rw [decide_eq_true (rfl : (farIx (ps.map (dot wp)) m').map (fun (j : Nat) => (j : Int)) = (farIx (ps.map (dot wp)) m').map fun (j : Nat) => (j : Int))]
    refine iteF ?_
    refine ⟨_, rfl, lp, rfl, ⟨_, hlp2⟩, fun _ _ _ _ lb hlb => ?_⟩
    have lfar : (farIx (ps.map (dot wp)) m').length ≤ 8 := by
      have : (farIx (ps.map (dot wp)) m').length ≤ (List.range (ps.map (dot wp)).length).length := List.length_filter_le _ _
      rw [List.length_range, List.length_map] at this
      omega
    have lfx : ((farIx (ps.map (dot wp)) m').map fun (j : Nat) => (j : Int)).length ≤ 8 := by rw [List.length_map]; exact lfar
    generalize (farIx (ps.map (dot wp)) m').map (fun (j : Nat) => (j : Int)) = fx at *
    refine comp_by (fx.map V.int).length (by rw [List.length_map, sizeLine_eq]; omega) (fun i zs σ' Hc => Same Hk Hc ∧ Hc lb = some (.lst zs) ∧ zs = List.replicate i (V.bl false) ∧ σ'.length = 1) ?_ (fun i zs σ' Hc ⟨_, e, y, _⟩ => ⟨e, by rw [y]; simp⟩) ?_ ?_
    · exact ⟨same_new hlb _, upd_same, rfl, rfl⟩
    · rintro j zs σ' Hc hj ⟨e', el', rfl, hσ⟩
      have hxv : (fx.map V.int)[j]? = some (V.int (fx[j]'(by simpa using hj))) := by rw [List.getElem?_map, List.getElem?_eq_getElem (by simpa using hj)]; rfl
      refine ⟨⟨_, _, e'.seq hlp2, hxv⟩, fun x H' y Kt Kf k1 _ => ?_⟩
      obtain ⟨rfl, hx⟩ := y
      have hx' := hx _ (e'.seq hlp2)
      rw [hxv] at hx'; cases hx'
      match σ', hσ with
      | [c], _ =>
        simp only [gName, tYes, ↓reduceIte]
        refine ⟨_, rfl, _, "bool", _, false, rfl, .int _, rfl, ?_⟩
        exact k1 _ _ _ el' ⟨same_upd hlb e', upd_same, by rw [List.replicate_succ'], rfl⟩
    · rintro zs σ' Hl ⟨el, ell, rfl, _⟩
      refine ⟨⟨_, el.seq hlp2, Nat.le_refl _⟩, lb, List.replicate (fx.map V.int).length false, rfl, SqL.of (by rw [List.map_replicate]; exact ell), _, rfl, ?_⟩
      have hany : (List.replicate (fx.map V.int).length false).any id = false := by simp
      rw [hany]
      refine iteF ?_
      refine ⟨_, rfl, .inl ⟨rfl, _, SqL.of (el _ _ hlp)⟩, lp, _, _, rfl, rfl, el _ _ hlp, by rw [List.length_map, sizeLine_eq]; omega, ?_⟩
      exact ⟨_, _, rfl, same_upd (ej.free hlp0) (eik.trans el)⟩
  · rintro σ' Hj ⟨c13, c14, rfl, ej⟩
    have e3j := e3i.trans ej
    refine ⟨_, rfl, _, rfl, l2, lh, ys, ys, ps, ps, rfl, rfl, e3j.seq (SqL.of hl23), e3j.seq (SqL.of hlh3), e3j.dns hd3, e3j.dns hd3, ?_⟩
    rw [decide_eq_true (rfl : ps = ps)]
    refine ⟨true, rfl, iteT ?_⟩
    refine ⟨_, rfl, (by show 2 ≤ sizeLine; decide), fun tz htz => ?_⟩
    have ez := same_new htz (HO.tup [.int 0, .int 0])
    have e3k := e3j.trans ez
    refine ⟨lh, .ref tz, ys, ps, (0, 0), rfl, e3k.seq (SqL.of hlh3), e3k.dns hd3, hb, n1, n8, ⟨dn_spot (SqT.of upd_same), ⟨by decide, by decide⟩, by decide, by decide⟩, fun lp m' Hk ek hlp0 m5 m6 hlp => ?_⟩
    refine ⟨_, rfl, lh, ys, rfl, .inl ((e3k.trans ek).seq (SqL.of hlh3)), ys.length, rfl, by omega, fun lr hlr => ?_⟩
    have er := same_new hlr (HO.lst ((List.range ys.length).map fun (j : Nat) => V.int (j : Int)))
    rw [far_zero ps m5] at hlp
    refine ⟨lp, lr, (List.range ps.length).map (fun (j : Nat) => (j : Int)), (List.range ys.length).map (fun (j : Nat) => (j : Int)), rfl, rfl, er.seq (SqL.of (by rw [← ints_conv]; exact hlp)), SqL.of (by rw [← ints_conv]; exact upd_same), ?_⟩
    rw [lys, decide_eq_true (rfl : (List.range ps.length).map (fun (j : Nat) => (j : Int)) = (List.range ps.length).map (fun (j : Nat) => (j : Int)))]
    exact q _
end
theorem all_mk {l : PySem.W.OpenLaw} {w : World} {K : PySem.W.Frag} {h : Heap} {mg : Str → Option Value} {fa f1 f2 f3 f4 f5 f6 f7 f8 f9 f10 f11 f12 f13 f14 f15 f16 f17 f18 f19 f20 f21 f22 f23 f24 f25 f26 f27 f28 : Addr} (X : K.In h) (G : h.Ns mainGlobals mg) (hfa : mg "law" = some (.ref fa))
    {od1 an1 od2 an2 od3 an3 od4 an4 od5 an5 od6 an6 od7 an7 od8 an8 od9 an9 od10 an10 od11 an11 od12 an12 od13 an13 od14 an14 od15 an15 od16 an16 od17 an17 od18 an18 od19 an19 od20 an20 od21 an21 od22 an22 od23 an23 od24 an24 od25 an25 od26 an26 od27 an27 od28 an28 : Option Addr} {sl1 sl2 sl3 sl4 sl5 sl6 sl7 sl8 sl9 sl10 sl11 sl12 sl13 sl14 sl15 sl16 sl17 sl18 sl19 sl20 sl21 sl22 sl23 sl24 sl25 sl26 sl27 sl28 : Array (Option Value)} {oc1 kV1 dc1 pm1 cd1 ct1 oc2 kV2 dc2 pm2 cd2 ct2 oc3 kV3 dc3 pm3 cd3 ct3 oc4 kV4 dc4 pm4 cd4 ct4 oc5 kV5 dc5 pm5 cd5 ct5 oc6 kV6 dc6 pm6 cd6 ct6 oc7 kV7 dc7 pm7 cd7 ct7 oc8 kV8 dc8 pm8 cd8 ct8 oc9 kV9 dc9 pm9 cd9 ct9 oc10 kV10 dc10 pm10 cd10 ct10 oc11 kV11 dc11 pm11 cd11 ct11 oc12 kV12 dc12 pm12 cd12 ct12 oc13 kV13 dc13 pm13 cd13 ct13 oc14 kV14 dc14 pm14 cd14 ct14 oc15 kV15 dc15 pm15 cd15 ct15 oc16 kV16 dc16 pm16 cd16 ct16 oc17 kV17 dc17 pm17 cd17 ct17 oc18 kV18 dc18 pm18 cd18 ct18 oc19 kV19 dc19 pm19 cd19 ct19 oc20 kV20 dc20 pm20 cd20 ct20 oc21 kV21 dc21 pm21 cd21 ct21 oc22 kV22 dc22 pm22 cd22 ct22 oc23 kV23 dc23 pm23 cd23 ct23 oc24 kV24 dc24 pm24 cd24 ct24 oc25 kV25 dc25 pm25 cd25 ct25 oc26 kV26 dc26 pm26 cd26 ct26 oc27 kV27 dc27 pm27 cd27 ct27 oc28 kV28 dc28 pm28 cd28 ct28 : Value}
    {tk_BOUND : Tok} (y_BOUND : PySem.W.nsIn K mainGlobals "BOUND" = some (some (.int 1000 tk_BOUND)))
    {tk_MOST_SPOTS : Tok} (y_MOST_SPOTS : PySem.W.nsIn K mainGlobals "MOST_SPOTS" = some (some (.int 8 tk_MOST_SPOTS)))
    (a1 : PySem.W.nsIn K mainGlobals "common_divisor" = some (some (.ref f1))) (l1 : K.lookup f1 = some ⟨oc1, od1, .func (PySem.W.fnOf "common_divisor" "common_divisor" (defArgs s_common_divisor) (defBody s_common_divisor) (defScope s_common_divisor) .none kV1 dc1 pm1 an1 cd1 ct1), sl1⟩) (c1 : PySem.W.codeIn K cd1 "common_divisor" = true) (k1 : PySem.W.keepIn K (.ref f1) = true)
    (a2 : PySem.W.nsIn K mainGlobals "is_number" = some (some (.ref f2))) (l2 : K.lookup f2 = some ⟨oc2, od2, .func (PySem.W.fnOf "is_number" "is_number" (defArgs s_is_number) (defBody s_is_number) (defScope s_is_number) .none kV2 dc2 pm2 an2 cd2 ct2), sl2⟩) (c2 : PySem.W.codeIn K cd2 "is_number" = true) (k2 : PySem.W.keepIn K (.ref f2) = true)
    (a3 : PySem.W.nsIn K mainGlobals "is_pair" = some (some (.ref f3))) (l3 : K.lookup f3 = some ⟨oc3, od3, .func (PySem.W.fnOf "is_pair" "is_pair" (defArgs s_is_pair) (defBody s_is_pair) (defScope s_is_pair) .none kV3 dc3 pm3 an3 cd3 ct3), sl3⟩) (c3 : PySem.W.codeIn K cd3 "is_pair" = true) (k3 : PySem.W.keepIn K (.ref f3) = true)
    (a4 : PySem.W.nsIn K mainGlobals "is_herd" = some (some (.ref f4))) (l4 : K.lookup f4 = some ⟨oc4, od4, .func (PySem.W.fnOf "is_herd" "is_herd" (defArgs s_is_herd) (defBody s_is_herd) (defScope s_is_herd) .none kV4 dc4 pm4 an4 cd4 ct4), sl4⟩) (c4 : PySem.W.codeIn K cd4 "is_herd" = true) (k4 : PySem.W.keepIn K (.ref f4) = true)
    (a5 : PySem.W.nsIn K mainGlobals "check_herd" = some (some (.ref f5))) (l5 : K.lookup f5 = some ⟨oc5, od5, .func (PySem.W.fnOf "check_herd" "check_herd" (defArgs s_check_herd) (defBody s_check_herd) (defScope s_check_herd) .none kV5 dc5 pm5 an5 cd5 ct5), sl5⟩) (c5 : PySem.W.codeIn K cd5 "check_herd" = true) (k5 : PySem.W.keepIn K (.ref f5) = true)
    (a6 : PySem.W.nsIn K mainGlobals "check_way" = some (some (.ref f6))) (l6 : K.lookup f6 = some ⟨oc6, od6, .func (PySem.W.fnOf "check_way" "check_way" (defArgs s_check_way) (defBody s_check_way) (defScope s_check_way) .none kV6 dc6 pm6 an6 cd6 ct6), sl6⟩) (c6 : PySem.W.codeIn K cd6 "check_way" = true) (k6 : PySem.W.keepIn K (.ref f6) = true)
    (a7 : PySem.W.nsIn K mainGlobals "leftness" = some (some (.ref f7))) (l7 : K.lookup f7 = some ⟨oc7, od7, .func (PySem.W.fnOf "leftness" "leftness" (defArgs s_leftness) (defBody s_leftness) (defScope s_leftness) .none kV7 dc7 pm7 an7 cd7 ct7), sl7⟩) (c7 : PySem.W.codeIn K cd7 "leftness" = true) (k7 : PySem.W.keepIn K (.ref f7) = true)
    (a8 : PySem.W.nsIn K mainGlobals "reach" = some (some (.ref f8))) (l8 : K.lookup f8 = some ⟨oc8, od8, .func (PySem.W.fnOf "reach" "reach" (defArgs s_reach) (defBody s_reach) (defScope s_reach) .none kV8 dc8 pm8 an8 cd8 ct8), sl8⟩) (c8 : PySem.W.codeIn K cd8 "reach" = true) (k8 : PySem.W.keepIn K (.ref f8) = true)
    (a9 : PySem.W.nsIn K mainGlobals "left_chain" = some (some (.ref f9))) (l9 : K.lookup f9 = some ⟨oc9, od9, .func (PySem.W.fnOf "left_chain" "left_chain" (defArgs s_left_chain) (defBody s_left_chain) (defScope s_left_chain) .none kV9 dc9 pm9 an9 cd9 ct9), sl9⟩) (c9 : PySem.W.codeIn K cd9 "left_chain" = true) (k9 : PySem.W.keepIn K (.ref f9) = true)
    (a10 : PySem.W.nsIn K mainGlobals "corners" = some (some (.ref f10))) (l10 : K.lookup f10 = some ⟨oc10, od10, .func (PySem.W.fnOf "corners" "corners" (defArgs s_corners) (defBody s_corners) (defScope s_corners) .none kV10 dc10 pm10 an10 cd10 ct10), sl10⟩) (c10 : PySem.W.codeIn K cd10 "corners" = true) (k10 : PySem.W.keepIn K (.ref f10) = true)
    (a11 : PySem.W.nsIn K mainGlobals "sides" = some (some (.ref f11))) (l11 : K.lookup f11 = some ⟨oc11, od11, .func (PySem.W.fnOf "sides" "sides" (defArgs s_sides) (defBody s_sides) (defScope s_sides) .none kV11 dc11 pm11 an11 cd11 ct11), sl11⟩) (c11 : PySem.W.codeIn K cd11 "sides" = true) (k11 : PySem.W.keepIn K (.ref f11) = true)
    (a12 : PySem.W.nsIn K mainGlobals "twice_area" = some (some (.ref f12))) (l12 : K.lookup f12 = some ⟨oc12, od12, .func (PySem.W.fnOf "twice_area" "twice_area" (defArgs s_twice_area) (defBody s_twice_area) (defScope s_twice_area) .none kV12 dc12 pm12 an12 cd12 ct12), sl12⟩) (c12 : PySem.W.codeIn K cd12 "twice_area" = true) (k12 : PySem.W.keepIn K (.ref f12) = true)
    (a13 : PySem.W.nsIn K mainGlobals "steps_round" = some (some (.ref f13))) (l13 : K.lookup f13 = some ⟨oc13, od13, .func (PySem.W.fnOf "steps_round" "steps_round" (defArgs s_steps_round) (defBody s_steps_round) (defScope s_steps_round) .none kV13 dc13 pm13 an13 cd13 ct13), sl13⟩) (c13 : PySem.W.codeIn K cd13 "steps_round" = true) (k13 : PySem.W.keepIn K (.ref f13) = true)
    (a14 : PySem.W.nsIn K mainGlobals "land" = some (some (.ref f14))) (l14 : K.lookup f14 = some ⟨oc14, od14, .func (PySem.W.fnOf "land" "land" (defArgs s_land) (defBody s_land) (defScope s_land) .none kV14 dc14 pm14 an14 cd14 ct14), sl14⟩) (c14 : PySem.W.codeIn K cd14 "land" = true) (k14 : PySem.W.keepIn K (.ref f14) = true)
    (a15 : PySem.W.nsIn K mainGlobals "spots" = some (some (.ref f15))) (l15 : K.lookup f15 = some ⟨oc15, od15, .func (PySem.W.fnOf "spots" "spots" (defArgs s_spots) (defBody s_spots) (defScope s_spots) .none kV15 dc15 pm15 an15 cd15 ct15), sl15⟩) (c15 : PySem.W.codeIn K cd15 "spots" = true) (k15 : PySem.W.keepIn K (.ref f15) = true)
    (a16 : PySem.W.nsIn K mainGlobals "farthest" = some (some (.ref f16))) (l16 : K.lookup f16 = some ⟨oc16, od16, .func (PySem.W.fnOf "farthest" "farthest" (defArgs s_farthest) (defBody s_farthest) (defScope s_farthest) .none kV16 dc16 pm16 an16 cd16 ct16), sl16⟩) (c16 : PySem.W.codeIn K cd16 "farthest" = true) (k16 : PySem.W.keepIn K (.ref f16) = true)
    (a17 : PySem.W.nsIn K mainGlobals "_law_cell_at" = some (some (.ref f17))) (l17 : K.lookup f17 = some ⟨oc17, od17, .func (PySem.W.fnOf "_law_cell_at" "_law_cell_at" (defArgs s__law_cell_at) (defBody s__law_cell_at) (defScope s__law_cell_at) .none kV17 dc17 pm17 an17 cd17 ct17), sl17⟩) (c17 : PySem.W.codeIn K cd17 "_law_cell_at" = true) (k17 : PySem.W.keepIn K (.ref f17) = true)
    (a18 : PySem.W.nsIn K mainGlobals "_law_draw" = some (some (.ref f18))) (l18 : K.lookup f18 = some ⟨oc18, od18, .func (PySem.W.fnOf "_law_draw" "_law_draw" (defArgs s__law_draw) (defBody s__law_draw) (defScope s__law_draw) .none kV18 dc18 pm18 an18 cd18 ct18), sl18⟩) (c18 : PySem.W.codeIn K cd18 "_law_draw" = true) (k18 : PySem.W.keepIn K (.ref f18) = true)
    (a19 : PySem.W.nsIn K mainGlobals "_law_spot" = some (some (.ref f19))) (l19 : K.lookup f19 = some ⟨oc19, od19, .func (PySem.W.fnOf "_law_spot" "_law_spot" (defArgs s__law_spot) (defBody s__law_spot) (defScope s__law_spot) .none kV19 dc19 pm19 an19 cd19 ct19), sl19⟩) (c19 : PySem.W.codeIn K cd19 "_law_spot" = true) (k19 : PySem.W.keepIn K (.ref f19) = true)
    (a20 : PySem.W.nsIn K mainGlobals "_law_herd" = some (some (.ref f20))) (l20 : K.lookup f20 = some ⟨oc20, od20, .func (PySem.W.fnOf "_law_herd" "_law_herd" (defArgs s__law_herd) (defBody s__law_herd) (defScope s__law_herd) .none kV20 dc20 pm20 an20 cd20 ct20), sl20⟩) (c20 : PySem.W.codeIn K cd20 "_law_herd" = true) (k20 : PySem.W.keepIn K (.ref f20) = true)
    (a21 : PySem.W.nsIn K mainGlobals "_law_turn" = some (some (.ref f21))) (l21 : K.lookup f21 = some ⟨oc21, od21, .func (PySem.W.fnOf "_law_turn" "_law_turn" (defArgs s__law_turn) (defBody s__law_turn) (defScope s__law_turn) .none kV21 dc21 pm21 an21 cd21 ct21), sl21⟩) (c21 : PySem.W.codeIn K cd21 "_law_turn" = true) (k21 : PySem.W.keepIn K (.ref f21) = true)
    (a22 : PySem.W.nsIn K mainGlobals "_law_far" = some (some (.ref f22))) (l22 : K.lookup f22 = some ⟨oc22, od22, .func (PySem.W.fnOf "_law_far" "_law_far" (defArgs s__law_far) (defBody s__law_far) (defScope s__law_far) .none kV22 dc22 pm22 an22 cd22 ct22), sl22⟩) (c22 : PySem.W.codeIn K cd22 "_law_far" = true) (k22 : PySem.W.keepIn K (.ref f22) = true)
    (a23 : PySem.W.nsIn K mainGlobals "_law_next" = some (some (.ref f23))) (l23 : K.lookup f23 = some ⟨oc23, od23, .func (PySem.W.fnOf "_law_next" "_law_next" (defArgs s__law_next) (defBody s__law_next) (defScope s__law_next) .none kV23 dc23 pm23 an23 cd23 ct23), sl23⟩) (c23 : PySem.W.codeIn K cd23 "_law_next" = true) (k23 : PySem.W.keepIn K (.ref f23) = true)
    (a24 : PySem.W.nsIn K mainGlobals "_law_round" = some (some (.ref f24))) (l24 : K.lookup f24 = some ⟨oc24, od24, .func (PySem.W.fnOf "_law_round" "_law_round" (defArgs s__law_round) (defBody s__law_round) (defScope s__law_round) .none kV24 dc24 pm24 an24 cd24 ct24), sl24⟩) (c24 : PySem.W.codeIn K cd24 "_law_round" = true) (k24 : PySem.W.keepIn K (.ref f24) = true)
    (a25 : PySem.W.nsIn K mainGlobals "_law_common" = some (some (.ref f25))) (l25 : K.lookup f25 = some ⟨oc25, od25, .func (PySem.W.fnOf "_law_common" "_law_common" (defArgs s__law_common) (defBody s__law_common) (defScope s__law_common) .none kV25 dc25 pm25 an25 cd25 ct25), sl25⟩) (c25 : PySem.W.codeIn K cd25 "_law_common" = true) (k25 : PySem.W.keepIn K (.ref f25) = true)
    (a26 : PySem.W.nsIn K mainGlobals "_law_edge" = some (some (.ref f26))) (l26 : K.lookup f26 = some ⟨oc26, od26, .func (PySem.W.fnOf "_law_edge" "_law_edge" (defArgs s__law_edge) (defBody s__law_edge) (defScope s__law_edge) .none kV26 dc26 pm26 an26 cd26 ct26), sl26⟩) (c26 : PySem.W.codeIn K cd26 "_law_edge" = true) (k26 : PySem.W.keepIn K (.ref f26) = true)
    (a27 : PySem.W.nsIn K mainGlobals "_law_counted" = some (some (.ref f27))) (l27 : K.lookup f27 = some ⟨oc27, od27, .func (PySem.W.fnOf "_law_counted" "_law_counted" (defArgs s__law_counted) (defBody s__law_counted) (defScope s__law_counted) .none kV27 dc27 pm27 an27 cd27 ct27), sl27⟩) (c27 : PySem.W.codeIn K cd27 "_law_counted" = true) (k27 : PySem.W.keepIn K (.ref f27) = true)
    (a28 : PySem.W.nsIn K mainGlobals "law" = some (some (.ref f28))) (l28 : K.lookup f28 = some ⟨oc28, od28, .func (PySem.W.fnOf "law" "law" (defArgs s_law) (defBody s_law) (defScope s_law) .none kV28 dc28 pm28 an28 cd28 ct28), sl28⟩) (c28 : PySem.W.codeIn K cd28 "law" = true) (k28 : PySem.W.keepIn K (.ref f28) = true)
    (z_len : PySem.W.nsIn K mainGlobals "len" = some none) (z_all : PySem.W.nsIn K mainGlobals "all" = some none) (z_any : PySem.W.nsIn K mainGlobals "any" = some none) (z_abs : PySem.W.nsIn K mainGlobals "abs" = some none) (z_sum : PySem.W.nsIn K mainGlobals "sum" = some none) (z_isinstance : PySem.W.nsIn K mainGlobals "isinstance" = some none) (z_tuple : PySem.W.nsIn K mainGlobals "tuple" = some none) (z_list : PySem.W.nsIn K mainGlobals "list" = some none) (z_bool : PySem.W.nsIn K mainGlobals "bool" = some none) (z_int : PySem.W.nsIn K mainGlobals "int" = some none) (z_set : PySem.W.nsIn K mainGlobals "set" = some none) (z_range : PySem.W.nsIn K mainGlobals "range" = some none) (z_reversed : PySem.W.nsIn K mainGlobals "reversed" = some none) (z_sorted : PySem.W.nsIn K mainGlobals "sorted" = some none) (z_min : PySem.W.nsIn K mainGlobals "min" = some none) (z_max : PySem.W.nsIn K mainGlobals "max" = some none) (z_zip : PySem.W.nsIn K mainGlobals "zip" = some none) (z_enumerate : PySem.W.nsIn K mainGlobals "enumerate" = some none) :
    ∃ fd : FuncData, (∀ (s : Shared) (v : Value), BindsTo s fd ⟨[v], []⟩ [("_law_script", v)]) ∧ ∀ base : Heap, K.In base → base.Ns mainGlobals mg → FnOk l.prog w K mg base CX0 7 fa fd ["_law_script"] (sp_law K) := by
  have e := hfa.symm.trans (PySem.W.mg_of X G a28)
  cases e
  have F1 := fun_mk (st := s_common_divisor) l1 c1 k1
  have b1 := F1.binds (ps := ["a", "b"]) fun _ _ _ _ _ _ us hl => match us, hl with | [_, _], _ => rfl
  have F2 := fun_mk (st := s_is_number) l2 c2 k2
  have b2 := F2.binds (ps := ["value"]) fun _ _ _ _ _ _ us hl => match us, hl with | [_], _ => rfl
  have F3 := fun_mk (st := s_is_pair) l3 c3 k3
  have b3 := F3.binds (ps := ["value"]) fun _ _ _ _ _ _ us hl => match us, hl with | [_], _ => rfl
  have F4 := fun_mk (st := s_is_herd) l4 c4 k4
  have b4 := F4.binds (ps := ["value"]) fun _ _ _ _ _ _ us hl => match us, hl with | [_], _ => rfl
  have F5 := fun_mk (st := s_check_herd) l5 c5 k5
  have b5 := F5.binds (ps := ["herd"]) fun _ _ _ _ _ _ us hl => match us, hl with | [_], _ => rfl
  have F6 := fun_mk (st := s_check_way) l6 c6 k6
  have b6 := F6.binds (ps := ["way"]) fun _ _ _ _ _ _ us hl => match us, hl with | [_], _ => rfl
  have F7 := fun_mk (st := s_leftness) l7 c7 k7
  have b7 := F7.binds (ps := ["start", "end", "spot"]) fun _ _ _ _ _ _ us hl => match us, hl with | [_, _, _], _ => rfl
  have F8 := fun_mk (st := s_reach) l8 c8 k8
  have b8 := F8.binds (ps := ["way", "spot"]) fun _ _ _ _ _ _ us hl => match us, hl with | [_, _], _ => rfl
  have F9 := fun_mk (st := s_left_chain) l9 c9 k9
  have b9 := F9.binds (ps := ["row"]) fun _ _ _ _ _ _ us hl => match us, hl with | [_], _ => rfl
  have F10 := fun_mk (st := s_corners) l10 c10 k10
  have b10 := F10.binds (ps := ["herd"]) fun _ _ _ _ _ _ us hl => match us, hl with | [_], _ => rfl
  have F11 := fun_mk (st := s_sides) l11 c11 k11
  have b11 := F11.binds (ps := ["around"]) fun _ _ _ _ _ _ us hl => match us, hl with | [_], _ => rfl
  have F12 := fun_mk (st := s_twice_area) l12 c12 k12
  have b12 := F12.binds (ps := ["around"]) fun _ _ _ _ _ _ us hl => match us, hl with | [_], _ => rfl
  have F13 := fun_mk (st := s_steps_round) l13 c13 k13
  have b13 := F13.binds (ps := ["around"]) fun _ _ _ _ _ _ us hl => match us, hl with | [_], _ => rfl
  have F14 := fun_mk (st := s_land) l14 c14 k14
  have b14 := F14.binds (ps := ["herd"]) fun _ _ _ _ _ _ us hl => match us, hl with | [_], _ => rfl
  have F15 := fun_mk (st := s_spots) l15 c15 k15
  have b15 := F15.binds (ps := ["herd"]) fun _ _ _ _ _ _ us hl => match us, hl with | [_], _ => rfl
  have F16 := fun_mk (st := s_farthest) l16 c16 k16
  have b16 := F16.binds (ps := ["herd", "way"]) fun _ _ _ _ _ _ us hl => match us, hl with | [_, _], _ => rfl
  have F17 := fun_mk (st := s__law_cell_at) l17 c17 k17
  have b17 := F17.binds (ps := ["_law_script", "_law_k"]) fun _ _ _ _ _ _ us hl => match us, hl with | [_, _], _ => rfl
  have F18 := fun_mk (st := s__law_draw) l18 c18 k18
  have b18 := F18.binds (ps := ["_law_cell", "_law_k", "_law_many"]) fun _ _ _ _ _ _ us hl => match us, hl with | [_, _, _], _ => rfl
  have F19 := fun_mk (st := s__law_spot) l19 c19 k19
  have b19 := F19.binds (ps := ["_law_cell", "_law_most", "_law_line"]) fun _ _ _ _ _ _ us hl => match us, hl with | [_, _, _], _ => rfl
  have F20 := fun_mk (st := s__law_herd) l20 c20 k20
  have b20 := F20.binds (ps := ["_law_cell", "_law_most_spots"]) fun _ _ _ _ _ _ us hl => match us, hl with | [_, _], _ => rfl
  have F21 := fun_mk (st := s__law_turn) l21 c21 k21
  have b21 := F21.binds (ps := ["_law_one", "_law_two", "_law_three"]) fun _ _ _ _ _ _ us hl => match us, hl with | [_, _, _], _ => rfl
  have F22 := fun_mk (st := s__law_far) l22 c22 k22
  have b22 := F22.binds (ps := ["_law_one", "_law_other"]) fun _ _ _ _ _ _ us hl => match us, hl with | [_, _], _ => rfl
  have F23 := fun_mk (st := s__law_next) l23 c23 k23
  have b23 := F23.binds (ps := ["_law_each", "_law_spot_here"]) fun _ _ _ _ _ _ us hl => match us, hl with | [_, _], _ => rfl
  have F24 := fun_mk (st := s__law_round) l24 c24 k24
  have b24 := F24.binds (ps := ["_law_herd_here"]) fun _ _ _ _ _ _ us hl => match us, hl with | [_], _ => rfl
  have F25 := fun_mk (st := s__law_common) l25 c25 k25
  have b25 := F25.binds (ps := ["_law_one", "_law_other"]) fun _ _ _ _ _ _ us hl => match us, hl with | [_, _], _ => rfl
  have F26 := fun_mk (st := s__law_edge) l26 c26 k26
  have b26 := F26.binds (ps := ["_law_found"]) fun _ _ _ _ _ _ us hl => match us, hl with | [_], _ => rfl
  have F27 := fun_mk (st := s__law_counted) l27 c27 k27
  have b27 := F27.binds (ps := ["_law_found"]) fun _ _ _ _ _ _ us hl => match us, hl with | [_], _ => rfl
  have F28 := fun_mk (st := s_law) l28 c28 k28
  have b28 := F28.binds (ps := ["_law_script"]) fun _ _ _ _ _ _ us hl => match us, hl with | [_], _ => rfl
  have B : Bl mg := ⟨PySem.W.mg_none_of X G z_len, PySem.W.mg_none_of X G z_all, PySem.W.mg_none_of X G z_any, PySem.W.mg_none_of X G z_abs, PySem.W.mg_none_of X G z_sum, PySem.W.mg_none_of X G z_isinstance, PySem.W.mg_none_of X G z_tuple, PySem.W.mg_none_of X G z_list, PySem.W.mg_none_of X G z_bool, PySem.W.mg_none_of X G z_int, PySem.W.mg_none_of X G z_set, PySem.W.mg_none_of X G z_range, PySem.W.mg_none_of X G z_reversed, PySem.W.mg_none_of X G z_sorted, PySem.W.mg_none_of X G z_min, PySem.W.mg_none_of X G z_max, PySem.W.mg_none_of X G z_zip, PySem.W.mg_none_of X G z_enumerate, ⟨_, PySem.W.mg_of X G y_BOUND⟩, ⟨_, PySem.W.mg_of X G y_MOST_SPOTS⟩⟩
  refine ⟨PySem.W.fnOf "law" "law" (defArgs s_law) (defBody s_law) (defScope s_law) .none kV28 dc28 pm28 an28 cd28 ct28, fun s v => .of_eq rfl, fun base _ _ => ?_⟩
  have C_common_divisor := cal_mk (ok_cd (P := l.prog) (w := w) (base := base) B F1) b1 k1 (PySem.W.mg_of X G a1)
  have C_is_number := cal_mk (ok_num (P := l.prog) (w := w) (base := base) B F2) b2 k2 (PySem.W.mg_of X G a2)
  have C_is_pair := cal_mk (ok_pair (P := l.prog) (w := w) (base := base) B C_is_number F3) b3 k3 (PySem.W.mg_of X G a3)
  have C_is_herd := cal_mk (ok_isherd (P := l.prog) (w := w) (base := base) B C_is_pair F4) b4 k4 (PySem.W.mg_of X G a4)
  have C_check_herd := cal_mk (ok_check (P := l.prog) (w := w) (base := base) C_is_herd F5) b5 k5 (PySem.W.mg_of X G a5)
  have C_check_way := cal_mk (ok_way (P := l.prog) (w := w) (base := base) C_is_pair F6) b6 k6 (PySem.W.mg_of X G a6)
  have C_leftness := cal_mk (ok_left (P := l.prog) (w := w) (base := base)  F7) b7 k7 (PySem.W.mg_of X G a7)
  have C_reach := cal_mk (ok_reach (P := l.prog) (w := w) (base := base)  F8) b8 k8 (PySem.W.mg_of X G a8)
  have C_left_chain := cal_mk (ok_chain (P := l.prog) (w := w) (base := base) B C_leftness F9) b9 k9 (PySem.W.mg_of X G a9)
  have C_corners := cal_mk (ok_corners (P := l.prog) (w := w) (base := base) B C_check_herd C_left_chain F10) b10 k10 (PySem.W.mg_of X G a10)
  have C_sides := cal_mk (ok_sides (P := l.prog) (w := w) (base := base) B F11) b11 k11 (PySem.W.mg_of X G a11)
  have C_twice_area := cal_mk (ok_area (P := l.prog) (w := w) (base := base) B C_sides F12) b12 k12 (PySem.W.mg_of X G a12)
  have C_steps_round := cal_mk (ok_steps (P := l.prog) (w := w) (base := base) B C_sides C_common_divisor F13) b13 k13 (PySem.W.mg_of X G a13)
  have C_land := cal_mk (ok_land (P := l.prog) (w := w) (base := base) C_corners C_twice_area F14) b14 k14 (PySem.W.mg_of X G a14)
  have C_spots := cal_mk (ok_spots (P := l.prog) (w := w) (base := base) B C_corners C_twice_area C_steps_round F15) b15 k15 (PySem.W.mg_of X G a15)
  have C_farthest := cal_mk (ok_farthest (P := l.prog) (w := w) (base := base) B C_check_herd C_check_way C_reach F16) b16 k16 (PySem.W.mg_of X G a16)
  have C__law_cell_at := cal_mk (ok_cell (P := l.prog) (w := w) (base := base) B F17) b17 k17 (PySem.W.mg_of X G a17)
  have C__law_draw := cal_mk (ok_draw (P := l.prog) (w := w) (base := base)  F18) b18 k18 (PySem.W.mg_of X G a18)
  have C__law_spot := cal_mk (ok_spot (P := l.prog) (w := w) (base := base) C__law_draw F19) b19 k19 (PySem.W.mg_of X G a19)
  have C__law_herd := cal_mk (ok_herd (P := l.prog) (w := w) (base := base) B C__law_draw C__law_spot F20) b20 k20 (PySem.W.mg_of X G a20)
  have C__law_turn := cal_mk (ok_turn (P := l.prog) (w := w) (base := base)  F21) b21 k21 (PySem.W.mg_of X G a21)
  have C__law_far := cal_mk (ok_lfar (P := l.prog) (w := w) (base := base) B F22) b22 k22 (PySem.W.mg_of X G a22)
  have C__law_next := cal_mk (ok_next (P := l.prog) (w := w) (base := base) B C__law_turn C__law_far F23) b23 k23 (PySem.W.mg_of X G a23)
  have C__law_round := cal_mk (ok_round (P := l.prog) (w := w) (base := base) B C__law_next F24) b24 k24 (PySem.W.mg_of X G a24)
  have C__law_common := cal_mk (ok_common (P := l.prog) (w := w) (base := base)  F25) b25 k25 (PySem.W.mg_of X G a25)
  have C__law_edge := cal_mk (ok_edge (P := l.prog) (w := w) (base := base) B C__law_common F26) b26 k26 (PySem.W.mg_of X G a26)
  have C__law_counted := cal_mk (ok_counted (P := l.prog) (w := w) (base := base) B C__law_turn F27) b27 k27 (PySem.W.mg_of X G a27)
  exact ok_law B C_land C_spots C_farthest C__law_cell_at C__law_draw C__law_herd C__law_turn C__law_round C__law_edge C__law_counted F28
theorem walk {l : PySem.W.OpenLaw} {q : Program} {loose : List Str} {XP : (Str → Option Value) → Heap → Prop} {YP : World → Heap → Prop} {d : DefRec} {K : Params → PySem.W.Frag} (hn : l.most = some 63) (hdf : d.params.defaults = [])
    (hY : ∀ (w : World) (h : Heap), YP w h → (K w.params).In h)
    (F : ∀ (w : World) (mg : Str → Option Value) (fa : Addr) (h : Heap), (K w.params).In h → h.Ns mainGlobals mg → mg d.name = some (.ref fa) →
      ∃ fd : FuncData, (∀ (s : Shared) (u : Value), BindsTo s fd ⟨[u], []⟩ [("_law_script", u)]) ∧ ∀ base : Heap, (K w.params).In base → base.Ns mainGlobals mg → FnOk l.prog w (K w.params) mg base CX0 7 fa fd ["_law_script"] (sp_law (K w.params))) :
    PySem.W.WalkO q loose XP YP l.row.toRowW d [] (fun f vs => PySem.call f vs) :=
  L2.walk_of (n := 63) (k := 7) (x := "_law_script") (CX := fun _ => CX0) (sp := fun w => sp_law (K w.params)) hn (by decide) hdf ⟨rfl, by decide, by decide⟩ hY F (fun _ _ a ns hl _ hS => ⟨a, ns, rfl, hS, hl, fun _ => rfl⟩) fun _ _ _ _ _ z => z
end K5a
open PySem PySem.W PyProof.Rows
set_option maxRecDepth 100000 in
set_option maxHeartbeats 0 in
theorem PySem.Challenge.cw_herdline_k05_land_and_spots_holds : PySem.Challenge.rw_herdline_k05_land_and_spots.Holds := by
  w_on; o_law; k_head; (case hw => w_witness2)
  k_fill
  refine K5a.walk (l := PySem.Challenge.rw_herdline_k05_land_and_spots) rfl rfl (fun w h Y => PySem.W.kIn_of Y) ?F
  case F =>
    intro w mg fa h KX G hmg
    refine' K5a.all_mk KX G hmg ?y_BOUND ?y_MOST_SPOTS ?a1 ?l1 ?c1 ?k1 ?a2 ?l2 ?c2 ?k2 ?a3 ?l3 ?c3 ?k3 ?a4 ?l4 ?c4 ?k4 ?a5 ?l5 ?c5 ?k5 ?a6 ?l6 ?c6 ?k6 ?a7 ?l7 ?c7 ?k7 ?a8 ?l8 ?c8 ?k8 ?a9 ?l9 ?c9 ?k9 ?a10 ?l10 ?c10 ?k10 ?a11 ?l11 ?c11 ?k11 ?a12 ?l12 ?c12 ?k12 ?a13 ?l13 ?c13 ?k13 ?a14 ?l14 ?c14 ?k14 ?a15 ?l15 ?c15 ?k15 ?a16 ?l16 ?c16 ?k16 ?a17 ?l17 ?c17 ?k17 ?a18 ?l18 ?c18 ?k18 ?a19 ?l19 ?c19 ?k19 ?a20 ?l20 ?c20 ?k20 ?a21 ?l21 ?c21 ?k21 ?a22 ?l22 ?c22 ?k22 ?a23 ?l23 ?c23 ?k23 ?a24 ?l24 ?c24 ?k24 ?a25 ?l25 ?c25 ?k25 ?a26 ?l26 ?c26 ?k26 ?a27 ?l27 ?c27 ?k27 ?a28 ?l28 ?c28 ?k28 ?z_len ?z_all ?z_any ?z_abs ?z_sum ?z_isinstance ?z_tuple ?z_list ?z_bool ?z_int ?z_set ?z_range ?z_reversed ?z_sorted ?z_min ?z_max ?z_zip ?z_enumerate
    (case y_BOUND => k_is)
    (case y_MOST_SPOTS => k_is)
    (case a1 => k_is)
    (case l1 => k_is)
    (case c1 => k_is)
    (case k1 => k_is)
    (case a2 => k_is)
    (case l2 => k_is)
    (case c2 => k_is)
    (case k2 => k_is)
    (case a3 => k_is)
    (case l3 => k_is)
    (case c3 => k_is)
    (case k3 => k_is)
    (case a4 => k_is)
    (case l4 => k_is)
    (case c4 => k_is)
    (case k4 => k_is)
    (case a5 => k_is)
    (case l5 => k_is)
    (case c5 => k_is)
    (case k5 => k_is)
    (case a6 => k_is)
    (case l6 => k_is)
    (case c6 => k_is)
    (case k6 => k_is)
    (case a7 => k_is)
    (case l7 => k_is)
    (case c7 => k_is)
    (case k7 => k_is)
    (case a8 => k_is)
    (case l8 => k_is)
    (case c8 => k_is)
    (case k8 => k_is)
    (case a9 => k_is)
    (case l9 => k_is)
    (case c9 => k_is)
    (case k9 => k_is)
    (case a10 => k_is)
    (case l10 => k_is)
    (case c10 => k_is)
    (case k10 => k_is)
    (case a11 => k_is)
    (case l11 => k_is)
    (case c11 => k_is)
    (case k11 => k_is)
    (case a12 => k_is)
    (case l12 => k_is)
    (case c12 => k_is)
    (case k12 => k_is)
    (case a13 => k_is)
    (case l13 => k_is)
    (case c13 => k_is)
    (case k13 => k_is)
    (case a14 => k_is)
    (case l14 => k_is)
    (case c14 => k_is)
    (case k14 => k_is)
    (case a15 => k_is)
    (case l15 => k_is)
    (case c15 => k_is)
    (case k15 => k_is)
    (case a16 => k_is)
    (case l16 => k_is)
    (case c16 => k_is)
    (case k16 => k_is)
    (case a17 => k_is)
    (case l17 => k_is)
    (case c17 => k_is)
    (case k17 => k_is)
    (case a18 => k_is)
    (case l18 => k_is)
    (case c18 => k_is)
    (case k18 => k_is)
    (case a19 => k_is)
    (case l19 => k_is)
    (case c19 => k_is)
    (case k19 => k_is)
    (case a20 => k_is)
    (case l20 => k_is)
    (case c20 => k_is)
    (case k20 => k_is)
    (case a21 => k_is)
    (case l21 => k_is)
    (case c21 => k_is)
    (case k21 => k_is)
    (case a22 => k_is)
    (case l22 => k_is)
    (case c22 => k_is)
    (case k22 => k_is)
    (case a23 => k_is)
    (case l23 => k_is)
    (case c23 => k_is)
    (case k23 => k_is)
    (case a24 => k_is)
    (case l24 => k_is)
    (case c24 => k_is)
    (case k24 => k_is)
    (case a25 => k_is)
    (case l25 => k_is)
    (case c25 => k_is)
    (case k25 => k_is)
    (case a26 => k_is)
    (case l26 => k_is)
    (case c26 => k_is)
    (case k26 => k_is)
    (case a27 => k_is)
    (case l27 => k_is)
    (case c27 => k_is)
    (case k27 => k_is)
    (case a28 => k_is)
    (case l28 => k_is)
    (case c28 => k_is)
    (case k28 => k_is)
    (case z_len => k_is)
    (case z_all => k_is)
    (case z_any => k_is)
    (case z_abs => k_is)
    (case z_sum => k_is)
    (case z_isinstance => k_is)
    (case z_tuple => k_is)
    (case z_list => k_is)
    (case z_bool => k_is)
    (case z_int => k_is)
    (case z_set => k_is)
    (case z_range => k_is)
    (case z_reversed => k_is)
    (case z_sorted => k_is)
    (case z_min => k_is)
    (case z_max => k_is)
    (case z_zip => k_is)
    (case z_enumerate => k_is)
