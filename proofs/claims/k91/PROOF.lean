import PyProof.Rows.All
import Wide.All
import OpenK.AllK
import Wide.FinOn
import Lean
import PyProof.EqAt
import PyProof.EqKinds
import PyProof.TupleCall
import KE.KDictOf
import KE.KItemsList
import PySem.Challenge.RW_loanroll_k91_cents_and_numbers
set_option Elab.async false
set_option linter.all false
set_option maxRecDepth 100000
set_option maxHeartbeats 20000000
/-! THE HAND LAYER, for ints, bools, texts, own classes, LISTS and tuples (index, slices, in, append, pop ..), calls, loops. Paste it whole ahead of your own text; what your proof does not reach may be deleted. -/
namespace L2
open PySem PySem.Spec PyProof.Rows

/-- a key: an int or a str -/
abbrev Key := Sum Int Str
def keyIs : Key → Value → Bool
  | .inl k, v => Value.isInt k v
  | .inr x, v => Value.isStrOf x v
def keyH (w : World) : Key → Int
  | .inl k => hashInt k
  | .inr x => hashStr w x
theorem keyIs_shape : ∀ {k : Key} {v : Value}, keyIs k v = true → (∃ i t, k = Sum.inl i ∧ v = Value.int i t) ∨ (∃ x t, k = Sum.inr x ∧ v = Value.str x t)
  | .inl i, v, h => by
    obtain ⟨t, e⟩ := Value.isInt_shape (k := i) (v := v) h
    exact .inl ⟨i, t, rfl, e⟩
  | .inr x, v, h => by
    obtain ⟨t, e⟩ := Value.isStrOf_shape (x := x) (v := v) h
    exact .inr ⟨x, t, rfl, e⟩
theorem key_ll (a b : Int) : decide ((Sum.inl a : Key) = Sum.inl b) = (a == b) := by
  by_cases e : a = b
  · subst e; simp
  · have h : ¬ (Sum.inl a : Key) = Sum.inl b := fun q => e (Sum.inl.inj q)
    rw [decide_eq_false h]
    exact (beq_eq_false_iff_ne.mpr e).symm
theorem key_rr (a b : Str) : decide ((Sum.inr a : Key) = Sum.inr b) = decide (a = b) := by
  by_cases e : a = b
  · subst e; simp
  · have h : ¬ (Sum.inr a : Key) = Sum.inr b := fun q => e (Sum.inr.inj q)
    rw [decide_eq_false h, decide_eq_false e]
theorem key_lr (a : Int) (b : Str) : decide ((Sum.inl a : Key) = Sum.inr b) = false := decide_eq_false (fun q => nomatch q)
theorem key_rl (a : Str) (b : Int) : decide ((Sum.inr a : Key) = Sum.inl b) = false := decide_eq_false (fun q => nomatch q)

def mixKind (prog : Program) (w : World) : PySem.KeyKind prog w Key where
  is := keyIs
  hash := keyH w
  inj := fun v a b ha hb => by
    rcases keyIs_shape ha with ⟨i, t, rfl, rfl⟩ | ⟨x, t, rfl, rfl⟩
    · rcases keyIs_shape hb with ⟨j, u, rfl, e⟩ | ⟨y, u, rfl, e⟩
      · injection e with e1 _; rw [e1]
      · exact nomatch e
    · rcases keyIs_shape hb with ⟨j, u, rfl, e⟩ | ⟨y, u, rfl, e⟩
      · exact nomatch e
      · injection e with e1 _; rw [e1]
  byValue := fun k v h => by
    rcases keyIs_shape h with ⟨i, t, rfl, rfl⟩ | ⟨x, t, rfl, rfl⟩ <;> rfl
  pyHash := fun hv h => by
    rcases keyIs_shape hv with ⟨i, t, rfl, rfl⟩ | ⟨x, t, rfl, rfl⟩
    · exact wpAny_pyHash_int h
    · exact wpAny_pyHash_str h
  eqBool := fun hu hv h => by
    rcases keyIs_shape hu with ⟨i, t, rfl, rfl⟩ | ⟨x, t, rfl, rfl⟩
    · rcases keyIs_shape hv with ⟨j, u, rfl, rfl⟩ | ⟨y, u, rfl, rfl⟩
      · rw [key_ll] at h; exact wpAny_eqBool_int h
      · rw [key_lr] at h; exact SeqAt.EqAt.int_str i t y u _ _ _ _ h
    · rcases keyIs_shape hv with ⟨j, u, rfl, rfl⟩ | ⟨y, u, rfl, rfl⟩
      · rw [key_rl] at h; exact SeqAt.EqAt.str_int x t j u _ _ _ _ h
      · rw [key_rr] at h; exact wpAny_eqBool_str h
  «strs» := fun k x t v h => by
    rcases keyIs_shape h with ⟨i, u, rfl, e⟩ | ⟨y, u, rfl, e⟩
    · exact nomatch e
    · injection e with e1 _
      subst e1
      cases v <;> rfl

end L2

namespace L2
open PySem PySem.Spec PyProof.Rows

/-- a value, without the heap -/
inductive V where
  | non | bl (b : Bool) | int (i : Int) | str (x : Str) | byt (b : Array UInt8) | flt (b : UInt64) | ref (a : Addr) | ty (n : String)
  deriving DecidableEq

def RelV : V → Value → Prop
  | .non, u => u = Value.none
  | .bl b, u => u = Value.bool b
  | .int i, u => ∃ t, u = Value.int i t
  | .str x, u => ∃ t, u = Value.str x t
  | .byt b, u => ∃ t, u = Value.bytes b t
  | .flt b, u => ∃ t, u = Value.float b t
  | .ref a, u => u = Value.ref a
  | .ty n, u => u = Value.type n

abbrev Vals : List V → List Value → Prop := Paired RelV
theorem Vals.length {xs : List V} {us : List Value} (r : Vals xs us) : xs.length = us.length := Paired.length r
theorem Vals.get : ∀ {xs : List V} {us : List Value} {i : Nat} {x : V}, Vals xs us → xs[i]? = some x → ∃ u, us[i]? = some u ∧ RelV x u
  | _, _, _, _, .nil, e => by simp at e
  | _, _, 0, _, .cons r _, e => by simp at e; subst e; exact ⟨_, rfl, r⟩
  | _, _, i + 1, x, .cons _ t, e => by
    obtain ⟨u, h1, h2⟩ := Vals.get (i := i) (x := x) t (by simpa using e)
    exact ⟨u, by simpa using h1, h2⟩
theorem Vals.set {x : V} {u : Value} (r : RelV x u) : ∀ {xs : List V} {us : List Value} (i : Nat), Vals xs us → Vals (xs.set i x) (us.set i u)
  | _, _, _, .nil => .nil
  | _, _, 0, .cons _ t => .cons r t
  | _, _, i + 1, .cons q t => .cons q (Vals.set r i t)
theorem Vals.append : ∀ {xs ys : List V} {us ws : List Value}, Vals xs us → Vals ys ws → Vals (xs ++ ys) (us ++ ws)
  | _, _, _, _, .nil, s => s
  | _, _, _, _, .cons r t, s => .cons r (Vals.append t s)
theorem Vals.take : ∀ {xs : List V} {us : List Value} (n : Nat), Vals xs us → Vals (xs.take n) (us.take n)
  | _, _, 0, _ => .nil
  | _, _, _ + 1, .nil => .nil
  | _, _, n + 1, .cons r t => .cons r (Vals.take n t)
theorem Vals.drop : ∀ {xs : List V} {us : List Value} (n : Nat), Vals xs us → Vals (xs.drop n) (us.drop n)
  | _, _, 0, r => r
  | _, _, _ + 1, .nil => .nil
  | _, _, n + 1, .cons _ t => Vals.drop n t
def RelO : Option V → Option Value → Prop
  | some v, some u => RelV v u
  | none, none => True
  | _, _ => False
def KV {κ : Type} : List (κ × V) → List (κ × Value) → Prop := Paired fun (p : κ × V) (q : κ × Value) => p.1 = q.1 ∧ RelV p.2 q.2

/-- a key of a dict (00_mix): an int or a text -/
def kV : Key → V
  | .inl i => .int i
  | .inr x => .str x

/-- what stands at a tracked address -/
inductive HO where
  /-- a list -/
  | lst (xs : List V)
  /-- a tuple (never changes) -/
  | tup (xs : List V)
  /-- a dict whose keys are ints and texts; one whose keys are tuples of ints and texts (the empty one is both) -/
  | dK (kvs : List (Key × V))
  /-- a set of ints: its members, its size -/
  | set (S : Int → Bool) (n : Nat)
  /-- an instance of the class at C, its dict at dx, its attributes -/
  | ins (C dx : Addr) (fs : List (Str × V))
  /-- the dict of the instance at x -/
  | own (x : Addr)
  /-- the dict of an exception -/
  | xd (fs : List (Str × V))
  /-- a bound method, f of x -/
  | met (f x : Addr)
  /-- a range object lo, lo + 1, .. below hi -/
  | rng (lo hi : Int)
  /-- a thing that is known to the object (the script; a dict while a loop walks it): read, never written while it is so -/
  | frz (o : Obj) (u : HO)
  /-- a code object's table -/
  | tbl (ps : Array Value)
  /-- any other thing, by what is true of its one object (a def of one's own: SetO a S n := HO.ext fun h => ..) -/
  | ext (φ : Heap → Prop)

abbrev Hp := Addr → Option HO
def upd (H : Hp) (a : Addr) (o : HO) : Hp := fun b => if b = a then some o else H b
theorem upd_same {H : Hp} {a : Addr} {o : HO} : upd H a o a = some o := by unfold upd; rw [if_pos rfl]
theorem upd_ne {H : Hp} {a b : Addr} {o : HO} (h : b ≠ a) : upd H a o b = H b := by unfold upd; rw [if_neg h]
/-- two objects of different content stand apart -/
theorem ne_of {H : Hp} {a b : Addr} {o u : HO} (h : H a = some o) (h' : H b = some u) (d : o ≠ u) : a ≠ b := by
  intro e; subst e; rw [h] at h'; exact d (Option.some.inj h')
theorem ne_of_none {H : Hp} {a b : Addr} {o : HO} (h : H a = some o) (h' : H b = none) : a ≠ b := by
  intro e; subst e; rw [h] at h'; cases h'

section
variable (P : Program) (w : World)
def ObjOk (H : Hp) (h : Heap) (a : Addr) : HO → Prop
  | .lst xs => xs.length ≤ sizeLine ∧ ∃ (its : List Value) (n : Nat), Vals xs its ∧ h.get? a = some { cls := .type "list", data := .seq its.toArray n }
  | .tup xs => xs.length ≤ sizeLine ∧ ∃ its : List Value, Vals xs its ∧ IsTup h a its.toArray
  | .dK kvs => kvs.length ≤ sizeLine ∧ (a == sysModules) = false ∧ ∃ vs, KV kvs vs ∧ h.DictOf (mixKind P w) a vs
  | .set S n => h.SetOf (intKind P w) a S n
  | .ins C dx fs => H dx = some (.own a) ∧ fs.length ≤ 1000 ∧ dx ≠ a ∧ h.get? a = some (PySem.W.instObj C dx) ∧
      ∃ mA, h.Ns1 dx mA ∧ (∀ f, RelO (fs.lookup f) (mA f)) ∧ PySem.Within mA (fs.map (·.1))
  | .own _ => ∃ o, h.get? a = some o
  | .xd fs => ∃ mA, h.Ns1 a mA ∧ ∀ f, RelO (fs.lookup f) (mA f)
  | .rng lo hi => ∃ t u v, h.get? a = some { cls := .type "range", data := .fields #[.int lo t, .int hi u, .int 1 v] }
  | .frz o u => h.get? a = some o ∧ ObjOk H h a u
  | .tbl ps => h.get? a = some { cls := .none, data := .fields ps }
  | .met f x => h.get? a = some (PySem.W.methodObj (.ref f) (.ref x))
  | .ext φ => φ h ∧ (∃ o, h.get? a = some o) ∧ ∀ h1 h2 : Heap, φ h1 → (∀ o, h1.get? a = some o → h2.get? a = some o) → φ h2
/-- the abstract heap is held -/
def HOk (H : Hp) (h : Heap) : Prop := ∀ a o, H a = some o → ObjOk P w H h a o
end

section
variable {P : Program} {w : World} {H H' : Hp} {h h' : Heap} {a : Addr} {o : HO}
theorem ObjOk.lt (x : ObjOk P w H h a o) : a < h.objs.size := by
  cases o with
  | lst xs => obtain ⟨_, _, _, _, e⟩ := x; exact Heap.lt_size e
  | tup xs => obtain ⟨_, _, _, p⟩ := x; exact p.lt
  | dK kvs => obtain ⟨_, _, _, _, o, _, _, e, _⟩ := x; exact Heap.lt_size e
  | set S n => obtain ⟨o, _, _, _, e, _⟩ := x; exact Heap.lt_size e
  | ins C dx fs => obtain ⟨_, _, _, e, _⟩ := x; exact Heap.lt_size e
  | own y => obtain ⟨_, e⟩ := x; exact Heap.lt_size e
  | xd fs => obtain ⟨_, ⟨_, _, _, e, _⟩, _⟩ := x; exact Heap.lt_size e
  | rng lo hi => obtain ⟨_, _, _, e⟩ := x; exact Heap.lt_size e
  | frz ob u => obtain ⟨e, _⟩ := x; exact Heap.lt_size e
  | tbl ps => exact Heap.lt_size (show h.get? a = some _ from x)
  | met f y => exact Heap.lt_size (show h.get? a = some _ from x)
  | ext φ => obtain ⟨_, ⟨_, e⟩, _⟩ := x; exact Heap.lt_size e
/-- what an object's description leans on: its own object, its own dict, the tuples -/
theorem ObjOk.stay (x : ObjOk P w H h a o) (k : ∀ b u, (b = a ∨ H b = some (.own a)) → h.get? b = some u → h'.get? b = some u)
    (ho : ∀ b, H b = some (.own a) → H' b = some (.own a)) (ht : ∀ b xs, H b = some (.tup xs) → H' b = some (.tup xs)) : ObjOk P w H' h' a o := by
  induction o with
  | lst xs => obtain ⟨z, its, n, r, e⟩ := x; exact ⟨z, its, n, r, k _ _ (.inl rfl) e⟩
  | tup xs => obtain ⟨z, its, r, ob, e, c⟩ := x; exact ⟨z, its, r, ob, k _ _ (.inl rfl) e, c⟩
  | dK kvs => obtain ⟨z, y, vs, r, ob, es, ep, e, c⟩ := x; exact ⟨z, y, vs, r, ob, es, ep, k _ _ (.inl rfl) e, c⟩
  | set S n => obtain ⟨ob, es, ep, t, e, c⟩ := x; exact ⟨ob, es, ep, t, k _ _ (.inl rfl) e, c⟩
  | ins C dx fs =>
    obtain ⟨d, z, ne, e, mA, ⟨od, es, ep, e2, c⟩, r⟩ := x
    exact ⟨ho _ d, z, ne, k _ _ (.inl rfl) e, mA, ⟨od, es, ep, k _ _ (.inr d) e2, c⟩, r⟩
  | own y => obtain ⟨ob, e⟩ := x; exact ⟨ob, k _ _ (.inl rfl) e⟩
  | xd fs => obtain ⟨mA, ⟨od, es, ep, e, c⟩, r⟩ := x; exact ⟨mA, ⟨od, es, ep, k _ _ (.inl rfl) e, c⟩, r⟩
  | rng lo hi => obtain ⟨t, u, v, e⟩ := x; exact ⟨t, u, v, k _ _ (.inl rfl) e⟩
  | frz ob u ih => obtain ⟨e, q⟩ := x; exact ⟨k _ _ (.inl rfl) e, ih q⟩
  | tbl ps =>
    have e : h.get? a = some { cls := .none, data := .fields ps } := x
    show h'.get? a = some { cls := .none, data := .fields ps }
    exact k a _ (.inl rfl) e
  | met f y =>
    have e : h.get? a = some (PySem.W.methodObj (.ref f) (.ref y)) := x
    show h'.get? a = some (PySem.W.methodObj (.ref f) (.ref y))
    exact k a _ (.inl rfl) e
  | ext φ => obtain ⟨p, ⟨o, e⟩, st⟩ := x; exact ⟨st _ _ p fun o q => k _ _ (.inl rfl) q, ⟨o, k _ _ (.inl rfl) e⟩, st⟩
theorem HOk.lt (x : HOk P w H h) (e : H a = some o) : a < h.objs.size := (x a o e).lt
theorem HOk.fresh (x : HOk P w H h) (e : h.objs.size ≤ a) : H a = none := by
  cases q : H a with
  | none => rfl
  | some u => exact absurd (Nat.lt_of_lt_of_le (x.lt q) e) (Nat.lt_irrefl _)
/-- every object of the heap is kept -/
theorem HOk.kept (x : HOk P w H h) (k : ∀ b u, h.get? b = some u → h'.get? b = some u) : HOk P w H h' := fun a o e =>
  (x a o e).stay (fun b u _ q => k b u q) (fun _ q => q) fun _ _ q => q
/-- a new object is laid and tracked -/
theorem HOk.laid (x : HOk P w H h) (k : ∀ b u, h.get? b = some u → h'.get? b = some u) (hp : h.objs.size ≤ a) (new : ObjOk P w (upd H a o) h' a o) : HOk P w (upd H a o) h' := fun b u e => by
  have hn := x.fresh hp
  by_cases hb : b = a
  · subst hb; rw [upd_same] at e; cases e; exact new
  · rw [upd_ne hb] at e
    exact (x b u e).stay (fun c v _ q => k c v q) (fun c q => by rw [upd_ne (ne_of_none q hn)]; exact q) fun c xs q => by rw [upd_ne (ne_of_none q hn)]; exact q
end

/-- what may be read as u: it is u, or a known u -/
def Rd (H : Hp) (a : Addr) (u : HO) : Prop := H a = some u ∨ ∃ o, H a = some (.frz o u)
theorem Rd.of {H : Hp} {a : Addr} {u : HO} (h : H a = some u) : Rd H a u := .inl h
theorem Rd.ok {P : Program} {w : World} {H : Hp} {h : Heap} {a : Addr} {u : HO} (r : Rd H a u) (x : HOk P w H h) : ObjOk P w H h a u := by
  rcases r with r | ⟨o, r⟩
  · exact x a u r
  · obtain ⟨_, q⟩ := x a _ r
    exact q
/-- what may be written -/
def Mut : Option HO → Prop
  | some (.lst _) => True
  | some (.dK _) => True
  | some (.set _ _) => True
  | some (.ins _ _ _) => True
  | some (.ext _) => True
  | _ => False
section
variable {P : Program} {w : World} {H : Hp} {h h' : Heap} {x e : Addr} {o' : HO}
/-- the object at e is changed: x itself, or the dict of the instance x -/
theorem HOk.write (ok : HOk P w H h) (mu : Mut (H x)) (he : e = x ∨ H e = some (.own x)) (k : ∀ b u, b ≠ e → h.get? b = some u → h'.get? b = some u) (heo : ∃ u, h'.get? e = some u)
    (new : ObjOk P w (upd H x o') h' x o') : HOk P w (upd H x o') h' := fun b u q => by
  have nown : ∀ c y, H c = some (.own y) → c ≠ x := fun c y r z => by subst z; rw [r] at mu; exact mu
  have ntup : ∀ c xs, H c = some (.tup xs) → c ≠ x := fun c xs r z => by subst z; rw [r] at mu; exact mu
  by_cases hb : b = x
  · subst hb; rw [upd_same] at q; cases q; exact new
  · rw [upd_ne hb] at q
    by_cases hbe : b = e
    · have q' : H b = some (.own x) := by
        rcases he with z | z
        · exact absurd (hbe.trans z) hb
        · rw [hbe]; exact z
      rw [q] at q'; cases q'
      obtain ⟨v, hv⟩ := heo
      exact ⟨v, by rw [hbe]; exact hv⟩
    · refine (ok b u q).stay (fun c v hc r => k c v ?_ r) (fun c r => by rw [upd_ne (nown c b r)]; exact r) fun c xs r => by rw [upd_ne (ntup c xs r)]; exact r
      rcases hc with rfl | hc
      · exact hbe
      · rintro rfl
        rcases he with z | z
        · exact nown c b hc z
        · rw [hc] at z; cases z; exact hb rfl
end

/-! ### kept unless tracked; of the frames at fs (the callers') the slots may change (an exception that passes writes there); of the records at ex (iterators) nothing is said -/
structure Un (fs ex : List Addr) (H H' : Hp) (h h' : Heap) : Prop where
  keep : ∀ b o, h.get? b = some o → H b = none → b ∉ fs → b ∉ ex → h'.get? b = some o
  slot : ∀ b o, h.get? b = some o → H b = none → b ∈ fs → b ∉ ex → ∃ sl, h'.get? b = some { o with slots := sl }
  free : ∀ b o, h.get? b = some o → H b = none → b ∉ ex → H' b = none
  there : ∀ b o, h.get? b = some o → b ∉ ex → ∃ o', h'.get? b = some o'
  tups : ∀ b xs, H b = some (.tup xs) → H' b = some (.tup xs)
  frzs : ∀ b o u, H b = some (.frz o u) → H' b = some (.frz o u)
  tbls : ∀ b ps, H b = some (.tbl ps) → ∃ more, H' b = some (.tbl (ps ++ more))
section
variable {fs fs' ex ex' : List Addr} {H H1 H2 : Hp} {h h1 h2 h' : Heap} {a x e : Addr} {o : HO}
theorem Un.any (u : Un fs ex H H1 h h1) {b : Addr} {ob : Obj} (q : h.get? b = some ob) (n : H b = none) (hx : b ∉ ex) : ∃ sl, h1.get? b = some { ob with slots := sl } := by
  by_cases hb : b ∈ fs
  · exact u.slot b ob q n hb hx
  · exact ⟨ob.slots, u.keep b ob q n hb hx⟩
theorem Un.trans (a : Un fs ex H H1 h h1) (b : Un fs ex H1 H2 h1 h2) : Un fs ex H H2 h h2 where
  keep := fun c ob q n hc hx => b.keep c ob (a.keep c ob q n hc hx) (a.free c ob q n hx) hc hx
  slot := fun c ob q n hc hx => by
    obtain ⟨sl, e1⟩ := a.slot c ob q n hc hx
    obtain ⟨sl', e2⟩ := b.slot c _ e1 (a.free c ob q n hx) hc hx
    exact ⟨sl', e2⟩
  free := fun c ob q n hx => by
    obtain ⟨o', e1⟩ := a.there c ob q hx
    exact b.free c o' e1 (a.free c ob q n hx) hx
  there := fun c ob q hx => by
    obtain ⟨o', e1⟩ := a.there c ob q hx
    exact b.there c o' e1 hx
  tups := fun c xs q => b.tups c xs (a.tups c xs q)
  frzs := fun c ob xs q => b.frzs c ob xs (a.frzs c ob xs q)
  tbls := fun c ps q => by
    obtain ⟨m1, e1⟩ := a.tbls c ps q
    obtain ⟨m2, e2⟩ := b.tbls c _ e1
    exact ⟨m1 ++ m2, by rw [e2, Array.append_assoc]⟩
theorem Un.kept (k : ∀ b u, h.get? b = some u → h'.get? b = some u) : Un fs ex H H h h' :=
  ⟨fun b ob q _ _ _ => k b ob q, fun b ob q _ _ _ => ⟨ob.slots, k b ob q⟩, fun _ _ _ n _ => n, fun b ob q _ => ⟨ob, k b ob q⟩, fun _ _ q => q, fun _ _ _ q => q, fun _ ps q => ⟨#[], by rw [q]; simp⟩⟩
theorem Un.refl : Un fs ex H H h h := Un.kept fun _ _ q => q
theorem Un.laid (k : ∀ b u, h.get? b = some u → h'.get? b = some u) (hp : h.objs.size ≤ a) (hn : H a = none) : Un fs ex H (upd H a o) h h' where
  keep := fun b u q _ _ _ => k b u q
  slot := fun b u q _ _ _ => ⟨u.slots, k b u q⟩
  free := fun b u q n _ => by rw [upd_ne (Nat.ne_of_lt (Nat.lt_of_lt_of_le (Heap.lt_size q) hp))]; exact n
  there := fun b u q _ => ⟨u, k b u q⟩
  tups := fun b xs q => by rw [upd_ne (ne_of_none q hn)]; exact q
  frzs := fun b u xs q => by rw [upd_ne (ne_of_none q hn)]; exact q
  tbls := fun b ps q => ⟨#[], by rw [upd_ne (ne_of_none q hn), q]; simp⟩
theorem Un.write (mu : Mut (H x)) (he : e = x ∨ H e = some (.own x)) (k : ∀ b u, b ≠ e → h.get? b = some u → h'.get? b = some u) (heo : ∃ u, h'.get? e = some u) : Un fs ex H (upd H x o) h h' := by
  have hx : ∀ b, H b = none → b ≠ x := fun b n z => by subst z; rw [n] at mu; exact mu
  have hb : ∀ b, H b = none → b ≠ e := fun b n z => by
    subst z
    rcases he with r | r
    · exact hx b n r
    · rw [n] at r; cases r
  have hm : ∀ b u, H b = some u → ¬ Mut (some u) → b ≠ x := fun b u q nm z => by subst z; rw [q] at mu; exact nm mu
  refine ⟨fun b u q n _ _ => k b u (hb b n) q, fun b u q n _ _ => ⟨u.slots, k b u (hb b n) q⟩, fun b u q n _ => by rw [upd_ne (hx b n)]; exact n, fun b u q _ => ?_,
    fun b xs q => by rw [upd_ne (hm b _ q fun z => z)]; exact q, fun b u xs q => by rw [upd_ne (hm b _ q fun z => z)]; exact q, fun b ps q => ⟨#[], by rw [upd_ne (hm b _ q fun z => z), q]; simp⟩⟩
  by_cases hbe : b = e
  · subst hbe; exact heo
  · exact ⟨u, k b u hbe q⟩
theorem Un.mono (u : Un fs ex H H1 h h1) (hs : ∀ b ∈ fs, b ∈ fs') (hx : ∀ b ∈ ex, b ∈ ex') : Un fs' ex' H H1 h h1 :=
  ⟨fun b ob q n hb he => u.keep b ob q n (fun z => hb (hs b z)) fun z => he (hx b z), fun _ _ q n _ he => u.any q n fun z => he (hx _ z), fun b ob q n he => u.free b ob q n fun z => he (hx b z), fun b ob q he => u.there b ob q fun z => he (hx b z), u.tups, u.frzs, u.tbls⟩
end

/-! ### the heap without what is tracked -/
def trk (h : Heap) (H : Hp) : List Addr := (List.range h.objs.size).filter fun a => (H a).isSome
def hidT (h : Heap) (H : Hp) : Heap := PySem.W.hideAll h (trk h H)
theorem hidT_size (h : Heap) (H : Hp) : (hidT h H).objs.size = h.objs.size := PySem.W.hideAll_size _ _
theorem hidT_get {h : Heap} {H : Hp} {b : Addr} {o : Obj} (e : h.get? b = some o) (n : H b = none) : (hidT h H).get? b = some o :=
  PySem.W.hideAll_get _ e fun hm => by
    have q : (H b).isSome = true := (List.mem_filter.mp hm).2
    rw [n] at q; simp at q
theorem of_hidT {h : Heap} {H : Hp} {b : Addr} {o : Obj} (e : (hidT h H).get? b = some o) : h.get? b = some o ∧ H b = none := by
  have e' : h.get? b = some o := PySem.W.of_hideAll (trk h H) e
  refine ⟨e', ?_⟩
  cases q : H b with
  | none => rfl
  | some x =>
    have hm : b ∈ trk h H := List.mem_filter.mpr ⟨List.mem_range.mpr (Heap.lt_size e'), by simp [q]⟩
    have z : (hidT h H).get? b = none := PySem.W.hideAll_none (trk h H) hm
    rw [z] at e; cases e

/-! ### OpenK's ledger, filled with every new object but one -/
def allNews (g h : Heap) (L : Addr) : List (Addr × Obj) := (List.range h.objs.size).filterMap fun a => if a = L ∨ (g.get? a).isSome = true then none else (h.get? a).map fun o => (a, o)
def rest (g h : Heap) (L d : Addr) : List (Addr × Obj) := (allNews g h L).filter fun p => decide (p.1 ≠ d)
end L2

namespace L2
open PySem PySem.Spec PyProof.Rows

/-- the module's facts, over the base: the heap at the law's entry without what is tracked there -/
structure Mod (K : PySem.W.Frag) (mg : Str → Option Value) (base : Heap) : Prop where
  kin : K.In base
  glob : base.Ns mainGlobals mg
  blt : ∃ mb, base.Ns builtinsNs mb ∧ ∀ x : Str, x ≠ "__name__" → mb x = bootBuiltins x
  nolimit : base.NoLimit

/-- the context: a def's body (or a comprehension's block) running. base: fixed through the whole law; s₀, H₀: the entry; outer: the frames whose slots others may change (a def's callers); stack: all frames that run;
   ex: iterators that were made ahead of the entry and are walked here (a comprehension's); fn: the names whose cells were made at the entry (a def: all; a comprehension's block: its own); calm: not within an except suite; pn: pins that every state bears; xe: what is wanted of an exception that leaves the code -/
structure Cx where
  prog : Program
  w : World
  K : PySem.W.Frag
  mg : Str → Option Value
  base : Heap
  A : Around
  N : List Str
  s₀ : Shared
  H₀ : Hp
  env : Env
  outer : List Env
  stack : List Env
  ex : List Addr
  fn : Str → Bool
  calm : Bool
  pn : List (Addr × Obj)
  xe : Value → Shared → Prop
/-- the callers' frames -/
def frs (l : List Env) : List Addr := l.filterMap (·.frame)
abbrev Cx.fs (X : Cx) : List Addr := frs X.outer

def Vis (sc : Scope) (x : Str) : Prop := sc.names.lookup x = some .local ∨ sc.names.lookup x = some .cell ∨ sc.names.lookup x = some .free
def Loc (sc : Scope) (x : Str) : Prop := sc.names.lookup x = some .local ∨ sc.names.lookup x = some .cell
def Look (env : Env) (h : Heap) (m : Str → Option Value) (x : Str) (u : Value) : Prop :=
  (env.kindOf x = some .local ∧ m x = some u) ∨ ((env.kindOf x = some .cell ∨ env.kindOf x = some .free) ∧ ∃ c, env.cells.lookup x = some c ∧ h.IsCell c (some u))

structure Cx.Ok (X : Cx) : Prop where
  mod : Mod X.K X.mg X.base
  kind : X.env.scope.kind = .function
  glob : X.env.globals = mainGlobals
  blt : X.env.builtins = builtinsNs
  above : X.s₀.heap.objs.size ≤ X.env.locals
  inj : ∀ x y c, X.env.cells.lookup x = some c → X.env.cells.lookup y = some c → x = y
  has : ∀ x, (X.env.kindOf x = some .cell ∨ X.env.kindOf x = some .free) → ∃ c, X.env.cells.lookup x = some c
  cab : ∀ x c, X.fn x = true → X.env.cells.lookup x = some c → X.s₀.heap.objs.size ≤ c
  hd : X.calm = true → X.A.handled = none
  frames : X.A.frames = some X.stack
  stk : X.stack = X.outer ∨ (X.stack = X.env :: X.outer ∧ X.env.frame = some X.env.locals)
  exf : ∀ b ∈ X.ex, b ≠ X.env.locals ∧ ∀ x c, X.env.cells.lookup x = some c → c ≠ b
  bs : ∀ b o, X.base.get? b = some o → X.s₀.heap.get? b = some o ∧ X.H₀ b = none
  bsz : X.base.objs.size ≤ X.s₀.heap.objs.size
  noex : ∀ b o, X.base.get? b = some o → b ∉ X.ex
  exfs : ∀ b ∈ X.ex, b ∉ X.fs
  funs : X.s₀.heap.FunFrames X.base X.outer
  frf : ∀ b ∈ X.fs, X.H₀ b = none

structure Inv (X : Cx) (pins : List (Addr × Obj)) (σ : List (Option V)) (H : Hp) (s : Shared) : Prop where
  ok : X.Ok
  os : s.os = X.s₀.os
  bare : AllBare s.gens
  base : Un X.fs X.ex X.H₀ H X.s₀.heap s.heap
  loc : ∃ m, s.heap.Ns X.env.locals m ∧ ∀ (i : Nat) (x : Str) (v : V), X.N[i]? = some x → σ[i]? = some (some v) → Vis X.env.scope x → ∃ u, RelV v u ∧ Look X.env s.heap m x u
  cell : ∀ x c, X.env.cells.lookup x = some c → ∃ v, s.heap.IsCell c v
  free : H X.env.locals = none
  freeC : ∀ x c, X.env.cells.lookup x = some c → H c = none
  pin : ∀ p ∈ X.pn ++ pins, s.heap.get? p.1 = some p.2 ∧ H p.1 = none ∧ p.1 ≠ X.env.locals ∧ p.1 ∉ X.fs ∧ ∀ v, p.2.data ≠ .cell v
  hok : HOk X.prog X.w H s.heap
  len : σ.length = X.N.length

section
variable {X : Cx} {pins : List (Addr × Obj)} {σ : List (Option V)} {H H' : Hp} {s : Shared} {h' : Heap}

theorem Cx.Ok.nofr (ok : X.Ok) {b : Addr} {o : Obj} (e : X.base.get? b = some o) : b ∉ X.fs := fun hb => by
  have := (ok.funs.mem hb).1
  rw [e] at this; cases this
theorem Inv.bs (I : Inv X pins σ H s) : ∀ b o, X.base.get? b = some o → s.heap.get? b = some o ∧ H b = none := fun b o e =>
  ⟨I.base.keep b o (I.ok.bs b o e).1 (I.ok.bs b o e).2 (I.ok.nofr e) (I.ok.noex b o e), I.base.free b o (I.ok.bs b o e).1 (I.ok.bs b o e).2 (I.ok.noex b o e)⟩
theorem Inv.bk (I : Inv X pins σ H s) : ∀ b o, X.base.get? b = some o → s.heap.get? b = some o := fun b o e => (I.bs b o e).1
theorem Inv.mod (I : Inv X pins σ H s) : Mod X.K X.mg X.base := I.ok.mod
theorem Inv.kIn (I : Inv X pins σ H s) : X.K.In s.heap := I.ok.mod.kin.keeps I.bk
theorem Inv.nolimit (I : Inv X pins σ H s) : s.heap.NoLimit := I.ok.mod.nolimit.keeps I.bk
theorem Inv.lt (I : Inv X pins σ H s) : X.env.locals < s.heap.objs.size := let ⟨_, hn, _⟩ := I.loc; hn.lt
theorem Inv.sz (I : Inv X pins σ H s) : X.s₀.heap.objs.size ≤ s.heap.objs.size := Nat.le_trans I.ok.above (Nat.le_of_lt I.lt)
theorem Inv.nofs (I : Inv X pins σ H s) {a : Addr} (h : s.heap.objs.size ≤ a) : a ∉ X.fs := fun hb => by
  obtain ⟨_, o, ho, _⟩ := I.ok.funs.mem hb
  exact absurd (Nat.lt_of_lt_of_le (Heap.lt_size ho) (Nat.le_trans I.sz h)) (Nat.lt_irrefl _)
theorem Inv.cne (I : Inv X pins σ H s) : ∀ x c, X.env.cells.lookup x = some c → c ≠ X.env.locals := fun x c e z => by
  obtain ⟨v, o, ho, hd⟩ := I.cell x c e
  obtain ⟨m, ⟨o', es, ep, ho', hd', _⟩, _⟩ := I.loc
  rw [z, ho'] at ho; cases ho; rw [hd'] at hd; cases hd
theorem Inv.funs (I : Inv X pins σ H s) : s.heap.FunFrames X.base X.outer := by
  have all : ∀ (l : List Env), (∀ b ∈ frs l, b ∈ X.fs) → X.s₀.heap.FunFrames X.base l → s.heap.FunFrames X.base l := by
    intro l
    induction l with
    | nil => intro _ _; trivial
    | cons env r ih =>
      intro hs hl
      obtain ⟨hk, ⟨L, o, hf, hn, ho, hd⟩, hr⟩ := hl
      have hL : L ∈ X.fs := hs L (by unfold frs; rw [List.filterMap_cons, hf]; exact List.mem_cons_self)
      obtain ⟨sl, e⟩ := I.base.slot L o ho (I.ok.frf L hL) hL fun z => I.ok.exfs L z hL
      exact ⟨hk, ⟨L, _, hf, hn, e, hd⟩, ih (fun b hb => hs b (by unfold frs; rw [List.filterMap_cons, hf]; exact List.mem_cons_of_mem _ hb)) hr⟩
  exact all X.outer (fun _ hb => hb) I.ok.funs

/-- the frames that run, for a call -/
theorem Inv.stack (I : Inv X pins σ H s) : s.heap.FunFrames X.base X.stack := by
  rcases I.ok.stk with e | ⟨e, hf⟩
  · rw [e]; exact I.funs
  · rw [e]
    obtain ⟨m, hn, _⟩ := I.loc
    refine .cons (by rw [I.ok.kind]; decide) hf hn ?_ I.funs
    exact Heap.get?_none_of_le (Nat.le_trans I.ok.bsz I.ok.above)
theorem Inv.stkSub (I : Inv X pins σ H s) : ∀ b ∈ frs X.stack, b ∈ X.env.locals :: X.fs := fun b hb => by
  rcases I.ok.stk with e | ⟨e, hf⟩
  · rw [e] at hb; exact List.mem_cons_of_mem _ hb
  · rw [e] at hb
    unfold frs at hb
    rw [List.filterMap_cons, hf] at hb
    exact hb
theorem Inv.stkFree (I : Inv X pins σ H s) : ∀ b ∈ frs X.stack, H b = none := fun b hb => by
  rcases List.mem_cons.mp (I.stkSub b hb) with e | hb
  · rw [e]; exact I.free
  · obtain ⟨_, o, ho, _⟩ := I.ok.funs.mem hb
    exact I.base.free b o ho (I.ok.frf b hb) fun z => I.ok.exfs b z hb

/-- THE STEP: the untracked objects but the frame and the records at ch are kept (the callers' frames up to slots), the frame's map is kept, the new abstract heap is held -/
theorem Inv.step {g' : Array GenState} {t' : Nat} {d' : Drawn} {ch : List Addr} (I : Inv X pins σ H s)
    (hch : ∀ b ∈ ch, (b ∈ X.ex ∨ X.s₀.heap.objs.size ≤ b) ∧ b ≠ X.env.locals ∧ (∀ x c, X.env.cells.lookup x = some c → c ≠ b) ∧ ∀ p ∈ X.pn ++ pins, p.1 ≠ b)
    (keep : ∀ b o, b ≠ X.env.locals → b ∉ X.fs → b ∉ ch → s.heap.get? b = some o → H b = none → h'.get? b = some o)
    (slot : ∀ b o, b ≠ X.env.locals → b ∈ X.fs → b ∉ ch → s.heap.get? b = some o → H b = none → ∃ sl, h'.get? b = some { o with slots := sl }) (free : ∀ b o, b ∉ ch → s.heap.get? b = some o → H b = none → H' b = none)
    (there : ∀ b o, b ∉ ch → s.heap.get? b = some o → ∃ o', h'.get? b = some o')
    (tups : ∀ b xs, H b = some (.tup xs) → H' b = some (.tup xs)) (frzs : ∀ b o u, H b = some (.frz o u) → H' b = some (.frz o u)) (tbls : ∀ b ps, H b = some (.tbl ps) → ∃ more, H' b = some (.tbl (ps ++ more)))
    (ns : ∀ m, s.heap.Ns X.env.locals m → h'.Ns X.env.locals m) (hok : HOk X.prog X.w H' h') (hg : AllBare g') :
    Inv X pins σ H' { s with heap := h', gens := g', drawn := d', toks := t' } := by
  have neL : ∀ b o, X.s₀.heap.get? b = some o → b ≠ X.env.locals := fun b o e => Nat.ne_of_lt (Nat.lt_of_lt_of_le (Heap.lt_size e) I.ok.above)
  have neC : ∀ b o, X.s₀.heap.get? b = some o → b ∉ X.ex → b ∉ ch := fun b o e hx hb => by
    rcases (hch b hb).1 with z | z
    · exact hx z
    · exact absurd (Nat.lt_of_lt_of_le (Heap.lt_size e) z) (Nat.lt_irrefl _)
  have cellK : ∀ x c, X.env.cells.lookup x = some c → ∀ v, s.heap.IsCell c v → h'.IsCell c v := fun x c e v ⟨o, ho, hd⟩ => by
    have nch : c ∉ ch := fun z => (hch c z).2.2.1 x c e rfl
    by_cases hc : c ∈ X.fs
    · obtain ⟨sl, q⟩ := slot c o (I.cne x c e) hc nch ho (I.freeC x c e)
      exact ⟨_, q, hd⟩
    · exact ⟨o, keep c o (I.cne x c e) hc nch ho (I.freeC x c e), hd⟩
  refine ⟨I.ok, I.os, hg, ⟨fun b o e n hb hx => ?_, fun b o e n hb hx => ?_, fun b o e n hx => ?_, fun b o e hx => ?_, fun b xs e => tups b xs (I.base.tups b xs e), fun b o xs e => frzs b o xs (I.base.frzs b o xs e), fun b ps e => ?_⟩, ?_, fun x c e => ?_, ?_, fun x c e => ?_, fun p hp => ?_, hok, I.len⟩
  · exact keep b o (neL b o e) hb (neC b o e hx) (I.base.keep b o e n hb hx) (I.base.free b o e n hx)
  · obtain ⟨sl, e1⟩ := I.base.slot b o e n hb hx
    obtain ⟨sl', e2⟩ := slot b _ (neL b o e) hb (neC b o e hx) e1 (I.base.free b o e n hx)
    exact ⟨sl', e2⟩
  · obtain ⟨o', e1⟩ := I.base.there b o e hx
    exact free b o' (neC b o e hx) e1 (I.base.free b o e n hx)
  · obtain ⟨o', e1⟩ := I.base.there b o e hx
    exact there b o' (neC b o e hx) e1
  · obtain ⟨m1, e1⟩ := I.base.tbls b ps e
    obtain ⟨m2, e2⟩ := tbls b _ e1
    exact ⟨m1 ++ m2, by rw [e2, Array.append_assoc]⟩
  · obtain ⟨m, hn, hl⟩ := I.loc
    refine ⟨m, ns m hn, fun i x v e1 e2 e3 => ?_⟩
    obtain ⟨u, r, l⟩ := hl i x v e1 e2 e3
    refine ⟨u, r, ?_⟩
    rcases l with l | ⟨k, c, e, z⟩
    · exact .inl l
    · exact .inr ⟨k, c, e, cellK x c e _ z⟩
  · obtain ⟨v, z⟩ := I.cell x c e
    exact ⟨v, cellK x c e v z⟩
  · obtain ⟨m, ⟨o, _, _, ho, _⟩, _⟩ := I.loc
    exact free _ o (fun z => (hch _ z).2.1 rfl) ho I.free
  · obtain ⟨v, o, ho, hd⟩ := I.cell x c e
    exact free c o (fun z => (hch c z).2.2.1 x c e rfl) ho (I.freeC x c e)
  · obtain ⟨e, n, ne, nf, d⟩ := I.pin p hp
    have nch : p.1 ∉ ch := fun z => (hch p.1 z).2.2.2 p hp rfl
    exact ⟨keep p.1 p.2 ne nf nch e n, free p.1 p.2 nch e n, ne, nf, d⟩
/-- .. where the frame's own object is kept too -/
theorem Inv.un {t' : Nat} (I : Inv X pins σ H s) (u : Un X.fs [] H H' s.heap h') (hok : HOk X.prog X.w H' h') : Inv X pins σ H' { s with heap := h', toks := t' } := by
  obtain ⟨m, ⟨o, es, ep, ho, r⟩, _⟩ := id I.loc
  obtain ⟨sl, hL⟩ := u.any ho I.free (by simp)
  exact I.step (g' := s.gens) (d' := s.drawn) (ch := []) (fun _ z => nomatch z) (fun b o _ hb _ e n => u.keep b o e n hb (by simp)) (fun b o _ hb _ e n => u.slot b o e n hb (by simp)) (fun b o _ e n => u.free b o e n (by simp)) (fun b o _ e => u.there b o e (by simp)) u.tups u.frzs u.tbls (fun m' hm => by
    obtain ⟨o', es', ep', ho', r'⟩ := hm
    rw [ho] at ho'; cases ho'
    exact ⟨_, es', ep', hL, r'⟩) hok I.bare
/-- behind a call (or a comprehension's block): the slots of this frame may have changed too, the records at ch may have turned -/
theorem Inv.call {g' : Array GenState} {t' : Nat} {d' : Drawn} {ch : List Addr} (I : Inv X pins σ H s) (u : Un (frs X.stack) ch H H' s.heap h') (hok : HOk X.prog X.w H' h') (hg : AllBare g')
    (hch : ∀ b ∈ ch, (b ∈ X.ex ∨ X.s₀.heap.objs.size ≤ b) ∧ b ≠ X.env.locals ∧ (∀ x c, X.env.cells.lookup x = some c → c ≠ b) ∧ ∀ p ∈ X.pn ++ pins, p.1 ≠ b) :
    Inv X pins σ H' { s with heap := h', gens := g', drawn := d', toks := t' } := by
  obtain ⟨m, ⟨o, es, ep, ho, r⟩, _⟩ := id I.loc
  obtain ⟨sl, hL⟩ := u.any ho I.free fun z => (hch _ z).2.1 rfl
  exact I.step (ch := ch) hch (fun b o hL hb hc e n => u.keep b o e n (fun z => (List.mem_cons.mp (I.stkSub b z)).elim hL hb) hc) (fun b o _ _ hc e n => u.any e n hc) (fun b o hc e n => u.free b o e n hc) (fun b o hc e => u.there b o e hc) u.tups u.frzs u.tbls (fun m' hm => by
    obtain ⟨o', es', ep', ho', r'⟩ := hm
    rw [ho] at ho'; cases ho'
    exact ⟨_, es', ep', hL, r'⟩) hok hg
/-- an untracked record of ours (an iterator) has turned -/
theorem Inv.turned {t' : Nat} {it : Addr} (I : Inv X pins σ H s) (k : ∀ b o, b ≠ it → s.heap.get? b = some o → h'.get? b = some o) (hn : H it = none) (hL : it ≠ X.env.locals)
    (h1 : it ∈ X.ex ∨ X.s₀.heap.objs.size ≤ it) (h2 : ∀ x c, X.env.cells.lookup x = some c → c ≠ it) (h3 : ∀ p ∈ X.pn ++ pins, p.1 ≠ it) : Inv X pins σ H { s with heap := h', toks := t' } := by
  have nit : ∀ b u, H b = some u → b ≠ it := fun b u e z => by rw [z, hn] at e; cases e
  refine I.step (g' := s.gens) (d' := s.drawn) (ch := [it]) (fun b hb => ?_) (fun b o _ _ hc e _ => k b o (fun z => hc (by simp [z])) e) (fun b o _ _ hc e _ => ⟨o.slots, k b o (fun z => hc (by simp [z])) e⟩) (fun _ _ _ _ n => n)
    (fun b o hc e => ⟨o, k b o (fun z => hc (by simp [z])) e⟩) (fun _ _ e => e) (fun _ _ _ e => e) (fun b ps e => ⟨#[], by rw [e]; simp⟩) (fun m hm => ?_) (fun b u e => ?_) I.bare
  · have e : b = it := by simpa using hb
    subst e
    exact ⟨h1, hL, h2, h3⟩
  · obtain ⟨o, es, ep, ho, r⟩ := hm
    exact ⟨o, es, ep, k _ o (Ne.symm hL) ho, r⟩
  · refine (I.hok b u e).stay (fun c v hc q => k c v ?_ q) (fun _ q => q) fun _ _ q => q
    rcases hc with z | z
    · rw [z]; exact nit b u e
    · exact nit c _ z
theorem Inv.tok (I : Inv X pins σ H s) (t : Nat) : Inv X pins σ H { s with toks := t } := I.un (h' := s.heap) (t' := t) Un.refl I.hok
/-- all objects kept -/
theorem Inv.kept {t' : Nat} (I : Inv X pins σ H s) (k : ∀ b u, s.heap.get? b = some u → h'.get? b = some u) : Inv X pins σ H { s with heap := h', toks := t' } := I.un (Un.kept k) (I.hok.kept k)
/-- a new object laid and tracked -/
theorem Inv.laid {a : Addr} {o : HO} {t' : Nat} (I : Inv X pins σ H s) (k : ∀ b u, s.heap.get? b = some u → h'.get? b = some u) (hp : s.heap.objs.size ≤ a) (new : ObjOk X.prog X.w (upd H a o) h' a o) :
    Inv X pins σ (upd H a o) { s with heap := h', toks := t' } := I.un (Un.laid k hp (I.hok.fresh hp)) (I.hok.laid k hp new)
/-- an object written -/
theorem Inv.write {x e : Addr} {o : HO} {t' : Nat} (I : Inv X pins σ H s) (mu : Mut (H x)) (he : e = x ∨ H e = some (.own x)) (k : ∀ b u, b ≠ e → s.heap.get? b = some u → h'.get? b = some u) (heo : ∃ u, h'.get? e = some u)
    (new : ObjOk X.prog X.w (upd H x o) h' x o) : Inv X pins σ (upd H x o) { s with heap := h', toks := t' } := I.un (Un.write mu he k heo) (I.hok.write mu he k heo new)
theorem Inv.pins_of {pins' : List (Addr × Obj)} (I : Inv X pins σ H s) (h : ∀ p ∈ pins', s.heap.get? p.1 = some p.2 ∧ H p.1 = none ∧ p.1 ≠ X.env.locals ∧ p.1 ∉ X.fs ∧ ∀ v, p.2.data ≠ .cell v) : Inv X pins' σ H s :=
  ⟨I.ok, I.os, I.bare, I.base, I.loc, I.cell, I.free, I.freeC, fun p hp => (List.mem_append.mp hp).elim (fun z => I.pin p (List.mem_append_left _ z)) (h p), I.hok, I.len⟩

theorem nodup_ix {N : List Str} (hN : N.Nodup) {i j : Nat} {x : Str} (a : N[i]? = some x) (b : N[j]? = some x) : i = j := by
  obtain ⟨h1, e1⟩ := List.getElem?_eq_some_iff.mp a
  obtain ⟨h2, e2⟩ := List.getElem?_eq_some_iff.mp b
  exact (List.getElem_inj hN).mp (e1.trans e2.symm)

/-- a name is stored; what changed -/
theorem store_ok2 {M : Model} {A : Around} {E : Value → Shared → Prop} {i : Nat} {x : Str} {v : V} {u : Value} {Q : Unit → Shared → Prop} (I : Inv X pins σ H s) (hN : X.N.Nodup) (hi : X.N[i]? = some x) (hx : Loc X.env.scope x) (r : RelV v u)
    (h : ∀ s', Inv X pins (σ.set i (some v)) H s' → (∃ a, Heap.SameBut a s.heap s'.heap ∧ (a = X.env.locals ∨ X.env.cells.lookup x = some a)) → Q () s') (hf : X.fn x = true ∨ X.env.scope.names.lookup x = some .local := by first | exact .inl rfl | exact .inr rfl | assumption) : wpAny M A (storeName X.env x u) Q E s := by
  obtain ⟨m, hn, hl⟩ := id I.loc
  have hcls : (X.env.scope.kind == .class || (X.env.scope.kind == .module && X.env.locals != X.env.globals)) = false := by rw [I.ok.kind]; rfl
  have hiσ : i < σ.length := by rw [I.len]; exact (List.getElem?_eq_some_iff.mp hi).1
  have cne := I.cne
  have tracked : ∀ {a : Addr} {h' : Heap}, (∃ o, s.heap.get? a = some o ∧ H a = none) → Heap.SameBut a s.heap h' → HOk X.prog X.w H h' := fun {a h'} ha hs b ob e => by
    obtain ⟨_, _, hfree⟩ := ha
    refine (I.hok b ob e).stay (fun c w' hc q => (hs.2 c ?_).trans q) (fun _ q => q) fun _ _ q => q
    rintro rfl
    rcases hc with rfl | hc
    · rw [hfree] at e; cases e
    · rw [hfree] at hc; cases hc
  rcases hx with hk | hk
  · refine wpAny_storeName_local hk hn (fun h' hn' hs => ?_) hcls
    obtain ⟨oL, _, _, hoL, _⟩ := id hn
    refine h _ ⟨I.ok, I.os, I.bare, ⟨fun b o e n hb hx => ?_, fun b o e n hb hx => ?_, I.base.free, fun b o e hx => ?_, I.base.tups, I.base.frzs, I.base.tbls⟩, ⟨_, hn', fun j y v' e1 e2 e3 => ?_⟩, fun y c e => ?_, I.free, I.freeC, fun p hp => ?_, tracked ⟨oL, hoL, I.free⟩ hs, by simpa using I.len⟩ ⟨_, hs, .inl rfl⟩
    · exact (hs.2 b (Nat.ne_of_lt (Nat.lt_of_lt_of_le (Heap.lt_size e) I.ok.above))).trans (I.base.keep b o e n hb hx)
    · obtain ⟨sl, e1⟩ := I.base.slot b o e n hb hx
      exact ⟨sl, (hs.2 b (Nat.ne_of_lt (Nat.lt_of_lt_of_le (Heap.lt_size e) I.ok.above))).trans e1⟩
    · obtain ⟨o', e1⟩ := I.base.there b o e hx
      exact ⟨o', (hs.2 b (Nat.ne_of_lt (Nat.lt_of_lt_of_le (Heap.lt_size e) I.ok.above))).trans e1⟩
    · by_cases hj : j = i
      · subst hj
        rw [hi] at e1; cases e1
        rw [List.getElem?_set_self hiσ] at e2
        cases e2
        exact ⟨u, r, .inl ⟨hk, by simp⟩⟩
      · rw [List.getElem?_set_ne (Ne.symm hj)] at e2
        obtain ⟨u', r', q⟩ := hl j y v' e1 e2 e3
        refine ⟨u', r', ?_⟩
        rcases q with ⟨k, e⟩ | ⟨k, c, e, z⟩
        · refine .inl ⟨k, ?_⟩
          have : y ≠ x := fun e => hj (nodup_ix hN e1 (e ▸ hi))
          simp [this, e]
        · exact .inr ⟨k, c, e, z.sameBut hs (cne y c e)⟩
    · obtain ⟨w', z⟩ := I.cell y c e
      exact ⟨w', z.sameBut hs (cne y c e)⟩
    · obtain ⟨e, n, ne, nf, d⟩ := I.pin p hp
      exact ⟨(hs.2 p.1 ne).trans e, n, ne, nf, d⟩
  · have hfn : X.fn x = true := by
      rcases hf with z | z
      · exact z
      · rw [z] at hk; cases hk
    obtain ⟨c, hc⟩ := I.ok.has x (.inl hk)
    obtain ⟨w', z⟩ := I.cell x c hc
    refine wpAny_storeName_cell I.ok.kind hk hc z (fun h' hc' hs => ?_)
    obtain ⟨oc, hoc, hocd⟩ := id z
    refine h { s with heap := h' } ⟨I.ok, I.os, I.bare, ⟨fun b o e n hb hx => ?_, fun b o e n hb hx => ?_, I.base.free, fun b o e hx => ?_, I.base.tups, I.base.frzs, I.base.tbls⟩, ⟨m, hn.sameBut hs (Ne.symm (cne x c hc)), fun j y v' e1 e2 e3 => ?_⟩, fun y c' e => ?_, I.free, I.freeC, fun p hp => ?_, tracked ⟨oc, hoc, I.freeC x c hc⟩ hs, by simpa using I.len⟩ ⟨c, hs, .inr hc⟩
    · exact (hs.2 b (Nat.ne_of_lt (Nat.lt_of_lt_of_le (Heap.lt_size e) (I.ok.cab x c hfn hc)))).trans (I.base.keep b o e n hb hx)
    · obtain ⟨sl, e1⟩ := I.base.slot b o e n hb hx
      exact ⟨sl, (hs.2 b (Nat.ne_of_lt (Nat.lt_of_lt_of_le (Heap.lt_size e) (I.ok.cab x c hfn hc)))).trans e1⟩
    · obtain ⟨o', e1⟩ := I.base.there b o e hx
      exact ⟨o', (hs.2 b (Nat.ne_of_lt (Nat.lt_of_lt_of_le (Heap.lt_size e) (I.ok.cab x c hfn hc)))).trans e1⟩
    · by_cases hj : j = i
      · subst hj
        rw [hi] at e1; cases e1
        rw [List.getElem?_set_self hiσ] at e2
        cases e2
        exact ⟨u, r, .inr ⟨.inl hk, c, hc, hc'⟩⟩
      · rw [List.getElem?_set_ne (Ne.symm hj)] at e2
        obtain ⟨u', r', q⟩ := hl j y v' e1 e2 e3
        refine ⟨u', r', ?_⟩
        rcases q with q | ⟨k, c', e, z'⟩
        · exact .inl q
        · refine .inr ⟨k, c', e, z'.sameBut hs ?_⟩
          rintro rfl
          exact hj (nodup_ix hN e1 (I.ok.inj _ _ _ e hc ▸ hi))
    · by_cases hcc : c' = c
      · subst hcc; exact ⟨_, hc'⟩
      · obtain ⟨w2, z2⟩ := I.cell y c' e
        exact ⟨w2, z2.sameBut hs hcc⟩
    · obtain ⟨e, n, ne, nf, d⟩ := I.pin p hp
      refine ⟨(hs.2 p.1 ?_).trans e, n, ne, nf, d⟩
      intro q
      rw [q, hoc] at e
      have q' : oc = p.2 := Option.some.inj e
      exact d w' (by rw [← q']; exact hocd)
theorem store_ok {M : Model} {A : Around} {E : Value → Shared → Prop} {i : Nat} {x : Str} {v : V} {u : Value} {Q : Unit → Shared → Prop} (I : Inv X pins σ H s) (hN : X.N.Nodup) (hi : X.N[i]? = some x) (hx : Loc X.env.scope x) (r : RelV v u)
    (h : ∀ s', Inv X pins (σ.set i (some v)) H s' → Q () s') (hf : X.fn x = true ∨ X.env.scope.names.lookup x = some .local := by first | exact .inl rfl | exact .inr rfl | assumption) : wpAny M A (storeName X.env x u) Q E s :=
  store_ok2 I hN hi hx r (fun s' I' _ => h s' I') hf
/-- behind a call or a block, the state as it is -/
theorem Inv.call' {s' : Shared} {ch : List Addr} (I : Inv X pins σ H s) (ho : s'.os = s.os) (u : Un (frs X.stack) ch H H' s.heap s'.heap) (hok : HOk X.prog X.w H' s'.heap) (hg : AllBare s'.gens)
    (hch : ∀ b ∈ ch, (b ∈ X.ex ∨ X.s₀.heap.objs.size ≤ b) ∧ b ≠ X.env.locals ∧ (∀ x c, X.env.cells.lookup x = some c → c ≠ b) ∧ ∀ p ∈ X.pn ++ pins, p.1 ≠ b) : Inv X pins σ H' s' := by
  obtain ⟨h', g', d', t', o'⟩ := s'
  have e : o' = s.os := ho
  subst e
  exact I.call (g' := g') (t' := t') (d' := d') u hok hg hch
end

/-! ### the judgements -/
/-- an exception: its class, its own dict's address (where it has one), the abstract heap behind it -/
abbrev XK := Value → Option Addr → Hp → Prop
abbrev St := List (Option V)
abbrev VK := V → Hp → Prop
/-- an expression's reading; a test's; an argument list's -/
abbrev TE := St → Hp → VK → Prop
abbrev TT := St → Hp → (Bool → Hp → Prop) → Prop
abbrev TA := St → Hp → (List V → Hp → Prop) → Prop
/-- what is wanted behind a statement -/
structure Ends where
  nx : St → Hp → Prop
  rt : VK
  bk : St → Hp → Prop := fun _ _ => False
  ct : St → Hp → Prop := fun _ _ => False
abbrev TS := Ends → St → Hp → Prop

def EP (X : Cx) (pins : List (Addr × Obj)) (σ : St) (Q : VK) (u : Value) (s' : Shared) : Prop := ∃ v H', Inv X pins σ H' s' ∧ RelV v u ∧ Q v H'
def TP (X : Cx) (pins : List (Addr × Obj)) (σ : St) (Q : Bool → Hp → Prop) (b : Bool) (s' : Shared) : Prop := ∃ H', Inv X pins σ H' s' ∧ Q b H'
def AP (X : Cx) (pins : List (Addr × Obj)) (σ : St) (Q : List V → Hp → Prop) (us : List Value) (s' : Shared) : Prop := ∃ vs H', Inv X pins σ H' s' ∧ Vals vs us ∧ Q vs H'
def SP (X : Cx) (pins : List (Addr × Obj)) (D : Ends) (f : Flow) (s' : Shared) : Prop :=
  match f with
  | .next => ∃ σ' H', Inv X pins σ' H' s' ∧ D.nx σ' H'
  | .brk => ∃ σ' H', Inv X pins σ' H' s' ∧ D.bk σ' H'
  | .cont => ∃ σ' H', Inv X pins σ' H' s' ∧ D.ct σ' H'
  | .ret u => ∃ v σ' H', Inv X pins σ' H' s' ∧ RelV v u ∧ D.rt v H'

def PE (X : Cx) (e : Expr) (t : TE) : Prop :=
  ∀ (pins : List (Addr × Obj)) (s : Shared) (σ : St) (H : Hp) (Q : VK), Inv X pins σ H s → t σ H Q → wpAny (model X.prog X.w) X.A (eval e X.env) (EP X pins σ Q) X.xe s
def PT (X : Cx) (e : Expr) (t : TT) : Prop :=
  ∀ (pins : List (Addr × Obj)) (s : Shared) (σ : St) (H : Hp) (Q : Bool → Hp → Prop), Inv X pins σ H s → t σ H Q → wpAny (model X.prog X.w) X.A (isTrue e X.env (eval e X.env)) (TP X pins σ Q) X.xe s
/-- a test whatever its 'whole' is (and, or) -/
def PW (X : Cx) (e : Expr) (t : TT) : Prop :=
  ∀ (whole : Sem Value) (pins : List (Addr × Obj)) (s : Shared) (σ : St) (H : Hp) (Q : Bool → Hp → Prop), Inv X pins σ H s → t σ H Q → wpAny (model X.prog X.w) X.A (isTrue e X.env whole) (TP X pins σ Q) X.xe s
theorem PW.pt {X : Cx} {e : Expr} {t : TT} (h : PW X e t) : PT X e t := h _
/-- an argument list (no star), from the left -/
def PA (X : Cx) (es : List Expr) (t : TA) : Prop :=
  ∀ (pos : Pos) (pins : List (Addr × Obj)) (s : Shared) (σ : St) (H : Hp) (Q : List V → Hp → Prop), Inv X pins σ H s → t σ H Q → wpAny (model X.prog X.w) X.A (spliced (backTo pos (starEach es X.env))) (AP X pins σ Q) X.xe s
def PS (X : Cx) (st : Stmt) (t : TS) : Prop :=
  ∀ (pins : List (Addr × Obj)) (s : Shared) (σ : St) (H : Hp) (D : Ends), Inv X pins σ H s → t D σ H → wpAny (model X.prog X.w) X.A (exec st X.env) (SP X pins D) X.xe s
def PSs (X : Cx) (st : List Stmt) (t : TS) : Prop :=
  ∀ (pins : List (Addr × Obj)) (s : Shared) (σ : St) (H : Hp) (D : Ends), Inv X pins σ H s → t D σ H → wpAny (model X.prog X.w) X.A (execs st X.env) (SP X pins D) X.xe s
/-- weaken the end -/
theorem thn {α : Type} {t : Sem α} {Q Q' : α → Shared → Prop} {M : Model} {A : Around} {E : Value → Shared → Prop} {s : Shared} (h : wpAny M A t Q E s) (hQ : ∀ a s, Q a s → Q' a s) : wpAny M A t Q' E s := wpAny_mono h hQ fun _ _ x => x
end L2

namespace L2
open PySem PySem.Spec PyProof.Rows
section
variable {X : Cx}

/-! ### names and constants -/
def tVar (i : Nat) : TE := fun σ H Q => ∃ v, σ[i]? = some (some v) ∧ Q v H
def tC (v : V) : TE := fun _ H Q => Q v H
theorem pe_var {i : Nat} {x : Str} {pos : Pos} (hN : X.N[i]? = some x) (hv : Vis X.env.scope x) (hd : (x == ("__debug__" : Str)) = false := by decide) (hcd : (x == ("__classdict__" : Str)) = false := by decide) : PE X (.Name x pos) (tVar i) := by
  intro pins s σ H Q I h
  obtain ⟨v, e, h⟩ := h
  obtain ⟨m, hn, hl⟩ := I.loc
  obtain ⟨u, r, l⟩ := hl i x v hN e hv
  have fin : EP X pins σ Q u s := ⟨v, H, I, r, h⟩
  rcases l with ⟨hk, hm⟩ | ⟨hk, c, hc, hcell⟩
  · exact wpAny_Name (wpAny_loadName_local I.ok.kind hk hn hm fin) hd
  · rcases hk with hk | hk
    · exact wpAny_Name (wpAny_loadName_cell I.ok.kind hk hc hcell fin) hd
    · exact wpAny_Name (wpAny_loadName_free I.ok.kind hk hc hcell fin hcd) hd
theorem pe_int {i j pos} : PE X (.Constant (.int i) j pos) (tC (.int i)) := fun _ _ _ H _ I h => wpAny_Constant_int ⟨.int i, H, I.tok _, ⟨_, rfl⟩, h⟩
theorem pe_bl {b j pos} : PE X (.Constant (.bool b) j pos) (tC (.bl b)) := fun _ _ _ H _ I h => Constant_bool ⟨.bl b, H, I, rfl, h⟩
theorem pe_non {j pos} : PE X (.Constant .none j pos) (tC .non) := fun _ _ _ H _ I h => Constant_none ⟨.non, H, I, rfl, h⟩
theorem pe_str {x j pos} : PE X (.Constant (.str x) j pos) (tC (.str x)) := fun _ _ _ H _ I h => Calls.Constant_str ⟨.str x, H, I.tok _, ⟨_, rfl⟩, h⟩

/-- a global name of the def -/
def Gl (X : Cx) (x : Str) : Prop := X.env.kindOf x = some .globalImplicit
theorem ld_glob {E : Value → Shared → Prop} {pins : List (Addr × Obj)} {s : Shared} {σ : St} {H : Hp} {x : Str} {u : Value} {pos : Pos} {Q : Value → Shared → Prop} (I : Inv X pins σ H s) (hg : Gl X x) (hm : X.mg x = some u) (h : Q u s)
    (hd : (x == ("__debug__" : Str)) = false := by decide) : wpAny (model X.prog X.w) X.A (eval (.Name x pos) X.env) Q E s :=
  Calls.Name_function_global I.ok.kind hg (Calls.loadGlobal_global (by rw [I.ok.glob]; exact I.mod.glob.keeps I.bk) hm h) hd
theorem ld_blt {E : Value → Shared → Prop} {pins : List (Addr × Obj)} {s : Shared} {σ : St} {H : Hp} {x : Str} {u : Value} {pos : Pos} {Q : Value → Shared → Prop} (I : Inv X pins σ H s) (hg : Gl X x) (hm : X.mg x = none) (hv : bootBuiltins x = some u) (h : Q u s)
    (hn : x ≠ "__name__" := by decide) (hd : (x == ("__debug__" : Str)) = false := by decide) : wpAny (model X.prog X.w) X.A (eval (.Name x pos) X.env) Q E s := by
  obtain ⟨mb, h1, h2⟩ := I.mod.blt
  exact Calls.Name_function_global I.ok.kind hg (Calls.loadGlobal_builtin (by rw [I.ok.glob]; exact I.mod.glob.keeps I.bk) hm (by rw [I.ok.blt]; exact h1.keeps I.bk) ((h2 x hn).trans hv) h) hd
/-- a module's constant, a class, a function, as a value -/
theorem pe_glob {x : Str} {v : V} {u : Value} {pos : Pos} (hg : Gl X x) (hm : X.mg x = some u) (r : RelV v u) (hd : (x == ("__debug__" : Str)) = false := by decide) : PE X (.Name x pos) (tC v) :=
  fun _ _ _ H _ I h => ld_glob I hg hm ⟨v, H, I, r, h⟩ hd
theorem pe_bltn {x : Str} {v : V} {u : Value} {pos : Pos} (hg : Gl X x) (hm : X.mg x = none) (hv : bootBuiltins x = some u) (r : RelV v u) (hn : x ≠ "__name__" := by decide) (hd : (x == ("__debug__" : Str)) = false := by decide) : PE X (.Name x pos) (tC v) :=
  fun _ _ _ H _ I h => ld_blt I hg hm hv ⟨v, H, I, r, h⟩ hn hd

/-! ### arithmetic -/
/-- two ints -/
def t2I (ta tb : TE) (k : Int → Int → Hp → Prop) : St → Hp → Prop := fun σ H => ta σ H fun x H1 => tb σ H1 fun y H2 => ∃ i j, x = .int i ∧ y = .int j ∧ k i j H2
def tAdd (ta tb : TE) : TE := fun σ H Q => t2I ta tb (fun i j H2 => Q (.int (i + j)) H2) σ H
def tSub (ta tb : TE) : TE := fun σ H Q => t2I ta tb (fun i j H2 => Q (.int (i - j)) H2) σ H
/-- the left factor below 2^64 -/
def tMul (ta tb : TE) : TE := fun σ H Q => t2I ta tb (fun i j H2 => (-(2 ^ 64) < i ∧ i < 2 ^ 64) ∧ Q (.int (i * j)) H2) σ H
variable {a b : Expr} {ta tb : TE} {pos : Pos}
/-! ### comparisons -/
def PC (X : Cx) (op : CmpOp) (a b : Expr) (t : TE) : Prop :=
  ∀ (pins : List (Addr × Obj)) (s : Shared) (σ : St) (H : Hp) (Q : VK), Inv X pins σ H s → t σ H Q →
    wpAny (model X.prog X.w) X.A (eval a X.env) (fun v s₁ => wpAny (model X.prog X.w) X.A (eval b X.env) (fun u s₂ => wpAny (model X.prog X.w) X.A (compareOp op v u) (EP X pins σ Q) X.xe s₂) X.xe s₁) X.xe s
theorem nobehind (b : Expr) {op : CmpOp} (h : op ≠ .In) (h2 : op ≠ .NotIn) : behindInMarks op b = false := by
  have e1 : (op == CmpOp.In) = false := by cases op <;> first | rfl | exact absurd rfl h
  have e2 : (op == CmpOp.NotIn) = false := by cases op <;> first | rfl | exact absurd rfl h2
  cases b <;> simp [behindInMarks, e1, e2]
def tCmp (p : Int → Int → Bool) (ta tb : TE) : TE := fun σ H Q => t2I ta tb (fun i j H2 => Q (.bl (p i j)) H2) σ H
abbrev tLt : TE → TE → TE := tCmp fun i j => decide (i < j)
abbrev tLe : TE → TE → TE := tCmp fun i j => decide (i ≤ j)
abbrev tGt : TE → TE → TE := tCmp fun i j => decide (j < i)
abbrev tGe : TE → TE → TE := tCmp fun i j => decide (j ≤ i)
abbrev tEqI : TE → TE → TE := tCmp fun i j => decide (i = j)
abbrev tNeI : TE → TE → TE := tCmp fun i j => !decide (i = j)
/-- is None -/
def tIsN (ta : TE) : TE := fun σ H Q => ta σ H fun x H1 => Q (.bl (decide (x = .non))) H1
def tNotN (ta : TE) : TE := fun σ H Q => ta σ H fun x H1 => Q (.bl (!decide (x = .non))) H1
theorem RelV.none_iff {x : V} {v : Value} (r : RelV x v) : (v == Value.none) = decide (x = .non) := by
  cases x with
  | non => cases r; rfl
  | bl _ => cases r; rfl
  | int _ => obtain ⟨t, rfl⟩ := r; rfl
  | str _ => obtain ⟨t, rfl⟩ := r; rfl
  | byt _ => obtain ⟨t, rfl⟩ := r; rfl
  | flt _ => obtain ⟨t, rfl⟩ := r; rfl
  | ref _ => cases r; rfl
  | ty _ => cases r; rfl
theorem pc_isN {j pos'} (ha : PE X a ta) : PC X .Is a (.Constant .none j pos') (tIsN ta) := by
  intro pins s σ H Q I h
  refine thn (ha pins s σ H _ I h) fun v s1 ⟨x, H1, I1, r1, q1⟩ => ?_
  exact Constant_none (is_none_gen ⟨.bl _, H1, I1, by rw [r1.none_iff]; rfl, q1⟩)
theorem pc_notN {j pos'} (ha : PE X a ta) : PC X .IsNot a (.Constant .none j pos') (tNotN ta) := by
  intro pins s σ H Q I h
  refine thn (ha pins s σ H _ I h) fun v s1 ⟨x, H1, I1, r1, q1⟩ => ?_
  exact Constant_none (isnot_none_gen ⟨.bl _, H1, I1, by rw [r1.none_iff]; rfl, q1⟩)
/-- a comparison as a value, as a test -/
def tB (t : TE) : TT := fun σ H Q => t σ H fun x H1 => ∃ c, x = .bl c ∧ Q c H1
theorem pt_cmp {op : CmpOp} {t : TE} (h : PC X op a b t) (h1 : behindInMarks op b = false := by first | exact nobehind _ (by decide) (by decide) | rfl) : PT X (.Compare a [op] [b] pos) (tB t) := by
  intro pins s σ H Q I hw
  refine wpAny_isTrue_Compare1 (thn (h pins s σ H _ I hw) fun v s1 h1 => thn h1 fun u s2 h2 => thn h2 fun c s3 ⟨x, H1, I1, r1, q1⟩ => ?_) h1
  obtain ⟨d, rfl, q⟩ := q1
  cases r1
  exact wpAny_truthy_bool ⟨H1, I1, q⟩
/-- an expression whose value is a bool, as a test -/
theorem pt_val {e : Expr} {t : TE} (h : PE X e t) (he : ∀ whole, isTrue e X.env whole = (do let v ← whole; standAt e.pos; holding [v] (truthy v)) := by intro _; rfl) : PT X e (tB t) := by
  intro pins s σ H Q I hw
  refine isTrue_plain (thn (h pins s σ H _ I hw) fun v s1 ⟨x, H1, I1, r1, q1⟩ => ?_) (he _)
  obtain ⟨d, rfl, q⟩ := q1
  cases r1
  exact wpAny_truthy_bool ⟨H1, I1, q⟩

/-! ### and, or, not -/
variable {tA tB' : TT} {rest : List Expr}
def tAnd (t u : TT) : TT := fun σ H Q => t σ H fun c H1 => if c = true then u σ H1 Q else Q false H1
def tOr (t u : TT) : TT := fun σ H Q => t σ H fun c H1 => if c = true then Q true H1 else u σ H1 Q
def tNot (t : TT) : TT := fun σ H Q => t σ H fun c H1 => Q (!c) H1
theorem pw_and1 (ha : PT X a tA) : PW X (.BoolOp .And [a] pos) tA := by
  intro wh pins s σ H Q I h
  refine isTrue_and (thn (ha pins s σ H Q I h) fun c s1 e => ?_)
  cases c with
  | true => exact isTrue_and_nil e
  | false => exact e
theorem pw_or1 (ha : PT X a tA) : PW X (.BoolOp .Or [a] pos) tA := by
  intro wh pins s σ H Q I h
  refine isTrue_or (thn (ha pins s σ H Q I h) fun c s1 e => ?_)
  cases c with
  | false => exact isTrue_or_nil e
  | true => exact e
theorem pw_and (ha : PT X a tA) (hb : PW X (.BoolOp .And (b :: rest) pos) tB') : PW X (.BoolOp .And (a :: b :: rest) pos) (tAnd tA tB') := by
  intro wh pins s σ H Q I h
  refine isTrue_and (thn (ha pins s σ H _ I h) fun c s1 ⟨H1, I1, q1⟩ => ?_)
  cases c with
  | true => exact hb wh pins s1 σ H1 Q I1 q1
  | false => exact ⟨H1, I1, q1⟩
theorem pw_or (ha : PT X a tA) (hb : PW X (.BoolOp .Or (b :: rest) pos) tB') : PW X (.BoolOp .Or (a :: b :: rest) pos) (tOr tA tB') := by
  intro wh pins s σ H Q I h
  refine isTrue_or (thn (ha pins s σ H _ I h) fun c s1 ⟨H1, I1, q1⟩ => ?_)
  cases c with
  | true => exact ⟨H1, I1, q1⟩
  | false => exact hb wh pins s1 σ H1 Q I1 q1
theorem pt_not (ha : PT X a tA) : PT X (.UnaryOp .Not a pos) (tNot tA) := by
  intro pins s σ H Q I h
  exact isTrue_not (ha pins s σ H (fun c H1 => Q (!c) H1) I h)
/-- .. as values (bools) -/
def tAndV (ta tb : TE) : TE := fun σ H Q => ta σ H fun x H1 => ∃ c, x = .bl c ∧ if c = true then tb σ H1 Q else Q (.bl false) H1
def tOrV (ta tb : TE) : TE := fun σ H Q => ta σ H fun x H1 => ∃ c, x = .bl c ∧ if c = true then Q (.bl true) H1 else tb σ H1 Q
def tNotV (ta : TE) : TE := fun σ H Q => ta σ H fun x H1 => ∃ c, x = .bl c ∧ Q (.bl (!c)) H1
theorem pe_one {op} {t : TE} (h : PE X a t) : PE X (.BoolOp op [a] pos) t := fun pins s σ H Q I hw => BoolOp_one (h pins s σ H Q I hw)
theorem pe_and (ha : PE X a ta) (hb : PE X (.BoolOp .And (b :: rest) pos) tb) : PE X (.BoolOp .And (a :: b :: rest) pos) (tAndV ta tb) := by
  intro pins s σ H Q I h
  refine BoolOp_and (thn (ha pins s σ H _ I h) fun v s1 ⟨x, H1, I1, r1, q1⟩ => ?_)
  obtain ⟨c, rfl, q1⟩ := q1
  cases r1
  refine wpAny_truthy_bool ?_
  cases c with
  | true => exact hb pins s1 σ H1 Q I1 q1
  | false => exact ⟨.bl false, H1, I1, rfl, q1⟩
theorem pe_not (ha : PE X a ta) : PE X (.UnaryOp .Not a pos) (tNotV ta) := by
  intro pins s σ H Q I h
  refine UnaryOp_ (thn (ha pins s σ H _ I h) fun v s1 ⟨x, H1, I1, r1, q1⟩ => ?_)
  obtain ⟨c, rfl, q1⟩ := q1
  cases r1
  exact not_of (wpAny_truthy_bool ⟨.bl (!c), H1, I1, rfl, q1⟩)
/-- a if t else b -/
def tIf (t : TT) (ta tb : TE) : TE := fun σ H Q => t σ H fun c H1 => if c = true then ta σ H1 Q else tb σ H1 Q
theorem pe_ifExp {c : Expr} (hc : PT X c tA) (ha : PE X a ta) (hb : PE X b tb) : PE X (.IfExp c a b pos) (tIf tA ta tb) := by
  intro pins s σ H Q I h
  refine wpAny_IfExp (thn (hc pins s σ H _ I h) fun d s1 ⟨H1, I1, q1⟩ => ?_)
  cases d with
  | true => exact ha pins s1 σ H1 Q I1 q1
  | false => exact hb pins s1 σ H1 Q I1 q1
end
end L2

namespace L2
open PySem PySem.Spec PyProof.Rows

/-! ### a list, a tuple that is read: tracked, frozen, or an object of the module -/
def SqL (K : PySem.W.Frag) (H : Hp) (a : Addr) (xs : List V) : Prop :=
  Rd H a (.lst xs) ∨
    ∃ (o : Obj) (its : Array Value) (n : Nat), K.lookup a = some o ∧ o.cls = .type "list" ∧ o.dict = none ∧ o.data = .seq its n ∧ its.size ≤ sizeLine ∧ Vals xs its.toList
def SqT (K : PySem.W.Frag) (H : Hp) (a : Addr) (xs : List V) : Prop :=
  Rd H a (.tup xs) ∨
    ∃ (o : Obj) (its : Array Value) (n : Nat), K.lookup a = some o ∧ o.cls = .type "tuple" ∧ o.data = .seq its n ∧ its.size ≤ sizeLine ∧ Vals xs its.toList
def absV : Value → Option V
  | .none => some .non
  | .bool b => some (.bl b)
  | .int i _ => some (.int i)
  | .str x _ => some (.str x)
  | .bytes b _ => some (.byt b)
  | .float b _ => some (.flt b)
  | .ref a => some (.ref a)
  | .type n => some (.ty n)
  | _ => none
theorem RelV.abs {x : V} {u : Value} (r : RelV x u) : absV u = some x := by
  cases x with
  | non => cases r; rfl
  | bl _ => cases r; rfl
  | int _ => obtain ⟨t, rfl⟩ := r; rfl
  | str _ => obtain ⟨t, rfl⟩ := r; rfl
  | byt _ => obtain ⟨t, rfl⟩ := r; rfl
  | flt _ => obtain ⟨t, rfl⟩ := r; rfl
  | ref _ => cases r; rfl
  | ty _ => cases r; rfl
theorem RelV.inj {x y : V} {u : Value} (r : RelV x u) (q : RelV y u) : x = y := Option.some.inj (r.abs.symm.trans q.abs)
theorem Vals.inj : ∀ {xs ys : List V} {us : List Value}, Vals xs us → Vals ys us → xs = ys
  | _, _, _, .nil, .nil => rfl
  | _, _, _, .cons r t, .cons r' t' => by rw [r.inj r', Vals.inj t t']
section
variable {X : Cx} {pins : List (Addr × Obj)} {σ : St} {H : Hp} {s : Shared} {a : Addr} {xs ys : List V}
theorem SqL.of {K : PySem.W.Frag} (h : H a = some (.lst xs)) : SqL K H a xs := .inl (.inl h)
theorem SqT.of {K : PySem.W.Frag} (h : H a = some (.tup xs)) : SqT K H a xs := .inl (.inl h)
theorem Inv.list (I : Inv X pins σ H s) (h : SqL X.K H a xs) : ∃ its : List Value, Vals xs its ∧ PlainL s.heap a its.toArray ∧ xs.length ≤ sizeLine := by
  rcases h with h | ⟨o, its, n, hk, hc, hd, hs, hz, r⟩
  · obtain ⟨z, its, n, r, e⟩ := h.ok I.hok
    exact ⟨its, r, ⟨_, n, e, rfl, rfl, rfl⟩, z⟩
  · refine ⟨its.toList, r, ⟨o, n, I.kIn a o hk, hc, hd, by simpa using hs⟩, ?_⟩
    have e := r.length
    simp only [Array.length_toList] at e
    omega
theorem Inv.tuple (I : Inv X pins σ H s) (h : SqT X.K H a xs) : ∃ its : List Value, Vals xs its ∧ IsTup s.heap a its.toArray ∧ xs.length ≤ sizeLine := by
  rcases h with h | ⟨o, its, n, hk, hc, hs, hz, r⟩
  · obtain ⟨z, its, r, p⟩ := h.ok I.hok
    exact ⟨its, r, p, z⟩
  · refine ⟨its.toList, r, ⟨o, I.kIn a o hk, hc, n, by simpa using hs⟩, ?_⟩
    have e := r.length
    simp only [Array.length_toList] at e
    omega
end

/-! ### another wish about exceptions -/
abbrev Cx.wish (X : Cx) (E : Value → Shared → Prop) : Cx := { X with xe := E }
/-- no exception leaves -/
abbrev Cx.nox (X : Cx) : Cx := X.wish fun _ _ => False
theorem Cx.Ok.wish {X : Cx} (ok : X.Ok) (E : Value → Shared → Prop) : (X.wish E).Ok :=
  ⟨ok.mod, ok.kind, ok.glob, ok.blt, ok.above, ok.inj, ok.has, ok.cab, ok.hd, ok.frames, ok.stk, ok.exf, ok.bs, ok.bsz, ok.noex, ok.exfs, ok.funs, ok.frf⟩
theorem Cx.Ok.unwish {X : Cx} {E : Value → Shared → Prop} (ok : (X.wish E).Ok) : X.Ok :=
  ⟨ok.mod, ok.kind, ok.glob, ok.blt, ok.above, ok.inj, ok.has, ok.cab, ok.hd, ok.frames, ok.stk, ok.exf, ok.bs, ok.bsz, ok.noex, ok.exfs, ok.funs, ok.frf⟩
section
variable {X : Cx} {pins : List (Addr × Obj)} {σ : St} {H : Hp} {s : Shared} {E : Value → Shared → Prop}
theorem Inv.wish (I : Inv X pins σ H s) (E : Value → Shared → Prop) : Inv (X.wish E) pins σ H s := ⟨I.ok.wish E, I.os, I.bare, I.base, I.loc, I.cell, I.free, I.freeC, I.pin, I.hok, I.len⟩
theorem Inv.unwish (I : Inv (X.wish E) pins σ H s) : Inv X pins σ H s := ⟨I.ok.unwish, I.os, I.bare, I.base, I.loc, I.cell, I.free, I.freeC, I.pin, I.hok, I.len⟩
theorem SP.unwish {D : Ends} {f : Flow} {s' : Shared} (h : SP (X.wish E) pins D f s') : SP X pins D f s' := by
  cases f with
  | next => obtain ⟨σ', H', I, q⟩ := h; exact ⟨σ', H', I.unwish, q⟩
  | brk => obtain ⟨σ', H', I, q⟩ := h; exact ⟨σ', H', I.unwish, q⟩
  | cont => obtain ⟨σ', H', I, q⟩ := h; exact ⟨σ', H', I.unwish, q⟩
  | ret u => obtain ⟨v, σ', H', I, r, q⟩ := h; exact ⟨v, σ', H', I.unwish, r, q⟩
theorem PE.nox {e : Expr} {t : TE} (h : PE X.nox e t) : PE X e t := fun pins s σ H Q I hw =>
  wpAny_mono (h pins s σ H Q (I.wish _) hw) (fun _ _ ⟨v, H', I', r, q⟩ => ⟨v, H', I'.unwish, r, q⟩) fun _ _ z => False.elim z
theorem PT.nox {e : Expr} {t : TT} (h : PT X.nox e t) : PT X e t := fun pins s σ H Q I hw =>
  wpAny_mono (h pins s σ H Q (I.wish _) hw) (fun _ _ ⟨H', I', q⟩ => ⟨H', I'.unwish, q⟩) fun _ _ z => False.elim z
theorem PSs.nox {st : List Stmt} {t : TS} (h : PSs X.nox st t) : PSs X st t := fun pins s σ H D I hw =>
  wpAny_mono (h pins s σ H D (I.wish _) hw) (fun _ _ q => q.unwish) fun _ _ z => False.elim z
end

/-! ### blocks and small statements -/
section
variable {X : Cx} {st : Stmt} {rest : List Stmt} {t u : TS} {e : Expr} {te : TE} {pos : Pos}
def tNext : TS := fun D σ H => D.nx σ H
def tSeq (t u : TS) : TS := fun D σ H => t { D with nx := u D } σ H
theorem pss_nil : PSs X [] tNext := fun _ _ σ H _ I h => wpAny_execs_nil ⟨σ, H, I, h⟩
theorem pss_cons (h1 : PS X st t) (h2 : PSs X rest u) : PSs X (st :: rest) (tSeq t u) := by
  intro pins s σ H D I h
  refine wpAny_execs_cons (thn (h1 pins s σ H { D with nx := u D } I h) fun f s1 q => ?_)
  cases f with
  | next =>
    obtain ⟨σ', H', I', q⟩ := q
    exact h2 pins s1 σ' H' D I' q
  | ret v => exact q
  | brk => exact q
  | cont => exact q
theorem pss_one (h1 : PS X st t) : PSs X [st] t := by
  intro pins s σ H D I h
  refine wpAny_execs_cons (thn (h1 pins s σ H D I h) fun f s1 q => ?_)
  cases f with
  | next => exact wpAny_execs_nil q
  | ret v => exact q
  | brk => exact q
  | cont => exact q
def tBreak : TS := fun D σ H => D.bk σ H
def tCont : TS := fun D σ H => D.ct σ H
/-- in a def's body nothing is shown -/
theorem Inv.quiet {pins : List (Addr × Obj)} {σ : St} {H : Hp} {s : Shared} (I : Inv X pins σ H s) : interactive X.env = false := by simp [interactive, I.ok.kind]
/-- an expression whose value is dropped -/
def tDrop (te : TE) : TS := fun D σ H => te σ H fun _ H1 => D.nx σ H1
theorem ps_expr (he : PE X e te) (hs : swapsWith e none pos.line X.env = pure false := by rfl) : PS X (.Expr e pos) (tDrop te) := by
  intro pins s σ H D I h
  exact wpAny_Expr_any (thn (he pins s σ H _ I h) fun v s1 ⟨x, H1, I1, r1, q1⟩ => ⟨σ, H1, I1, q1⟩) I.quiet hs
def tRet (te : TE) : TS := fun D σ H => te σ H D.rt
theorem ps_ret (he : PE X e te) : PS X (.Return (some e) pos) (tRet te) := by
  intro pins s σ H D I h
  exact wpAny_Return_some (thn (he pins s σ H _ I h) fun v s1 ⟨x, H1, I1, r1, q1⟩ => ⟨x, σ, H1, I1, r1, q1⟩)
def tRetN : TS := fun D _ H => D.rt .non H
def tIfS (c : TT) (t u : TS) : TS := fun D σ H => c σ H fun b H1 => if b = true then t D σ H1 else u D σ H1
theorem ps_if {c : Expr} {a b : List Stmt} {tc : TT} (hc : PT X c tc) (ha : PSs X a t) (hb : PSs X b u) : PS X (.If c a b pos) (tIfS tc t u) := by
  intro pins s σ H D I h
  refine wpAny_If (thn (hc pins s σ H _ I h) fun d s1 ⟨H1, I1, q1⟩ => ?_)
  cases d with
  | true => exact ha pins s1 σ H1 D I1 q1
  | false => exact hb pins s1 σ H1 D I1 q1
/-- code that the proof never comes to -/
def tNever : TS := fun _ _ _ => False
end

/-! ### targets -/
abbrev TG := V → St → Hp → (St → Hp → Prop) → Prop
abbrev TGs := List V → St → Hp → (St → Hp → Prop) → Prop
def PG (X : Cx) (target : Expr) (t : TG) : Prop :=
  ∀ (pins : List (Addr × Obj)) (s : Shared) (σ : St) (H : Hp) (v : V) (u : Value) (Q : St → Hp → Prop), Inv X pins σ H s → RelV v u → t v σ H Q →
    wpAny (model X.prog X.w) X.A (assign target X.env u) (fun _ s' => ∃ σ' H', Inv X pins σ' H' s' ∧ Q σ' H') X.xe s
/-- several targets, one after another -/
def PGs (X : Cx) (ts : List Expr) (t : TGs) : Prop :=
  ∀ (pins : List (Addr × Obj)) (s : Shared) (σ : St) (H : Hp) (vs : List V) (us : List Value) (Q : St → Hp → Prop), Inv X pins σ H s → Vals vs us → t vs σ H Q →
    wpAny (model X.prog X.w) X.A (assignInOrder ((assignEach ts X.env).map (·.2)) us) (fun _ s' => ∃ σ' H', Inv X pins σ' H' s' ∧ Q σ' H') X.xe s
/-- o[i] = v, by values -/
abbrev TSet := V → V → V → Hp → (Hp → Prop) → Prop
def PSet (X : Cx) (t : TSet) : Prop :=
  ∀ (pins : List (Addr × Obj)) (s : Shared) (σ : St) (H : Hp) (o i v : V) (ov iv u : Value) (Q : Hp → Prop), Inv X pins σ H s → RelV o ov → RelV i iv → RelV v u → t o i v H Q →
    wpAny (model X.prog X.w) X.A (setItem ov iv u) (fun _ s' => ∃ H', Inv X pins σ H' s' ∧ Q H') X.xe s
/-- a op= b, by values -/
abbrev TIp := V → V → Hp → VK → Prop
def PIp (X : Cx) (op : Operator) (t : TIp) : Prop :=
  ∀ (pins : List (Addr × Obj)) (s : Shared) (σ : St) (H : Hp) (x y : V) (v u : Value) (Q : VK), Inv X pins σ H s → RelV x v → RelV y u → t x y H Q →
    wpAny (model X.prog X.w) X.A (inplaceOp op v u) (EP X pins σ Q) X.xe s
section
variable {X : Cx} {pos : Pos}
def gName (i : Nat) : TG := fun v σ H Q => Q (σ.set i (some v)) H
theorem pg_name {i : Nat} {x : Str} (hN : X.N.Nodup) (hi : X.N[i]? = some x) (hx : Loc X.env.scope x) (hf : X.fn x = true ∨ X.env.scope.names.lookup x = some .local := by first | exact .inl rfl | exact .inr rfl | assumption) : PG X (.Name x pos) (gName i) := by
  intro pins s σ H v u Q I r h
  exact wpAny_assign_Name (store_ok I hN hi hx r (fun s' I' => ⟨_, H, I', h⟩) hf)
def gNil : TGs := fun vs σ H Q => vs = [] ∧ Q σ H
def gCons (t : TG) (u : TGs) : TGs := fun vs σ H Q => ∃ v r, vs = v :: r ∧ t v σ H fun σ' H' => u r σ' H' Q
/-- (a, b, ..) = a tuple of that length -/
def gTup (K : PySem.W.Frag) (n : Nat) (t : TGs) : TG := fun v σ H Q => ∃ a xs, v = .ref a ∧ SqT K H a xs ∧ xs.length = n ∧ t xs σ H Q
/-- o[i] = .. -/
def gSub (to ti : TE) (t : TSet) : TG := fun v σ H Q => to σ H fun o H1 => ti σ H1 fun i H2 => t o i v H2 fun H3 => Q σ H3
/-- target = value -/
def tAsg (te : TE) (g : TG) : TS := fun D σ H => te σ H fun x H1 => g x σ H1 D.nx
/-- name = value -/
theorem ps_set {i : Nat} {x : Str} {e : Expr} {te : TE} {pos' : Pos} (hN : X.N.Nodup) (hi : X.N[i]? = some x) (hx : Loc X.env.scope x) (he : PE X e te) (hs : swapsWith e (some (.Name x pos')) pos.line X.env = pure false := by rfl) (hf : X.fn x = true ∨ X.env.scope.names.lookup x = some .local := by first | exact .inl rfl | exact .inr rfl | assumption) :
    PS X (.Assign [.Name x pos'] e pos) (tAsg te (gName i)) := by
  intro pins s σ H D I h
  refine wpAny_Assign_Name (thn (he pins s σ H _ I h) fun v s1 ⟨y, H1, I1, r1, q1⟩ => ?_) hs
  exact store_ok I1 hN hi hx r1 (fun s2 I2 => ⟨_, H1, I2, q1⟩) hf
/-- a, b = x, y with plain local names: stored from the right; the pair itself is not tracked (the opening rows as in PyProof/Rows/TupAssign.lean:23) -/
def tPar (i j : Nat) (ta : TA) : TS := fun D σ H => ta σ H fun vs H1 => ∃ v w, vs = [v, w] ∧ D.nx ((σ.set i (some v)).set j (some w)) H1
/-- name op= e -/
def tAug (i : Nat) (te : TE) (ti : TIp) : TS := fun D σ H => ∃ x, σ[i]? = some (some x) ∧ te σ H fun y H1 => ti x y H1 fun z H2 => D.nx (σ.set i (some z)) H2
/-- o[i] op= e -/
def tAugS (to ti te : TE) (tget : V → V → Hp → VK → Prop) (tip : TIp) (tset : TSet) : TS := fun D σ H => to σ H fun o H1 => ti σ H1 fun i H2 => tget o i H2 fun x H3 => te σ H3 fun y H4 => tip x y H4 fun z H5 => tset o i z H5 fun H6 => D.nx σ H6
/-- o[i], by values -/
def PGet (X : Cx) (t : V → V → Hp → VK → Prop) : Prop :=
  ∀ (pins : List (Addr × Obj)) (s : Shared) (σ : St) (H : Hp) (o i : V) (ov iv : Value) (Q : VK), Inv X pins σ H s → RelV o ov → RelV i iv → t o i H Q →
    wpAny (model X.prog X.w) X.A (getItem ov iv) (EP X pins σ Q) X.xe s
/-- ints -/
def ipI (f : Int → Int → Int) : TIp := fun x y H Q => ∃ i j, x = .int i ∧ y = .int j ∧ Q (.int (f i j)) H
end

/-! ### while -/
section
variable {X : Cx} {pos : Pos}
/-- the invariant W with its measure -/
def tWhile (c : TT) (tb : TS) : TS := fun D σ H => ∃ W : Nat → St → Hp → Prop, (∃ m, W m σ H) ∧ ∀ m σ H, W m σ H →
  c σ H fun b H1 => if b = true then ∃ N : St → Hp → Prop, (∀ σ' H', N σ' H' → ∃ m', m' < m ∧ W m' σ' H') ∧ tb { D with nx := N, ct := N, bk := D.nx } σ H1 else D.nx σ H1
theorem ps_while {c : Expr} {body : List Stmt} {tc : TT} {tb : TS} (hp : PassesOwn (model X.prog X.w) X.A X.env X.xe) (hc : PT X c tc) (hb : PSs X body tb) : PS X (.While c body [] pos) (tWhile tc tb) := by
  intro pins s σ H D I h
  obtain ⟨W, ⟨m0, w0⟩, turn⟩ := h
  refine wpAny_While (codeAny_whileLoop (fun n s' => ∃ σ' H', Inv X pins σ' H' s' ∧ W n σ' H') ?_ m0 ⟨σ, H, I, w0⟩)
  rintro n s1 ⟨σ1, H1, I1, w1⟩
  refine wpAny_passesOwn hp (thn (hc pins s1 σ1 H1 _ I1 (turn n σ1 H1 w1)) fun b s2 ⟨H2, I2, q2⟩ => ?_)
  cases b with
  | true =>
    obtain ⟨N, hN, q2⟩ := q2
    rw [if_pos rfl]
    refine wpAny_passesOwn hp (thn (hb pins s2 σ1 H2 _ I2 q2) fun f s3 q3 => ?_)
    cases f with
    | next =>
      obtain ⟨σ3, H3, I3, n3⟩ := q3
      obtain ⟨m', hm, w3⟩ := hN σ3 H3 n3
      exact ⟨m', hm, σ3, H3, I3, w3⟩
    | cont =>
      obtain ⟨σ3, H3, I3, n3⟩ := q3
      obtain ⟨m', hm, w3⟩ := hN σ3 H3 n3
      exact ⟨m', hm, σ3, H3, I3, w3⟩
    | brk => exact q3
    | ret v => exact q3
  | false =>
    rw [if_neg Bool.false_ne_true]
    exact wpAny_execs_nil ⟨σ1, H2, I2, q2⟩
end

/-! ### what a loop or a comprehension walks -/
/-- at turn i: it yields x (the heap may grow), or it stops -/
structure It where
  go : Nat → Hp → Prop
  yld : Nat → Hp → V → Hp → Prop
  stop : Nat → Hp → Prop
/-- the iterator's own objects may turn: they are not the frame's, not pinned, younger than the entry (or a comprehension's own) -/
def FpOk (X : Cx) (pins : List (Addr × Obj)) (H : Hp) (b : Addr) : Prop :=
  H b = none ∧ b ≠ X.env.locals ∧ b ∉ X.fs ∧ (b ∈ X.ex ∨ X.s₀.heap.objs.size ≤ b) ∧ (∀ x c, X.env.cells.lookup x = some c → c ≠ b) ∧ ∀ p ∈ X.pn ++ pins, p.1 ≠ b
theorem Inv.fpOk {X : Cx} {pins : List (Addr × Obj)} {σ : St} {H H' : Hp} {s : Shared} {b : Addr} (I : Inv X pins σ H s) (hb : s.heap.objs.size ≤ b) (hn : H' b = none) : FpOk X pins H' b := by
  refine ⟨hn, Nat.ne_of_gt (Nat.lt_of_lt_of_le I.lt hb), I.nofs hb, .inr (Nat.le_trans I.sz hb), fun x c e z => ?_, fun p hp z => ?_⟩
  · obtain ⟨v, q⟩ := I.cell x c e
    exact absurd (Nat.lt_of_lt_of_le q.lt (by rw [z]; exact hb)) (Nat.lt_irrefl _)
  · exact absurd (Nat.lt_of_lt_of_le (Heap.lt_size (I.pin p hp).1) (by rw [z]; exact hb)) (Nat.lt_irrefl _)
structure Turn (P : Program) (w : World) (K : PySem.W.Frag) (tg : Expr) (J : It) (fp : List Addr) (it : Addr) (tn : Nat → Heap → Prop) : Prop where
  mem : it ∈ fp
  obj : ∀ i h, tn i h → ∀ b ∈ fp, ∃ o, h.get? b = some o ∧ ∀ v, o.data ≠ .cell v
  keep : ∀ i h h', tn i h → (∀ b ∈ fp, ∀ o, h.get? b = some o → h'.get? b = some o) → tn i h'
  item : ∀ (X : Cx), X.prog = P → X.w = w → X.K = K → X.calm = true → ∀ (i : Nat) (pins : List (Addr × Obj)) (s : Shared) (σ : St) (H : Hp) (E : Value → Shared → Prop), Inv X pins σ H s → (∀ b ∈ fp, FpOk X pins H b) → tn i s.heap → J.go i H →
    wpAny (model P w) X.A (pyNext (.ref it)) (fun r s1 => ∃ u, r = some u ∧
      wpAny (model P w) X.A (letOwnedTupleGo tg (.ref it) u) (fun _ s2 => ∃ x H', Inv X pins σ H' s2 ∧ RelV x u ∧ J.yld i H x H' ∧ tn (i + 1) s2.heap ∧ ∀ b ∈ fp, H' b = none) E s1) E s
  done : ∀ (X : Cx), X.prog = P → X.w = w → X.K = K → X.calm = true → ∀ (i : Nat) (pins : List (Addr × Obj)) (s : Shared) (σ : St) (H : Hp) (E : Value → Shared → Prop), Inv X pins σ H s → (∀ b ∈ fp, FpOk X pins H b) → tn i s.heap → J.stop i H →
    wpAny (model P w) X.A (pyNext (.ref it)) (fun r s1 => r = none ∧ Inv X pins σ H s1) E s
  self : ∀ (A : Around) (i : Nat) (s : Shared) (Q : Value → Shared → Prop) (E : Value → Shared → Prop), tn i s.heap → Q (.ref it) s → wpAny (model P w) A (pyIter (.ref it)) Q E s
abbrev TI := St → Hp → (It → Hp → Prop) → Prop
/-- an iterator has come -/
def PIE (X : Cx) (pins : List (Addr × Obj)) (σ : St) (tg : Expr) (R : It → Hp → Prop) (itv : Value) (s2 : Shared) : Prop :=
  ∃ (it : Addr) (fp : List Addr) (tn : Nat → Heap → Prop) (J : It) (H' : Hp), itv = .ref it ∧ Inv X pins σ H' s2 ∧ Turn X.prog X.w X.K tg J fp it tn ∧ tn 0 s2.heap ∧ (∀ b ∈ fp, FpOk X pins H' b) ∧ R J H'
def PI (X : Cx) (tg iter : Expr) (wi : TI) : Prop :=
  ∀ (pins : List (Addr × Obj)) (s : Shared) (σ : St) (H : Hp) (R : It → Hp → Prop), Inv X pins σ H s → wi σ H R →
    wpAny (model X.prog X.w) X.A (eval iter X.env) (fun v s1 => wpAny (model X.prog X.w) X.A (pyIter v) (PIE X pins σ tg R) X.xe s1) X.xe s

/-- the step ahead of the store is nothing for an iterator that keeps no tuple -/
theorem go_of {M : Model} {A : Around} {E : Value → Shared → Prop} {s : Shared} {tg : Expr} {it : Addr} {u : Value} {o : Obj} {n : String} {vs : Array Value} {Q : Unit → Shared → Prop} (ho : s.heap.get? it = some o) (hc : o.cls = .type n) (hd : o.data = .fields vs)
    (hn : ["enumerate", "zip", "dict_itemiterator", "dict_reverseitemiterator", "odict_iterator", "itertools.zip_longest", "itertools.pairwise"].contains n = false) (hQ : Q () s) : wpAny M A (letOwnedTupleGo tg (.ref it) u) Q E s := by
  unfold letOwnedTupleGo
  cases tg <;> first
    | exact wpAny_pure hQ
    | (cases u <;> first
        | exact wpAny_pure hQ
        | (refine wpAny_bind (wpAny_load ho ?_)
           rw [hc, hd]
           show wpAny M A (if (["enumerate", "zip", "dict_itemiterator", "dict_reverseitemiterator", "odict_iterator", "itertools.zip_longest", "itertools.pairwise"].contains n && vs[0]? == some (rawInt _)) = true then _ else _) Q E s
           rw [if_neg (by intro h; rw [hn, Bool.false_and] at h; cases h)]
           exact wpAny_pure hQ))

/-- the list at a, as it stands at each turn (a loop may append to it) -/
def Itl (K : PySem.W.Frag) (a : Addr) : It :=
  ⟨fun i H => ∃ xs x, SqL K H a xs ∧ xs[i]? = some x, fun i H x H' => H' = H ∧ ∀ xs, SqL K H a xs → xs[i]? = some x, fun i H => ∃ xs, SqL K H a xs ∧ xs.length ≤ i⟩
def Itt (K : PySem.W.Frag) (a : Addr) : It :=
  ⟨fun i H => ∃ xs x, SqT K H a xs ∧ xs[i]? = some x, fun i H x H' => H' = H ∧ ∀ xs, SqT K H a xs → xs[i]? = some x, fun i H => ∃ xs, SqT K H a xs ∧ xs.length ≤ i⟩
/-- lo, lo + 1, .. (n of them) -/
def Itr (lo : Int) (n : Nat) : It := ⟨fun i _ => i < n, fun i H x H' => H' = H ∧ x = .int (lo + i), fun i _ => n ≤ i⟩
theorem turn_range {P : Program} {w : World} {K : PySem.W.Frag} {tg : Expr} (it : Addr) (lo : Int) (n : Nat) : Turn P w K tg (Itr lo n) [it] it (fun i h => IsRangeIter h it (lo + (i : Nat) * 1) ((n : Int) - (i : Nat)) 1) where
  mem := by simp
  obj := fun i h st b hb => by
    have e : b = it := by simpa using hb
    subst e
    exact ⟨_, st, fun v z => by
      have z' : Data.fields _ = Data.cell v := z
      cases z'⟩
  keep := fun i h h' st k => k it (by simp) _ st
  item := by
    intro X hP hw hK hc i pins s σ H E I hf st hg
    subst hP hw hK
    obtain ⟨f0, f1, f2, f3, f4, f5⟩ := hf it (by simp)
    have W := Walks.range (prog := X.prog) (w := X.w) (I.ok.hd hc) it lo 1 n
    refine W.item i s _ _ hg st fun v h' tk hv st' kk => ?_
    obtain ⟨t, rfl⟩ := hv
    have I1 : Inv X pins σ H { s with heap := h', toks := tk } := I.turned (fun b o hb e => kk b o (by simpa using hb) e) f0 f1 f3 f4 f5
    refine ⟨_, rfl, go_of (s := { s with heap := h', toks := tk }) (n := "range_iterator") st' rfl rfl (by decide) ⟨.int (lo + i), H, I1, ⟨t, ?_⟩, ⟨rfl, rfl⟩, st', fun b hb => (hf b hb).1⟩⟩
    rw [Int.mul_one]
  done := by
    intro X hP hw hK hc i pins s σ H E I hf st hg
    subst hP hw hK
    obtain ⟨f0, f1, f2, f3, f4, f5⟩ := hf it (by simp)
    exact wpAny_pyNext_range_end (I.ok.hd hc) st (by have : n ≤ i := hg; omega) fun h' eb => ⟨rfl, I.turned (t' := s.toks) (fun b o hb e => eb b o hb e) f0 f1 f3 f4 f5⟩
  self := fun _ _ _ _ _ st h => wpAny_pyIter_rangeiter st h
end L2

namespace L2
open PySem PySem.Spec PyProof.Rows
section
variable {X : Cx} {tg : Expr}
def iList (K : PySem.W.Frag) (tl : TE) : TI := fun σ H R => tl σ H fun x H1 => ∃ a, x = .ref a ∧ (∃ xs, SqL K H1 a xs) ∧ R (Itl K a) H1
def iTup (K : PySem.W.Frag) (tl : TE) : TI := fun σ H R => tl σ H fun x H1 => ∃ a, x = .ref a ∧ (∃ xs, SqT K H1 a xs) ∧ R (Itt K a) H1
/-- a range object just made, walked -/
theorem range_it {pins : List (Addr × Obj)} {σ : St} {H : Hp} {s : Shared} {R : It → Hp → Prop} {E : Value → Shared → Prop} {lo hi : Int} {t u v : Tok} {tk : Nat} (I : Inv X pins σ H s) (h1 : -(2 ^ 62) ≤ lo) (h2 : lo < 2 ^ 62) (h3 : -(2 ^ 62) ≤ hi) (h4 : hi < 2 ^ 62)
    (q : R (Itr lo (hi - lo).toNat) H) : wpAny (model X.prog X.w) X.A (pyIter (.ref s.heap.objs.size)) (PIE X pins σ tg R) E { s with heap := s.heap.push { cls := .type "range", data := .fields #[.int lo t, .int hi u, .int 1 v] }, toks := tk } := by
  refine wpAny_pyIter_range (IsRange.new ..) (small_one h1 h2 h3 h4) ?_
  have I1 : Inv X pins σ H { s with heap := s.heap.push { cls := .type "range", data := .fields #[.int lo t, .int hi u, .int 1 v] }, toks := tk } := I.kept fun b o e => Heap.get?_push_of_some _ e
  refine ⟨(s.heap.push { cls := .type "range", data := .fields #[.int lo t, .int hi u, .int 1 v] }).objs.size, [(s.heap.push { cls := .type "range", data := .fields #[.int lo t, .int hi u, .int 1 v] }).objs.size], _, _, H, rfl,
    I1.kept (t' := tk) fun b o e => Heap.get?_push_of_some _ e, turn_range _ lo (hi - lo).toNat, ?_, fun b hb => ?_, q⟩
  · have e1 : lo + ((0 : Nat) : Int) * 1 = lo := by simp
    have e2 : (((hi - lo).toNat : Nat) : Int) - ((0 : Nat) : Int) = Builtin.Range.rangeSize lo hi 1 := by rw [rangeSize_one]; split <;> omega
    show IsRangeIter _ _ (lo + ((0 : Nat) : Int) * 1) ((((hi - lo).toNat : Nat) : Int) - ((0 : Nat) : Int)) 1
    rw [e1, e2]
    exact Heap.get?_push_size _ rfl
  · have e : b = (s.heap.push { cls := .type "range", data := .fields #[.int lo t, .int hi u, .int 1 v] }).objs.size := by simpa using hb
    subst e
    exact I1.fpOk (Nat.le_refl _) (I1.hok.fresh (Nat.le_refl _))
def iRng1 (ta : TA) : TI := fun σ H R => ta σ H fun vs H1 => ∃ j : Int, vs = [.int j] ∧ -(2 ^ 62) ≤ j ∧ j < 2 ^ 62 ∧ R (Itr 0 j.toNat) H1
def iRng2 (ta : TA) : TI := fun σ H R => ta σ H fun vs H1 => ∃ i j : Int, vs = [.int i, .int j] ∧ (-(2 ^ 62) ≤ i ∧ i < 2 ^ 62 ∧ -(2 ^ 62) ≤ j ∧ j < 2 ^ 62) ∧ R (Itr i (j - i).toNat) H1
theorem pi_range1 {a : Expr} {ta : TA} {p pos : Pos} (hg : Gl X "range") (hm : X.mg "range" = none) (ha : PA X [a] ta) (hs : starEach [a] X.env = [(false, eval a X.env)] := by rfl) : PI X tg (.Call (.Name "range" p) [a] [] pos) (iRng1 ta) := by
  intro pins s σ H R I h
  refine Call_ (ld_blt I hg hm boot_range (PyProof.Rows.callWith_type1 (thn (ha pos pins s σ H _ I h) fun us s1 ⟨vs, H1, I1, r1, q1⟩ => ?_) hs rfl))
  obtain ⟨j, e, q1, q2, q⟩ := q1
  subst e
  cases r1 with
  | cons r rr =>
    cases rr
    obtain ⟨t, rfl⟩ := r
    exact call_range_1 (range_it I1 (by omega) (by omega) q1 q2 (by simpa using q))
/-! ### for -/
/-- W: the invariant by the turn and a measure; N: what the body is to reach -/
def tFor (wi : TI) (g : TG) (tb : TS) : TS := fun D σ H => wi σ H fun J H1 => ∃ W : Nat → Nat → St → Hp → Prop, (∃ m, W 0 m σ H1) ∧ ∀ i m σ H, W i m σ H →
  (J.stop i H ∧ D.nx σ H) ∨ (J.go i H ∧ ∃ N : St → Hp → Prop, (∀ σ' H', N σ' H' → ∃ m', m' < m ∧ W (i + 1) m' σ' H') ∧ ∀ x H', J.yld i H x H' → g x σ H' fun σ2 H2 => tb { D with nx := N, ct := N, bk := D.nx } σ2 H2)
/-- the records at fp as they stand -/
def pinsAt (fp : List Addr) (h : Heap) : List (Addr × Obj) := fp.filterMap fun b => (h.get? b).map fun o => (b, o)
theorem mem_pinsAt {fp : List Addr} {h : Heap} {b : Addr} {o : Obj} (hb : b ∈ fp) (e : h.get? b = some o) : (b, o) ∈ pinsAt fp h := List.mem_filterMap.mpr ⟨b, hb, by rw [e]; rfl⟩
theorem of_pinsAt {fp : List Addr} {h : Heap} {p : Addr × Obj} (hp : p ∈ pinsAt fp h) : p.1 ∈ fp ∧ h.get? p.1 = some p.2 := by
  obtain ⟨b, hb, e⟩ := List.mem_filterMap.mp hp
  cases q : h.get? b with
  | none => rw [q] at e; cases e
  | some o =>
    rw [q] at e
    have e' : (b, o) = p := Option.some.inj e
    subst e'
    exact ⟨hb, q⟩
theorem Inv.pinned {pins : List (Addr × Obj)} {σ : St} {H : Hp} {s : Shared} {fp : List Addr} (I : Inv X pins σ H s) (hf : ∀ b ∈ fp, FpOk X pins H b) (ho : ∀ b ∈ fp, ∃ o, s.heap.get? b = some o ∧ ∀ v, o.data ≠ .cell v) : Inv X (pins ++ pinsAt fp s.heap) σ H s :=
  I.pins_of fun p hp => (List.mem_append.mp hp).elim (fun z => I.pin p (List.mem_append_right _ z)) fun z => by
    obtain ⟨hb, e⟩ := of_pinsAt z
    obtain ⟨f0, f1, f2, _⟩ := hf p.1 hb
    obtain ⟨o, e', d⟩ := ho p.1 hb
    rw [e] at e'; cases e'
    exact ⟨e, f0, f1, f2, d⟩
theorem Inv.unpinned {pins pl : List (Addr × Obj)} {σ : St} {H : Hp} {s : Shared} (I : Inv X (pins ++ pl) σ H s) : Inv X pins σ H s := I.pins_of fun p hp => I.pin p (List.mem_append_right _ (List.mem_append_left _ hp))
theorem ps_for {iter : Expr} {body : List Stmt} {wi : TI} {g : TG} {tb : TS} {pos : Pos} (hp : PassesOwn (model X.prog X.w) X.A X.env X.xe) (hc : X.calm = true) (hi : PI X tg iter wi) (hg : PG X tg g) (hb : PSs X body tb)
    (hs : ∀ x, foldedSetIterable iter X.env x = pure x := by intro _; rfl) : PS X (.For tg iter body [] pos) (tFor wi g tb) := by
  intro pins s σ H D I h
  refine wpAny_For (thn (hi pins s σ H _ I h) fun v s1 h1 => thn h1 fun itv s2 h2 => ?_) hs
  obtain ⟨it, fp, tn, J, H2, e, I2, T, st2, f2, W, ⟨m0, w0⟩, turn⟩ := h2
  subst e
  -- what stays true of the iterator's objects through the loop
  have stat : ∀ {H' : Hp}, (∀ b ∈ fp, H' b = none) → ∀ b ∈ fp, FpOk X pins H' b := fun hn b hb => ⟨hn b hb, (f2 b hb).2⟩
  refine codeAny_forLoop_any (fun n s' => ∃ i σ' H', Inv X pins σ' H' s' ∧ tn i s'.heap ∧ (∀ b ∈ fp, H' b = none) ∧ W i n σ' H') ?_ m0 ⟨0, σ, H2, I2, st2, fun b hb => (f2 b hb).1, w0⟩
  rintro n s3 ⟨i, σ3, H3, I3, st3, fr3, w3⟩
  rcases turn i n σ3 H3 w3 with ⟨stop, qn⟩ | ⟨go, N, hN, step⟩
  · refine wpAny_passesOwn hp (thn (T.done X rfl rfl rfl hc i pins s3 σ3 H3 X.xe I3 (stat fr3) st3 stop) fun r s4 ⟨hr, I4⟩ => ?_)
    subst hr
    exact wpAny_execs_nil ⟨σ3, H3, I4, qn⟩
  · refine wpAny_passesOwn hp (thn (T.item X rfl rfl rfl hc i pins s3 σ3 H3 X.xe I3 (stat fr3) st3 go) fun r s4 ⟨u, hr, h4⟩ => ?_)
    subst hr
    refine wpAny_passesOwn hp (thn h4 fun _ s5 ⟨x, H5, I5, r5, y5, st5, fr5⟩ => ?_)
    have I5' := I5.pinned (stat fr5) (T.obj _ _ st5)
    refine wpAny_passesOwn hp (thn (hg _ s5 σ3 H5 x u _ I5' r5 (step x H5 y5)) fun _ s6 ⟨σ6, H6, I6, q6⟩ => ?_)
    refine wpAny_passesOwn hp (thn (hb _ s6 σ6 H6 _ I6 q6) fun f s7 q7 => ?_)
    have again : ∀ {σ7 : St} {H7 : Hp}, Inv X (pins ++ pinsAt fp s5.heap) σ7 H7 s7 → N σ7 H7 → ∃ m, m < n ∧ ∃ i σ' H', Inv X pins σ' H' s7 ∧ tn i s7.heap ∧ (∀ b ∈ fp, H' b = none) ∧ W i m σ' H' := fun {σ7 H7} I7 n7 => by
      obtain ⟨m', hm, w7⟩ := hN σ7 H7 n7
      refine ⟨m', hm, i + 1, σ7, H7, I7.unpinned, T.keep _ _ _ st5 fun b hb o e => (I7.pin (b, o) (List.mem_append_right _ (List.mem_append_right _ (mem_pinsAt hb e)))).1, fun b hb => ?_, w7⟩
      obtain ⟨o, e, d⟩ := T.obj _ _ st5 b hb
      exact (I7.pin (b, o) (List.mem_append_right _ (List.mem_append_right _ (mem_pinsAt hb e)))).2.1
    cases f with
    | next => obtain ⟨σ7, H7, I7, n7⟩ := q7; exact again I7 n7
    | cont => obtain ⟨σ7, H7, I7, n7⟩ := q7; exact again I7 n7
    | brk => obtain ⟨σ7, H7, I7, q7⟩ := q7; exact ⟨σ7, H7, I7.unpinned, q7⟩
    | ret v => obtain ⟨x7, σ7, H7, I7, r7, q7⟩ := q7; exact ⟨x7, σ7, H7, I7.unpinned, r7, q7⟩
end

theorem for_range {lo : Int} {n : Nat} {g : TG} {tb : TS} {D : Ends} {σ : St} {H : Hp} (Pv : Nat → St → Hp → Prop) (h0 : Pv 0 σ H)
    (hs : ∀ i σ H, i < n → Pv i σ H → g (.int (lo + i)) σ H fun σ2 H2 => tb { D with nx := Pv (i + 1), ct := Pv (i + 1), bk := D.nx } σ2 H2) (hd : ∀ σ H, Pv n σ H → D.nx σ H) :
    ∃ W : Nat → Nat → St → Hp → Prop, (∃ m, W 0 m σ H) ∧ ∀ i m σ H, W i m σ H →
      ((Itr lo n).stop i H ∧ D.nx σ H) ∨ ((Itr lo n).go i H ∧ ∃ N : St → Hp → Prop, (∀ σ' H', N σ' H' → ∃ m', m' < m ∧ W (i + 1) m' σ' H') ∧ ∀ x H', (Itr lo n).yld i H x H' → g x σ H' fun σ2 H2 => tb { D with nx := N, ct := N, bk := D.nx } σ2 H2) := by
  refine ⟨fun i m σ H => m = n - i ∧ i ≤ n ∧ Pv i σ H, ⟨n, by simp, Nat.zero_le _, h0⟩, ?_⟩
  rintro i m σ H ⟨rfl, hi, p⟩
  by_cases hlt : i < n
  · refine .inr ⟨hlt, Pv (i + 1), fun σ' H' p' => ⟨n - (i + 1), by omega, rfl, hlt, p'⟩, fun x H' y => ?_⟩
    obtain ⟨e, y⟩ := y
    subst e y
    exact hs i σ _ hlt p
  · have e : i = n := by omega
    subst e
    exact .inl ⟨Nat.le_refl _, hd σ H p⟩
end L2

namespace L2
open PySem PySem.Spec PyProof.Rows

abbrev R2 := V → V → Hp → VK → Prop
/-- a two-place operation on values: f is binaryOp op, inplaceOp op or compareOp op -/
def OpR (X : Cx) (f : Value → Value → Sem Value) (r : R2) : Prop :=
  ∀ (pins : List (Addr × Obj)) (s : Shared) (σ : St) (H : Hp) (x y : V) (v u : Value) (Q : VK), Inv X pins σ H s → RelV x v → RelV y u → r x y H Q →
    wpAny (model X.prog X.w) X.A (f v u) (EP X pins σ Q) X.xe s
/-- a one-place operation -/
def UnR (X : Cx) (f : Value → Sem Value) (r : V → Hp → VK → Prop) : Prop :=
  ∀ (pins : List (Addr × Obj)) (s : Shared) (σ : St) (H : Hp) (x : V) (v : Value) (Q : VK), Inv X pins σ H s → RelV x v → r x H Q →
    wpAny (model X.prog X.w) X.A (f v) (EP X pins σ Q) X.xe s
/-- a call of a value that is known (a builtin, a type) with values -/
def CallR (X : Cx) (f : Value) (r : List V → Hp → VK → Prop) : Prop :=
  ∀ (pins : List (Addr × Obj)) (s : Shared) (σ : St) (H : Hp) (xs : List V) (us : List Value) (Q : VK), Inv X pins σ H s → Vals xs us → r xs H Q →
    wpAny (model X.prog X.w) X.A (call f us) (EP X pins σ Q) X.xe s
/-- a value's truth -/
def TruR (X : Cx) (r : V → Hp → (Bool → Hp → Prop) → Prop) : Prop :=
  ∀ (pins : List (Addr × Obj)) (s : Shared) (σ : St) (H : Hp) (x : V) (v : Value) (Q : Bool → Hp → Prop), Inv X pins σ H s → RelV x v → r x H Q →
    wpAny (model X.prog X.w) X.A (truthy v) (TP X pins σ Q) X.xe s

def tOp (r : R2) (ta tb : TE) : TE := fun σ H Q => ta σ H fun x H1 => tb σ H1 fun y H2 => r x y H2 Q
def tUn (r : V → Hp → VK → Prop) (ta : TE) : TE := fun σ H Q => ta σ H fun x H1 => r x H1 Q
/-- ints in, under C, and a value out -/
def rI (C : Int → Int → Prop) (g : Int → Int → V) : R2 := fun x y H Q => ∃ i j, x = .int i ∧ y = .int j ∧ C i j ∧ Q (g i j) H
def rI0 (g : Int → Int → V) : R2 := fun x y H Q => ∃ i j, x = .int i ∧ y = .int j ∧ Q (g i j) H
def rU (g : Int → V) : V → Hp → VK → Prop := fun x H Q => ∃ i, x = .int i ∧ Q (g i) H

section
variable {X : Cx} {a b c : Expr} {ta tb tc : TE} {pos : Pos}

theorem binT (ha : PE X a ta) (hb : PE X b tb) {pins : List (Addr × Obj)} {s : Shared} {σ : St} {H : Hp} {R : V → V → Hp → Prop} (I : Inv X pins σ H s)
    (h : ta σ H fun x H1 => tb σ H1 fun y H2 => R x y H2) {Q : Value → Shared → Prop} {f : Value → Value → Sem Value}
    (hf : ∀ v u s2 x y H2, Inv X pins σ H2 s2 → RelV x v → RelV y u → R x y H2 → wpAny (model X.prog X.w) X.A (f v u) Q X.xe s2) :
    wpAny (model X.prog X.w) X.A (eval a X.env) (fun v s₁ => wpAny (model X.prog X.w) X.A (eval b X.env) (fun u s₂ => wpAny (model X.prog X.w) X.A (f v u) Q X.xe s₂) X.xe s₁) X.xe s := by
  refine thn (ha pins s σ H _ I h) fun v s1 ⟨x, H1, I1, r1, q1⟩ => ?_
  refine thn (hb pins s1 σ H1 _ I1 q1) fun u s2 ⟨y, H2, I2, r2, q2⟩ => ?_
  exact hf v u s2 x y H2 I2 r1 r2 q2

theorem pe_op {op : Operator} {r : R2} (ho : OpR X (binaryOp op) r) (ha : PE X a ta) (hb : PE X b tb) : PE X (.BinOp a op b pos) (tOp r ta tb) := by
  intro pins s σ H Q I h
  exact wpAny_BinOp (binT ha hb I h fun v u s2 x y H2 I2 rx ry q => ho pins s2 σ H2 x y v u Q I2 rx ry q)
theorem pe_un {op : UnaryOp} {r : V → Hp → VK → Prop} (ho : UnR X (unaryOp op) r) (ha : PE X a ta) : PE X (.UnaryOp op a pos) (tUn r ta) := by
  intro pins s σ H Q I h
  exact UnaryOp_ (thn (ha pins s σ H _ I h) fun v s1 ⟨x, H1, I1, r1, q1⟩ => ho pins s1 σ H1 x v Q I1 r1 q1)
/-! ### ints -/
theorem opI {f : Value → Value → Sem Value} {C : Int → Int → Prop} {g : Int → Int → Int}
    (rule : ∀ (i j : Int) (t u : Tok) (s : Shared) (Q : Value → Shared → Prop) (E : Value → Shared → Prop), C i j → Q (.int (g i j) s.toks) { s with toks := s.toks + 1 } → wpAny (model X.prog X.w) X.A (f (.int i t) (.int j u)) Q E s) :
    OpR X f (rI C fun i j => .int (g i j)) := by
  intro pins s σ H x y v u Q I rx ry h
  obtain ⟨i, j, rfl, rfl, hc, q⟩ := h
  obtain ⟨t, rfl⟩ := rx
  obtain ⟨t', rfl⟩ := ry
  exact rule i j t t' s _ _ hc ⟨.int (g i j), H, I.tok _, ⟨_, rfl⟩, q⟩
theorem opI0 {f : Value → Value → Sem Value} {g : Int → Int → Int}
    (rule : ∀ (i j : Int) (t u : Tok) (s : Shared) (Q : Value → Shared → Prop) (E : Value → Shared → Prop), Q (.int (g i j) s.toks) { s with toks := s.toks + 1 } → wpAny (model X.prog X.w) X.A (f (.int i t) (.int j u)) Q E s) :
    OpR X f (rI0 fun i j => .int (g i j)) := by
  intro pins s σ H x y v u Q I rx ry h
  obtain ⟨i, j, rfl, rfl, q⟩ := h
  obtain ⟨t, rfl⟩ := rx
  obtain ⟨t', rfl⟩ := ry
  exact rule i j t t' s _ _ ⟨.int (g i j), H, I.tok _, ⟨_, rfl⟩, q⟩
theorem opB0 {f : Value → Value → Sem Value} {g : Int → Int → Bool}
    (rule : ∀ (i j : Int) (t u : Tok) (s : Shared) (Q : Value → Shared → Prop) (E : Value → Shared → Prop), Q (.bool (g i j)) s → wpAny (model X.prog X.w) X.A (f (.int i t) (.int j u)) Q E s) :
    OpR X f (rI0 fun i j => .bl (g i j)) := by
  intro pins s σ H x y v u Q I rx ry h
  obtain ⟨i, j, rfl, rfl, q⟩ := h
  obtain ⟨t, rfl⟩ := rx
  obtain ⟨t', rfl⟩ := ry
  exact rule i j t t' s _ _ ⟨.bl (g i j), H, I, rfl, q⟩

def CDiv (i j : Int) : Prop := 0 < j ∧ j < 1073741824
def CDivN (i j : Int) : Prop := j ≠ 0 ∧ j.natAbs < 1073741824
def CPow (i j : Int) : Prop := 0 ≤ j ∧ j ≤ 1000000 ∧ i.natAbs < 2 ^ 64
def CMul (i j : Int) : Prop := (-(2 ^ 64) < i ∧ i < 2 ^ 64) ∨ (-(2 ^ 64) < j ∧ j < 2 ^ 64)
theorem CMul.ok {i j : Int} (h : CMul i j) : IntMulOk i j := by
  rcases h with ⟨h1, h2⟩ | ⟨h1, h2⟩
  · exact .of_left (intBits_le_64 h1 h2)
  · exact .of_right (intBits_le_64 h1 h2)
theorem op_add : OpR X (binaryOp .Add) (rI0 fun i j => .int (i + j)) := opI0 fun _ _ _ _ _ _ _ q => add_int q
theorem op_sub : OpR X (binaryOp .Sub) (rI0 fun i j => .int (i - j)) := opI0 fun _ _ _ _ _ _ _ q => sub_int q
theorem op_mul : OpR X (binaryOp .Mult) (rI CMul fun i j => .int (i * j)) := opI fun _ _ _ _ _ _ _ hc q => mul_int q hc.ok
/-- // by a positive divisor -/
theorem op_fdiv : OpR X (binaryOp .FloorDiv) (rI CDiv fun i j => .int (i / j)) := opI fun i j _ _ _ _ _ hc q => by
  have h1 : (0 : Int) < j := hc.1
  have h2 : j < 1073741824 := hc.2
  exact floordiv_int (by omega) (by rw [Int.fdiv_eq_ediv_of_nonneg i (by omega)]; exact q) (.inl (PyProof.noPylong_small (by omega)))
/-- % by a positive divisor of any size -/
theorem op_mod : OpR X (binaryOp .Mod) (rI (fun _ j => 0 < j) fun i j => .int (i % j)) := opI fun i j _ _ _ _ _ hc q => by
  have h1 : (0 : Int) < j := hc
  exact mod_int' (by omega) (by rw [Int.fmod_eq_emod_of_nonneg i (by omega)]; exact q)
theorem op_pow : OpR X (binaryOp .Pow) (rI CPow fun i j => .int (i ^ j.toNat)) := opI fun _ _ _ _ _ _ _ hc q => pow_int_small hc.1 hc.2.1 hc.2.2 q
theorem unI {f : Value → Sem Value} {g : Int → Int}
    (rule : ∀ (i : Int) (t : Tok) (s : Shared) (Q : Value → Shared → Prop) (E : Value → Shared → Prop), Q (.int (g i) s.toks) { s with toks := s.toks + 1 } → wpAny (model X.prog X.w) X.A (f (.int i t)) Q E s) :
    UnR X f (rU fun i => .int (g i)) := by
  intro pins s σ H x v Q I rx h
  obtain ⟨i, rfl, q⟩ := h
  obtain ⟨t, rfl⟩ := rx
  exact rule i t s _ _ ⟨.int (g i), H, I.tok _, ⟨_, rfl⟩, q⟩
theorem un_neg : UnR X (unaryOp .USub) (rU fun i => .int (-i)) := unI fun _ _ _ _ _ q => neg_int q
end

/-! ### comparisons -/
/-- the scalars that == tells apart as data does -/
def scal : V → V → Bool
  | .non, .non => true | .non, .int _ => true | .int _, .non => true | .non, .bl _ => true | .bl _, .non => true | .non, .str _ => true | .str _, .non => true
  | .int _, .int _ => true | .bl _, .bl _ => true | .str _, .str _ => true | .byt _, .byt _ => true
  | .int _, .str _ => true | .str _, .int _ => true | .bl _, .str _ => true | .str _, .bl _ => true
  | _, _ => false
def rEq : R2 := fun x y H Q => scal x y = true ∧ Q (.bl (decide (x = y))) H
def rNe : R2 := fun x y H Q => scal x y = true ∧ Q (.bl (!decide (x = y))) H

theorem dec_int {i j : Int} : decide (V.int i = V.int j) = (i == j) := by
  rw [Bool.eq_iff_iff]
  simp
theorem dec_bl {i j : Bool} : decide (V.bl i = V.bl j) = (i == j) := by
  rw [Bool.eq_iff_iff]
  simp
theorem dec_str {i j : Str} : decide (V.str i = V.str j) = (i == j) := by
  rw [Bool.eq_iff_iff]
  simp
theorem dec_byt {i j : Array UInt8} : decide (V.byt i = V.byt j) = (i.toList == j.toList) := by
  rw [Bool.eq_iff_iff]
  cases i
  cases j
  simp

section
variable {X : Cx} {a b c : Expr} {ta tb tc : TE} {pos : Pos}
theorem fin_bl {pins : List (Addr × Obj)} {σ : St} {H : Hp} {s : Shared} {Q : VK} {k k' : Bool} (I : Inv X pins σ H s) (q : Q (.bl k) H) (e : k = k') : EP X pins σ Q (.bool k') s := by
  subst e
  exact ⟨.bl k, H, I, rfl, q⟩
theorem op_eq : OpR X (compareOp .Eq) rEq := by
  intro pins s σ H x y v u Q I rx ry h
  obtain ⟨hs, q⟩ := h
  cases x with
  | non =>
    cases rx
    cases y with
    | non => cases ry; exact PySem.EqNone.eq_none_none (fin_bl I q (by simp))
    | bl j => cases ry; exact PySem.EqNone.eq_none_bool (fin_bl I q (by simp))
    | int j => obtain ⟨t', rfl⟩ := ry; exact PySem.EqNone.eq_none_int (fin_bl I q (by simp))
    | str j => obtain ⟨t', rfl⟩ := ry; exact PySem.EqNone.eq_none_str (fin_bl I q (by simp))
    | _ => exact absurd (show false = true from hs) Bool.false_ne_true
  | bl i =>
    cases rx
    cases y with
    | non => cases ry; exact PySem.EqNone.eq_bool_none (fin_bl I q (by simp))
    | bl j => cases ry; exact eq_bool (fin_bl I q dec_bl)
    | str j => obtain ⟨t', rfl⟩ := ry; exact PySem.EqMixed.eq_bool_str (fin_bl I q (by simp))
    | _ => exact absurd (show false = true from hs) Bool.false_ne_true
  | int i =>
    obtain ⟨t, rfl⟩ := rx
    cases y with
    | non => cases ry; exact PySem.EqNone.eq_int_none (fin_bl I q (by simp))
    | int j => obtain ⟨t', rfl⟩ := ry; exact eq_int (fin_bl I q dec_int)
    | str j => obtain ⟨t', rfl⟩ := ry; exact PySem.EqMixed.eq_int_str (fin_bl I q (by simp))
    | _ => exact absurd (show false = true from hs) Bool.false_ne_true
  | str i =>
    obtain ⟨t, rfl⟩ := rx
    cases y with
    | non => cases ry; exact PySem.EqNone.eq_str_none (fin_bl I q (by simp))
    | bl j => cases ry; exact PySem.EqMixed.eq_str_bool (fin_bl I q (by simp))
    | int j => obtain ⟨t', rfl⟩ := ry; exact PySem.EqMixed.eq_str_int (fin_bl I q (by simp))
    | str j => obtain ⟨t', rfl⟩ := ry; exact eq_str (fin_bl I q dec_str)
    | _ => exact absurd (show false = true from hs) Bool.false_ne_true
  | byt i =>
    obtain ⟨t, rfl⟩ := rx
    cases y with
    | byt j => obtain ⟨t', rfl⟩ := ry; exact PySem.W.eq_bytes (fin_bl I q dec_byt)
    | _ => exact absurd (show false = true from hs) Bool.false_ne_true
  | _ => cases y <;> exact absurd (show false = true from hs) Bool.false_ne_true
theorem op_ne : OpR X (compareOp .NotEq) rNe := by
  intro pins s σ H x y v u Q I rx ry h
  obtain ⟨hs, q⟩ := h
  cases x with
  | non =>
    cases rx
    cases y with
    | non => cases ry; exact PySem.EqNone.ne_none_none (fin_bl I q (by simp))
    | bl j => cases ry; exact PySem.EqNone.ne_none_bool (fin_bl I q (by simp))
    | int j => obtain ⟨t', rfl⟩ := ry; exact PySem.EqNone.ne_none_int (fin_bl I q (by simp))
    | str j => obtain ⟨t', rfl⟩ := ry; exact PySem.EqNone.ne_none_str (fin_bl I q (by simp))
    | _ => exact absurd (show false = true from hs) Bool.false_ne_true
  | bl i =>
    cases rx
    cases y with
    | non => cases ry; exact PySem.EqNone.ne_bool_none (fin_bl I q (by simp))
    | bl j => cases ry; exact ne_bool (fin_bl I q (congrArg not dec_bl))
    | str j => obtain ⟨t', rfl⟩ := ry; exact PySem.EqMixed.ne_bool_str (fin_bl I q (by simp))
    | _ => exact absurd (show false = true from hs) Bool.false_ne_true
  | int i =>
    obtain ⟨t, rfl⟩ := rx
    cases y with
    | non => cases ry; exact PySem.EqNone.ne_int_none (fin_bl I q (by simp))
    | int j => obtain ⟨t', rfl⟩ := ry; exact ne_int (fin_bl I q (congrArg not dec_int))
    | str j => obtain ⟨t', rfl⟩ := ry; exact PySem.EqMixed.ne_int_str (fin_bl I q (by simp))
    | _ => exact absurd (show false = true from hs) Bool.false_ne_true
  | str i =>
    obtain ⟨t, rfl⟩ := rx
    cases y with
    | non => cases ry; exact PySem.EqNone.ne_str_none (fin_bl I q (by simp))
    | bl j => cases ry; exact PySem.EqMixed.ne_str_bool (fin_bl I q (by simp))
    | int j => obtain ⟨t', rfl⟩ := ry; exact PySem.EqMixed.ne_str_int (fin_bl I q (by simp))
    | str j => obtain ⟨t', rfl⟩ := ry; exact ne_str (fin_bl I q (congrArg not dec_str))
    | _ => exact absurd (show false = true from hs) Bool.false_ne_true
  | byt i =>
    obtain ⟨t, rfl⟩ := rx
    cases y with
    | byt j => obtain ⟨t', rfl⟩ := ry; exact PySem.W.ne_bytes (fin_bl I q (congrArg not dec_byt))
    | _ => exact absurd (show false = true from hs) Bool.false_ne_true
  | _ => cases y <;> exact absurd (show false = true from hs) Bool.false_ne_true

theorem op_lt : OpR X (compareOp .Lt) (rI0 fun i j => .bl (decide (i < j))) := opB0 fun _ _ _ _ _ _ _ q => lt_int q
theorem op_le : OpR X (compareOp .LtE) (rI0 fun i j => .bl (decide (i ≤ j))) := opB0 fun _ _ _ _ _ _ _ q => le_int q
theorem op_gt : OpR X (compareOp .Gt) (rI0 fun i j => .bl (decide (j < i))) := opB0 fun _ _ _ _ _ _ _ q => gt_int q
theorem op_ge : OpR X (compareOp .GtE) (rI0 fun i j => .bl (decide (j ≤ i))) := opB0 fun _ _ _ _ _ _ _ q => ge_int q
/-- the one string within the other -/
theorem op_in_str : OpR X (compareOp .In) (fun x y H Q => ∃ i j, x = .str i ∧ y = .str j ∧ Q (.bl (!(Builtin.Str.occurrences j i 0 j.length 1).isEmpty)) H) := by
  intro pins s σ H x y v u Q I rx ry h
  obtain ⟨i, j, rfl, rfl, q⟩ := h
  obtain ⟨t, rfl⟩ := rx
  obtain ⟨t', rfl⟩ := ry
  exact in_str (fin_bl I q rfl)

/-- is, is not of two objects that are tracked lists or instances -/
def isObj : HO → Bool
  | .lst _ => true
  | .ins _ _ _ => true
  | _ => false
/-- two rules for one operation: by cases -/
theorem OpR.or {f : Value → Value → Sem Value} {r r' : R2} (h : OpR X f r) (h' : OpR X f r') : OpR X f (fun x y H Q => r x y H Q ∨ r' x y H Q) := by
  intro pins s σ H x y v u Q I rx ry q
  rcases q with q | q
  · exact h pins s σ H x y v u Q I rx ry q
  · exact h' pins s σ H x y v u Q I rx ry q

theorem nomark (b : Expr) {op : CmpOp} (h : op ≠ .In := by decide) (h2 : op ≠ .NotIn := by decide) : behindInMarks op b = false := by
  have e1 : (op == CmpOp.In) = false := by cases op <;> first | rfl | exact absurd rfl h
  have e2 : (op == CmpOp.NotIn) = false := by cases op <;> first | rfl | exact absurd rfl h2
  cases b <;> simp [behindInMarks, e1, e2]
/-- a comparison as a value; hm: nomark b, or (for in, not in) by with_unfolding_all rfl -/
theorem pe_cmpR {op : CmpOp} {r : R2} (ho : OpR X (compareOp op) r) (ha : PE X a ta) (hb : PE X b tb) (hm : behindInMarks op b = false) : PE X (.Compare a [op] [b] pos) (tOp r ta tb) := by
  intro pins s σ H Q I h
  exact wpAny_Compare1 (binT ha hb I h fun v u s2 x y H2 I2 rx ry q => ho pins s2 σ H2 x y v u Q I2 rx ry q) hm
/-- a reading of a value as a test -/
def tTest (t : TE) : TT := fun σ H Q => t σ H fun x H' => ∃ k, x = .bl k ∧ Q k H'
theorem pt_cmpR {op : CmpOp} {r : R2} (ho : OpR X (compareOp op) r) (ha : PE X a ta) (hb : PE X b tb) (hm : behindInMarks op b = false) : PT X (.Compare a [op] [b] pos) (tTest (tOp r ta tb)) := by
  intro pins s σ H Q I h
  refine wpAny_isTrue_Compare1 (thn (ha pins s σ H _ I h) fun v s1 ⟨x, H1, I1, r1, q1⟩ => thn (hb pins s1 σ H1 _ I1 q1) fun u s2 ⟨y, H2, I2, r2, q2⟩ =>
    thn (ho pins s2 σ H2 x y v u _ I2 r1 r2 q2) fun c s3 ⟨z, H3, I3, r3, k, e, q3⟩ => ?_) hm
  subst e
  cases r3
  exact wpAny_truthy_bool ⟨H3, I3, q3⟩
/-- a op1 b op2 c -/
def tChain (r r' : R2) (ta tb tc : TE) : TE := fun σ H Q => ta σ H fun x H1 => tb σ H1 fun y H2 => r x y H2 fun z H3 => ∃ k, z = .bl k ∧
  (if k = true then tc σ H3 fun w' H4 => r' y w' H4 Q else Q (.bl false) H3)
theorem pt_chain {op op' : CmpOp} {r r' : R2} (ho : OpR X (compareOp op) r) (ho' : OpR X (compareOp op') r') (ha : PE X a ta) (hb : PE X b tb) (hc : PE X c tc)
    (hm : lastMarks [op, op'] [b, c] = false := by with_unfolding_all rfl) : PT X (.Compare a [op, op'] [b, c] pos) (tTest (tChain r r' ta tb tc)) := by
  intro pins s σ H Q I h
  refine isTrue_chain (thn (ha pins s σ H _ I h) fun v s1 ⟨x, H1, I1, r1, q1⟩ => test_link (thn (hb pins s1 σ H1 _ I1 q1) fun u s2 ⟨y, H2, I2, r2, q2⟩ =>
    thn (ho pins s2 σ H2 x y v u _ I2 r1 r2 q2) fun d s3 ⟨z, H3, I3, r3, k, e, q3⟩ => ?_)) hm
  subst e
  cases r3
  refine wpAny_truthy_bool ?_
  cases k with
  | false =>
    obtain ⟨k', e', q'⟩ := q3
    cases e'
    exact ite_ff ⟨H3, I3, q'⟩
  | true =>
    refine ite_tt (test_last (thn (hc pins s3 σ H3 _ I3 q3) fun w' s4 ⟨z', H4, I4, r4, q4⟩ => thn (ho' pins s4 σ H4 y z' u w' _ I4 r2 r4 q4) fun d' s5 ⟨z2, H5, I5, r5, k2, e2, q5⟩ => ?_))
    subst e2
    cases r5
    exact wpAny_truthy_bool ⟨H5, I5, q5⟩

/-! ### truth -/
/-- a value's truth by the abstract heap -/
def TruV (K : PySem.W.Frag) (x : V) (H : Hp) (k : Bool) : Prop :=
  match x with
  | .non => k = false
  | .bl b => k = b
  | .int i => k = (i != 0)
  | .str y => y.length ≤ sizeLine ∧ k = ((y.length : Int) != 0)
  | .byt y => y.size ≤ sizeLine ∧ k = ((y.size : Int) != 0)
  | .ref p => (∃ xs, SqL K H p xs ∧ k = !xs.isEmpty) ∨ (∃ xs, SqT K H p xs ∧ k = !xs.isEmpty) ∨ ∃ kvs, H p = some (.dK kvs) ∧ k = !kvs.isEmpty
  | _ => False
theorem line63 : (sizeLine : Nat) < 2 ^ 63 := by rw [sizeLine_eq]; decide
theorem op_add_str : OpR X (binaryOp .Add) (fun x y H Q => ∃ i j, x = .str i ∧ y = .str j ∧ i.length + j.length ≤ sizeLine ∧ Q (.str (i ++ j)) H) := by
  intro pins s σ H x y v u Q I rx ry h
  obtain ⟨i, j, rfl, rfl, hz, q⟩ := h
  obtain ⟨t, rfl⟩ := rx
  obtain ⟨t', rfl⟩ := ry
  exact add_str (fun t' tk => ⟨.str (i ++ j), H, I.tok _, ⟨_, rfl⟩, q⟩) hz
def PlainIxT (b : Expr) : Prop := ∀ o i, subscripted b false o i = operate [o, i] (getItem o i)
/-- s[i], 0 ≤ i < len -/
theorem pe_item_str (ha : PE X a ta) (hb : PE X b tb) (hs : PlainIxT b) :
    PE X (.Subscript a b pos) (tOp (fun x y H Q => ∃ z i c, x = .str z ∧ y = .int i ∧ 0 ≤ i ∧ i < 2 ^ 63 ∧ i < z.length ∧ z.cps[i.toNat]? = some c ∧ Q (.str ⟨#[c]⟩) H) ta tb) := by
  intro pins s σ H Q I h
  refine Subscript_ (binT ha hb I h fun v u s2 x y H2 I2 rx ry q => ?_)
  obtain ⟨z, i, c, rfl, rfl, h0, h63, h1, hc, q⟩ := q
  obtain ⟨t, rfl⟩ := rx
  obtain ⟨t', rfl⟩ := ry
  have e : seqIndex? i z.length = some i.toNat := PySem.StrLaws.seqIndex_nonneg h0 h1
  exact tail_any (typeIs_str s2 z t) slot_str_getitem.lookup (getItem_str (c := c) (by
    have e1 : decide (i < -(2 ^ 63 : Int)) = false := decide_eq_false (by omega)
    have e2 : decide (i ≥ 2 ^ 63) = false := decide_eq_false (by omega)
    rw [e1, e2] <;> rfl) (by rw [e]; exact hc) ⟨.str ⟨#[c]⟩, H2, I2.tok _, ⟨_, rfl⟩, q⟩) (hs _ _)
/-! ### scalar builtins, by CallR -/
theorem vals1 {x : V} {us : List Value} (r : Vals [x] us) : ∃ u, us = [u] ∧ RelV x u := by
  cases r with
  | cons r1 r2 => cases r2; exact ⟨_, rfl, r1⟩
theorem vals2 {x y : V} {us : List Value} (r : Vals [x, y] us) : ∃ u w', us = [u, w'] ∧ RelV x u ∧ RelV y w' := by
  cases r with
  | cons r1 r2 =>
    cases r2 with
    | cons r3 r4 => cases r4; exact ⟨_, _, rfl, r1, r3⟩
theorem call_abs : CallR X (.builtin "abs") (fun xs H Q => ∃ i, xs = [.int i] ∧ Q (.int (if i < 0 then -i else i)) H) := by
  intro pins s σ H xs us Q I r h
  obtain ⟨i, rfl, q⟩ := h
  obtain ⟨u, rfl, t, rfl⟩ := vals1 r
  exact call_abs_int fun u tk => ⟨.int (if i < 0 then -i else i), H, I.tok _, ⟨_, rfl⟩, q⟩
theorem call_str_int : CallR X (.type "str") (fun xs H Q => ∃ i, xs = [.int i] ∧ i.natAbs.log2 < 1920 ∧ Q (.str (toString i)) H) := by
  intro pins s σ H xs us Q I r h
  obtain ⟨i, rfl, hz, q⟩ := h
  obtain ⟨u, rfl, t, rfl⟩ := vals1 r
  exact PySem.P.str_of_int hz ⟨.str _, H, I.tok _, ⟨_, rfl⟩, q⟩
/-- len of a str, a bytes, a list, a tuple -/
def LenV (K : PySem.W.Frag) (x : V) (H : Hp) (n : Nat) : Prop :=
  match x with
  | .str y => y.length ≤ sizeLine ∧ n = y.length
  | .byt y => y.size ≤ sizeLine ∧ n = y.size
  | .ref p => (∃ xs, SqL K H p xs ∧ n = xs.length) ∨ ∃ xs, SqT K H p xs ∧ n = xs.length
  | _ => False
theorem call_len : CallR X (.builtin "len") (fun xs H Q => ∃ x n, xs = [x] ∧ LenV X.K x H n ∧ Q (.int n) H) := by
  intro pins s σ H xs us Q I r h
  obtain ⟨x, n, rfl, e, q⟩ := h
  obtain ⟨u, rfl, rx⟩ := vals1 r
  have hl := line63
  have hs : sizeLine = 16777216 := sizeLine_eq
  cases x with
  | str y =>
    obtain ⟨t, rfl⟩ := rx
    obtain ⟨hy, e'⟩ : y.length ≤ sizeLine ∧ n = y.length := e
    subst e'
    exact len_str (by omega) ⟨.int _, H, I.tok _, ⟨_, rfl⟩, q⟩
  | byt y =>
    obtain ⟨t, rfl⟩ := rx
    obtain ⟨hy, e'⟩ : y.size ≤ sizeLine ∧ n = y.size := e
    subst e'
    exact PySem.W.len_bytes (by omega) ⟨.int _, H, I.tok _, ⟨_, rfl⟩, q⟩
  | ref p =>
    cases rx
    have e' : (∃ xs, SqL X.K H p xs ∧ n = xs.length) ∨ ∃ xs, SqT X.K H p xs ∧ n = xs.length := e
    rcases e' with ⟨xs, hx, e'⟩ | ⟨xs, hx, e'⟩
    · subst e'
      obtain ⟨its, r', pl, hz⟩ := I.list hx
      have hlen := r'.length
      exact Calls.call_len_list pl.isList (by simp only [List.size_toArray]; omega) ⟨.int xs.length, H, I.tok _, ⟨_, by simp only [List.size_toArray]; rw [hlen]⟩, q⟩
    · subst e'
      obtain ⟨its, r', pl, hz⟩ := I.tuple hx
      have hlen := r'.length
      exact len_tuple pl (by simp only [List.size_toArray]; omega) ⟨.int xs.length, H, I.tok _, ⟨_, by simp only [List.size_toArray]; rw [hlen]⟩, q⟩
  | _ => exact (show False from e).elim
end
end L2

namespace L2
open PySem PySem.Spec PyProof.Rows

/-! ### an instance, its attributes a map -/
structure ObjM (h : Heap) (x dx C : Addr) (mA : Str → Option Value) : Prop where
  obj : h.get? x = some (PySem.W.instObj C dx)
  ns : h.Ns1 dx mA
  ne : dx ≠ x

theorem lookIn_ns {h : Heap} {dx : Addr} {mA : Str → Option Value} (n : h.Ns1 dx mA) : ∃ od, h.get? dx = some od ∧ ∀ name, PySem.W.lookIn name od = some (mA name) := by
  obtain ⟨o, es, ep, ho, hd, hk, _, hm⟩ := n
  refine ⟨o, ho, fun name => ?_⟩
  have e := hm name
  unfold nsFind findBy at e
  rw [← Array.find?_toList] at e
  unfold PySem.W.lookIn
  rw [hd]
  dsimp only
  split
  · rename_i y q
    rw [q] at e
    exact congrArg some e
  · rename_i q
    rw [q] at e
    have a : es.toList.any (·.refKey) = false := by
      rw [List.any_eq_false]
      intro y hy
      obtain ⟨z, t, hkey⟩ := hk y (Array.mem_toList_iff.mp hy)
      simp [DictEntry.refKey, hkey]
    have a' : ¬ es.toList.any (·.refKey) = true := by rw [a]; exact Bool.false_ne_true
    rw [if_neg a']
    exact congrArg some e

theorem ObjM.look {h : Heap} {x dx C : Addr} {mA : Str → Option Value} (I : ObjM h x dx C mA) : ∃ od, PySem.W.InstAt h x (PySem.W.instObj C dx) C (some od) ∧ ∀ name, PySem.W.lookIn name od = some (mA name) :=
  let ⟨od, ho, hl⟩ := lookIn_ns I.ns
  ⟨od, ⟨I.obj, rfl, rfl, ho⟩, hl⟩

section
variable {prog : Program} {w : World} {A : Around} {E : Value → Shared → Prop} {s : Shared} {K : PySem.W.Frag} {x dx C f : Addr} {mA : Str → Option Value} {name : Str} {v : Value}

end

/-! ### the attributes as a list of pairs -/
def putF (f : Str) (v : V) : List (Str × V) → List (Str × V)
  | [] => [(f, v)]
  | (g, x) :: r => if g = f then (g, v) :: r else (g, x) :: putF f v r
section
variable {P : Program} {w : World} {H H' : Hp} {h h' : Heap} {a C dx : Addr} {fs fs' : List (Str × V)}
theorem ins_get (hok : HOk P w H h) (e : H a = some (.ins C dx fs)) : ∃ mA, ObjM h a dx C mA ∧ (∀ f, RelO (fs.lookup f) (mA f)) ∧ PySem.Within mA (fs.map (·.1)) ∧ fs.length ≤ 1000 ∧ H dx = some (.own a) := by
  obtain ⟨d, z, ne, ob, mA, n, r, q⟩ := (show ObjOk P w H h a (.ins C dx fs) from hok a _ e)
  exact ⟨mA, ⟨ob, n, ne⟩, r, q, z, d⟩
end

/-! ### what of the text a class must have -/
structure Cls (K : PySem.W.Frag) (C : Addr) : Prop where
  pg : PySem.W.plainGet K C Str.empty = true
  hd : PySem.W.hasDictIn K C = true
  po : PySem.W.plainOver K C = true
  sa : PySem.W.findIn K (.ref C) "__setattr__" = some (some (.builtin "object.__setattr__"))
theorem Cls.get {K : PySem.W.Frag} {C : Addr} (c : Cls K C) (f : Str) : PySem.W.plainGet K C f = true := c.pg
/-- no class of it has the name -/
def NoAttr (K : PySem.W.Frag) (C : Addr) (f : Str) : Prop := PySem.W.findIn K (.ref C) f = some none
/-- a constant of the class -/
structure Con (K : PySem.W.Frag) (C : Addr) (f : Str) (v : V) (u : Value) : Prop where
  at_ : PySem.W.findIn K (.ref C) f = some (some u)
  rel : RelV v u
  get : PySem.W.specialIn K u "__get__" = some none
  cp : PySem.W.copiedNames.contains f = false
/-- a method: a plain def of the class or of one above it -/
structure Meth (K : PySem.W.Frag) (C : Addr) (m : Str) (f : Addr) : Prop where
  at_ : PySem.W.findIn K (.ref C) m = some (some (.ref f))
  fn : PySem.W.isFn K (.ref f) = true
  kp : PySem.W.keepIn K (.ref f) = true

section
variable {X : Cx} {pins : List (Addr × Obj)} {σ : St} {H : Hp} {s : Shared} {a C dx : Addr} {fs : List (Str × V)} {f : Str} {v : V} {A : Around} {E : Value → Shared → Prop}

/-- a new instance, tracked, without attributes -/
theorem Inv.made (I : Inv X pins σ H s) : Inv X pins σ (upd (upd H s.heap.objs.size (.own (s.heap.objs.size + 1))) (s.heap.objs.size + 1) (.ins C s.heap.objs.size []))
    { s with heap := (s.heap.push PySem.W.emptyDict).push (PySem.W.instObj C s.heap.objs.size) } := by
  have e1 : (s.heap.push PySem.W.emptyDict).get? s.heap.objs.size = some PySem.W.emptyDict := Heap.get?_push_size s.heap rfl
  have e2 : ((s.heap.push PySem.W.emptyDict).push (PySem.W.instObj C s.heap.objs.size)).get? (s.heap.objs.size + 1) = some (PySem.W.instObj C s.heap.objs.size) := by
    have := Heap.get?_push_size (s.heap.push PySem.W.emptyDict) (o := PySem.W.instObj C s.heap.objs.size) rfl
    rwa [Heap.size_push] at this
  have e3 : (s.heap.push PySem.W.emptyDict).Ns s.heap.objs.size (fun _ => none) := ⟨PySem.W.emptyDict, #[], _, e1, rfl, (fun e he => absurd he (by simp)), fun _ => rfl⟩
  have I1 := I.laid (a := s.heap.objs.size) (o := .own (s.heap.objs.size + 1)) (h' := s.heap.push PySem.W.emptyDict) (t' := s.toks) (fun b u q => Heap.get?_push_of_some _ q) (Nat.le_refl _) ⟨_, e1⟩
  refine I1.laid (a := s.heap.objs.size + 1) (o := .ins C s.heap.objs.size []) (t' := s.toks) (fun b u q => Heap.get?_push_of_some _ q) (Nat.le_of_eq (Heap.size_push _ _)) ?_
  have ne : s.heap.objs.size ≠ s.heap.objs.size + 1 := Nat.ne_of_lt (Nat.lt_succ_self _)
  refine ⟨by rw [upd_ne ne, upd_same], Nat.zero_le _, ne, e2, fun _ => none, (Heap.Ns1.of_empty e3).at fun o q => Heap.get?_push_of_some _ q, fun _ => True.intro, fun y hy => absurd rfl hy⟩

end

/-! ### readings and rules -/
/-- e.f, an attribute of the instance -/
def tFld (K : PySem.W.Frag) (ta : TE) (f : Str) : TE := fun σ H Q => ta σ H fun x H1 => ∃ a C dx fs v, x = .ref a ∧ H1 a = some (.ins C dx fs) ∧ Cls K C ∧ NoAttr K C f ∧ fs.lookup f = some v ∧ Q v H1
/-- e.f, a constant of the class -/
def tCon (K : PySem.W.Frag) (ta : TE) (f : Str) : TE := fun σ H Q => ta σ H fun x H1 => ∃ a C dx fs v u, x = .ref a ∧ H1 a = some (.ins C dx fs) ∧ Cls K C ∧ Con K C f v u ∧ fs.lookup f = none ∧ Q v H1
/-- e.f = value -/
def sFld (K : PySem.W.Frag) (ta tv : TE) (f : Str) : TS := fun D σ H => tv σ H fun y H1 => ta σ H1 fun x H2 => ∃ a C dx fs, x = .ref a ∧ H2 a = some (.ins C dx fs) ∧ Cls K C ∧ NoAttr K C f ∧ fs.length < 1000 ∧
  D.nx σ (upd H2 a (.ins C dx (putF f y fs)))
/-- an augmented operator on two values -/
def InOp (X : Cx) (op : Operator) (rd : V → V → Hp → VK → Prop) : Prop :=
  ∀ (pins : List (Addr × Obj)) (s : Shared) (σ : St) (H : Hp) (x y : V) (u v : Value) (Q : VK), Inv X pins σ H s → RelV x u → RelV y v → rd x y H Q → wpAny (model X.prog X.w) X.A (inplaceOp op u v) (EP X pins σ Q) X.xe s
/-- e.f op= value -/
def sFldAug (K : PySem.W.Frag) (ta tv : TE) (rd : V → V → Hp → VK → Prop) (f : Str) : TS := fun D σ H => ta σ H fun x H1 => ∃ a C dx fs v, x = .ref a ∧ H1 a = some (.ins C dx fs) ∧ Cls K C ∧ NoAttr K C f ∧ fs.lookup f = some v ∧
  tv σ H1 fun y H2 => rd v y H2 fun z H3 => ∃ dx' fs', H3 a = some (.ins C dx' fs') ∧ fs'.length < 1000 ∧ D.nx σ (upd H3 a (.ins C dx' (putF f z fs')))

section
variable {X : Cx} {o e value : Expr} {f : Str} {pos pos' tpos : Pos} {ta tv : TE}
def rAdd : V → V → Hp → VK → Prop := fun x y H Q => ∃ i j, x = .int i ∧ y = .int j ∧ Q (.int (i + j)) H
def rSub : V → V → Hp → VK → Prop := fun x y H Q => ∃ i j, x = .int i ∧ y = .int j ∧ Q (.int (i - j)) H
end

/-! ### isinstance -/
section
variable {X : Cx} {pins : List (Addr × Obj)} {σ : St} {H : Hp} {s : Shared} {A : Around} {E : Value → Shared → Prop} {Q : Value → Shared → Prop} {c : Value} {b : Bool}
/-- the type of a value, as the fragment's deciders take it; for an instance its class -/
inductive TyOf (K : PySem.W.Frag) (H : Hp) : V → Value → Prop where
  | non : TyOf K H .non (.type "NoneType")
  | bl (x : Bool) : TyOf K H (.bl x) (.type "bool")
  | int (i : Int) : TyOf K H (.int i) (.type "int")
  | str (x : Str) : TyOf K H (.str x) (.type "str")
  | flt (x : UInt64) : TyOf K H (.flt x) (.type "float")
  | lst {a : Addr} {xs : List V} (e : H a = some (.lst xs)) : TyOf K H (.ref a) (.type "list")
  | frz {a : Addr} {o : Obj} {xs : List V} (e : H a = some (.frz o (.lst xs))) : TyOf K H (.ref a) (.type "list")
  | tup {a : Addr} {xs : List V} (e : H a = some (.tup xs)) : TyOf K H (.ref a) (.type "tuple")
  | dK {a : Addr} {kvs : List (Key × V)} (e : H a = some (.dK kvs)) : TyOf K H (.ref a) (.type "dict")
  | ins {a C dx : Addr} {fs : List (Str × V)} (e : H a = some (.ins C dx fs)) (cl : Cls K C) (ha : PySem.W.findIn K (.ref C) "__class__" = some (some (.builtin "object.__class__")))
      (hn : PySem.W.specialIn K (.builtin "object.__class__") "__get__" = some (some (.builtin "getset_descriptor.__get__"))) (htk : PySem.W.takesIn K (.builtin "object.__class__") = some true)
      (hm : PySem.W.mroIn K C (.type "object") = some true) : TyOf K H (.ref a) (.ref C)
/-- isinstance(x, c) for one class c, a built-in or an own one: kitOne's answer -/
theorem isinst_ok {x : V} {u t : Value} (I : Inv X pins σ H s) (rx : RelV x u) (ty : TyOf X.K H x t) (e : PySem.W.kitOne X.K t c = some b) (h : ∀ tk, Q (.bool b) { s with toks := tk }) :
    wpAny (model X.prog X.w) A (call (.builtin "isinstance") [u, c]) Q E s := by
  cases ty with
  | non => cases (show u = Value.none from rx); exact PySem.W.kia_one PySem.W.kitx_none I.kIn True.intro e (fun z => nomatch z) h
  | bl y => cases (show u = Value.bool y from rx); exact PySem.W.kia_one PySem.W.kitx_bool I.kIn True.intro e (fun z => nomatch z) h
  | int i => obtain ⟨t, q⟩ := (show ∃ t, u = Value.int i t from rx); cases q; exact PySem.W.kia_one PySem.W.kitx_int I.kIn True.intro e (fun z => nomatch z) h
  | str y => obtain ⟨t, q⟩ := (show ∃ t, u = Value.str y t from rx); cases q; exact PySem.W.kia_one PySem.W.kitx_str I.kIn True.intro e (fun z => nomatch z) h
  | flt y => obtain ⟨t, q⟩ := (show ∃ t, u = Value.float y t from rx); cases q; exact PySem.W.kia_one PySem.W.kitx_float I.kIn True.intro e (fun z => nomatch z) h
  | @lst a xs ea =>
    cases (show u = Value.ref a from rx)
    obtain ⟨_, _, n, _, h1⟩ := (show ObjOk X.prog X.w H s.heap a (.lst xs) from I.hok a _ ea)
    exact PySem.W.kia_one PySem.W.kitx_list I.kIn ⟨_, h1, rfl⟩ e (fun z => nomatch z) h
  | @frz a ob xs ea =>
    cases (show u = Value.ref a from rx)
    obtain ⟨_, _, _, n, _, h1⟩ := (show ObjOk X.prog X.w H s.heap a (.frz ob (.lst xs)) from I.hok a _ ea)
    exact PySem.W.kia_one PySem.W.kitx_list I.kIn ⟨_, h1, rfl⟩ e (fun z => nomatch z) h
  | @tup a xs ea =>
    cases (show u = Value.ref a from rx)
    obtain ⟨_, _, _, p⟩ := (show ObjOk X.prog X.w H s.heap a (.tup xs) from I.hok a _ ea)
    obtain ⟨o, h1, h2, _⟩ := p
    exact PySem.W.kia_one PySem.W.kitx_tuple I.kIn ⟨o, h1, h2⟩ e (fun z => nomatch z) h
  | @dK a kvs ea =>
    cases (show u = Value.ref a from rx)
    obtain ⟨_, _, vs, _, p⟩ := (show ObjOk X.prog X.w H s.heap a (.dK kvs) from I.hok a _ ea)
    obtain ⟨o, es, ep, h1, h2, _⟩ := p
    exact PySem.W.kia_one PySem.W.kitx_dict I.kIn ⟨o, h1, h2.1⟩ e (fun z => nomatch z) h
  | @ins a C dx fs ea cl ha hn htk hm =>
    cases (show u = Value.ref a from rx)
    obtain ⟨mA, O, _⟩ := ins_get I.hok ea
    obtain ⟨od, J, _⟩ := O.look
    exact PySem.W.kia_one (PySem.W.kitx_own (cl.get _) cl.hd ha hn htk hm) I.kIn J e (fun z => nomatch z) h
end
end L2

namespace L2
open PySem PySem.Spec PyProof.Rows

/-! ### room -/
structure Room (k : Nat) (A : Around) : Prop where
  hd : A.handled = none
  dp : A.depth + 3 * k + 5 < recursionLimit
  un : A.units + 16 * k + 200 < cLine
theorem Room.mono {j k : Nat} {A : Around} (r : Room k A) (h : j ≤ k) : Room j A := ⟨r.hd, by have := r.dp; omega, by have := r.un; omega⟩
theorem Room.deeper {k : Nat} {A : Around} (r : Room (k + 1) A) (env : Env) : Room k (A.deeper env) :=
  ⟨r.hd, by have := r.dp; show A.depth + 1 + 3 * k + 5 < _; omega, by have := r.un; show A.units + 3 + 16 * k + 200 < _; omega⟩
theorem Room.in1 {k : Nat} {A : Around} (r : Room (k + 1) A) : Room k A.in1 :=
  ⟨r.hd, by have := r.dp; show A.depth + 3 * k + 5 < _; omega, by have := r.un; show A.units + 1 + 16 * k + 200 < _; omega⟩
theorem Room.depth {k : Nat} {A : Around} (r : Room k A) : A.depth < recursionLimit := by have := r.dp; omega
theorem Room.units {k : Nat} {A : Around} (r : Room k A) : A.units + 64 < cLine := by have := r.un; omega
/-! ### argument lists and displays -/
def tNil : TA := fun _ H Q => Q [] H
def tCons (ta : TE) (tr : TA) : TA := fun σ H Q => ta σ H fun x H1 => tr σ H1 fun xs H2 => Q (x :: xs) H2
section
variable {X : Cx} {e : Expr} {es : List Expr} {te : TE} {t : TA} {pos : Pos}
theorem pa_nil : PA X [] tNil := fun _ _ _ _ H Q I h => Calls.spliced_nil ⟨[], H, I, .nil, h⟩
theorem pa_cons (ha : PE X e te) (hr : PA X es t) (hs : starEach (e :: es) X.env = (false, eval e X.env) :: starEach es X.env := by rfl) : PA X (e :: es) (tCons te t) := by
  intro pos pins s σ H Q I h
  rw [hs]
  show wpAny _ _ (spliced ((false, eval e X.env) :: backTo pos (starEach es X.env))) _ _ s
  refine Calls.spliced_cons (thn (ha pins s σ H _ I h) fun u s1 ⟨x, H1, I1, r1, q1⟩ => ?_)
  exact thn (hr pos pins s1 σ H1 _ I1 q1) fun us s2 ⟨xs, H2, I2, r2, q2⟩ => ⟨x :: xs, H2, I2, .cons r1 r2, q2⟩

/-- a tuple, a list of written items -/
def tTup (t : TA) : TE := fun σ H Q => t σ H fun xs H1 => xs.length ≤ sizeLine ∧ ∀ p, H1 p = none → Q (.ref p) (upd H1 p (.tup xs))
def tLst (t : TA) : TE := fun σ H Q => t σ H fun xs H1 => xs.length ≤ sizeLine ∧ ∀ p, H1 p = none → Q (.ref p) (upd H1 p (.lst xs))
theorem pe_tup {x1} (h : PA X es t) : PE X (.Tuple es x1 pos) (tTup t) := by
  intro pins s σ H Q I hq
  refine wpAny_Tuple_spliced (thn (h pos pins s σ H _ I hq) fun us s1 ⟨xs, H1, I1, r, z, q⟩ => ⟨by rw [← r.length]; exact z, ?_⟩)
  have hf : H1 s1.heap.objs.size = none := I1.hok.fresh (Nat.le_refl _)
  refine ⟨.ref s1.heap.objs.size, upd H1 s1.heap.objs.size (.tup xs), I1.laid (t' := s1.toks) (fun b u e => Heap.get?_push_of_some _ e) (Nat.le_refl _) ?_, rfl, q _ hf⟩
  exact ⟨z, us, r, ⟨_, Heap.get?_push_size _ rfl, rfl, _, rfl⟩⟩
theorem pe_lst (h : PA X es t) : PE X (.List es pos) (tLst t) := by
  intro pins s σ H Q I hq
  refine wpAny_List_spliced (thn (h pos pins s σ H _ I hq) fun us s1 ⟨xs, H1, I1, r, z, q⟩ => ⟨by rw [← r.length]; exact z, ?_⟩)
  have hf : H1 s1.heap.objs.size = none := I1.hok.fresh (Nat.le_refl _)
  refine ⟨.ref s1.heap.objs.size, upd H1 s1.heap.objs.size (.lst xs), I1.laid (t' := s1.toks) (fun b u e => Heap.get?_push_of_some _ e) (Nat.le_refl _) ?_, rfl, q _ hf⟩
  exact ⟨z, us, 0, r, Heap.get?_push_size _ rfl⟩
end

/-! ### what a def promises -/
/-- a def's promise: the bound arguments in the parameters' order, the heap, the wanted end, the wanted exception -/
abbrev Sp := List V → Hp → VK → XK → Prop
/-- how an exception lies behind a call (file 08 gives it): the callers' frames, abstract heap and state ahead of the call, the wish, the exception, the state -/
abbrev CXT := List Env → Hp → Shared → XK → Value → Shared → Prop

/-- the state at a call -/
structure Env0 (P : Program) (w : World) (K : PySem.W.Frag) (mg : Str → Option Value) (base : Heap) (A : Around) (outer : List Env) (s : Shared) (H : Hp) : Prop where
  frames : A.frames = some outer
  mod : Mod K mg base
  bs : ∀ b o, base.get? b = some o → s.heap.get? b = some o ∧ H b = none
  bsz : base.objs.size ≤ s.heap.objs.size
  funs : s.heap.FunFrames base outer
  frf : ∀ b ∈ frs outer, H b = none
  hok : HOk P w H s.heap
  bare : AllBare s.gens
/-- a call's end -/
def CE (outer : List Env) (P : Program) (w : World) (H : Hp) (s : Shared) (Q : VK) (u : Value) (s' : Shared) : Prop :=
  ∃ v H', s'.os = s.os ∧ AllBare s'.gens ∧ Un (frs outer) [] H H' s.heap s'.heap ∧ HOk P w H' s'.heap ∧ RelV v u ∧ Q v H'
def CR (CX : CXT) (outer : List Env) (P : Program) (w : World) (H : Hp) (s : Shared) (Q : VK) (E : XK) (r : Result) (s' : Shared) : Prop :=
  match r with
  | .ok (.ret u) => CE outer P w H s Q u s'
  | .ok _ => False
  | .error e => CX outer H s E e s'
structure FnOk (P : Program) (w : World) (K : PySem.W.Frag) (mg : Str → Option Value) (base : Heap) (CX : CXT) (k : Nat) (f : Addr) (fd : FuncData) (ps : List Str) (sp : Sp) : Prop where
  len : ∀ vs H Q E, sp vs H Q E → vs.length = ps.length
  run : ∀ (A : Around) (outer : List Env) (s : Shared) (H : Hp) (args : Args) (us : List Value) (vs : List V) (Q : VK) (E : XK), Room k A → Env0 P w K mg base A outer s H → BindsTo s fd args (ps.zip us) → Vals vs us → sp vs H Q E →
    codeAny (model P w) A (.call (.ref f) args) (CR CX outer P w H s Q E) s
theorem FnOk.mono {P : Program} {w : World} {K : PySem.W.Frag} {mg : Str → Option Value} {base : Heap} {CX : CXT} {j k : Nat} {f : Addr} {fd : FuncData} {ps : List Str} {sp : Sp} (F : FnOk P w K mg base CX j f fd ps sp) (h : j ≤ k) :
    FnOk P w K mg base CX k f fd ps sp := ⟨F.len, fun A outer s H args us vs Q E hr => F.run A outer s H args us vs Q E (hr.mono h)⟩
theorem Env0.in1 {P : Program} {w : World} {K : PySem.W.Frag} {mg : Str → Option Value} {base : Heap} {A : Around} {outer : List Env} {s : Shared} {H : Hp} (e : Env0 P w K mg base A outer s H) :
    Env0 P w K mg base A.in1 outer s H := ⟨e.frames, e.mod, e.bs, e.bsz, e.funs, e.frf, e.hok, e.bare⟩

section
variable {X : Cx} {pins : List (Addr × Obj)} {σ : St} {H : Hp} {s s' : Shared}
/-- from a body: what a callee wants -/
theorem Inv.env0 (I : Inv X pins σ H s) : Env0 X.prog X.w X.K X.mg X.base X.A X.stack s H :=
  ⟨I.ok.frames, I.ok.mod, I.bs, Nat.le_trans I.ok.bsz I.sz, I.stack, I.stkFree, I.hok, I.bare⟩
/-- behind a call -/
theorem Inv.after {Q : VK} {u : Value} (I : Inv X pins σ H s) (h : CE X.stack X.prog X.w H s Q u s') : EP X pins σ Q u s' := by
  obtain ⟨v, H', os, bare, un, hok, r, q⟩ := h
  obtain ⟨hh, g, d, t, os'⟩ := s'
  obtain rfl : os' = s.os := os
  exact ⟨v, H', I.call (h' := hh) (g' := g) (d' := d) (t' := t) (ch := []) un hok bare (fun b z => absurd z (by simp)), r, q⟩
end

/-! ### calls -/
/-- f(..): the written arguments, then the defaults dvs; E: what is wanted of an exception -/
def tCall (sp : Sp) (dvs : List V) (E : XK) (t : TA) : TE := fun σ H Q => t σ H fun vs H1 => sp (vs ++ dvs) H1 Q E
/-- o.m(..) of an instance of the class at C -/
def tMeth (C : Addr) (m : Str) (sp : Sp) (dvs : List V) (E : XK) (ta : TE) (t : TA) : TE := fun σ H Q => ta σ H fun x H1 => ∃ a dx fs, x = .ref a ∧ H1 a = some (.ins C dx fs) ∧ fs.lookup m = none ∧
  t σ H1 fun vs H2 => sp (x :: (vs ++ dvs)) H2 Q E
/-- C(..): a new instance and its dict, then __init__ -/
def tMake (C : Addr) (sp : Sp) (dvs : List V) (E : XK) (t : TA) : TE := fun σ H Q => t σ H fun vs H1 => ∀ x dx, H1 x = none → H1 dx = none → dx ≠ x →
  sp (.ref x :: (vs ++ dvs)) (upd (upd H1 dx (.own x)) x (.ins C dx [])) (fun v H2 => v = .non ∧ Q (.ref x) H2) E

/-- how the parameters are bound: us the positional arguments, kw the keywords' values by name, ds the defaults that fill up -/
def Binds (K : PySem.W.Frag) (fd : FuncData) (ps : List Str) (ds : List Value) : Prop :=
  ∀ (s : Shared) (us : List Value), K.In s.heap → (us ++ ds).length = ps.length → BindsTo s fd ⟨us, []⟩ (ps.zip (us ++ ds))
/-- every parameter is given -/
theorem Binds.all {K : PySem.W.Frag} {fd : FuncData} {ps : List Str} (h : ∀ us : List Value, us.length = ps.length → bindArgs fd ⟨us, []⟩ = pure (ps.zip us)) : Binds K fd ps [] := fun s us _ hl => by
  rw [List.append_nil] at hl ⊢
  exact .of_eq (h us hl)

/-- an exception of a callee reaches what this body wants of exceptions -/
def Passes (CX : CXT) (X : Cx) (E : XK) : Prop := ∀ (pins : List (Addr × Obj)) (σ : St) (H : Hp) (s : Shared) (e : Value) (s' : Shared), Inv X pins σ H s → CX X.stack H s E e s' → X.xe e s'

section
variable {X : Cx} {CX : CXT} {k : Nat} {f C : Addr} {fd : FuncData} {ps : List Str} {sp : Sp} {dvs : List V} {ds : List Value} {E : XK} {x m : Str} {p pos apos : Pos} {e o : Expr} {es : List Expr} {ta : TE} {t : TA}

/-- the callee runs -/
theorem run_fn {pins : List (Addr × Obj)} {σ : St} {H : Hp} {s : Shared} {Q : VK} {us : List Value} {vs : List V} (F : FnOk X.prog X.w X.K X.mg X.base CX k f fd ps sp) (hr : Room k X.A) (hb : Binds X.K fd ps ds) (hd : Vals dvs ds) (hx : Passes CX X E)
    (I : Inv X pins σ H s) (r : Vals vs us) (h : sp (vs ++ dvs) H Q E) : wpAny (model X.prog X.w) X.A (call (.ref f) us) (EP X pins σ Q) X.xe s := by
  have r2 : Vals (vs ++ dvs) (us ++ ds) := r.append hd
  have hl : (us ++ ds).length = ps.length := by rw [← r2.length]; exact F.len _ _ _ _ h
  refine wpAny_call (codeAny_mono (F.run X.A X.stack s H ⟨us, []⟩ (us ++ ds) (vs ++ dvs) Q E hr I.env0 (hb s us I.kIn hl) r2 h) fun r s' hq => ?_)
  cases r with
  | error e => exact hx pins σ H s e s' I hq
  | ok fl =>
    cases fl with
    | ret u => exact I.after hq
    | next => exact False.elim hq
    | brk => exact False.elim hq
    | cont => exact False.elim hq

theorem pe_call (F : FnOk X.prog X.w X.K X.mg X.base CX k f fd ps sp) (hr : Room k X.A) (hg : Gl X x) (hm : X.mg x = some (.ref f)) (hk : PySem.W.keepIn X.K (.ref f) = true) (hb : Binds X.K fd ps ds) (hd : Vals dvs ds) (hx : Passes CX X E)
    (ha : PA X (e :: es) t) (hdb : (x == ("__debug__" : Str)) = false := by decide) (he : starEach (e :: es) X.env = (false, eval e X.env) :: starEach es X.env := by rfl) (hpl : (backTo pos (starEach es X.env)).any (·.1) = false := by rfl) :
    PE X (.Call (.Name x p) (e :: es) [] pos) (tCall sp dvs E t) := by
  intro pins s σ H Q I h
  refine wpAny_Call_Name_kw (ld_glob I hg hm ?_ hdb)
  refine PySem.W.callWith_K (h₀ := X.base) I.ok.mod.kin hk (thn (ha pos pins s σ H _ I h) fun us s1 ⟨vs, H1, I1, r, q⟩ => ⟨I1.kIn, ?_⟩) he hpl
  exact run_fn F hr hb hd hx I1 r q
/-- what a class must have to be made -/
structure Mk (K : PySem.W.Frag) (C f : Addr) : Prop where
  makes : PySem.W.makesIn K C = true
  init : PySem.W.findIn K (.ref C) "__init__" = some (some (.ref f))
  fn : PySem.W.isFn K (.ref f) = true
  kp : PySem.W.keepIn K (.ref C) = true

end

/-! ### keywords -/
/-- the values of the keywords, from the left -/
def PK (X : Cx) (kws : List Keyword) (t : TA) : Prop :=
  ∀ (pos : Pos) (pins : List (Addr × Obj)) (s : Shared) (σ : St) (H : Hp) (Q : List V → Hp → Prop), Inv X pins σ H s → t σ H Q → wpAny (model X.prog X.w) X.A (evalAll ((backToKw pos (keywordEach kws X.env)).map (·.2))) (AP X pins σ Q) X.xe s
section
variable {X : Cx} {CX : CXT} {k : Nat} {f C : Addr} {fd : FuncData} {ps ks : List Str} {sp : Sp} {E : XK} {x m : Str} {p pos apos kpos : Pos} {e o : Expr} {es : List Expr} {kws : List Keyword} {te ta : TE} {t tk : TA} {nm : Option Str}
/-- how a call with keywords binds: g puts the positional values us and the keywords' values ws (names ks) in the parameters' order, defaults among them -/
structure KBinds (K : PySem.W.Frag) (fd : FuncData) (ps ks : List Str) (g : List Value → List Value → List Value) (gV : List V → List V → List V) : Prop where
  to : ∀ (s : Shared) (us ws : List Value), K.In s.heap → (g us ws).length = ps.length → BindsTo s fd ⟨us, ks.zip ws⟩ (ps.zip (g us ws))
  rel : ∀ {vs : List V} {us : List Value} {zs : List V} {ws : List Value}, Vals vs us → Vals zs ws → Vals (gV vs zs) (g us ws)
def tCallK (sp : Sp) (gV : List V → List V → List V) (E : XK) (t tk : TA) : TE := fun σ H Q => t σ H fun vs H1 => tk σ H1 fun zs H2 => sp (gV vs zs) H2 Q E
variable {g : List Value → List Value → List Value} {gV : List V → List V → List V}
end

/-! ### a def's body keeps its promise -/
/-- names: the parameters first -/
structure FnScope (N P : List Str) (sc : Scope) : Prop where
  kind : sc.kind = .function
  co : sc.isCoroutine = false
  gen : sc.isGenerator = false
  nd : N.Nodup
  pre : N.take P.length = P
  par : ∀ x ∈ P, sc.names.lookup x = some .local ∨ sc.names.lookup x = some .cell
  nofree : ∀ y ∈ sc.names, y.2 ≠ .free

theorem bindL_out {kindOf : Str → Option NameKind} {x : Str} : ∀ {binds : List (Str × Value)} {m : Str → Option Value}, (∀ v, (x, v) ∉ binds) → bindL kindOf binds m x = m x
  | [], _, _ => rfl
  | (n, v) :: r, m, h => by
    unfold bindL
    rw [bindL_out fun w hw => h w (List.mem_cons_of_mem _ hw)]
    split
    · have : x ≠ n := by rintro rfl; exact h v List.mem_cons_self
      simp [this]
    · rfl
theorem bindC_out {kindOf : Str → Option NameKind} {x : Str} : ∀ {binds : List (Str × Value)} {m : Str → Option Value}, (∀ v, (x, v) ∉ binds) → bindC kindOf binds m x = m x
  | [], _, _ => rfl
  | (n, v) :: r, m, h => by
    unfold bindC
    rw [bindC_out fun w hw => h w (List.mem_cons_of_mem _ hw)]
    split
    · rfl
    · have : x ≠ n := by rintro rfl; exact h v List.mem_cons_self
      simp [this]
theorem bindL_get {kindOf : Str → Option NameKind} {x : Str} {v : Value} : ∀ {P : List Str} {vs : List Value} {i : Nat} {m : Str → Option Value}, P.Nodup → P[i]? = some x → vs[i]? = some v → kindOf x = some .local →
    bindL kindOf (P.zip vs) m x = some v
  | [], _, _, _, _, h, _, _ => by simp at h
  | _ :: _, [], _, _, _, _, h, _ => by simp at h
  | p :: P, w :: vs, 0, m, nd, h1, h2, hk => by
    simp at h1 h2; subst h1; subst h2
    show bindL kindOf ((p, w) :: P.zip vs) m p = _
    unfold bindL
    rw [bindL_out fun v hv => (List.nodup_cons.mp nd).1 (List.of_mem_zip hv).1, if_pos hk]
    simp
  | p :: P, w :: vs, i + 1, m, nd, h1, h2, hk => by
    show bindL kindOf ((p, w) :: P.zip vs) m x = _
    unfold bindL
    exact bindL_get (i := i) (List.nodup_cons.mp nd).2 (by simpa using h1) (by simpa using h2) hk
theorem bindC_get {kindOf : Str → Option NameKind} {x : Str} {v : Value} : ∀ {P : List Str} {vs : List Value} {i : Nat} {m : Str → Option Value}, P.Nodup → P[i]? = some x → vs[i]? = some v → kindOf x ≠ some .local →
    bindC kindOf (P.zip vs) m x = some v
  | [], _, _, _, _, h, _, _ => by simp at h
  | _ :: _, [], _, _, _, _, h, _ => by simp at h
  | p :: P, w :: vs, 0, m, nd, h1, h2, hk => by
    simp at h1 h2; subst h1; subst h2
    show bindC kindOf ((p, w) :: P.zip vs) m p = _
    unfold bindC
    rw [bindC_out fun v hv => (List.nodup_cons.mp nd).1 (List.of_mem_zip hv).1, if_neg hk]
    simp
  | p :: P, w :: vs, i + 1, m, nd, h1, h2, hk => by
    show bindC kindOf ((p, w) :: P.zip vs) m x = _
    unfold bindC
    exact bindC_get (i := i) (List.nodup_cons.mp nd).2 (by simpa using h1) (by simpa using h2) hk

/-- the names' values at the entry -/
def start (N : List Str) (vs : List V) : St := vs.map some ++ List.replicate (N.length - vs.length) none

/-- the context of a def's body, at its entry; an exception leaves the frame, then lies as CX says -/
def cxOf (CX : CXT) (P : Program) (w : World) (K : PySem.W.Frag) (mg : Str → Option Value) (base : Heap) (N : List Str) (qual : Str) (scope : Scope) (f : Addr) (cd : Value) (A : Around) (outer : List Env) (s : Shared) (H : Hp) (E : XK) : Cx where
  prog := P
  w := w
  K := K
  mg := mg
  base := base
  A := A.deeper (envOfC qual scope s.heap.objs.size f cd)
  N := N
  s₀ := s
  H₀ := H
  env := envOfC qual scope s.heap.objs.size f cd
  outer := outer
  stack := envOfC qual scope s.heap.objs.size f cd :: outer
  ex := []
  calm := true
  fn := fun _ => true
  pn := []
  xe := fun e s' => wpAny (model P w) (A.deeper (envOfC qual scope s.heap.objs.size f cd)) (leaving (envOfC qual scope s.heap.objs.size f cd) e) (fun _ s'' => CX outer H s E e s'') (fun e' s'' => CX outer H s E e' s'') s'

theorem cell_has {sc : Scope} {n : Nat} {x : Str} (h : sc.names.lookup x = some .cell) : ∃ c, (cellsFrom n sc.names []).lookup x = some c := by
  have q := PySem.W.cellsFrom_some sc.names n [] (.inl h)
  exact Option.isSome_iff_exists.mp q

theorem inv_start {CX : CXT} {P : Program} {w : World} {K : PySem.W.Frag} {mg : Str → Option Value} {base : Heap} {N ps : List Str} {qual : Str} {scope : Scope} {f : Addr} {cd : Value} {A : Around} {outer : List Env} {s s1 : Shared} {H : Hp} {E : XK} {us : List Value} {vs : List V}
    (S : FnScope N ps scope) (hd : A.handled = none) (e0 : Env0 P w K mg base A outer s H) (hl : vs.length = ps.length) (r : Vals vs us)
    (x : InCallC s s.heap.objs.size (bindL (envOfC qual scope s.heap.objs.size f cd).kindOf (ps.zip us) fun _ => none) (cellsFrom (s.heap.objs.size + 1) scope.names []) (bindC (envOfC qual scope s.heap.objs.size f cd).kindOf (ps.zip us) fun _ => none) s1) :
    Inv (cxOf CX P w K mg base N qual scope f cd A outer s H E) [] (start N vs) H s1 := by
  have hpl : ps.length ≤ N.length := by have := congrArg List.length S.pre; rw [List.length_take] at this; omega
  obtain ⟨h1, tk, rfl, hk⟩ := x.done
  have noA : ∀ b : Addr, b ∉ (cxOf CX P w K mg base N qual scope f cd A outer s H E).ex := fun b z => absurd (show b ∈ ([] : List Addr) from z) (by simp)
  refine ⟨⟨e0.mod, S.kind, rfl, rfl, Nat.le_refl _, fun y z c h1 h2 => ?_, fun y hy => ?_, fun y c _ h => ?_, fun _ => hd, Around.frames_deeper e0.frames, .inr ⟨rfl, rfl⟩, fun b z => absurd z (noA b), e0.bs, e0.bsz, fun b _ _ => noA b, fun b z => absurd z (noA b), e0.funs, e0.frf⟩,
    rfl, e0.bare, Un.kept hk, ⟨_, x.toInCall.ns, fun i y v h1 h2 h3 => ?_⟩, fun y c h => ⟨_, x.cell y c h⟩, e0.hok.fresh (Nat.le_refl _), fun y c h => ?_, fun p hp => absurd (show p ∈ ([] : List (Addr × Obj)) from hp) (by simp), e0.hok.kept hk, ?_⟩
  · exact name_of_addr x.apart (PySem.mem_of_lookup h1) (PySem.mem_of_lookup h2)
  · have hy : scope.names.lookup y = some .cell ∨ scope.names.lookup y = some .free := hy
    rcases hy with hy | hy
    · exact cell_has hy
    · exact absurd rfl (S.nofree _ (PySem.mem_of_lookup hy))
  · exact Nat.le_of_lt (x.above y c (PySem.mem_of_lookup h))
  · have hi : i < vs.length := by
      unfold start at h2
      by_cases hi : i < vs.length
      · exact hi
      · rw [List.getElem?_append_right (by simpa using hi)] at h2
        rw [List.getElem?_replicate] at h2
        split at h2 <;> cases h2
    have ha : vs[i]? = some v := by
      unfold start at h2
      rw [List.getElem?_append_left (by simpa using hi), List.getElem?_map] at h2
      cases e : vs[i]? with
      | none => rw [e] at h2; cases h2
      | some a => rw [e] at h2; cases h2; rfl
    obtain ⟨u, hu, rv⟩ := r.get ha
    have hp : ps[i]? = some y := by
      rw [← S.pre, List.getElem?_take_of_lt (by omega)]; exact h1
    have ndP : ps.Nodup := by rw [← S.pre]; exact S.nd.sublist (List.take_sublist _ _)
    refine ⟨u, rv, ?_⟩
    rcases S.par y (List.mem_of_getElem? hp) with k | k
    · exact .inl ⟨k, bindL_get ndP hp hu k⟩
    · obtain ⟨c, e⟩ := cell_has (n := s.heap.objs.size + 1) k
      refine .inr ⟨.inl k, c, e, ?_⟩
      have q := x.cell y c e
      rw [bindC_get ndP hp hu (by show scope.names.lookup y ≠ _; rw [k]; decide)] at q
      exact q
  · exact e0.hok.fresh (Nat.le_of_lt (x.above y c (PySem.mem_of_lookup h)))
  · unfold start
    show _ = N.length
    rw [List.length_append, List.length_map, List.length_replicate]
    omega

/-- THE RULE: a def (or a method) of the text, by its body. The body's reading t is chosen for each entry; it is run at the parameters' values -/
theorem fn_of {CX : CXT} {P : Program} {w : World} {K : PySem.W.Frag} {mg : Str → Option Value} {base : Heap} {k : Nat} {f : Addr} {name qual : Str} {params : Arguments} {body : List Stmt} {scope : Scope} {dV kV doc pm cdv ct oc : Value} {an od : Option Addr}
    {osl : Array (Option Value)} {N ps : List Str} {sp : Sp} (lk : K.lookup f = some ⟨oc, od, .func (PySem.W.fnOf name qual params body scope dV kV doc pm an cdv ct), osl⟩) (hcd : PySem.W.codeIn K cdv qual = true) (S : FnScope N ps scope)
    (len : ∀ vs H Q E, sp vs H Q E → vs.length = ps.length)
    (hbody : ∀ (A : Around) (outer : List Env) (s : Shared) (H : Hp) (vs : List V) (Q : VK) (E : XK), Room k (A.deeper (envOfC qual scope s.heap.objs.size f cdv)) → sp vs H Q E →
      ∃ t, PSs (cxOf CX P w K mg base N qual scope f cdv A outer s H E) body t ∧ t { nx := fun _ H' => Q .non H', rt := Q } (start N vs) H) :
    FnOk P w K mg base CX (k + 1) f (PySem.W.fnOf name qual params body scope dV kV doc pm an cdv ct) ps sp := by
  refine ⟨len, fun A outer s H args us vs Q E hr e0 hb r hsp => ?_⟩
  have hl := len _ _ _ _ hsp
  have KX : K.In s.heap := e0.mod.kin.keeps fun b o e => (e0.bs b o e).1
  have lim : s.heap.NoLimit := e0.mod.nolimit.keeps fun b o e => (e0.bs b o e).1
  have hkind : ∀ y ∈ ps.zip us, scope.names.lookup y.1 = some .local ∨ (scope.names.lookup y.1 = some .cell ∧ ((cellsFrom (s.heap.objs.size + 1) scope.names []).lookup y.1).isSome = true) := fun ⟨n, v⟩ hy => by
    rcases S.par n (List.of_mem_zip hy).1 with q | q
    · exact .inl q
    · exact .inr ⟨q, PySem.W.cellsFrom_some _ _ _ (.inl q)⟩
  refine codeAny_call_function hr.depth (KX _ _ lk) rfl S.co S.gen rfl (PySem.W.codeRec_of KX hcd) (hb _ _ _ _ ?_)
  refine wpAny_newFunctionEnv_cells S.kind hkind fun env he s1 x => ?_
  subst he
  refine ⟨lim.keeps x.toInCall.keep, codeAny_func ?_⟩
  obtain ⟨t, ht, hq⟩ := hbody A outer s H vs Q E (hr.deeper _) hsp
  have I : Inv (cxOf CX P w K mg base N qual scope f cdv A outer s H E) [] (start N vs) H s1 := inv_start S hr.hd e0 hl r x
  refine wpAny_mono (ht [] s1 (start N vs) H _ I hq) (fun fl s' hs => ?_) fun e s' hs => hs
  have fin : ∀ {σ' : St} {H' : Hp} {v : V} {u : Value}, Inv (cxOf CX P w K mg base N qual scope f cdv A outer s H E) [] σ' H' s' → RelV v u → Q v H' → CE outer P w H s Q u s' :=
    fun {σ' H' v u} J rv q => ⟨v, H', J.os, J.bare, J.base, J.hok, rv, q⟩
  cases fl with
  | ret u =>
    obtain ⟨v, σ', H', J, rv, q⟩ := hs
    exact fin J rv q
  | next =>
    obtain ⟨σ', H', J, q⟩ := hs
    exact fin (v := V.non) (u := Value.none) J rfl q
  | brk =>
    obtain ⟨_, _, _, q⟩ := hs
    exact False.elim q
  | cont =>
    obtain ⟨_, _, _, q⟩ := hs
    exact False.elim q
end L2

namespace L2
open PySem PySem.Spec PyProof.Rows
section
variable {X : Cx} {x : Str} {p pos : Pos} {e : Expr} {es : List Expr} {t : TA} {id T : String} {r : List V → Hp → VK → Prop}

def tCB (r : List V → Hp → VK → Prop) (t : TA) : TE := fun σ H Q => t σ H fun vs H1 => r vs H1 Q
/-- f(e, ..), f a built-in function -/
theorem pe_callB (hc : CallR X (.builtin id) r) (hg : Gl X x) (hm : X.mg x = none) (hv : bootBuiltins x = some (.builtin id)) (ha : PA X (e :: es) t) (hn : x ≠ "__name__" := by decide) (hdb : (x == ("__debug__" : Str)) = false := by decide)
    (he : starEach (e :: es) X.env = (false, eval e X.env) :: starEach es X.env := by rfl) (hpl : (backTo pos (starEach es X.env)).any (·.1) = false := by rfl) : PE X (.Call (.Name x p) (e :: es) [] pos) (tCB r t) := by
  intro pins s σ H Q I h
  refine wpAny_Call_Name_kw (ld_blt I hg hm hv ?_ hn hdb)
  exact PyProof.Rows.callWith_builtin1 (thn (ha pos pins s σ H _ I h) fun us s1 ⟨vs, H1, I1, r1, q1⟩ => hc pins s1 σ H1 vs us Q I1 r1 q1) he hpl
/-- T(e, ..), T a built-in type -/
theorem pe_callTy (hc : CallR X (.type T) r) (hg : Gl X x) (hm : X.mg x = none) (hv : bootBuiltins x = some (.type T)) (ha : PA X (e :: es) t) (hn : x ≠ "__name__" := by decide) (hdb : (x == ("__debug__" : Str)) = false := by decide)
    (he : starEach (e :: es) X.env = (false, eval e X.env) :: starEach es X.env := by rfl) (hpl : (backTo pos (starEach es X.env)).any (·.1) = false := by rfl) : PE X (.Call (.Name x p) (e :: es) [] pos) (tCB r t) := by
  intro pins s σ H Q I h
  refine wpAny_Call_Name_kw (ld_blt I hg hm hv ?_ hn hdb)
  exact PyProof.Rows.callWith_type1 (thn (ha pos pins s σ H _ I h) fun us s1 ⟨vs, H1, I1, r1, q1⟩ => hc pins s1 σ H1 vs us Q I1 r1 q1) he hpl
end
end L2

namespace HT
open PySem PyProof.Rows

/-- t < u of tuples of ints -/
def lexLt : List Int → List Int → Bool
  | [], [] => false
  | [], _ :: _ => true
  | _ :: _, [] => false
  | x :: xs, y :: ys => if x = y then lexLt xs ys else decide (x < y)
section
open PySem.SeqAt
open PySem.AutoSeq1 (wpAny_loadPart')
open PySem.MeetsSeq PySem.MeetsSeq2 PySem.MeetsSeq3

end

section
variable {prog : Program} {w : World} {A : Around} {E : Value → Shared → Prop} {s : Shared}

/-! ### t[a:b], not the whole -/
/-- a slice's bound as a place among n (d where it is left out) -/
def sIx (n d : Nat) : Option Int → Nat
  | none => d
  | some v => if v < 0 then (v + (n : Int)).toNat else min v.toNat n
end
end HT

namespace L2
open PySem PySem.Spec PyProof.Rows

/-! ### the parts of a slice -/
abbrev TO := St → Hp → (Option Int → Hp → Prop) → Prop
/-- a slice's part (left out, or an int) -/
def PO (X : Cx) (e : Option Expr) (t : TO) : Prop :=
  ∀ (pins : List (Addr × Obj)) (s : Shared) (σ : St) (H : Hp) (Q : Option Int → Hp → Prop), Inv X pins σ H s → t σ H Q →
    wpAny (model X.prog X.w) X.A (evalPart e X.env) (fun u s' => ∃ o H', Inv X pins σ H' s' ∧ IsPart u o ∧ Q o H') X.xe s
def tNoPart : TO := fun _ H Q => Q none H
def tPart (t : TE) : TO := fun σ H Q => t σ H fun x H1 => ∃ i, x = .int i ∧ Q (some i) H1

section
variable {X : Cx} {e : Expr} {te : TE} {lo hi : Option Expr} {tl th : TO} {pos p2 : Pos}

theorem po_none : PO X none tNoPart := by
  intro pins s σ H Q I h
  rw [evalPart_none]
  exact wpAny_pure ⟨none, H, I, .none, h⟩
theorem po_some (h : PE X e te) : PO X (some e) (tPart te) := by
  intro pins s σ H Q I hw
  rw [evalPart_some]
  refine thn (h pins s σ H _ I hw) fun u s1 ⟨x, H1, I1, r1, q1⟩ => ?_
  obtain ⟨i, rfl, q⟩ := q1
  obtain ⟨t, rfl⟩ := r1
  exact ⟨some i, H1, I1, .int i t, q⟩

/-- what a slice of a value is, by values: the slice object stands at sl -/
def SlR (X : Cx) (r : V → Option Int → Option Int → Hp → VK → Prop) : Prop :=
  ∀ (pins : List (Addr × Obj)) (s : Shared) (σ : St) (H : Hp) (x : V) (v vl vu : Value) (lo hi : Option Int) (sl : Addr) (Q : VK), Inv X pins σ H s → RelV x v → s.heap.IsSliceOf sl vl vu .none → IsPart vl lo → IsPart vu hi → r x lo hi H Q →
    ∃ T id, typeLookup (.type T) "__getitem__" = pure (some (.builtin id)) ∧ s.TypeIs v T ∧ wpAny (model X.prog X.w) X.A (getItem v (.ref sl)) (EP X pins σ Q) X.xe s
theorem SlR.or {r r' : V → Option Int → Option Int → Hp → VK → Prop} (h : SlR X r) (h' : SlR X r') : SlR X (fun x lo hi H Q => r x lo hi H Q ∨ r' x lo hi H Q) := by
  intro pins s σ H x v vl vu lo hi sl Q I rx hs pl pu q
  rcases q with q | q
  · exact h pins s σ H x v vl vu lo hi sl Q I rx hs pl pu q
  · exact h' pins s σ H x v vl vu lo hi sl Q I rx hs pl pu q
def tSl (r : V → Option Int → Option Int → Hp → VK → Prop) (te : TE) (tl th : TO) : TE := fun σ H Q => te σ H fun x H1 => tl σ H1 fun l H2 => th σ H2 fun u H3 => r x l u H3 Q
/-- a[lo:hi], any a -/
theorem pe_slice {r : V → Option Int → Option Int → Hp → VK → Prop} (hr : SlR X r) (he : PE X e te) (hl : PO X lo tl) (hu : PO X hi th) : PE X (.Subscript e (.Slice lo hi none p2) pos) (tSl r te tl th) := by
  intro pins s σ H Q I h
  refine Subscript_ (thn (he pins s σ H _ I h) fun v s1 ⟨x, H1, I1, r1, q1⟩ => ?_)
  refine wpAny_Slice (thn (hl pins s1 σ H1 _ I1 q1) fun vl s2 ⟨l, H2, I2, pl, q2⟩ => thn (hu pins s2 σ H2 _ I2 q2) fun vu s3 ⟨u, H3, I3, pu, q3⟩ => ?_)
  rw [evalPart_none]
  refine wpAny_pure ?_
  have I4 : Inv X pins σ H3 { s3 with heap := s3.heap.push { cls := .type "slice", data := .fields #[vl, vu, .none] } } := I3.kept (t' := s3.toks) fun b ob q => Heap.get?_push_of_some _ q
  obtain ⟨T, id, hT, ht, hg⟩ := hr pins { s3 with heap := s3.heap.push { cls := .type "slice", data := .fields #[vl, vu, .none] } } σ H3 x v vl vu l u s3.heap.objs.size Q I4 r1 (Heap.IsSliceOf.new ..) pl pu q3
  show wpAny (model X.prog X.w) X.A (subscriptTail e (.Slice lo hi none p2) v (.ref s3.heap.objs.size)) (EP X pins σ Q) X.xe { s3 with heap := s3.heap.push { cls := .type "slice", data := .fields #[vl, vu, .none] } }
  exact tail_any (ops := [.ref s3.heap.objs.size, v]) ht hT hg (by with_unfolding_all rfl)

/-- the items of xs[lo:hi] -/
def cutV (xs : List V) (lo hi : Option Int) : List V := (xs.drop (HT.sIx xs.length 0 lo)).take (HT.sIx xs.length xs.length hi - HT.sIx xs.length 0 lo)
/-- t[lo:hi], not the whole of it (the whole would be t itself) -/
def rSlT (K : PySem.W.Frag) : V → Option Int → Option Int → Hp → VK → Prop := fun x lo hi H Q => ∃ a xs, x = .ref a ∧ SqT K H a xs ∧
  ¬ (HT.sIx xs.length 0 lo = 0 ∧ HT.sIx xs.length xs.length hi = xs.length) ∧ ∀ p, H p = none → Q (.ref p) (upd H p (.tup (cutV xs lo hi)))
/-! ### t < u, t + u -/
def rLtT (K : PySem.W.Frag) : R2 := fun x y H Q => ∃ a b ns ms, x = .ref a ∧ y = .ref b ∧ SqT K H a (ns.map V.int) ∧ SqT K H b (ms.map V.int) ∧ Q (.bl (HT.lexLt ns ms)) H
/-- t + u, t not empty: u empty gives t itself -/
def rCatT (K : PySem.W.Frag) : R2 := fun x y H Q => ∃ a b xs ys, x = .ref a ∧ y = .ref b ∧ SqT K H a xs ∧ SqT K H b ys ∧ xs ≠ [] ∧ xs.length + ys.length ≤ sizeLine ∧
  (ys = [] → Q (.ref a) H) ∧ (ys ≠ [] → ∀ p, H p = none → Q (.ref p) (upd H p (.tup (xs ++ ys))))
end
end L2

namespace L2
open PySem PySem.Spec PyProof.Rows

/-! ### places -/
/-- the place that an index of any sign means -/
def ixN (n : Nat) (i : Int) : Option Nat := if 0 ≤ i then (if i < n then some i.toNat else none) else if -(n : Int) ≤ i then some (i + n).toNat else none
def atI {α : Type} (xs : List α) (i : Int) : Option α := (ixN xs.length i).bind fun j => xs[j]?
theorem ixN_seq {n : Nat} {i : Int} {j : Nat} (h : ixN n i = some j) : seqIndex? i n = some j ∧ j < n ∧ -(n : Int) ≤ i ∧ i < n := by
  unfold ixN at h
  by_cases h0 : 0 ≤ i
  · rw [if_pos h0] at h
    by_cases h1 : i < n
    · rw [if_pos h1] at h
      have e : i.toNat = j := Option.some.inj h
      exact ⟨by rw [seqIndex_of h0 h1, e], by omega, by omega, h1⟩
    · rw [if_neg h1] at h; cases h
  · rw [if_neg h0] at h
    by_cases h1 : -(n : Int) ≤ i
    · rw [if_pos h1] at h
      have e : (i + n).toNat = j := Option.some.inj h
      exact ⟨by rw [seqIndex_neg (by omega) h1, e], by omega, h1, by omega⟩
    · rw [if_neg h1] at h; cases h
theorem atI_get {α : Type} {xs : List α} {i : Int} {v : α} (h : atI xs i = some v) : ∃ j, seqIndex? i xs.length = some j ∧ xs[j]? = some v ∧ j < xs.length ∧ -(xs.length : Int) ≤ i ∧ i < xs.length := by
  unfold atI at h
  cases e : ixN xs.length i with
  | none => rw [e] at h; cases h
  | some j =>
    rw [e] at h
    obtain ⟨h1, h2, h3, h4⟩ := ixN_seq e
    exact ⟨j, h1, h, h2, h3, h4⟩
theorem atI_nat {α : Type} {xs : List α} {j : Nat} {v : α} (h : xs[j]? = some v) : atI xs (j : Int) = some v := by
  have hj : j < xs.length := (List.getElem?_eq_some_iff.mp h).1
  have e : ixN xs.length (j : Int) = some j := by
    unfold ixN
    rw [if_pos (by omega), if_pos (by omega)]; simp
  unfold atI; rw [e]; exact h
/-! ### what may be subscripted -/
/-- what stands as an index of a plain subscript -/
def PlainIx (b : Expr) : Prop := ∀ o i, subscripted b false o i = operate [o, i] (getItem o i)
/-- a subscript by values -/
def IxR (X : Cx) (r : R2) : Prop :=
  ∀ (value slice : Expr) (pins : List (Addr × Obj)) (s : Shared) (σ : St) (H : Hp) (x y : V) (v u : Value) (Q : VK), Inv X pins σ H s → RelV x v → RelV y u → r x y H Q →
    subscripted slice false v u = operate [v, u] (getItem v u) → wpAny (model X.prog X.w) X.A (subscriptTail value slice v u) (EP X pins σ Q) X.xe s
/-- a call of a builtin's method by values: the receiver, the arguments -/
def MtR (X : Cx) (id : String) (r : V → List V → Hp → VK → Prop) : Prop :=
  ∀ (pins : List (Addr × Obj)) (s : Shared) (σ : St) (H : Hp) (x : V) (xs : List V) (v : Value) (us : List Value) (Q : VK), Inv X pins σ H s → RelV x v → Vals xs us → r x xs H Q →
    wpAny (model X.prog X.w) X.A (call (.builtin id) (v :: us)) (EP X pins σ Q) X.xe s
section
variable {X : Cx} {a b : Expr} {ta tb : TE} {pos : Pos}
theorem IxR.or {r r' : R2} (h : IxR X r) (h' : IxR X r') : IxR X (fun x y H Q => r x y H Q ∨ r' x y H Q) := by
  intro value slice pins s σ H x y v u Q I rx ry q hs
  rcases q with q | q
  · exact h value slice pins s σ H x y v u Q I rx ry q hs
  · exact h' value slice pins s σ H x y v u Q I rx ry q hs
theorem MtR.or {id : String} {r r' : V → List V → Hp → VK → Prop} (h : MtR X id r) (h' : MtR X id r') : MtR X id (fun x xs H Q => r x xs H Q ∨ r' x xs H Q) := by
  intro pins s σ H x xs v us Q I rx rs q
  rcases q with q | q
  · exact h pins s σ H x xs v us Q I rx rs q
  · exact h' pins s σ H x xs v us Q I rx rs q
/-- a[b] -/
theorem pe_ix {r : R2} (hr : IxR X r) (ha : PE X a ta) (hb : PE X b tb) (hs : PlainIx b) : PE X (.Subscript a b pos) (tOp r ta tb) := by
  intro pins s σ H Q I h
  exact Subscript_ (binT ha hb I h fun v u s2 x y H2 I2 rx ry q => hr a b pins s2 σ H2 x y v u Q I2 rx ry q (hs _ _))

def rIxL (K : PySem.W.Frag) : R2 := fun x y H Q => ∃ p xs i v, x = .ref p ∧ y = .int i ∧ SqL K H p xs ∧ atI xs i = some v ∧ Q v H
def rIxT (K : PySem.W.Frag) : R2 := fun x y H Q => ∃ p xs i v, x = .ref p ∧ y = .int i ∧ SqT K H p xs ∧ atI xs i = some v ∧ Q v H
def rIxS : R2 := fun x y H Q => ∃ z i c, x = .str z ∧ y = .int i ∧ z.length ≤ sizeLine ∧ atI z.cps.toList i = some c ∧ Q (.str ⟨#[c]⟩) H
theorem ix_list : IxR X (rIxL X.K) := by
  intro value slice pins s σ H x y v u Q I rx ry h hs
  obtain ⟨p, xs, i, z, rfl, rfl, hq, he, q⟩ := h
  cases rx
  obtain ⟨t, rfl⟩ := ry
  obtain ⟨its, r, pl, hz⟩ := I.list hq
  obtain ⟨j, h1, h2, h3, h4, h5⟩ := atI_get he
  obtain ⟨w, ew, rw'⟩ := r.get h2
  have hl := r.length
  have hn := line63
  have fin : EP X pins σ Q w s := ⟨z, H, I, rw', q⟩
  by_cases h0 : 0 ≤ i
  · have hj : i.toNat = j := by
      rw [seqIndex_of h0 h5] at h1
      exact Option.some.inj h1
    exact item_listR pl.isList h0 (by omega) (by rw [hj]; simpa using ew) fin hs
  · have hj : (i + (its.toArray.size : Int)).toNat = j := by
      rw [seqIndex_neg (by omega) h4] at h1
      rw [List.size_toArray, ← hl]
      exact Option.some.inj h1
    exact subscriptTail_builtinR (x := w) pl.isList.typeIs slot_list_getitem.lookup
      (wpAny_getItem_list_neg (Q := fun r s' => r = w ∧ EP X pins σ Q r s') pl.isList (by omega) (by rw [List.size_toArray] <;> omega) (by omega) (by rw [hj]; simpa using ew) ⟨rfl, fin⟩) hs
theorem ix_tup : IxR X (rIxT X.K) := by
  intro value slice pins s σ H x y v u Q I rx ry h hs
  obtain ⟨p, xs, i, z, rfl, rfl, hq, he, q⟩ := h
  cases rx
  obtain ⟨t, rfl⟩ := ry
  obtain ⟨its, r, pl, hz⟩ := I.tuple hq
  obtain ⟨j, h1, h2, h3, h4, h5⟩ := atI_get he
  obtain ⟨w, ew, rw'⟩ := r.get h2
  have hl := r.length
  have hn := line63
  have fin : EP X pins σ Q w s := ⟨z, H, I, rw', q⟩
  exact subscriptTail_builtinR (x := w) pl.typeIs slot_tuple_getitem.lookup
    (getItem_tuple (j := j) (Q := fun r s' => r = w ∧ EP X pins σ Q r s') pl (by omega) (by omega) (by rw [List.size_toArray, ← hl]; exact h1) (by simpa using ew) ⟨rfl, fin⟩) hs
/-- list, tuple or str -/
def rIx (K : PySem.W.Frag) : R2 := fun x y H Q => rIxL K x y H Q ∨ rIxT K x y H Q ∨ rIxS x y H Q
theorem Inv.lst {pins : List (Addr × Obj)} {σ : St} {H : Hp} {s : Shared} {p : Addr} {xs : List V} (I : Inv X pins σ H s) (h : H p = some (.lst xs)) :
    ∃ (its : List Value) (n : Nat), Vals xs its ∧ s.heap.get? p = some { cls := .type "list", data := .seq its.toArray n } ∧ xs.length ≤ sizeLine := by
  obtain ⟨z, its, n, r, e⟩ := I.hok p _ h
  exact ⟨its, n, r, e, z⟩
def rSetL : V → V → V → Hp → (Hp → Prop) → Prop := fun o i v H Q => ∃ p xs k j, o = .ref p ∧ i = .int k ∧ H p = some (.lst xs) ∧ ixN xs.length k = some j ∧ Q (upd H p (.lst (xs.set j v)))
/-- xs[lo:hi] of a list: a new list -/
def rSlL (K : PySem.W.Frag) : V → Option Int → Option Int → Hp → VK → Prop := fun x lo hi H Q => ∃ a xs, x = .ref a ∧ SqL K H a xs ∧ ∀ p, H p = none → Q (.ref p) (upd H p (.lst (cutV xs lo hi)))
/-! ### in, not in: flat items -/
def flatV : V → Bool
  | .non => true
  | .bl _ => true
  | .int _ => true
  | .str _ => true
  | _ => false
/-- == of flat values -/
def eqV : V → V → Bool
  | .non, .non => true
  | .bl a, .bl b => a == b
  | .bl a, .int b => (if a then 1 else 0) == b
  | .int a, .bl b => a == (if b then 1 else 0)
  | .int a, .int b => a == b
  | .str a, .str b => a == b
  | _, _ => false
/-- the items' answers, read off the values (a value's own answer does not lean on its token) -/
def eqU (x : V) (u : Value) : Bool := match u with
  | .none => eqV .non x
  | .bool b => eqV (.bl b) x
  | .int i _ => eqV (.int i) x
  | .str z _ => eqV (.str z) x
  | _ => false
def inV (x : V) (xs : List V) : Bool := xs.any fun y => eqV y x
/-- x in a list or tuple of flat items -/
def rIn (K : PySem.W.Frag) (neg : Bool) : R2 := fun x y H Q => ∃ p xs, y = .ref p ∧ (SqL K H p xs ∨ SqT K H p xs) ∧ flatV x = true ∧ xs.all flatV = true ∧ Q (.bl (if neg then !inV x xs else inV x xs)) H
/-! ### len, list(x), tuple(x) of any list or tuple that is read -/
theorem call_len_seq : CallR X (.builtin "len") (fun xs H Q => ∃ p ys, xs = [.ref p] ∧ (SqL X.K H p ys ∨ SqT X.K H p ys) ∧ Q (.int ys.length) H) := by
  intro pins s σ H xs us Q I r h
  obtain ⟨p, ys, rfl, hq, q⟩ := h
  obtain ⟨u, rfl, rx⟩ := vals1 r
  cases rx
  have hn := line63
  rcases hq with hq | hq
  · obtain ⟨its, r', pl, hz⟩ := I.list hq
    have hlen := r'.length
    exact Calls.call_len_list pl.isList (by simp only [List.size_toArray] <;> omega) ⟨.int ys.length, H, I.tok _, ⟨s.toks + 1, by rw [List.size_toArray, hlen]⟩, q⟩
  · obtain ⟨its, r', pl, hz⟩ := I.tuple hq
    have hlen := r'.length
    exact len_tuple pl (by simp only [List.size_toArray] <;> omega) ⟨.int ys.length, H, I.tok _, ⟨s.toks + 1, by rw [List.size_toArray, hlen]⟩, q⟩
theorem CallR.or {f : Value} {r r' : List V → Hp → VK → Prop} (h : CallR X f r) (h' : CallR X f r') : CallR X f (fun xs H Q => r xs H Q ∨ r' xs H Q) := by
  intro pins s σ H xs us Q I rs q
  rcases q with q | q
  · exact h pins s σ H xs us Q I rs q
  · exact h' pins s σ H xs us Q I rs q
/-! ### the call of a builtin's method: o.m(..) -/
/-- the value is of that builtin type -/
def tyV (K : PySem.W.Frag) (T : String) (x : V) (H : Hp) : Prop := match x with
  | .str _ => T = "str"
  | .int _ => T = "int"
  | .ref p => (T = "list" ∧ ∃ xs, SqL K H p xs) ∨ (T = "tuple" ∧ ∃ o, K.lookup p = some o ∧ o.cls = .type "tuple" ∧ o.dict = none) ∨
      (T = "dict" ∧ ∃ kvs, H p = some (.dK kvs)) ∨ (T = "set" ∧ ∃ S n, H p = some (.set S n))
  | _ => False
theorem tyV_is {pins : List (Addr × Obj)} {σ : St} {H : Hp} {s : Shared} {T : String} {x : V} {v : Value} (I : Inv X pins σ H s) (r : RelV x v) (ty : tyV X.K T x H) :
    s.TypeIs v T ∧ ∀ a, v = .ref a → ∃ ob, s.heap.get? a = some ob ∧ ob.dict = none := by
  cases x with
  | str z =>
    obtain ⟨t, rfl⟩ := r
    cases (show T = "str" from ty)
    exact ⟨typeIs_str s z t, fun _ e => nomatch e⟩
  | int i =>
    obtain ⟨t, rfl⟩ := r
    cases (show T = "int" from ty)
    exact ⟨typeIs_int s i t, fun _ e => nomatch e⟩
  | ref p =>
    cases r
    rcases ty with ⟨rfl, xs, hq⟩ | ⟨rfl, o, hk, hc, hd⟩ | ⟨rfl, hk⟩ | ⟨rfl, S, n, hk⟩
    · obtain ⟨its, _, pl, _⟩ := I.list hq
      refine ⟨pl.isList.typeIs, fun a e => ?_⟩
      cases e
      obtain ⟨o, n, e, c, hd, _⟩ := pl
      exact ⟨o, e, hd⟩
    · refine ⟨⟨o, I.kIn p o hk, hc⟩, fun a e => ?_⟩
      cases e
      exact ⟨o, I.kIn _ o hk, hd⟩
    · have z : ∃ o, s.heap.get? p = some o ∧ o.ExactDict := by
        obtain ⟨kvs, hk⟩ := hk
        obtain ⟨_, _, _, _, o, _, _, e, ex, _⟩ := I.hok p _ hk
        exact ⟨o, e, ex⟩
      obtain ⟨o, e, ex⟩ := z
      refine ⟨⟨o, e, ex.1⟩, fun a e2 => ?_⟩
      cases e2
      exact ⟨o, e, ex.2.1⟩
    · obtain ⟨o, _, _, _, e, ex, _⟩ := I.hok p _ hk
      refine ⟨⟨o, e, ex.1⟩, fun a e2 => ?_⟩
      cases e2
      exact ⟨o, e, ex.2.1⟩
  | _ => exact False.elim ty
def tBM0 (K : PySem.W.Frag) (T : String) (r : V → List V → Hp → VK → Prop) (to : TE) : TE := fun σ H Q => to σ H fun x H1 => tyV K T x H1 ∧ r x [] H1 Q
def tBM (K : PySem.W.Frag) (T : String) (r : V → List V → Hp → VK → Prop) (to : TE) (t : TA) : TE := fun σ H Q => to σ H fun x H1 => tyV K T x H1 ∧ t σ H1 fun xs H2 => r x xs H2 Q
variable {o e : Expr} {es : List Expr} {to : TE} {t : TA} {name : Str} {apos cpos : Pos} {T id : String} {r : V → List V → Hp → VK → Prop}
theorem pe_bm (pa : PlainAttrs T) (slot : Slot T name id) (hty : typeOf (.builtin id) = pure (.type "method_descriptor")) (hm : MtR X id r) (ho : PE X o to) (ha : PA X (e :: es) t)
    (hbase : attributeBase o name X.env (eval o X.env) = eval o X.env := by rfl)
    (hfew : ((backTo cpos (starEach (e :: es) X.env)).all (fun x => !x.1) && (backToKw cpos (keywordEach [] X.env)).all (fun x => x.1.isSome)
      && decide ((e :: es).length + ([] : List Keyword).length + (if ([] : List Keyword).isEmpty then 0 else 1) < 30)) = true := by rfl)
    (hline : (apos.endLine == cpos.line) = true := by rfl) (hs : starEach (e :: es) X.env = (false, eval e X.env) :: starEach es X.env := by rfl) (hplain : (backTo cpos (starEach es X.env)).any (·.1) = false := by rfl) :
    PE X (.Call (.Attribute o name apos) (e :: es) [] cpos) (tBM X.K T r to t) := by
  intro pins s σ H Q I h
  refine wpAny_Call_method_late hbase hfew hline rfl (thn (ho pins s σ H _ I h) fun v s1 ⟨x, H1, I1, r1, ty, q1⟩ => ?_)
  obtain ⟨h1, h2⟩ := tyV_is I1 r1 ty
  refine ⟨T, id, pa, slot, hty, h1, h2, ?_⟩
  have hA := ha cpos pins s1 σ H1 _ I1 q1
  rw [hs] at hA ⊢
  refine Calls.callWith_builtin (by show (false || (backTo cpos (starEach es X.env)).any (·.1)) = false; rw [hplain] <;> rfl) (Calls.evalArgs_plain ?_)
  exact thn hA fun us s2 ⟨vs, H2, I2, r2, q2⟩ => hm pins s2 σ H2 x vs v us Q I2 r1 r2 q2
/- xs.append(e), list.index on a module's tuple .. are MtR facts of 06m -/
end
end L2

namespace L2
open PySem PySem.Spec PyProof.Rows

def MtM (X : Cx) (id : String) (r : V → List V → Hp → VK → Prop) : Prop :=
  ∀ (pins : List (Addr × Obj)) (s : Shared) (σ : St) (H : Hp) (x : V) (xs : List V) (v : Value) (us : List Value) (Q : VK), Inv X pins σ H s → RelV x v → Vals xs us → r x xs H Q →
    wpAny (model X.prog X.w) X.A (call (.builtin id) (v :: us)) (EP X pins σ Q) X.xe s

/-! ### lists of values -/
theorem Vals.one : ∀ {x : V} {us : List Value}, Vals [x] us → ∃ u, us = [u] ∧ RelV x u
  | _, _, .cons r .nil => ⟨_, rfl, r⟩
theorem Vals.two : ∀ {x y : V} {us : List Value}, Vals [x, y] us → ∃ u v, us = [u, v] ∧ RelV x u ∧ RelV y v
  | _, _, _, .cons r (.cons q .nil) => ⟨_, _, rfl, r, q⟩
theorem Vals.zero : ∀ {us : List Value}, Vals [] us → us = []
  | _, .nil => rfl
theorem Vals.dropLast {xs : List V} {us : List Value} (h : Vals xs us) : Vals xs.dropLast us.dropLast := by
  induction h with
  | nil => exact .nil
  | cons r t ih =>
    cases t with
    | nil => exact .nil
    | cons q t' => exact .cons r ih
theorem Vals.eraseIdx : ∀ {xs : List V} {us : List Value} (i : Nat), Vals xs us → Vals (xs.eraseIdx i) (us.eraseIdx i)
  | _, _, _, .nil => .nil
  | _, _, 0, .cons _ t => t
  | _, _, i + 1, .cons r t => .cons r (Vals.eraseIdx i t)
theorem Vals.reverse {xs : List V} {us : List Value} (h : Vals xs us) : Vals xs.reverse us.reverse := by
  induction h with
  | nil => exact .nil
  | cons r t ih => rw [List.reverse_cons, List.reverse_cons]; exact Vals.append ih (.cons r .nil)
theorem Vals.rep {xs : List V} {us : List Value} (h : Vals xs us) : ∀ k : Nat, Vals (List.replicate k xs).flatten (List.replicate k us).flatten
  | 0 => .nil
  | k + 1 => by
    rw [List.replicate_succ, List.replicate_succ, List.flatten_cons, List.flatten_cons]
    exact Vals.append h (Vals.rep h k)
theorem foldl_rep (its : List Value) : ∀ (k : Nat) (acc : List Value),
    List.foldl (fun x1 x2 => x1 ++ x2) acc.toArray (List.replicate k its.toArray) = (acc ++ (List.replicate k its).flatten).toArray
  | 0, acc => by simp
  | k + 1, acc => by
    have e : acc.toArray ++ its.toArray = (acc ++ its).toArray := by simp
    have e2 : (acc ++ its) ++ (List.replicate k its).flatten = acc ++ (List.replicate (k + 1) its).flatten := by
      rw [List.replicate_succ, List.flatten_cons, List.append_assoc]
    rw [← e2, ← foldl_rep its k (acc ++ its), ← e, List.replicate_succ, List.foldl_cons]

section
variable {X : Cx} {pins : List (Addr × Obj)} {σ : St} {H : Hp} {s : Shared} {l b : Addr} {xs ys zs : List V}

/-! ### the two steps: a tracked list is rewritten, a new list is laid -/
theorem Inv.lset {its its' : List Value} {n : Nat} {f : Array Value → Array Value} {t' : Nat} (I : Inv X pins σ H s) (hH : H l = some (.lst xs))
    (e : s.heap.get? l = some { cls := .type "list", data := .seq its.toArray n }) (hf : f its.toArray = its'.toArray) (hv : Vals ys its') (hz : ys.length ≤ sizeLine) :
    Inv X pins σ (upd H l (.lst ys)) { s with heap := s.heap.update l (Obj.mapSeq f), toks := t' } := by
  have q := PySem.IsL.update e f
  rw [hf] at q
  refine I.write (x := l) (e := l) (by rw [hH]; exact trivial) (.inl rfl) (fun b' u hb hu => (Heap.get?_update_other s.heap (Obj.mapSeq f) (Ne.symm hb)).trans hu) ⟨_, q⟩ ?_
  exact ⟨hz, its', _, hv, q⟩
theorem Inv.lnew {its : List Value} {t' : Nat} (I : Inv X pins σ H s) (hv : Vals ys its) (hz : ys.length ≤ sizeLine) :
    Inv X pins σ (upd H s.heap.objs.size (.lst ys)) { s with heap := s.heap.push { cls := .type "list", data := .seq its.toArray }, toks := t' } :=
  I.laid (fun _ _ q => Heap.get?_push_of_some _ q) (Nat.le_refl _) ⟨hz, its, 0, hv, Heap.get?_push_size _ rfl⟩
theorem Inv.fresh (I : Inv X pins σ H s) : H s.heap.objs.size = none := I.hok.fresh (Nat.le_refl _)
theorem Inv.lstM (I : Inv X pins σ H s) (hH : H l = some (.lst xs)) : xs.length ≤ sizeLine ∧ ∃ (its : List Value) (n : Nat), Vals xs its ∧ xs.length = its.length ∧ s.heap.get? l = some { cls := .type "list", data := .seq its.toArray n } := by
  obtain ⟨z, its, n, r, e⟩ := I.hok l _ hH
  exact ⟨z, its, n, r, r.length, e⟩

theorem notLongL {n : Nat} (h : n ≤ sizeLine) : Builtin.List.listTooLong n = false := by
  unfold Builtin.List.listTooLong
  exact decide_eq_false (by omega)
end

section
variable {X : Cx}

/-! ### methods -/
def rAppend : V → List V → Hp → VK → Prop := fun x vs H Q => ∃ l xs y, x = .ref l ∧ vs = [y] ∧ H l = some (.lst xs) ∧ xs.length < sizeLine ∧ Q .non (upd H l (.lst (xs ++ [y])))
theorem mt_append : MtM X "list.append" rAppend := by
  intro pins s σ H x vs v us Q I rx rv h
  obtain ⟨l, xs, y, rfl, rfl, hH, hz, q⟩ := h
  cases rx
  obtain ⟨u, rfl, ru⟩ := rv.one
  obtain ⟨z, its, n, r, hl, e⟩ := I.lstM hH
  refine call_meets F.slot_list_append ⟨_, e, rfl⟩ F.entry_list_append (F.args_list_append_2 _ _) (PySem.list_append l its.toArray n u (by rw [List.size_toArray]; omega)) ⟨e, ?_⟩
  refine ⟨.non, _, I.lset (its' := its ++ [u]) hH e (by simp) (r.append (.cons ru .nil)) ?_, rfl, q⟩
  rw [List.length_append, List.length_singleton]
  omega

def rExtend : V → List V → Hp → VK → Prop := fun x vs H Q => ∃ l b xs zs, x = .ref l ∧ vs = [.ref b] ∧ H l = some (.lst xs) ∧ H b = some (.lst zs) ∧ xs.length + zs.length ≤ sizeLine ∧ Q .non (upd H l (.lst (xs ++ zs)))
def rPop : V → List V → Hp → VK → Prop := fun x vs H Q => ∃ l xs y, x = .ref l ∧ vs = [] ∧ H l = some (.lst xs) ∧ xs[xs.length - 1]? = some y ∧ Q y (upd H l (.lst xs.dropLast))
def rPopAt : V → List V → Hp → VK → Prop := fun x vs H Q => ∃ l xs i k y, x = .ref l ∧ vs = [.int i] ∧ H l = some (.lst xs) ∧ -(2 ^ 63) ≤ i ∧ i < 2 ^ 63 ∧ seqIndex? i xs.length = some k ∧ xs[k]? = some y ∧ Q y (upd H l (.lst (xs.eraseIdx k)))
def rReverse : V → List V → Hp → VK → Prop := fun x vs H Q => ∃ l xs, x = .ref l ∧ vs = [] ∧ H l = some (.lst xs) ∧ Q .non (upd H l (.lst xs.reverse))
def rClear : V → List V → Hp → VK → Prop := fun x vs H Q => ∃ l xs, x = .ref l ∧ vs = [] ∧ H l = some (.lst xs) ∧ Q .non (upd H l (.lst []))
/-! ### list + list, list += list, list * int -/
def rCat : R2 := fun x y H Q => ∃ l b xs zs, x = .ref l ∧ y = .ref b ∧ H l = some (.lst xs) ∧ H b = some (.lst zs) ∧ xs.length + zs.length ≤ sizeLine ∧ ∀ p, H p = none → Q (.ref p) (upd H p (.lst (xs ++ zs)))
/-- a list times an int (a negative one is nothing) -/
def rRep : R2 := fun x y H Q => ∃ l k xs, x = .ref l ∧ y = .int k ∧ H l = some (.lst xs) ∧ -(2 ^ 63) ≤ k ∧ k < 2 ^ 63 ∧ xs.length * k.toNat ≤ sizeLine ∧
  ∀ p, H p = none → Q (.ref p) (upd H p (.lst (List.replicate k.toNat xs).flatten))
theorem len_rep {α : Type} (xs : List α) (k : Nat) : (List.replicate k xs).flatten.length = k * xs.length := by
  induction k with
  | zero => simp
  | succ k ih => rw [List.replicate_succ, List.flatten_cons, List.length_append, ih, Nat.succ_mul, Nat.add_comm]
theorem op_rep : OpR X (binaryOp .Mult) rRep := by
  intro pins s σ H x y v u Q I rx ry h
  obtain ⟨l, k, xs, rfl, rfl, hH, h1, h2, hz, q⟩ := h
  cases rx
  obtain ⟨t, rfl⟩ := ry
  obtain ⟨z, its, n, r, hl, e⟩ := I.lstM hH
  have hlen : its.toArray.size * k.toNat ≤ sizeLine := by rw [List.size_toArray, ← hl]; exact hz
  have hcap : ¬ its.toArray.size * k.toNat > (2 ^ 63 - 1) / 8 := by
    have : (sizeLine : Nat) ≤ (2 ^ 63 - 1) / 8 := by decide
    omega
  have hfit : ¬ (!Builtin.List.listFitsIndex k) = true := by
    rw [fitsIndex_both h1 h2]
    exact Bool.false_ne_true
  have hlong : ¬ Builtin.List.listTooLong (its.toArray.size * k.toNat) = true := by
    rw [notLongL hlen]
    exact Bool.false_ne_true
  have hnew : List.foldl (fun x1 x2 => x1 ++ x2) #[] (List.replicate (if its.toArray.isEmpty = true then 0 else k.toNat) its.toArray) = (List.replicate k.toNat its).flatten.toArray := by
    have f0 : ∀ m : Nat, List.foldl (fun x1 x2 => x1 ++ x2) #[] (List.replicate m its.toArray) = (List.replicate m its).flatten.toArray := fun m => by
      have := foldl_rep its m []
      rw [List.nil_append] at this
      exact this
    rw [f0]
    cases its with
    | nil => simp
    | cons a r' => rw [if_neg (by simp)]
  refine wpAny_binaryOp_repeat_ref (T := "list") (U := "int") (by decide) ⟨_, e, rfl⟩ (fun s' => typeIs_int s' k t) noFill_list_mul F.fills_int_mul F.slot_int_rmul repeat_list F.slot_int_index.lookup
    (call_meets F.slot_int_rmul (typeIs_int s k t) F.entry_int_rmul (F.args_int_rmul_2 _ _) (int___rmul___int_list k t l its.toArray n)
      ⟨e, rfl, ⟨_, e, rfl⟩, call_meets F.slot_list_mul ⟨_, e, rfl⟩ F.entry_list_mul (F.args_list_mul_2 _ _) (AutoListH.list___mul___list_int_3 l its.toArray n k t hfit hcap hlong) ⟨e, ?_⟩⟩)
  rw [hnew]
  exact ⟨.ref _, _, I.lnew (t' := s.toks) (r.rep k.toNat) (by rw [len_rep, Nat.mul_comm]; exact hz), rfl, q _ I.fresh⟩

end

/-! ### xs[a:b] = ys -/
section
variable {prog : Program} {w : World} {A : Around} {E : Value → Shared → Prop} {s : Shared}
set_option maxRecDepth 100000 in
end

section
variable {X : Cx}
end
end L2

namespace Att
open PySem PySem.W PySem.Calls PyProof.Rows

/-! ### the script -/
theorem ints_of_wellAll {P : Params} {h : Heap} : ∀ (ns : List Int) (vs : List Value), WellAll P h vs (ns.map WData.int) → IntsAre vs ns := by
  intro ns
  induction ns with
  | nil =>
    intro vs w
    rw [List.map_nil] at w
    cases w
    exact .nil
  | cons n ns ih =>
    intro vs w
    rw [List.map_cons] at w
    cases w with
    | cons a b =>
      cases a
      exact .cons _ _ (ih _ b)

theorem script_of {l : OpenLaw} {n : Nat} (hn : l.most = some n) {P : Params} {h : Heap} {args : List WData} {vals : List Value}
    (hpre : l.row.toRowW.claim.pre args = true) (hwl : WellAll P h vals args) :
    ∃ a vs ns, vals = [Value.ref a] ∧ args = [WData.list (ns.map WData.int)] ∧ h.get? a = some { cls := .type "list", data := .seq vs.toArray } ∧ IntsAre vs ns ∧ ns.length ≤ n := by
  have hsh : WShape.hasAll [] args [.list .int] = true := (pre_splitW hpre).1
  have hc : l.pre.holds [] { args := args } = true := (pre_splitW hpre).2
  obtain ⟨d, r, rfl, h1, h2⟩ := hasAllW_cons hsh
  obtain rfl := hasAllW_nil h2
  obtain ⟨xs, rfl, h3⟩ := hasW_list h1
  obtain ⟨ns, rfl⟩ := items_int h3
  have hlen : ns.length ≤ n := by
    unfold OpenLaw.pre at hc
    have h4 : (WTm.not (.lt (.lit (.int (n : Int))) (.len (.arg 0)))).holds [] { args := [.list (ns.map .int)] } = true := by
      have h4 := (holds_andW hc).1
      rw [hn] at h4
      exact h4
    have h5 := condW_of h4 (w_not (w_lt w_lit (w_len_list (w_arg rfl))))
    rw [List.length_map] at h5
    refine Nat.le_of_not_lt fun q => ?_
    have q' : (n : Int) < ((ns.length : Nat) : Int) := by omega
    first
      | (rw [decide_eq_true q'] at h5; exact absurd h5 (by decide))
      | (simp at h5; omega)
  cases hwl with
  | cons w1 w2 =>
    cases w2
    cases w1 with
    | list ho hall => exact ⟨_, _, ns, rfl, rfl, ho, ints_of_wellAll ns _ hall, hlen⟩

theorem post_true (l : OpenLaw) (args : List WData) : l.row.toRowW.claim.post args (.bool true) args = true :=
  postW_of (r := l.row.toRowW) (X := (true == true))
    (show WShape.has [] (.bool true) .bool = true by first | rfl | decide | simp [WShape.has, WShape.arms, WShape.armsAll])
    (show (WTm.eq .res (.lit (.bool true))).value [] { args := args, res := some (.bool true), after := args } = some (.bool (true == true)) from w_eq_bool (w_res rfl) w_lit) rfl

/-- the same from a codeAny of the CALL (for a layer whose function contracts speak of calls) -/
theorem attach_call {l : OpenLaw} {n : Nat} {q : Program} {loose : List Str} {XP : (Str → Option Value) → Heap → Prop} {YP : World → Heap → Prop} {d : DefRec}
    (hn : l.most = some n) (hdf : d.params.defaults = [])
    (call : ∀ (w : World) (s₀ s₁ : Shared) (mg mb : Str → Option Value) (fa : Addr) (o : Obj) (pm cd doc : Value) (a : Addr) (vs : List Value) (ns : List Int),
      Ground q loose [] XP w s₀ mg mb s₁.heap → YP w s₁.heap →
      s₁.heap.get? fa = some o → o.data = .func (docDef d.name d.params d.body d.scope pm cd doc) → s₁.heap.CodeRec cd d.name → mg d.name = some (.ref fa) →
      s₁.heap.get? a = some { cls := .type "list", data := .seq vs.toArray } → IntsAre vs ns → ns.length ≤ n → s₁.gens = #[] →
      codeAny (model l.prog w) callerA (.call (.ref fa) ⟨[.ref a], []⟩) (fun r s' => r = .ok (.ret (.bool true)) ∧ OldK s₁.heap s'.heap ∧ s'.os = s₁.os ∧ AllBare s'.gens) s₁) :
    WalkO q loose XP YP l.row.toRowW d [] (fun f vs => PySem.call f vs) := by
  intro w s₀ s₁ mg mb G Y fa o pm cd doc dV kV ho hd hcd hD hmg hg args vals as hpre hlay hrd hwl hlo
  obtain rfl : dV = .none := Dflts.none hD hdf
  obtain rfl : kV = .none := Dflts.noKw hD
  obtain ⟨a, vs, ns, rfl, rfl, hobj, hints, hlen⟩ := script_of hn hpre hwl
  refine enter_call (codeAny_mono (call w s₀ s₁ mg mb fa o pm cd doc a vs ns G Y ho (fd_plain hd) hcd hmg hobj hints hlen hg) fun r s' hq => ?_)
  obtain ⟨rfl, h2, h3, h4⟩ := hq
  exact ⟨.inl ⟨.bool true, .bool true, [], rfl, fun _ => rfl, .bool true, post_true l _, fun _ => ⟨List.Pairwise.nil, fun _ hm => (nomatch hm)⟩⟩, h2, h3, h4⟩

/-! ### rules over ANY heap (no ledger) from facts about the written part K: the library's own take a ledger (News) for what they write -/
section
variable {prog : Program} {w : World} {A : Around} {E : Value → Shared → Prop} {s : Shared} {K : Frag}

/-! the whole heap as the ledger: makes every rule that writes through a ledger a rule over any heap -/
def noObjs (h : Heap) : Heap := { h with objs := #[] }
def ledger (h : Heap) (L d : Addr) : List (Addr × Obj) := (List.range h.objs.size).filterMap fun a => if a = L ∨ a = d then none else (h.get? a).map fun o => (a, o)
end
end Att

namespace L2
open PySem PySem.Spec PyProof.Rows

theorem vals_ints : ∀ {vs : List Value} {ns : List Int}, IntsAre vs ns → Vals (ns.map V.int) vs
  | _, _, .nil => .nil
  | _, _, .cons n t h => .cons ⟨t, rfl⟩ (vals_ints h)

/-- nothing is tracked but the script, known to the object (or it is an object of the module) -/
def Only (H : Hp) : Prop := ∀ b, H b = none ∨ ∃ o xs, H b = some (.frz o (.lst xs))

/-- THE HEAD: the law's promise, at the heap behind the top. F, the promise of the law's def, may use that base is part of the heap (so K.In base, base.Ns mainGlobals mg stand in Mod) -/
theorem law_call {P : Program} {w : World} {K : PySem.W.Frag} {mg mb : Str → Option Value} {CX : CXT} {k : Nat} {fa a : Addr} {fd : FuncData} {x : Str} {sp : Sp} {s₁ : Shared} {vs : List Value} {ns : List Int}
    (KX : K.In s₁.heap) (hns : s₁.heap.Ns mainGlobals mg) (hb : s₁.heap.Ns builtinsNs mb) (hbb : ∀ x : Str, x ≠ "__name__" → mb x = bootBuiltins x) (hlim : s₁.heap.NoLimit) (hg : s₁.gens = #[])
    (ha : s₁.heap.get? a = some { cls := .type "list", data := .seq vs.toArray }) (hi : IntsAre vs ns) (hl : ns.length ≤ sizeLine) (hr : Room k callerA)
    (F : ∀ base : Heap, K.In base → base.Ns mainGlobals mg → FnOk P w K mg base CX k fa fd [x] sp) (hbind : ∀ (s : Shared) (u : Value), BindsTo s fd ⟨[u], []⟩ [(x, u)])
    (hsp : ∀ H : Hp, Only H → SqL K H a (ns.map V.int) → sp [.ref a] H (fun v _ => v = .bl true) fun _ _ _ => False)
    (hCX : ∀ H e s', CX [] H s₁ (fun _ _ _ => False) e s' → False) :
    codeAny (model P w) callerA (.call (.ref fa) ⟨[.ref a], []⟩) (fun r s' => r = .ok (.ret (.bool true)) ∧ OldK s₁.heap s'.heap ∧ s'.os = s₁.os ∧ AllBare s'.gens) s₁ := by
  have rv := vals_ints hi
  have lenV := hi.length
  -- from an abstract heap in which nothing but the script may be tracked
  have core : ∀ H : Hp, Only H → SqL K H a (ns.map V.int) → HOk P w H s₁.heap → (∀ b, H b ≠ none → b = a) → (H a ≠ none → K.lookup a = none) →
      codeAny (model P w) callerA (.call (.ref fa) ⟨[.ref a], []⟩) (fun r s' => r = .ok (.ret (.bool true)) ∧ OldK s₁.heap s'.heap ∧ s'.os = s₁.os ∧ AllBare s'.gens) s₁ := by
    intro H hO hS hok hA hK
    have base_of : ∀ {b : Addr} {o : Obj}, s₁.heap.get? b = some o → H b = none → (hidT s₁.heap H).get? b = some o := fun e n => hidT_get e n
    have noA : ∀ {b : Addr} {o : Obj} {es : Array DictEntry} {ep : Nat}, s₁.heap.get? b = some o → o.data = .dict es ep → H b = none := fun {b o es ep} e d => by
      cases q : H b with
      | none => rfl
      | some u =>
        have e' : b = a := hA b (by rw [q]; simp)
        subst e'
        rw [ha] at e; cases e
        have d' : Data.seq vs.toArray _ = Data.dict es ep := d
        cases d'
    have nsK : ∀ {b : Addr} {m : Str → Option Value}, s₁.heap.Ns b m → (hidT s₁.heap H).Ns b m := fun {b m} ⟨o, es, ep, e, d, r⟩ => ⟨o, es, ep, base_of e (noA e d), d, r⟩
    have hKb : K.In (hidT s₁.heap H) := fun b o e => base_of (KX b o e) (by
      cases q : H b with
      | none => rfl
      | some u =>
        have e' : b = a := hA b (by rw [q]; simp)
        subst e'
        rw [hK (by rw [q]; simp)] at e; cases e)
    have hM : Mod K mg (hidT s₁.heap H) := ⟨hKb, nsK hns, ⟨mb, nsK hb, hbb⟩, let ⟨mc, h1, h2⟩ := hlim; ⟨mc, nsK h1, h2⟩⟩
    have e0 : Env0 P w K mg (hidT s₁.heap H) callerA [] s₁ H := ⟨rfl, hM, fun b o e => of_hidT e, Nat.le_of_eq (hidT_size _ _), trivial, fun b hb => absurd (show b ∈ ([] : List Addr) from hb) (by simp), hok, .of_eq hg⟩
    refine codeAny_mono ((F _ hKb (nsK hns)).run callerA [] s₁ H ⟨[.ref a], []⟩ [.ref a] [.ref a] _ _ hr e0 (hbind s₁ (.ref a)) (.cons rfl .nil) (hsp H hO hS)) fun r s' h => ?_
    cases r with
    | error e => exact (hCX H e s' h).elim
    | ok fl =>
      cases fl with
      | next => exact False.elim h
      | brk => exact False.elim h
      | cont => exact False.elim h
      | ret u =>
        obtain ⟨v, H', os, bare, un, hok', r', q⟩ := h
        have q' : v = .bl true := q
        subst q'
        obtain rfl : u = Value.bool true := r'
        refine ⟨rfl, OldK.of_keep fun b o e => ?_, os, bare⟩
        cases q : H b with
        | none => exact un.keep b o e q (by intro z; exact absurd (show b ∈ ([] : List Addr) from z) (by simp)) (by simp)
        | some u =>
          rcases hO b with z | ⟨ob, xs, z⟩
          · rw [q] at z; cases z
          · have z2 := un.frzs b ob _ z
            obtain ⟨e1, _⟩ := hok b _ z
            obtain ⟨e2, _⟩ := hok' b _ z2
            rw [e] at e1; cases e1
            exact e2
  cases hk : K.lookup a with
  | some o =>
    -- the script is one of the module's own objects
    have e := KX a o hk
    rw [ha] at e
    cases e
    refine core (fun _ => none) (fun _ => .inl rfl) (.inr ⟨_, vs.toArray, _, hk, rfl, rfl, rfl, by rw [List.size_toArray, lenV]; exact hl, by simpa using rv⟩) (fun b u z => by have z' : (none : Option HO) = some u := z; cases z') (fun b z => absurd rfl z) fun z => absurd rfl z
  | none =>
    refine core (fun b => if b = a then some (.frz { cls := .type "list", data := .seq vs.toArray } (.lst (ns.map V.int))) else none) (fun b => ?_) (.inl (.inr ⟨{ cls := .type "list", data := .seq vs.toArray }, if_pos rfl⟩)) (fun b u z => ?_) (fun b z => ?_) fun _ => hk
    · by_cases hb : b = a
      · exact .inr ⟨_, _, if_pos hb⟩
      · exact .inl (if_neg hb)
    · by_cases hb : b = a
      · have z' := (if_pos hb).symm.trans z
        cases z'
        subst hb
        exact ⟨ha, by rw [List.length_map]; exact hl, vs, _, rv, ha⟩
      · have z' := (if_neg hb).symm.trans z
        cases z'
    · by_cases hb : b = a
      · exact hb
      · exact absurd (if_neg hb) z
end L2

namespace L2
open PySem PySem.Spec PyProof.Rows

abbrev KOf {K : PySem.W.Frag} {h : Heap} (_ : K.In h) : PySem.W.Frag := K

/-- the goal that k_head leaves (case hc), from the law's promise. F gives the function object fd (K's own) once, then the promise over every base -/
theorem walk_of {l : PySem.W.OpenLaw} {n k : Nat} {q : Program} {loose : List Str} {XP : (Str → Option Value) → Heap → Prop} {YP : World → Heap → Prop} {d : DefRec} {K : Params → PySem.W.Frag} {CX : World → CXT} {sp : World → Sp} {x : Str}
    (hn : l.most = some n) (hn2 : n ≤ sizeLine) (hdf : d.params.defaults = []) (hr : Room k callerA)
    (hY : ∀ (w : World) (h : Heap), YP w h → (K w.params).In h)
    (F : ∀ (w : World) (mg : Str → Option Value) (fa : Addr) (h : Heap), (K w.params).In h → h.Ns mainGlobals mg → mg d.name = some (.ref fa) →
      ∃ fd : FuncData, (∀ (s : Shared) (u : Value), BindsTo s fd ⟨[u], []⟩ [(x, u)]) ∧
        ∀ base : Heap, (K w.params).In base → base.Ns mainGlobals mg → FnOk l.prog w (K w.params) mg base (CX w) k fa fd [x] (sp w))
    (hsp : ∀ (w : World) (H : Hp) (a : Addr) (ns : List Int), ns.length ≤ n → Only H → SqL (K w.params) H a (ns.map V.int) → sp w [.ref a] H (fun v _ => v = .bl true) fun _ _ _ => False)
    (hCX : ∀ (w : World) (H : Hp) (s : Shared) (e : Value) (s' : Shared), CX w [] H s (fun _ _ _ => False) e s' → False) :
    PySem.W.WalkO q loose XP YP l.row.toRowW d [] (fun f vs => PySem.call f vs) := by
  refine Att.attach_call hn hdf fun w s₀ s₁ mg mb fa o pm cd doc a vs ns G Y ho hd hcd hmg hobj hints hlen hg => ?_
  have KX := hY w _ Y
  obtain ⟨fd, hb, hF⟩ := F w mg fa _ KX G.T.g hmg
  exact law_call KX G.T.g G.T.b G.T.builtins G.T.nolimit hg hobj hints (Nat.le_trans hlen hn2) hr hF hb (fun H hO hS => hsp w H a ns hlen hO hS) fun H e s' => hCX w H s₁ e s'
end L2



/-! SHORT WORDS over the layer: a def of the text, its body, what a loop and a test want. -/
namespace L2
open PySem PySem.Spec PyProof.Rows

/-! ### the text by places -/
/-- the j-th statement of a class's body -/
def inClass (s : Stmt) (j : Nat) : Stmt := match s with
  | .ClassDef _ _ _ body _ _ _ _ _ _ _ => body.getD j (.Pass ⟨0, 0, 0, 0⟩)
  | _ => .Pass ⟨0, 0, 0, 0⟩
def defArgs (s : Stmt) : Arguments := match s with
  | .FunctionDef _ a _ _ _ _ _ _ _ _ => a
  | _ => { posonlyargs := [], args := [], vararg := none, kwonlyargs := [], kw_defaults := [], kwarg := none, defaults := [] }
def defBody (s : Stmt) : List Stmt := match s with
  | .FunctionDef _ _ b _ _ _ _ _ _ _ => b
  | _ => []
def defScope (s : Stmt) : Scope := match s with
  | .FunctionDef _ _ _ _ _ _ sc _ _ _ => sc
  | _ => { kind := .function, names := [], isGenerator := false, isCoroutine := false }

/-! ### no exception leaves a def -/
abbrev CX0 : CXT := fun _ _ _ _ _ _ => False
abbrev E0 : XK := fun _ _ _ => False
theorem pass0 {X : Cx} : Passes CX0 X E0 := fun _ _ _ _ _ _ _ h => h.elim

/-! ### a def (or method) of the text as it stands behind the top -/
structure Fun (K : PySem.W.Frag) (x qual : Str) (st : Stmt) (f : Addr) (fd : FuncData) : Prop where
  ex : ∃ (oc : Value) (od : Option Addr) (kV doc pm : Value) (an : Option Addr) (cdv ct : Value) (osl : Array (Option Value)),
    fd = PySem.W.fnOf x qual (defArgs st) (defBody st) (defScope st) .none kV doc pm an cdv ct ∧ K.lookup f = some ⟨oc, od, .func fd, osl⟩ ∧ PySem.W.codeIn K cdv qual = true
  kp : PySem.W.keepIn K (.ref f) = true
section
variable {P : Program} {w : World} {K : PySem.W.Frag} {mg : Str → Option Value} {base : Heap}
/-- THE RULE for a def: its body as a term of rules, and the reading of that term -/
theorem Fun.ok {x qual : Str} {st : Stmt} {f : Addr} {fd : FuncData} {N ps : List Str} {k : Nat} {sp : Sp} (F : Fun K x qual st f fd) (S : FnScope N ps (defScope st)) (len : ∀ vs H Q E, sp vs H Q E → vs.length = ps.length)
    (hbody : ∀ (cdv : Value) (A : Around) (outer : List Env) (s : Shared) (H : Hp) (vs : List V) (Q : VK) (E : XK), Room k (A.deeper (envOfC qual (defScope st) s.heap.objs.size f cdv)) → sp vs H Q E →
      ∃ t, PSs (cxOf CX0 P w K mg base N qual (defScope st) f cdv A outer s H E).nox (defBody st) t ∧ t { nx := fun _ H' => Q .non H', rt := Q } (start N vs) H) : FnOk P w K mg base CX0 (k + 1) f fd ps sp := by
  obtain ⟨oc, od, kV, doc, pm, an, cdv, ct, osl, rfl, lk, hcd⟩ := F.ex
  refine fn_of lk hcd S len fun A outer s H vs Q E hr hsp => ?_
  obtain ⟨t, h, q⟩ := hbody cdv A outer s H vs Q E hr hsp
  exact ⟨t, h.nox, q⟩
/-- how its arguments bind (no defaults): h is «fun _ _ _ _ _ _ us hl => match us, hl with | [_, _], _ => rfl», one _ a parameter -/
theorem Fun.binds {x qual : Str} {st : Stmt} {f : Addr} {fd : FuncData} {ps : List Str} (F : Fun K x qual st f fd)
    (h : ∀ (kV doc pm : Value) (an : Option Addr) (cdv ct : Value) (us : List Value), us.length = ps.length → bindArgs (PySem.W.fnOf x qual (defArgs st) (defBody st) (defScope st) .none kV doc pm an cdv ct) ⟨us, []⟩ = pure (ps.zip us)) : Binds K fd ps [] := by
  obtain ⟨oc, od, kV, doc, pm, an, cdv, ct, osl, rfl, lk, hcd⟩ := F.ex
  exact .all (h kV doc pm an cdv ct)
theorem fun_mk {x qual : Str} {st : Stmt} {f : Addr} {oc : Value} {od an : Option Addr} {osl : Array (Option Value)} {kV doc pm cdv ct : Value} (l : K.lookup f = some ⟨oc, od, .func (PySem.W.fnOf x qual (defArgs st) (defBody st) (defScope st) .none kV doc pm an cdv ct), osl⟩)
    (c : PySem.W.codeIn K cdv qual = true) (k : PySem.W.keepIn K (.ref f) = true) : Fun K x qual st f (PySem.W.fnOf x qual (defArgs st) (defBody st) (defScope st) .none kV doc pm an cdv ct) := ⟨⟨oc, od, kV, doc, pm, an, cdv, ct, osl, rfl, l, c⟩, k⟩
end
/-! ### expressions in short: the name that stands in the i-th slot -/
section
variable {X : Cx}
theorem pv (i : Nat) {x : Str} {pos : Pos} (hN : X.N[i]? = some x := by rfl) (hv : Vis X.env.scope x := by first | exact Or.inl rfl | exact Or.inr (Or.inl rfl) | exact Or.inr (Or.inr rfl)) (hd : (x == ("__debug__" : Str)) = false := by decide)
    (hcd : (x == ("__classdict__" : Str)) = false := by decide) : PE X (.Name x pos) (tVar i) := pe_var hN hv hd hcd
end

/-! ### tests -/
theorem iteF {A B : Prop} (h : B) : if false = true then A else B := by
  rw [if_neg Bool.false_ne_true]
  exact h
theorem iteT {A B : Prop} (h : A) : if true = true then A else B := by
  rw [if_pos rfl]
  exact h
/-! ### heaps -/
/-- all that was tracked is as it was -/
def Same (H H' : Hp) : Prop := ∀ b o, H b = some o → H' b = some o
theorem Same.refl (H : Hp) : Same H H := fun _ _ h => h
theorem Same.trans {H H1 H2 : Hp} (a : Same H H1) (b : Same H1 H2) : Same H H2 := fun c o h => b c o (a c o h)
theorem Same.free {H H' : Hp} (e : Same H H') {l : Addr} (h : H' l = Option.none) : H l = Option.none := by
  cases q : H l with
  | none => rfl
  | some o =>
    rw [e l o q] at h
    cases h
theorem Same.seq {K : PySem.W.Frag} {H H' : Hp} {a : Addr} {xs : List V} (e : Same H H') (h : SqL K H a xs) : SqL K H' a xs := by
  rcases h with (h | ⟨o, h⟩) | h
  · exact .inl (.inl (e _ _ h))
  · exact .inl (.inr ⟨o, e _ _ h⟩)
  · exact .inr h

end L2
namespace L2
open PySem PySem.Spec PyProof.Rows

/-! ### what a call made and dropped may be forgotten -/
theorem ObjOk.swap {P : Program} {w : World} {H H' : Hp} {h h' : Heap} {a : Addr} {o : HO} (x : ObjOk P w H h a o) (y : ObjOk P w H' h' a o) : ObjOk P w H h' a o := by
  induction o with
  | ins C dx fs => exact ⟨x.1, y.2⟩
  | frz ob u ih => exact ⟨y.1, ih x.2 y.2⟩
  | _ => exact y
theorem HOk.forget {P : Program} {w : World} {H H' : Hp} {h h' : Heap} (a : HOk P w H h) (b : HOk P w H' h') (s : Same H H') : HOk P w H h' := fun x o e => (a x o e).swap (b x o (s x o e))
theorem Un.forget {fs ex : List Addr} {H H' : Hp} {h h' : Heap} (u : Un fs ex H H' h h') : Un fs ex H H h h' :=
  ⟨u.keep, u.slot, fun _ _ _ n _ => n, u.there, fun _ _ q => q, fun _ _ _ q => q, fun b ps q => ⟨#[], by rw [q]; simp⟩⟩
theorem FnOk.forget {P : Program} {w : World} {K : PySem.W.Frag} {mg : Str → Option Value} {base : Heap} {CX : CXT} {k : Nat} {f : Addr} {fd : FuncData} {ps : List Str} {sp sp' : Sp} (F : FnOk P w K mg base CX k f fd ps sp)
    (h : ∀ vs H Q E, sp' vs H Q E → sp vs H (fun v H' => Same H H' ∧ Q v H) E) : FnOk P w K mg base CX k f fd ps sp' where
  len := fun vs H Q E q => F.len _ _ _ _ (h _ _ _ _ q)
  run := fun A outer s H args us vs Q E hr e0 hb hv hs => by
    refine codeAny_mono (F.run A outer s H args us vs _ E hr e0 hb hv (h _ _ _ _ hs)) fun r s' q => ?_
    cases r with
    | error e => exact q
    | ok fl =>
      cases fl with
      | ret u =>
        obtain ⟨v, H', os, bare, un, hok, rv, sm, qv⟩ := q
        exact ⟨v, H, os, bare, un.forget, e0.hok.forget hok sm, rv, qv⟩
      | next => exact q
      | brk => exact q
      | cont => exact q

/-! ### a def of the text, a def that keeps a promise -/
structure Src (K : PySem.W.Frag) (mg : Str → Option Value) (x : Str) (st : Stmt) (ps : List Str) : Prop where
  ex : ∃ (f : Addr) (fd : FuncData), Fun K x x st f fd ∧ mg x = some (.ref f) ∧ ∀ us : List Value, us.length = ps.length → bindArgs fd ⟨us, []⟩ = pure (ps.zip us)
structure Def (P : Program) (w : World) (K : PySem.W.Frag) (mg : Str → Option Value) (base : Heap) (k : Nat) (x : Str) (ps : List Str) (sp : Sp) : Prop where
  ex : ∃ (f : Addr) (fd : FuncData), FnOk P w K mg base CX0 k f fd ps sp ∧ mg x = some (.ref f) ∧ PySem.W.keepIn K (.ref f) = true ∧ (∀ us : List Value, us.length = ps.length → bindArgs fd ⟨us, []⟩ = pure (ps.zip us)) ∧
    ∃ o, K.lookup f = some o ∧ o.data = .func fd
section
variable {P : Program} {w : World} {K : PySem.W.Frag} {mg : Str → Option Value} {base : Heap} {x : Str} {st : Stmt} {N ps : List Str} {k : Nat} {sp : Sp}
theorem Src.ok (S : Src K mg x st ps) (sc : FnScope N ps (defScope st)) (len : ∀ vs H Q E, sp vs H Q E → vs.length = ps.length)
    (hbody : ∀ (f : Addr) (cdv : Value) (A : Around) (outer : List Env) (s : Shared) (H : Hp) (vs : List V) (Q : VK) (E : XK), Room k (A.deeper (envOfC x (defScope st) s.heap.objs.size f cdv)) → sp vs H Q E →
      ∃ t, PSs (cxOf CX0 P w K mg base N x (defScope st) f cdv A outer s H E).nox (defBody st) t ∧ t { nx := fun _ H' => Q .non H', rt := Q } (start N vs) H) : Def P w K mg base (k + 1) x ps sp := by
  obtain ⟨f, fd, F, hm, hb⟩ := S.ex
  refine ⟨f, fd, F.ok sc len (fun cdv => hbody f cdv), hm, F.kp, hb, ?_⟩
  obtain ⟨oc, od, kV, doc, pm, an, cdv, ct, osl, e, lk, hcd⟩ := F.ex
  exact ⟨_, lk, rfl⟩
/-- .. what it made is dropped -/
theorem Src.okF (S : Src K mg x st ps) (sc : FnScope N ps (defScope st)) (len : ∀ vs H Q E, sp vs H Q E → vs.length = ps.length)
    (hbody : ∀ (f : Addr) (cdv : Value) (A : Around) (outer : List Env) (s : Shared) (H : Hp) (vs : List V) (Q : VK) (E : XK), Room k (A.deeper (envOfC x (defScope st) s.heap.objs.size f cdv)) → sp vs H Q E →
      ∃ t, PSs (cxOf CX0 P w K mg base N x (defScope st) f cdv A outer s H E).nox (defBody st) t ∧ t { nx := fun _ H' => Same H H' ∧ Q .non H, rt := fun v H' => Same H H' ∧ Q v H } (start N vs) H) : Def P w K mg base (k + 1) x ps sp := by
  obtain ⟨f, fd, F, hm, hb⟩ := S.ex
  have G : FnOk P w K mg base CX0 (k + 1) f fd ps (fun vs H R E => ∃ Q, sp vs H Q E ∧ R = fun v H' => Same H H' ∧ Q v H) :=
    F.ok sc (fun vs H R E ⟨Q, h, _⟩ => len vs H Q E h) fun cdv A outer s H vs R E hr ⟨Q, h, e⟩ => by
      subst e
      exact hbody f cdv A outer s H vs Q E hr h
  refine ⟨f, fd, G.forget fun vs H Q E h => ⟨Q, h, rfl⟩, hm, F.kp, hb, ?_⟩
  obtain ⟨oc, od, kV, doc, pm, an, cdv, ct, osl, e, lk, hcd⟩ := F.ex
  exact ⟨_, lk, rfl⟩
theorem src_mk {h : Heap} {f : Addr} {oc : Value} {od an : Option Addr} {osl : Array (Option Value)} {kV doc pm cdv ct : Value} (X : K.In h) (G : h.Ns mainGlobals mg) (a : PySem.W.nsIn K mainGlobals x = some (some (.ref f)))
    (l : K.lookup f = some ⟨oc, od, .func (PySem.W.fnOf x x (defArgs st) (defBody st) (defScope st) .none kV doc pm an cdv ct), osl⟩) (c : PySem.W.codeIn K cdv x = true) (k : PySem.W.keepIn K (.ref f) = true)
    (hb : ∀ us : List Value, us.length = ps.length → bindArgs (PySem.W.fnOf x x (defArgs st) (defBody st) (defScope st) .none kV doc pm an cdv ct) ⟨us, []⟩ = pure (ps.zip us)) : Src K mg x st ps :=
  ⟨f, _, fun_mk l c k, PySem.W.mg_of X G a, hb⟩
theorem gint_mk {h : Heap} {i : Int} {t : Tok} (X : K.In h) (G : h.Ns mainGlobals mg) (a : PySem.W.nsIn K mainGlobals x = some (some (.int i t))) : ∃ t, mg x = some (.int i t) := ⟨t, PySem.W.mg_of X G a⟩
end
/-- the goal that k_head leaves, from the law's promise -/
theorem walk_def {l : PySem.W.OpenLaw} {lv : Nat} {q : Program} {loose : List Str} {XP : (Str → Option Value) → Heap → Prop} {YP : World → Heap → Prop} {d : DefRec} {K : Params → PySem.W.Frag} {sp : PySem.W.Frag → Sp} {x : Str} {st : Stmt}
    (hn : l.most = some 63) (hdf : d.params.defaults = []) (hnm : d.name = "law") (hr : Room lv callerA)
    (hY : ∀ (w : World) (h : Heap), YP w h → (K w.params).In h)
    (F : ∀ (w : World) (mg : Str → Option Value) (h : Heap), (K w.params).In h → h.Ns mainGlobals mg →
      Src (K w.params) mg "law" st [x] ∧ ∀ base : Heap, Def l.prog w (K w.params) mg base lv "law" [x] (sp (K w.params)))
    (hsp : ∀ (K : PySem.W.Frag) (H : Hp) (a : Addr) (ns : List Int), ns.length ≤ 63 → SqL K H a (ns.map V.int) → sp K [.ref a] H (fun v _ => v = .bl true) fun _ _ _ => False) :
    PySem.W.WalkO q loose XP YP l.row.toRowW d [] (fun f vs => PySem.call f vs) := by
  refine L2.walk_of (n := 63) (k := lv) (x := x) (CX := fun _ => CX0) (sp := fun w => sp (K w.params)) hn (by decide) hdf hr hY ?_ (fun w H a ns h1 h2 h3 => hsp (K w.params) H a ns h1 h3) fun _ _ _ _ _ z => z
  intro w mg fa h KX G hmg
  obtain ⟨S, D⟩ := F w mg h KX G
  obtain ⟨f, fd, Fn, hm, hb⟩ := S.ex
  obtain ⟨oc, od, kV, doc, pm, an, cdv, ct, osl, e, lk, hcd⟩ := Fn.ex
  refine ⟨fd, fun s u => .of_eq (hb [u] rfl), fun base _ _ => ?_⟩
  obtain ⟨f', fd', ok, hm', _, _, o, lk', ho⟩ := (D base).ex
  rw [hnm, hm] at hmg
  rw [hm] at hm'
  cases hmg
  cases hm'
  rw [lk] at lk'
  cases lk'
  cases ho
  exact ok

/-! ### rules of ours -/
section
variable {X : Cx} {x : Str} {p pos : Pos} {e : Expr} {es : List Expr} {t : TA} {j k : Nat} {ps : List Str} {sp : Sp}
theorem pe_fn (D : Def X.prog X.w X.K X.mg X.base j x ps sp) (hr : Room k X.A) (ha : PA X (e :: es) t) (hg : Gl X x := by rfl) (hj : j ≤ k := by decide) (hdb : (x == ("__debug__" : Str)) = false := by decide)
    (he : starEach (e :: es) X.env = (false, eval e X.env) :: starEach es X.env := by rfl) (hpl : (backTo pos (starEach es X.env)).any (·.1) = false := by rfl) :
    PE X (.Call (.Name x p) (e :: es) [] pos) (tCall sp [] E0 t) := by
  obtain ⟨f, fd, F, hm, hk, hb, _⟩ := D.ex
  exact pe_call F (hr.mono hj) hg hm hk (.all hb) .nil pass0 ha hdb he hpl
theorem pe_gint {i : Int} (h : ∃ t, X.mg x = some (.int i t)) (hg : Gl X x := by rfl) (hd : (x == ("__debug__" : Str)) = false := by decide) : PE X (.Name x pos) (tC (.int i)) := by
  obtain ⟨t, h⟩ := h
  exact pe_glob hg h ⟨t, rfl⟩ hd
def tGT (K : PySem.W.Frag) (xs : List V) : TE := fun _ H Q => ∀ a, (∀ H, SqT K H a xs) → Q (.ref a) H
theorem call_isinst : CallR X (.builtin "isinstance") (fun xs H Q => ∃ x t n b, xs = [x, .ty n] ∧ TyOf X.K H x t ∧ PySem.W.kitOne X.K t (.type n) = some b ∧ Q (.bl b) H) := by
  intro pins s σ H xs us Q I r h
  obtain ⟨x, t, n, b, rfl, ty, e, q⟩ := h
  obtain ⟨u, w', rfl, rx, rn⟩ := vals2 r
  cases rn
  exact isinst_ok I rx ty e fun tk => ⟨.bl b, H, I.tok tk, rfl, q⟩
end
/-! ### tests -/
theorem ifI {a b : Int} {A B : Prop} (h1 : a = b → A) (h2 : ¬ a = b → B) : if decide (V.int a = V.int b) = true then A else B := by
  by_cases h : a = b
  · rw [if_pos (by rw [h]; simp)]; exact h1 h
  · rw [if_neg (by simpa using h)]; exact h2 h
theorem ifNI {a b : Int} {A B : Prop} (h1 : ¬ a = b → A) (h2 : a = b → B) : if (!decide (V.int a = V.int b)) = true then A else B := by
  by_cases h : a = b
  · rw [if_neg (by rw [h]; simp)]; exact h2 h
  · rw [if_pos (by simpa using h)]; exact h1 h
theorem ifD {p A B : Prop} [Decidable p] (h1 : p → A) (h2 : ¬ p → B) : if decide p = true then A else B := by
  by_cases h : p
  · rw [if_pos (by simpa using h)]; exact h1 h
  · rw [if_neg (by simpa using h)]; exact h2 h
/-! ### a statement whose end is told by a word of one's own -/
def tCut (t : TS) : TS := fun D σ H => ∃ Mid : St → Hp → Prop, t { D with nx := Mid } σ H ∧ ∀ σ' H', Mid σ' H' → D.nx σ' H'
end L2
namespace L2
open PySem PySem.Spec PyProof.Rows
/-! ### list comprehensions with one clause -/
theorem noE {α : Type} {M : Model} {A : Around} {s : Shared} {t : Sem α} {Q : α → Shared → Prop} {E : Value → Shared → Prop} (h : wpAny M A t Q (fun _ _ => False) s) : wpAny M A t Q E s := wpAny_mono h (fun _ _ q => q) fun _ _ z => z.elim
section
variable {prog : Program} {w : World} {A : Around} {R : Result → Shared → Prop} {s : Shared}
/-- a turn: the item, then (where the test holds) the element, put to the list -/
theorem comp_loop {elt target iter : Expr} {scope : Scope} {pos : Pos} {it acc : Value} {env : Env} (I : Nat → Shared → Prop)
    (turn : ∀ n s, I n s → wpAny (model prog w) A (pyNext it) (fun r s₁ => match r with
      | none => R (.ok .next) s₁
      | some v => wpAny (model prog w) A (letOwnedTupleGo target it v) (fun _ s₂ => wpAny (model prog w) A (assign target env v) (fun _ s₃ => wpAny (model prog w) A (eval elt env) (fun y s₄ =>
          wpAny (model prog w) A (call (.builtin "list.append") [acc, y]) (fun _ s₅ => ∃ m, m < n ∧ I m s₅) (fun _ _ => False) s₄) (fun _ _ => False) s₃) (fun _ _ => False) s₂) (fun _ _ => False) s₁) (fun _ _ => False) s)
    (n : Nat) (h : I n s) : codeAny (model prog w) A (.compLoop (.ListComp elt [⟨target, iter, [], 0⟩] scope pos) 0 it acc env) R s := by
  refine codeAny_loop rfl I (fun n s hI => ?_) n h
  show wpAny _ _ (Sem.onRaise (compTurn (.ListComp elt [⟨target, iter, [], 0⟩] scope pos) 0 it acc env) _) _ _ s
  refine wpAny_noted (noE ?_)
  rw [compTurn_list1]
  refine wpAny_bind (wpAny_standAt (wpAny_bind (wpAny_mono (turn n s hI) (fun r s₁ h₁ => ?_) fun _ _ z => z)))
  cases r with
  | none => exact wpAny_pure h₁
  | some v =>
    refine wpAny_bind (wpAny_mono h₁ (fun _ s₂ h₂ => ?_) fun _ _ z => z)
    refine wpAny_bind (wpAny_mono h₂ (fun _ s₃ h₃ => ?_) fun _ _ z => z)
    refine wpAny_bind (wpAny_bind (wpAny_mono h₃ (fun y s₄ h₄ => ?_) fun _ _ z => z))
    refine wpAny_bind (wpAny_mono h₄ (fun _ s₅ h₅ => ?_) fun _ _ z => z)
    exact wpAny_pure (wpAny_pure ⟨rfl, h₅⟩)
end
/-- the cells that the block takes over -/
def closOf (sc : Scope) (env : Env) : List (Str × Addr) := (sc.names.filterMap fun p => if p.2 == .free then (env.cells.lookup p.1).map fun c => (p.1, c) else none).reverse
/-- the block's run: its frame's dict, the state and heap ahead of it, pins, iterators -/
structure Blk where
  C : Addr
  s : Shared
  H : Hp
  pn : List (Addr × Obj)
  ex : List Addr
def Cx.block (X : Cx) (sc : Scope) (x : Str) (ix : List Nat) (b : Blk) : Cx where
  prog := X.prog
  w := X.w
  K := X.K
  mg := X.mg
  base := X.base
  A := X.A
  N := x :: ix.map fun i => X.N.getD i x
  s₀ := b.s
  H₀ := b.H
  env := compEnvC sc (closOf sc X.env) b.C X.env
  outer := X.stack
  stack := X.stack
  ex := b.ex
  fn := fun _ => false
  calm := X.calm
  pn := b.pn
  xe := fun _ _ => False
def capts (σ : St) (ix : List Nat) : St := ix.map fun i => σ.getD i none
def CapOk (X : Cx) (sc : Scope) (x : Str) (i : Nat) : Prop :=
  (X.env.kindOf (X.N.getD i x) = some .cell ∨ X.env.kindOf (X.N.getD i x) = some .free) ∧ ((relabel sc X.env).names.lookup (X.N.getD i x) = some .cell ∨ (relabel sc X.env).names.lookup (X.N.getD i x) = some .free) ∧
    (closOf sc X.env).lookup (X.N.getD i x) = X.env.cells.lookup (X.N.getD i x)
def CapsOk (X : Cx) (sc : Scope) (x : Str) : List Nat → Prop
  | [] => True
  | i :: r => CapOk X sc x i ∧ CapsOk X sc x r
theorem CapsOk.get {X : Cx} {sc : Scope} {x : Str} : ∀ {ix : List Nat}, CapsOk X sc x ix → ∀ i ∈ ix, CapOk X sc x i
  | [], _, _, h => nomatch h
  | _ :: _, h, _, hi => (List.mem_cons.mp hi).elim (fun e => e ▸ h.1) fun z => CapsOk.get h.2 _ z
def SubOk (cells : List (Str × Addr)) : List (Str × Addr) → Prop
  | [] => True
  | p :: r => cells.lookup p.1 = some p.2 ∧ SubOk cells r
theorem SubOk.get {cells : List (Str × Addr)} : ∀ {cl : List (Str × Addr)}, SubOk cells cl → ∀ y c, cl.lookup y = some c → cells.lookup y = some c
  | [], _, _, _, h => by simp at h
  | p :: r, h, y, c, e => by
    rw [List.lookup_cons] at e
    cases q : y == p.1 with
    | true =>
      rw [q] at e
      have e1 : p.2 = c := Option.some.inj e
      rw [eq_of_beq q, ← e1]
      exact h.1
    | false =>
      rw [q] at e
      exact SubOk.get h.2 y c e
def HasOk (cl : List (Str × Addr)) : List (Str × NameKind) → Prop
  | [] => True
  | p :: r => (p.2 = .cell ∨ p.2 = .free → ∃ c, cl.lookup p.1 = some c) ∧ HasOk cl r
theorem HasOk.get {cl : List (Str × Addr)} : ∀ {ns : List (Str × NameKind)}, HasOk cl ns → ∀ p ∈ ns, p.2 = .cell ∨ p.2 = .free → ∃ c, cl.lookup p.1 = some c
  | [], _, _, h => nomatch h
  | _ :: _, h, _, hp => (List.mem_cons.mp hp).elim (fun e => e ▸ h.1) fun z => HasOk.get h.2 _ z
structure CompOk (X : Cx) (sc : Scope) (x : Str) (ix : List Nat) : Prop where
  clos : closureFor sc X.env = pure (closOf sc X.env)
  cell : ∀ y ∈ sc.names, y.2 ≠ .cell
  kind : sc.kind = .function
  names : ∀ y ∈ sc.names, y.2 = .local → sc.names.lookup y.1 = some .local
  var : sc.names.lookup x = some .local
  nd : (x :: ix.map fun i => X.N.getD i x).Nodup
  cap : CapsOk X sc x ix
  sub : SubOk X.env.cells (closOf sc X.env)
  has : HasOk (closOf sc X.env) (relabel sc X.env).names
section
variable {X : Cx} {pins : List (Addr × Obj)} {σ : St} {H : Hp} {s : Shared} {sc : Scope} {x : Str} {ix : List Nat} {fp : List Addr}
theorem block_ok (I : Inv X pins σ H s) (O : CompOk X sc x ix) (hf : ∀ b ∈ fp, FpOk X pins H b) (hx : ∀ b ∈ fp, ∃ o, s.heap.get? b = some o) : (X.block sc x ix ⟨s.heap.objs.size, s, H, X.pn ++ pins, fp⟩).Ok where
  mod := I.ok.mod
  kind := O.kind
  glob := I.ok.glob
  blt := I.ok.blt
  above := Nat.le_refl _
  inj := fun y z c h1 h2 => I.ok.inj y z c (O.sub.get y c h1) (O.sub.get z c h2)
  has := fun y h => by
    have h' : (relabel sc X.env).names.lookup y = some .cell ∨ (relabel sc X.env).names.lookup y = some .free := h
    rcases h' with h' | h'
    · exact O.has.get _ (PySem.mem_of_lookup h') (.inl rfl)
    · exact O.has.get _ (PySem.mem_of_lookup h') (.inr rfl)
  cab := fun _ _ h => absurd (show false = true from h) Bool.false_ne_true
  hd := I.ok.hd
  frames := I.ok.frames
  stk := .inl rfl
  exf := fun b hb => by
    obtain ⟨o, e⟩ := hx b hb
    exact ⟨Nat.ne_of_lt (Heap.lt_size e), fun y c h => (hf b hb).2.2.2.2.1 y c (O.sub.get y c h)⟩
  bs := I.bs
  bsz := Nat.le_trans I.ok.bsz I.sz
  noex := fun b o e hb => by
    rcases (hf b hb).2.2.2.1 with z | z
    · exact I.ok.noex b o e z
    · exact absurd (Nat.lt_of_lt_of_le (Heap.lt_size e) (Nat.le_trans I.ok.bsz z)) (Nat.lt_irrefl _)
  exfs := fun b hb z => (List.mem_cons.mp (I.stkSub b z)).elim (hf b hb).2.1 (hf b hb).2.2.1
  funs := I.stack
  frf := I.stkFree
theorem block_inv {h₁ : Heap} {m : Str → Option Value} {tk : Nat} (I : Inv X pins σ H s) (O : CompOk X sc x ix) (hf : ∀ b ∈ fp, FpOk X pins H b) (hx : ∀ b ∈ fp, ∃ o, s.heap.get? b = some o)
    (hn : h₁.Ns s.heap.objs.size m) (keep : ∀ b o, s.heap.get? b = some o → h₁.get? b = some o) :
    Inv (X.block sc x ix ⟨s.heap.objs.size, s, H, X.pn ++ pins, fp⟩) [] (none :: capts σ ix) H { s with heap := h₁, toks := tk } := by
  refine ⟨block_ok I O hf hx, rfl, I.bare, Un.kept keep, ⟨m, hn, fun i y v e1 e2 _ => ?_⟩, fun y c h => ?_, I.hok.fresh (Nat.le_refl _), fun y c h => I.freeC y c (O.sub.get y c h), fun p hp => ?_, I.hok.kept keep, ?_⟩
  · cases i with
    | zero => cases e2
    | succ j =>
      have e1' : (ix.map fun i => X.N.getD i x)[j]? = some y := e1
      have e2' : (capts σ ix)[j]? = some (some v) := e2
      unfold capts at e2'
      rw [List.getElem?_map] at e1' e2'
      cases q : ix[j]? with
      | none => rw [q] at e1'; cases e1'
      | some i =>
        rw [q] at e1' e2'
        have e3 : X.N.getD i x = y := Option.some.inj e1'
        have e4 : σ.getD i none = some v := Option.some.inj e2'
        obtain ⟨c1, c2, c3⟩ := O.cap.get i (List.mem_of_getElem? q)
        rw [e3] at c1 c2 c3
        have e5 : σ[i]? = some (some v) := by
          rw [List.getD_eq_getElem?_getD] at e4
          cases z : σ[i]? with
          | none => rw [z] at e4; cases e4
          | some a => rw [z] at e4; exact congrArg some e4
        have hl : i < X.N.length := by
          rw [← I.len]
          exact (List.getElem?_eq_some_iff.mp e5).1
        have e6 : X.N[i]? = some y := by
          rw [List.getD_eq_getElem?_getD, List.getElem?_eq_getElem hl] at e3
          rw [List.getElem?_eq_getElem hl]
          exact congrArg some e3
        obtain ⟨m0, _, l0⟩ := I.loc
        have vis : Vis X.env.scope y := by
          rcases c1 with z | z
          · exact .inr (.inl z)
          · exact .inr (.inr z)
        obtain ⟨u, ru, lu⟩ := l0 i y v e6 e5 vis
        refine ⟨u, ru, ?_⟩
        rcases lu with ⟨k, _⟩ | ⟨_, c, hc, o, ho, hd⟩
        · rcases c1 with z | z
          · rw [z] at k; cases k
          · rw [z] at k; cases k
        · exact .inr ⟨c2, c, c3.trans hc, o, keep c o ho, hd⟩
  · obtain ⟨v, o, ho, hd⟩ := I.cell y c (O.sub.get y c h)
    exact ⟨v, o, keep c o ho, hd⟩
  · have hp' : p ∈ X.pn ++ pins := by
      rcases List.mem_append.mp hp with z | z
      · exact z
      · cases z
    obtain ⟨e, n, ne, nf, d⟩ := I.pin p hp'
    exact ⟨keep _ _ e, n, Nat.ne_of_lt (Heap.lt_size e), fun z => (List.mem_cons.mp (I.stkSub _ z)).elim ne nf, d⟩
  · show (none :: capts σ ix).length = (x :: ix.map fun i => X.N.getD i x).length
    simp [capts]
/-- back from the block -/
theorem block_back {pins' : List (Addr × Obj)} {σ' : St} {H' : Hp} {s' : Shared} (I : Inv X pins σ H s) (hf : ∀ b ∈ fp, FpOk X pins H b) (J : Inv (X.block sc x ix ⟨s.heap.objs.size, s, H, X.pn ++ pins, fp⟩) pins' σ' H' s') : Inv X pins σ H' s' :=
  I.call' J.os J.base J.hok J.bare fun b hb => ⟨(hf b hb).2.2.2.1, (hf b hb).2.1, (hf b hb).2.2.2.2.1, (hf b hb).2.2.2.2.2⟩
end
/-- what the block does, turn by turn: W by the turn, a measure, the list so far -/
def Turns (ix : List Nat) (te : TE) (σ : St) (J : It) (l : Addr) (R : Hp → Prop) (W : Nat → Nat → List V → Hp → Prop) : Prop :=
  ∀ i m xs H', W i m xs H' → H' l = some (.lst xs) ∧ ((J.stop i H' ∧ R H') ∨ (J.go i H' ∧ xs.length < sizeLine ∧ ∀ x H2, J.yld i H' x H2 →
    te (some x :: capts σ ix) H2 fun v H3 => H3 l = some (.lst xs) ∧ ∃ m', m' < m ∧ W (i + 1) m' (xs ++ [v]) (upd H3 l (.lst (xs ++ [v])))))
def tComp (ix : List Nat) (wi : TI) (te : TE) : TE := fun σ H Q => wi σ H fun J H1 => ∀ l, H1 l = none → ∃ W : Nat → Nat → List V → Hp → Prop, (∃ m, W 0 m [] (upd H1 l (.lst []))) ∧ Turns ix te σ J l (Q (.ref l)) W
section
variable {X : Cx} {pins : List (Addr × Obj)} {σ : St} {H : Hp} {s : Shared} {sc : Scope} {x : Str} {ix : List Nat} {fp : List Addr} {elt iter : Expr} {te : TE} {wi : TI} {px pos : Pos}
theorem comp_core {it : Addr} {tn : Nat → Heap → Prop} {J : It} {use : Option (Value → Sem Unit)} {Q : Value → Shared → Prop} {E : Value → Shared → Prop} (O : CompOk X sc x ix) (hel : ∀ b, PE (X.block sc x ix b) elt te) (hc : X.calm = true)
    (I : Inv X pins σ H s) (T : Turn X.prog X.w X.K (.Name x px) J fp it tn) (st : tn 0 s.heap) (hf : ∀ b ∈ fp, FpOk X pins H b) (R : Addr → Hp → Prop)
    (h : ∀ l, H l = none → ∃ W : Nat → Nat → List V → Hp → Prop, (∃ m, W 0 m [] (upd H l (.lst []))) ∧ Turns ix te σ J l (R l) W)
    (fin : ∀ l C m s' H', Inv X pins σ H' s' → s'.heap.Ns C m → FpOk X pins H' C → R l H' → compPost (model X.prog X.w) X.A E use Q (.ref l) C (.ok .next) s') :
    wpAny (model X.prog X.w) X.A (newList []) (fun acc s₃ => wpAny (model X.prog X.w) X.A (newFunctionEnv sc X.env.globals (closOf sc X.env) [] X.env.qual none .none (some X.env)) (fun cenv s₄ =>
      codeAny (model X.prog X.w) X.A (.compStart (.ListComp elt [⟨.Name x px, iter, [], 0⟩] sc pos) 0 (.ref it) acc { cenv with scope := relabel sc X.env }) (compPost (model X.prog X.w) X.A E use Q acc cenv.locals) s₄) E s₃) E s := by
  refine wpAny_newObj_type (wpAny_newFunctionEnv O.cell (by intro y hy; simp at hy) (fun h₁ hns hsb => ?_) O.kind)
  dsimp only at hns hsb ⊢
  have hl0 : H s.heap.objs.size = none := I.hok.fresh (Nat.le_refl _)
  obtain ⟨W, ⟨m0, w0⟩, tr⟩ := h s.heap.objs.size hl0
  have I3 : Inv X pins σ (upd H s.heap.objs.size (.lst [])) { s with heap := s.heap.push { cls := .type "list", dict := none, data := .seq ([] : List Value).toArray } } :=
    I.laid (t' := s.toks) (fun b o e => Heap.get?_push_of_some _ e) (Nat.le_refl _) ⟨Nat.zero_le _, [], 0, .nil, Heap.get?_push_size _ rfl⟩
  have ofp : ∀ b ∈ fp, ∃ o, s.heap.get? b = some o := fun b hb => by
    obtain ⟨o, e, _⟩ := T.obj 0 _ st b hb
    exact ⟨o, e⟩
  generalize e3 : s.heap.push { cls := .type "list", dict := none, data := .seq ([] : List Value).toArray } = G at I3 hns hsb ⊢
  have ofp3 : ∀ b ∈ fp, ∃ o, G.get? b = some o := fun b hb => by
    obtain ⟨o, e⟩ := ofp b hb
    exact ⟨o, by rw [← e3]; exact Heap.get?_push_of_some _ e⟩
  have nl : ∀ b ∈ fp, b ≠ s.heap.objs.size := fun b hb => by
    obtain ⟨o, e⟩ := ofp b hb
    exact Nat.ne_of_lt (Heap.lt_size e)
  have hf3 : ∀ b ∈ fp, FpOk X pins (upd H s.heap.objs.size (.lst [])) b := fun b hb => ⟨by rw [upd_ne (nl b hb)]; exact (hf b hb).1, (hf b hb).2⟩
  have keep3 : ∀ b o, G.get? b = some o → h₁.get? b = some o := fun b o e => hsb.extBut b o (Nat.ne_of_lt (Heap.lt_size e)) (Heap.get?_push_of_some _ e)
  have stk : tn 0 h₁ := T.keep _ _ _ st fun b hb o e => keep3 b o (by rw [← e3]; exact Heap.get?_push_of_some _ e)
  have J0 := block_inv (tk := s.toks + ([] : List (Str × Value)).length) I3 O hf3 ofp3 hns keep3
  -- what stays true of the iterator
  have stat : ∀ {H' : Hp}, (∀ b ∈ fp, H' b = none) → ∀ b ∈ fp, FpOk (X.block sc x ix ⟨G.objs.size, { s with heap := G }, upd H s.heap.objs.size (.lst []), X.pn ++ pins, fp⟩) [] H' b := fun hn b hb => by
    obtain ⟨o, e⟩ := ofp3 b hb
    refine ⟨hn b hb, Nat.ne_of_lt (Heap.lt_size e), fun z => (List.mem_cons.mp (I3.stkSub _ z)).elim (hf b hb).2.1 (hf b hb).2.2.1, .inl hb, fun y c q => (hf b hb).2.2.2.2.1 y c (O.sub.get y c q), fun p hp => ?_⟩
    have hp' : p ∈ X.pn ++ pins := by
      rcases List.mem_append.mp hp with z | z
      · exact z
      · cases z
    exact (hf b hb).2.2.2.2.2 p hp'
  have loop : ∀ s4 : Shared, s4 = { s with heap := h₁, toks := s.toks + ([] : List (Str × Value)).length } →
      codeAny (model X.prog X.w) X.A (.compLoop (.ListComp elt [⟨.Name x px, iter, [], 0⟩] sc pos) 0 (.ref it) (.ref s.heap.objs.size) (compEnvC sc (closOf sc X.env) G.objs.size X.env))
        (compPost (model X.prog X.w) X.A E use Q (.ref s.heap.objs.size) G.objs.size) s4 := by
    rintro s4 rfl
    refine comp_loop (fun n s' => ∃ i xs H' z, Inv (X.block sc x ix ⟨G.objs.size, { s with heap := G }, upd H s.heap.objs.size (.lst []), X.pn ++ pins, fp⟩) [] (z :: capts σ ix) H' s' ∧ tn i s'.heap ∧ (∀ b ∈ fp, H' b = none) ∧ W i n xs H') ?_ m0
      ⟨0, [], _, none, J0, stk, fun b hb => (hf3 b hb).1, w0⟩
    rintro n s5 ⟨i, xs, H5, z, I5, st5, fr5, w5⟩
    obtain ⟨hl5, h5⟩ := tr i n xs H5 w5
    rcases h5 with ⟨stop, r5⟩ | ⟨go, hz, step⟩
    · refine thn (T.done (X.block sc x ix ⟨G.objs.size, { s with heap := G }, upd H s.heap.objs.size (.lst []), X.pn ++ pins, fp⟩) rfl rfl rfl hc i [] s5 _ H5 _ I5 (stat fr5) st5 stop) fun r s6 ⟨hr, I6⟩ => ?_
      subst hr
      obtain ⟨m6, hn6, _⟩ := I6.loc
      refine fin _ _ m6 s6 H5 (block_back I3 hf3 I6) hn6 ?_ r5
      exact I3.fpOk (Nat.le_refl _) I6.free
    · refine thn (T.item (X.block sc x ix ⟨G.objs.size, { s with heap := G }, upd H s.heap.objs.size (.lst []), X.pn ++ pins, fp⟩) rfl rfl rfl hc i [] s5 _ H5 _ I5 (stat fr5) st5 go) fun r s6 ⟨u, hr, h6⟩ => ?_
      subst hr
      refine thn h6 fun _ s7 ⟨y, H7, I7, r7, y7, st7, fr7⟩ => ?_
      have I7' := I7.pinned (stat fr7) (T.obj _ _ st7)
      have lx : (relabel sc X.env).names.lookup x = some .local := lookup_relabel_local O.var
      refine thn ((pg_name (i := 0) O.nd rfl (Or.inl lx) (Or.inr lx) : PG (X.block sc x ix ⟨G.objs.size, { s with heap := G }, upd H s.heap.objs.size (.lst []), X.pn ++ pins, fp⟩) (.Name x px) (gName 0)) _ s7 _ H7 y u (fun σ' H' => σ' = some y :: capts σ ix ∧ H' = H7) I7' r7 ⟨rfl, rfl⟩) fun _ s8 ⟨σ8, H8, I8, e8, e8'⟩ => ?_
      subst e8 e8'
      refine thn (hel _ _ s8 _ H8 _ I8 (step y H8 y7)) fun v9 s9 ⟨v, H9, I9, r9, hl9, m', hm, w9⟩ => ?_
      refine thn (mt_append _ s9 _ H9 (.ref s.heap.objs.size) [v] (.ref s.heap.objs.size) [v9] (fun _ H' => H' = upd H9 s.heap.objs.size (.lst (xs ++ [v]))) I9 rfl (.cons r9 .nil) ⟨_, xs, v, rfl, rfl, hl9, hz, rfl⟩) fun _ s10 ⟨_, H10, I10, _, e10⟩ => ?_
      subst e10
      refine ⟨m', hm, i + 1, xs ++ [v], _, some y, I10.unpinned, T.keep _ _ _ st7 fun b hb o e => (I10.pin (b, o) (List.mem_append_right _ (List.mem_append_right _ (mem_pinsAt hb e)))).1, fun b hb => ?_, w9⟩
      obtain ⟨o, e, d⟩ := T.obj _ _ st7 b hb
      exact (I10.pin (b, o) (List.mem_append_right _ (List.mem_append_right _ (mem_pinsAt hb e)))).2.1
  exact codeAny_compStart_list (loop _ rfl) (T.self _ 0 _ _ _ stk (loop _ rfl))
/-- [elt for x in iter] -/
theorem pe_comp (O : CompOk X sc x ix) (hi : PI X (.Name x px) iter wi) (hel : ∀ b, PE (X.block sc x ix b) elt te) (hc : X.calm = true := by rfl) (hs : ∀ v, foldedSetIterable iter X.env v = pure v := by intro _; rfl) :
    PE X (.ListComp elt [⟨.Name x px, iter, [], 0⟩] sc pos) (tComp ix wi te) := by
  intro pins s σ H Q I h
  rw [eval_ListComp]
  refine wpAny_comprehension_free (use := none) rfl hs O.clos O.kind O.names (thn (hi pins s σ H _ I h) fun xv s1 h1 => thn h1 fun itv s2 h2 => ?_)
  obtain ⟨it, fp, tn, J, H2, e, I2, T, st2, f2, hq⟩ := h2
  subst e
  refine comp_core O hel hc I2 T st2 f2 (fun l H' => Q (.ref l) H') hq ?_
  intro l C m s' H' I' hn hf r
  refine ⟨m, hn, fun h' hb => ⟨.ref l, H', ?_, rfl, r⟩⟩
  exact I'.turned (t' := s'.toks) (fun b o hne e => hb.extBut b o hne e) hf.1 hf.2.1 hf.2.2.2.1 hf.2.2.2.2.1 hf.2.2.2.2.2
end
def TurnsIf (ix : List Nat) (tt : TT) (te : TE) (σ : St) (J : It) (l : Addr) (R : Hp → Prop) (W : Nat → Nat → List V → Hp → Prop) : Prop :=
  ∀ i m xs H', W i m xs H' → H' l = some (.lst xs) ∧ ((J.stop i H' ∧ R H') ∨ (J.go i H' ∧ xs.length < sizeLine ∧ ∀ x H2, J.yld i H' x H2 →
    tt (some x :: capts σ ix) H2 fun b H3 => if b = true then te (some x :: capts σ ix) H3 fun v H4 => H4 l = some (.lst xs) ∧ ∃ m', m' < m ∧ W (i + 1) m' (xs ++ [v]) (upd H4 l (.lst (xs ++ [v]))) else ∃ m', m' < m ∧ W (i + 1) m' xs H3))
def tCompIf (ix : List Nat) (wi : TI) (tt : TT) (te : TE) : TE := fun σ H Q => wi σ H fun J H1 => ∀ l, H1 l = none → ∃ W : Nat → Nat → List V → Hp → Prop, (∃ m, W 0 m [] (upd H1 l (.lst []))) ∧ TurnsIf ix tt te σ J l (Q (.ref l)) W
section
variable {X : Cx} {pins : List (Addr × Obj)} {σ : St} {H : Hp} {s : Shared} {sc : Scope} {x : Str} {ix : List Nat} {fp : List Addr} {elt iter c : Expr} {te : TE} {tt : TT} {wi : TI} {px pos : Pos}
end
theorem same_new {H : Hp} {p : Addr} (h : H p = none) (o : HO) : Same H (upd H p o) := fun b u q => by rw [upd_ne (ne_of_none q h)]; exact q
section
variable {X : Cx}
end
end L2
namespace L2
open PySem PySem.Spec PyProof.Rows
/-! ### == and != by data -/
mutual
inductive RdV (K : PySem.W.Frag) (H : Hp) : V → PyData → Prop
  | non : RdV K H .non .none
  | bl (b : Bool) : RdV K H (.bl b) (.bool b)
  | int (i : Int) : RdV K H (.int i) (.int i)
  | str (x : Str) : RdV K H (.str x) (.str x)
  | lst {a : Addr} {xs : List V} {ds : List PyData} : SqL K H a xs → RdVs K H xs ds → RdV K H (.ref a) (.list ds)
  | tup {a : Addr} {xs : List V} {ds : List PyData} : SqT K H a xs → RdVs K H xs ds → RdV K H (.ref a) (.tuple ds)
inductive RdVs (K : PySem.W.Frag) (H : Hp) : List V → List PyData → Prop
  | nil : RdVs K H [] []
  | cons {x : V} {d : PyData} {xs : List V} {ds : List PyData} : RdV K H x d → RdVs K H xs ds → RdVs K H (x :: xs) (d :: ds)
end
theorem RdVs.ints {K : PySem.W.Frag} {H : Hp} : ∀ ns : List Int, RdVs K H (ns.map V.int) (ns.map PyData.int)
  | [] => .nil
  | n :: r => .cons (.int n) (RdVs.ints r)
section
variable {X : Cx} {pins : List (Addr × Obj)} {σ : St} {H : Hp} {s : Shared} {pos : Pos}
mutual
theorem RdV.reads (I : Inv X pins σ H s) : ∀ {x : V} {d : PyData} {u : Value}, RdV X.K H x d → RelV x u → ∃ as, Reads s.heap u d as
  | _, _, _, .non, r => by cases r; exact ⟨_, .none⟩
  | _, _, _, .bl b, r => by cases r; exact ⟨_, .bool b⟩
  | _, _, _, .int i, r => by obtain ⟨t, rfl⟩ := r; exact ⟨_, .int i t⟩
  | _, _, _, .str x, r => by obtain ⟨t, rfl⟩ := r; exact ⟨_, .str x t⟩
  | _, _, _, .lst h hs, r => by
    cases r
    obtain ⟨its, rv, pl, hz⟩ := I.list h
    obtain ⟨as, q⟩ := RdVs.reads I hs rv
    obtain ⟨o, n, e, c, hd, dt⟩ := pl
    exact ⟨_, reads_list_at e c dt (by simpa using q)⟩
  | _, _, _, .tup h hs, r => by
    cases r
    obtain ⟨its, rv, pl, hz⟩ := I.tuple h
    obtain ⟨as, q⟩ := RdVs.reads I hs rv
    obtain ⟨o, e, c, n, dt⟩ := pl
    exact ⟨_, reads_tuple_at e c dt (by simpa using q)⟩
theorem RdVs.reads (I : Inv X pins σ H s) : ∀ {xs : List V} {ds : List PyData} {us : List Value}, RdVs X.K H xs ds → Vals xs us → ∃ as, ReadsAll s.heap us ds as
  | _, _, _, .nil, .nil => ⟨_, .nil⟩
  | _, _, _, .cons h hs, .cons r rs => by
    obtain ⟨as, q⟩ := RdV.reads I h r
    obtain ⟨bs, q'⟩ := RdVs.reads I hs rs
    exact ⟨_, .cons q q'⟩
end
def rEqD (K : PySem.W.Frag) : R2 := fun x y H Q => ∃ d e, RdV K H x d ∧ RdV K H y e ∧ SeqAt.shaped d = true ∧ SeqAt.shaped e = true ∧ Q (.bl (PyData.eqv d e)) H
def rNeD (K : PySem.W.Frag) : R2 := fun x y H Q => ∃ d e, RdV K H x d ∧ RdV K H y e ∧ SeqAt.shaped d = true ∧ SeqAt.shaped e = true ∧ Q (.bl (!PyData.eqv d e)) H
theorem op_neD (hu : X.A.units + 64 < cLine) : OpR X (compareOp .NotEq) (rNeD X.K) := by
  intro pins s σ H x y v u Q I rx ry h
  obtain ⟨d, e, hd, he, sd, se, q⟩ := h
  obtain ⟨as, ra⟩ := hd.reads I rx
  obtain ⟨bs, rb⟩ := he.reads I ry
  exact ne_dataH ra rb sd se hu ⟨.bl _, H, I, rfl, q⟩
/-! ### {} -/
def tDNew : TE := fun _ H Q => ∀ p, H p = none → Q (.ref p) (upd H p (.dK []))
end
/-! ### isinstance of the plain kinds -/
def kinds : List String := ["NoneType", "bool", "int", "str", "list", "tuple", "dict"]
theorem kit_int {K : PySem.W.Frag} {T : String} (h : T ∈ kinds) : PySem.W.kitOne K (.type T) (.type "int") = some (decide (T = "int" ∨ T = "bool")) := by
  simp only [kinds, List.mem_cons, List.not_mem_nil, or_false] at h
  rcases h with rfl | rfl | rfl | rfl | rfl | rfl | rfl <;> rfl
theorem kit_bool {K : PySem.W.Frag} {T : String} (h : T ∈ kinds) : PySem.W.kitOne K (.type T) (.type "bool") = some (decide (T = "bool")) := by
  simp only [kinds, List.mem_cons, List.not_mem_nil, or_false] at h
  rcases h with rfl | rfl | rfl | rfl | rfl | rfl | rfl <;> rfl
/-- a flat thing or one of the three kinds of containers -/
def IsKind (K : PySem.W.Frag) (H : Hp) (x : V) (T : String) : Prop := TyOf K H x (.type T) ∧ T ∈ kinds
theorem iteNF {A B : Prop} (h : A) : if (!false) = true then A else B := iteT (B := B) h
theorem iteNT {A B : Prop} (h : B) : if (!true) = true then A else B := iteF (A := A) h
theorem ifND {p A B : Prop} [Decidable p] (h1 : ¬ p → A) (h2 : p → B) : if (!decide p) = true then A else B := by
  by_cases h : p
  · rw [if_neg (by simpa using h)]; exact h2 h
  · rw [if_pos (by simpa using h)]; exact h1 h
/-- a power of two written numbers -/
theorem pe_powc {X : Cx} {a b v : Int} {j j' : Nat} {p p' pos : Pos} (h : a ^ b.toNat = v) (hb : CPow a b) : PE X (.BinOp (.Constant (.int a) j p) .Pow (.Constant (.int b) j' p') pos) (tC (.int v)) := by
  intro pins s σ H Q I hq
  exact pe_op op_pow pe_int pe_int pins s σ H Q I ⟨_, _, rfl, rfl, hb, by show Q (V.int (a ^ b.toNat)) H; rw [h]; exact hq⟩
end L2
namespace L2
open PySem PySem.Spec PyProof.Rows
/-! ### an exception that flies -/
theorem ObjOk.get {P : Program} {w : World} {H : Hp} {h : Heap} {a : Addr} {o : HO} (x : ObjOk P w H h a o) : ∃ u, h.get? a = some u := by
  cases o with
  | lst xs => obtain ⟨_, _, _, _, e⟩ := x; exact ⟨_, e⟩
  | tup xs => obtain ⟨_, _, _, _, e, _⟩ := x; exact ⟨_, e⟩
  | dK kvs => obtain ⟨_, _, _, _, _, _, _, e, _⟩ := x; exact ⟨_, e⟩
  | set S n => obtain ⟨_, _, _, _, e, _⟩ := x; exact ⟨_, e⟩
  | ins C dx fs => obtain ⟨_, _, _, e, _⟩ := x; exact ⟨_, e⟩
  | own y => exact x
  | xd fs => obtain ⟨_, ⟨_, _, _, e, _⟩, _⟩ := x; exact ⟨_, e⟩
  | rng lo hi => obtain ⟨_, _, _, e⟩ := x; exact ⟨_, e⟩
  | frz ob u => obtain ⟨e, _⟩ := x; exact ⟨_, e⟩
  | tbl ps => exact ⟨_, (show h.get? a = some _ from x)⟩
  | met f y => exact ⟨_, (show h.get? a = some _ from x)⟩
  | ext φ => obtain ⟨_, e, _⟩ := x; exact e
theorem HOk.gone {P : Program} {w : World} {H : Hp} {h : Heap} {a : Addr} (x : HOk P w H h) (e : h.get? a = none) : H a = none := by
  cases q : H a with
  | none => rfl
  | some o =>
    obtain ⟨u, z⟩ := (x a o q).get
    rw [e] at z; cases z
/-- new since g, not tracked; its class C -/
structure ExcAt (g : Heap) (H : Hp) (h : Heap) (e : Addr) (C : Value) : Prop where
  new : g.get? e = none
  free : H e = none
  ex : ∃ oe vs T oT ts a0, h.get? e = some oe ∧ (oe.cls = C ∧ vs[0]? = some a0) ∧ oe.data = .fields vs ∧ vs[1]? = some (.ref T) ∧ (g.get? T = none ∧ H T = none) ∧ T ≠ e ∧ h.get? T = some oT ∧ oT.data = .fields ts ∧ ts[3]? = some .none
def CXX (P : Program) (w : World) : CXT := fun outer H s E ev s' => ∃ e C H', ev = .ref e ∧ E C none H' ∧ s'.os = s.os ∧ AllBare s'.gens ∧ Un (frs outer) [] H H' s.heap s'.heap ∧ HOk P w H' s'.heap ∧ ExcAt s.heap H' s'.heap e C
structure Flew (X : Cx) (hid : List Addr) (h h' : Heap) : Prop where
  keep : ∀ b o, h.get? b = some o → b ∉ frs X.stack → b ∉ hid → h'.get? b = some o
  slot : h.UpToSlots h'
section
variable {X : Cx} {pins : List (Addr × Obj)} {σ : St} {H : Hp} {s : Shared} {h' : Heap} {hid : List Addr}
theorem Inv.unFlew (I : Inv X pins σ H s) (F : Flew X hid s.heap h') (hh : ∀ b ∈ hid, X.s₀.heap.get? b = none) : Un X.fs X.ex X.H₀ H X.s₀.heap h' where
  keep := fun b o q n hb hx => F.keep b o (I.base.keep b o q n hb hx)
    (fun z => (List.mem_cons.mp (I.stkSub b z)).elim (fun e => absurd (Nat.lt_of_lt_of_le (Heap.lt_size q) I.ok.above) (by rw [e]; exact Nat.lt_irrefl _)) hb) (fun z => by rw [hh b z] at q; cases q)
  slot := fun b o q n hb hx => by
    obtain ⟨sl, e1⟩ := I.base.slot b o q n hb hx
    obtain ⟨_, o', ho', hd⟩ := I.funs.mem hb
    rw [e1] at ho'; cases ho'
    obtain ⟨sl', e2⟩ := F.slot b _ e1 hd
    exact ⟨sl', e2⟩
  free := I.base.free
  there := fun b o q hx => by
    obtain ⟨o', e1⟩ := I.base.there b o q hx
    by_cases z : b ∈ frs X.stack
    · obtain ⟨_, o'', ho, hd⟩ := I.stack.mem z
      rw [e1] at ho; cases ho
      obtain ⟨sl, e2⟩ := F.slot b _ e1 hd
      exact ⟨_, e2⟩
    · exact ⟨o', F.keep b o' e1 z (fun y => by rw [hh b y] at q; cases q)⟩
  tups := I.base.tups
  frzs := I.base.frzs
  tbls := I.base.tbls
theorem Inv.hokFlew (I : Inv X pins σ H s) (F : Flew X hid s.heap h') (hf : ∀ b ∈ hid, H b = none) : HOk X.prog X.w H h' := fun a o q => by
  refine (I.hok a o q).stay (fun b u hb r => ?_) (fun _ z => z) fun _ _ z => z
  have t : H b ≠ none := by
    rcases hb with rfl | hb
    · rw [q]; exact fun z => nomatch z
    · rw [hb]; exact fun z => nomatch z
  exact F.keep b u r (fun z => t (I.stkFree b z)) fun z => t (hf b z)
theorem cell_flew {h : Heap} {c : Addr} {v : Option Value} (F : h.UpToSlots h') (z : h.IsCell c v) : h'.IsCell c v := by
  obtain ⟨o, ho, hd⟩ := z
  obtain ⟨sl, e⟩ := F c o ho (fun vs q => by rw [hd] at q; cases q)
  exact ⟨_, e, hd⟩
theorem Inv.flew (I : Inv X pins σ H s) (F : Flew X hid s.heap h') (hh : ∀ b ∈ hid, X.s₀.heap.get? b = none ∧ H b = none ∧ ∀ p ∈ X.pn ++ pins, p.1 ≠ b) : Inv X pins σ H { s with heap := h' } := by
  refine ⟨I.ok, I.os, I.bare, I.unFlew F fun b hb => (hh b hb).1, ?_, fun x c e => ?_, I.free, I.freeC, fun p hp => ?_, I.hokFlew F fun b hb => (hh b hb).2.1, I.len⟩
  · obtain ⟨m, hn, hl⟩ := I.loc
    refine ⟨m, F.slot.ns hn, fun i x v e1 e2 e3 => ?_⟩
    obtain ⟨u, r, l⟩ := hl i x v e1 e2 e3
    refine ⟨u, r, ?_⟩
    rcases l with l | ⟨k, c, e, z⟩
    · exact .inl l
    · exact .inr ⟨k, c, e, cell_flew F.slot z⟩
  · obtain ⟨v, z⟩ := I.cell x c e
    exact ⟨v, cell_flew F.slot z⟩
  · obtain ⟨e, n, ne, nf, d⟩ := I.pin p hp
    exact ⟨F.keep p.1 p.2 e (fun z => (List.mem_cons.mp (I.stkSub _ z)).elim ne nf) (fun z => (hh p.1 z).2.2 p hp rfl), n, ne, nf, d⟩
theorem exc_of {B h'' : Heap} {l : List Env} {e : Addr} {C a0 : Value} (I : Inv X pins σ H s) (F : Flew X hid s.heap h'') (hB : ∀ b o, s.heap.get? b = some o → b ∉ frs X.stack → b ∉ hid → B.get? b = some o)
    (fl : Heap.FlyingW B l e C a0 h'') (hh : ∀ b ∈ hid, X.s₀.heap.get? b = none ∧ H b = none) (he : X.s₀.heap.get? e = none ∧ H e = none) (hex : ∀ b, b ∉ X.ex) : ExcAt X.s₀.heap H h'' e C := by
  obtain ⟨_, _, _, oe, vs, T, oT, ts, h1, h2, h3, h4, h5, h6, h7, h8, h9⟩ := fl
  have key : ∀ o, s.heap.get? T = some o → T ∈ hid := fun o q => by
    by_cases z : T ∈ hid
    · exact z
    · exfalso
      by_cases y : T ∈ frs X.stack
      · obtain ⟨_, o', ho, hd⟩ := I.stack.mem y
        obtain ⟨sl, e2⟩ := F.slot T o' ho hd
        rw [h7] at e2; cases e2
        exact hd ts h8
      · have := hB T o q y z
        rw [h5] at this; cases this
  refine ⟨he.1, he.2, oe, vs, T, oT, ts, a0, h1, h2, h3, h4, ⟨?_, ?_⟩, h6, h7, h8, h9⟩
  · cases q : X.s₀.heap.get? T with
    | none => rfl
    | some o =>
      obtain ⟨o', e1⟩ := I.base.there T o q (hex T)
      rw [(hh T (key o' e1)).1] at q; cases q
  · cases q : H T with
    | none => rfl
    | some u =>
      obtain ⟨o', e1⟩ := (I.hok T u q).get
      rw [(hh T (key o' e1)).2] at q; cases q
end
section
variable {P : Program} {w : World} {K : PySem.W.Frag} {mg : Str → Option Value} {base : Heap} {N : List Str} {qual : Str} {scope : Scope} {f : Addr} {cd : Value} {A : Around} {outer : List Env} {s₀ : Shared} {H₀ : Hp} {E : XK}
theorem xe_made {pins : List (Addr × Obj)} {σ : St} {H : Hp} {s : Shared} {h' : Heap} {e : Addr} {C : Value} {vs : List Value} (I : Inv (cxOf (CXX P w) P w K mg base N qual scope f cd A outer s₀ H₀ E) pins σ H s)
    (hx : Heap.MadeExcOf s.heap h' e C vs) (hE : E C none H) : (cxOf (CXX P w) P w K mg base N qual scope f cd A outer s₀ H₀ E).xe (.ref e) { s with heap := h' } := by
  refine wpAny_leaves_madeW (base := PySem.W.hideAll s.heap (frs (cxOf (CXX P w) P w K mg base N qual scope f cd A outer s₀ H₀ E).stack)) (h := s.heap) (outer := outer) (L := s₀.heap.objs.size) I.ok.frames rfl (fun b o q => PySem.W.of_hideAll _ q)
    (PySem.W.funFrames_hide I.stack fun env he a ha => List.mem_filterMap.mpr ⟨env, he, ha⟩) hx fun h'' t x1 x2 x3 x4 => ?_
  have F : Flew (cxOf (CXX P w) P w K mg base N qual scope f cd A outer s₀ H₀ E) [] s.heap h'' := ⟨fun b o q n _ => x1.1 b o (PySem.W.hideAll_get _ q n), (Heap.UpToSlots.of_keeps hx.keeps).trans x4⟩
  refine ⟨e, C, H, rfl, hE, I.os, I.bare, I.unFlew F (fun b z => absurd z (by simp)), I.hokFlew F (fun b z => absurd z (by simp)), exc_of I F (fun b o q n _ => PySem.W.hideAll_get _ q n) x1 (fun b z => absurd z (by simp)) ⟨?_, I.hok.gone hx.new⟩ fun b z => absurd (show b ∈ ([] : List Addr) from z) (by simp)⟩
  cases q : s₀.heap.get? e with
  | none => exact q
  | some o =>
    obtain ⟨o', e1⟩ := I.base.there e o q fun z => absurd (show e ∈ ([] : List Addr) from z) (by simp)
    rw [hx.new] at e1; cases e1
theorem passX : Passes (CXX P w) (cxOf (CXX P w) P w K mg base N qual scope f cd A outer s₀ H₀ E) E := by
  intro pins σ H s ev s' I hc
  obtain ⟨e, C, H', rfl, hE, os, bare, un, hok, new, free, oe, vs, T, oT, ts, a0, h1, h2, h3, h4, h5, h6, h7, h8, h9⟩ := hc
  have I' : Inv (cxOf (CXX P w) P w K mg base N qual scope f cd A outer s₀ H₀ E) pins σ H' s' := I.call' os un hok bare (fun b z => absurd z (by simp))
  have fresh : ∀ b, s.heap.get? b = none → s₀.heap.get? b = none := fun b z => by
    cases q : s₀.heap.get? b with
    | none => rfl
    | some o =>
      obtain ⟨o', e1⟩ := I.base.there b o q fun z => absurd (show b ∈ ([] : List Addr) from z) (by simp)
      rw [z] at e1; cases e1
  have me : e ∈ e :: T :: frs (cxOf (CXX P w) P w K mg base N qual scope f cd A outer s₀ H₀ E).stack := List.mem_cons_self
  have mT : T ∈ e :: T :: frs (cxOf (CXX P w) P w K mg base N qual scope f cd A outer s₀ H₀ E).stack := List.mem_cons_of_mem _ List.mem_cons_self
  refine wpAny_leaves_onW (base := PySem.W.hideAll s'.heap (e :: T :: frs (cxOf (CXX P w) P w K mg base N qual scope f cd A outer s₀ H₀ E).stack)) (outer := outer) (L := s₀.heap.objs.size) (cls := C) (a0 := a0) I.ok.frames rfl
    ⟨fun b o q => PySem.W.of_hideAll _ q, PySem.W.hideAll_none _ me, PySem.W.funFrames_hide I'.stack (fun env he a ha => List.mem_cons_of_mem _ (List.mem_cons_of_mem _ (List.mem_filterMap.mpr ⟨env, he, ha⟩))),
      oe, vs, T, oT, ts, h1, h2, h3, h4, PySem.W.hideAll_none _ mT, h6, h7, h8, h9⟩ fun h'' x1 x2 => ?_
  have nm : ∀ b, b ∉ frs (cxOf (CXX P w) P w K mg base N qual scope f cd A outer s₀ H₀ E).stack → b ∉ [e, T] → b ∉ e :: T :: frs (cxOf (CXX P w) P w K mg base N qual scope f cd A outer s₀ H₀ E).stack := fun b n m z => by
    rcases List.mem_cons.mp z with z | z
    · exact m (by rw [z]; simp)
    · rcases List.mem_cons.mp z with z | z
      · exact m (by rw [z]; simp)
      · exact n z
  have F : Flew (cxOf (CXX P w) P w K mg base N qual scope f cd A outer s₀ H₀ E) [e, T] s'.heap h'' := ⟨fun b o q n m => x1.1 b o (PySem.W.hideAll_get _ q (nm b n m)), x2⟩
  have hh : ∀ b ∈ [e, T], s₀.heap.get? b = none ∧ H' b = none := fun b z => by
    rcases List.mem_cons.mp z with z | z
    · subst z; exact ⟨fresh _ new, free⟩
    · have z' : b = T := by simpa using z
      subst z'; exact ⟨fresh _ h5.1, h5.2⟩
  exact ⟨e, C, H', rfl, hE, os.trans I.os, bare, I'.unFlew F (fun b z => (hh b z).1), I'.hokFlew F (fun b z => (hh b z).2), exc_of I' F (fun b o q n m => PySem.W.hideAll_get _ q (nm b n m)) x1 hh ⟨fresh _ new, free⟩ fun b z => absurd (show b ∈ ([] : List Addr) from z) (by simp)⟩
theorem passX0 {X : Cx} : Passes (CXX P w) X E0 := fun _ _ _ _ _ _ _ ⟨_, _, _, _, hE, _⟩ => hE.elim
end
/-! ### a def that may raise -/
structure DefX (P : Program) (w : World) (K : PySem.W.Frag) (mg : Str → Option Value) (base : Heap) (k : Nat) (x : Str) (ps : List Str) (sp : Sp) : Prop where
  ex : ∃ (f : Addr) (fd : FuncData), FnOk P w K mg base (CXX P w) k f fd ps sp ∧ mg x = some (.ref f) ∧ PySem.W.keepIn K (.ref f) = true ∧ (∀ us : List Value, us.length = ps.length → bindArgs fd ⟨us, []⟩ = pure (ps.zip us))
theorem FnOk.forgetX {P : Program} {w : World} {K : PySem.W.Frag} {mg : Str → Option Value} {base : Heap} {k : Nat} {f : Addr} {fd : FuncData} {ps : List Str} {sp sp' : Sp} (F : FnOk P w K mg base (CXX P w) k f fd ps sp)
    (h : ∀ vs H Q E, sp' vs H Q E → sp vs H (fun v H' => Same H H' ∧ Q v H) (fun C d H' => Same H H' ∧ E C d H)) : FnOk P w K mg base (CXX P w) k f fd ps sp' where
  len := fun vs H Q E q => F.len _ _ _ _ (h _ _ _ _ q)
  run := fun A outer s H args us vs Q E hr e0 hb hv hs => by
    refine codeAny_mono (F.run A outer s H args us vs _ _ hr e0 hb hv (h _ _ _ _ hs)) fun r s' q => ?_
    cases r with
    | error e =>
      obtain ⟨e, C, H', rfl, ⟨sm, hE⟩, os, bare, un, hok, new, free, oe, vs, T, oT, ts, a0, h1, h2, h3, h4, h5, h6, h7, h8, h9⟩ := q
      have back : ∀ b, H' b = none → H b = none := fun b z => by
        cases q : H b with
        | none => rfl
        | some o => rw [sm b o q] at z; cases z
      exact ⟨e, C, H, rfl, hE, os, bare, un.forget, e0.hok.forget hok sm, new, back _ free, oe, vs, T, oT, ts, a0, h1, h2, h3, h4, ⟨h5.1, back _ h5.2⟩, h6, h7, h8, h9⟩
    | ok fl =>
      cases fl with
      | ret u =>
        obtain ⟨v, H', os, bare, un, hok, rv, sm, qv⟩ := q
        exact ⟨v, H, os, bare, un.forget, e0.hok.forget hok sm, rv, qv⟩
      | next => exact q
      | brk => exact q
      | cont => exact q
section
variable {P : Program} {w : World} {K : PySem.W.Frag} {mg : Str → Option Value} {base : Heap} {x : Str} {st : Stmt} {N ps : List Str} {k : Nat} {sp : Sp}
theorem Src.okXF (S : Src K mg x st ps) (sc : FnScope N ps (defScope st)) (len : ∀ vs H Q E, sp vs H Q E → vs.length = ps.length)
    (hbody : ∀ (f : Addr) (cdv : Value) (A : Around) (outer : List Env) (s : Shared) (H : Hp) (vs : List V) (Q : VK) (E : XK), Room k (A.deeper (envOfC x (defScope st) s.heap.objs.size f cdv)) → sp vs H Q E →
      ∃ t, PSs (cxOf (CXX P w) P w K mg base N x (defScope st) f cdv A outer s H (fun C d H' => Same H H' ∧ E C d H)) (defBody st) t ∧ t { nx := fun _ H' => Same H H' ∧ Q .non H, rt := fun v H' => Same H H' ∧ Q v H } (start N vs) H) : DefX P w K mg base (k + 1) x ps sp := by
  obtain ⟨f, fd, F, hm, hb⟩ := S.ex
  have kp := F.kp
  obtain ⟨oc, od, kV, doc, pm, an, cdv, ct, osl, rfl, lk, hcd⟩ := F.ex
  have G : FnOk P w K mg base (CXX P w) (k + 1) f _ ps (fun vs H R E' => ∃ Q E, sp vs H Q E ∧ R = (fun v H' => Same H H' ∧ Q v H) ∧ E' = fun C d H' => Same H H' ∧ E C d H) :=
    fn_of lk hcd sc (fun vs H R E' ⟨Q, E, h, _⟩ => len vs H Q E h) fun A outer s H vs R E' hr ⟨Q, E, h, e1, e2⟩ => by
      subst e1 e2
      exact hbody f cdv A outer s H vs Q E hr h
  exact ⟨f, _, G.forgetX fun vs H Q E h => ⟨Q, E, h, rfl, rfl⟩, hm, kp, hb⟩
end
section
variable {X : Cx} {x : Str} {p pos : Pos} {e : Expr} {es : List Expr} {t : TA} {j k : Nat} {ps : List Str} {sp : Sp}
theorem pe_fnX {E : XK} (D : DefX X.prog X.w X.K X.mg X.base j x ps sp) (hr : Room k X.A) (hx : Passes (CXX X.prog X.w) X E) (ha : PA X (e :: es) t) (hg : Gl X x := by rfl) (hj : j ≤ k := by decide) (hdb : (x == ("__debug__" : Str)) = false := by decide)
    (he : starEach (e :: es) X.env = (false, eval e X.env) :: starEach es X.env := by rfl) (hpl : (backTo pos (starEach es X.env)).any (·.1) = false := by rfl) :
    PE X (.Call (.Name x p) (e :: es) [] pos) (tCall sp [] E t) := by
  obtain ⟨f, fd, F, hm, hk, hb⟩ := D.ex
  exact pe_call F (hr.mono hj) hg hm hk (.all hb) .nil hx ha hdb he hpl
end
/-! ### own classes of exceptions -/
def bmV : List Value := [.type "ValueError", .type "Exception", .type "BaseException", .type "object"]
/-- the address of the class of that name -/
def cA (K : PySem.W.Frag) (x : Str) : Addr := match PySem.W.nsIn K mainGlobals x with
  | some (some (.ref C)) => C
  | _ => 0
theorem cA_of {K : PySem.W.Frag} {x : Str} {C : Addr} (e : PySem.W.nsIn K mainGlobals x = some (some (.ref C))) : cA K x = C := by unfold cA; rw [e]
/-- what isinstance asks of the class of an exception -/
structure XK1 (K : PySem.W.Frag) (C : Addr) : Prop where
  ga : PySem.W.findIn K (.ref C) "__getattribute__" = some (some (.builtin "BaseException.__getattribute__"))
  gh : PySem.W.findIn K (.ref C) "__getattr__" = some none
  cl : PySem.W.findIn K (.ref C) "__class__" = some (some (.builtin "object.__class__"))
  gt : PySem.W.specialIn K (.builtin "object.__class__") "__get__" = some (some (.builtin "getset_descriptor.__get__"))
  tk : PySem.W.takesIn K (.builtin "object.__class__") = some true
  ob : PySem.W.mroIn K C (.type "object") = some true
  be : PySem.W.subIn K (.ref C) (.type "BaseException") = some true
/-- .. and what raising it asks -/
structure XK2 (K : PySem.W.Frag) (C : Addr) : Prop where
  ok : PySem.W.excIn K C bmV "ValueError.__new__" = true
theorem exc_obj {K : PySem.W.Frag} {h : Heap} {C : Addr} {bmB : List Value} {newId : String} (X : K.In h) (q : PySem.W.excIn K C bmB newId = true) :
    ∃ bm N nm qn bs hdct sn sub ab col dd k0 k1 k2 k3 k5 mN, h.get? C = some (excClassObj nm qn C N bs bm hdct sn sub ab col dd k0 k1 k2 k3 k5 newId) ∧ h.Ns N mN ∧ mN "__init__" = none ∧ OwnTail h bmB bm := by
  unfold PySem.W.excIn at q
  split at q
  · rename_i dd cd sl ho
    split at q
    · rename_i C' bm k0 k1 k2 k3 n k5 hm hs
      simp only [Bool.and_eq_true, Bool.not_eq_true', beq_iff_eq] at q
      obtain ⟨⟨⟨⟨⟨e1, e2⟩, hdel⟩, ht⟩, hok⟩, hni⟩ := q
      subst e1 e2
      obtain ⟨nm, bs, mro, ns, qn, hd, sn, sub, ab, col, del⟩ := cd
      dsimp only at hm hdel hok hni
      subst hm hdel
      obtain ⟨l⟩ := sl
      have hl : l = [k0, k1, k2, k3, some (.builtin n), k5] := hs
      subst hl
      exact ⟨bm, ns, nm, qn, bs, hd, sn, sub, ab, col, dd, k0, k1, k2, k3, k5, _, X _ _ ho, .of_isNs (PySem.W.isNs_of_in X hok), PySem.W.nsMap_none_of_in X hok hni, PySem.W.tail_of_in X ht⟩
    · cases q
  · cases q
section
variable {X : Cx} {x : Str} {np cpos pos : Pos} {e0 : Expr} {rest : List Expr} {t : TA} {E : XK}
def tRaise (C : Addr) (E : XK) (t : TA) : TS := fun _ σ H => t σ H fun vs H1 => vs.length ≤ sizeLine ∧ E (.ref C) none H1
/-- raise C(e, ..) -/
theorem ps_raise (hm : X.mg x = some (.ref (cA X.K x))) (xk : XK2 X.K (cA X.K x)) (hE : ∀ pins σ H s h' e vs, Inv X pins σ H s → Heap.MadeExcOf s.heap h' e (.ref (cA X.K x)) vs → E (.ref (cA X.K x)) none H → X.xe (.ref e) { s with heap := h' })
    (ha : PA X (e0 :: rest) t) (hc : X.calm = true := by rfl) (hg : Gl X x := by rfl) (hd : (x == ("__debug__" : Str)) = false := by decide) (he : starEach (e0 :: rest) X.env = (false, eval e0 X.env) :: starEach rest X.env := by rfl)
    (hpl : (backTo cpos (starEach rest X.env)).any (·.1) = false := by rfl) : PS X (.Raise (some (.Call (.Name x np) (e0 :: rest) [] cpos)) none pos) (tRaise (cA X.K x) E t) := by
  intro pins s σ H D I h
  obtain ⟨bm, N, nm, qn, bs, hdct, sn, sub, ab, col, dd, k0, k1, k2, k3, k5, mN, hC, hN, hni, T⟩ := exc_obj I.ok.mod.kin xk.ok
  refine wpAny_Raise_call_subT (C := cA X.K x) (nm := nm) (q := qn) (N := N) (bs := bs) (bm := bm) (hdct := hdct) (sn := sn) (sub := sub) (ab := ab) (col := col) (dd := dd) (k0 := k0) (k1 := k1) (k2 := k2) (k3 := k3) (k5 := k5)
    PySem.F.excBase_ValueError (mN := mN) (T.hasType PySem.F.excBase_ValueError.hasBase) (I.ok.hd hc) (by rw [he]; show (false || (backTo cpos (starEach rest X.env)).any (·.1)) = false; rw [hpl]; rfl) hni (ld_glob I hg hm ⟨rfl, ?_⟩ hd)
  have h2 := ha cpos pins s σ H _ I h
  rw [he] at h2 ⊢
  refine Calls.evalArgs_plain (thn h2 fun us s1 hq => ?_)
  obtain ⟨vs, H1, I1, r, hz, hE1⟩ := hq
  exact ⟨rfl, by rw [← r.length]; exact hz, I1.bk _ _ hC, hN.keeps I1.bk, T.keeps I1.bk, fun h' e hx => hE pins σ H1 s1 h' e us I1 hx hE1⟩
end
/-! ### isinstance of an exception -/
def ExcO (e : Addr) (C : Value) : HO := .ext fun h => ∃ o vs, h.get? e = some o ∧ o.cls = C ∧ o.data = .fields vs
section
open PySem.Builtin PySem.Builtin.ObjectAttr PySem.Builtin.Getset_descriptor
variable {prog : Program} {w : World} {A : Around} {E : Value → Shared → Prop} {s : Shared} {K : PySem.W.Frag} {e C : Addr} {oe : Obj}
theorem xtype {M : Model} {h : Heap} (hx : h.get? e = some oe) (hc : oe.cls = .ref C) : PySem.W.Looks M h (typeOf (.ref e)) (.ref C) := hc ▸ (PySem.W.Looks.ld hx).andThen .now
theorem xclass_get {R : Result → Shared → Prop} {tp : Value} (X : K.In s.heap) (hx : s.heap.get? e = some oe) (hc : oe.cls = .ref C) (hm : PySem.W.mroIn K C (.type "object") = some true) (h : R (.ok (.ret (.ref C))) s) :
    codeAny (model prog w) A (.call (.builtin "getset_descriptor.__get__") ⟨[.builtin "object.__class__", .ref e, tp], []⟩) R s := by
  obtain ⟨hh, g, dr, t, os⟩ := s
  have M0 := xtype (M := model prog w) hx hc
  have M1 := PySem.W.looks_mroIn (M := model prog w) X hm
  refine codeAny_call_builtin PySem.W.KF.slot_gs.plain PySem.W.KF.entry_gs (PySem.W.KF.slot_gs.check _ _ _ _ _ _ _ _ PySem.W.KF.type_class (PySem.W.KF.args_gs _ _ _) ?_)
  unfold Builtin.«getset_descriptor.__get__» descrGet
  rw [PySem.W.dga_obj]
  refine wpAny_bind (wpAny_pure ?_)
  unfold descrGetter descrCheckInstance descrNameAndClass isInstance
  simp only [PySem.W.KF.owner_class]
  repeat lk
  refine ⟨Code.quiet_builtin _ (by decide +kernel), codeAny_builtin PySem.W.KF.entry_class ?_⟩
  unfold Builtin.«object.__class__» shownTypeOf
  repeat lk
  exact h
theorem xfind {M : Model} {h : Heap} (X : K.In h) (Z : XK1 K C) : PySem.W.Looks M h (find (.ref e) (.ref C) "__class__") (.bind (.builtin "getset_descriptor.__get__") (.builtin "object.__class__")) := by
  intro A Q E s k q
  have X' := X.keeps k
  obtain ⟨hh, g, d, t, os⟩ := s
  have L1 := PySem.W.looks_findIn (M := M) X' Z.cl
  have L2 := PySem.W.looks_specialIn (M := M) X' Z.gt
  have L3 := PySem.W.looks_takesIn (M := M) X' Z.tk
  unfold find
  refine wpAny_bind (L1.at (wpAny_bind (L2.at (wpAny_bind (wpAny_bind (L3.at ?_))))))
  repeat lk
  exact q
theorem xclass_attr {Q : Option Value → Shared → Prop} (X : K.In s.heap) (Z : XK1 K C) (hx : s.heap.get? e = some oe) (hc : oe.cls = .ref C) (h : Q (some (.ref C)) { s with toks := s.toks + 1 }) :
    wpAny (model prog w) A (getAttr? (.ref e) "__class__") Q E s := by
  obtain ⟨hh, g, d, t, os⟩ := s
  have L0 := xtype (M := model prog w) hx hc
  have L1 := PySem.W.looks_findIn (M := model prog w) X Z.ga
  have L2 := PySem.W.looks_findIn (M := model prog w) X Z.gh
  have L3 := xfind (M := model prog w) (e := e) X Z
  have L4 := PySem.W.looks_subIn (M := model prog w) X Z.be
  have hk : builtinKind "BaseException.__getattribute__" = some .slot := by decide +kernel
  have hsplit : splitId "BaseException.__getattribute__" = some ("BaseException", "__getattribute__") := by decide +kernel
  unfold getAttr? getAttrBy? getAttrBy
  refine wpAny_bind (wpAny_mkText (wpAny_bind (wpAny_attempt (wpAny_holding (wpAny_bind (L0.at (wpAny_bind (L1.at ?_))))))))
  have hne : (Value.builtin "BaseException.__getattribute__" == Value.builtin "object.__getattribute__") = false := by decide +kernel
  dsimp only
  rw [if_neg (by rw [hne, Bool.and_false]; exact Bool.false_ne_true)]
  unfold getAttrByItsOwn hookBefore
  rw [if_pos (show onTheHeap (Value.ref C) = true from rfl)]
  refine wpAny_bind (L2.at ?_)
  refine wpAny_bind (wpAny_attempt (wpAny_holding ?_))
  unfold callGetattribute boundAndCalled
  rw [if_neg (show ¬ (false && onTheHeap (Value.builtin "BaseException.__getattribute__")) = true from Bool.false_ne_true)]
  refine wpAny_bind (wpAny_of_eq (PySem.F.attr_ValueError.ga.bind (.ref e)) ?_)
  refine wpAny_call (codeAny_call_builtin PySem.F.attr_ValueError.ga.plain PySem.F.entry_bexc_ga ?_)
  have ha := F.args_bexc_ga (.ref e) (.str "__class__" t)
  simp only [checkBuiltinCall, hk, hsplit]
  unfold isInstance
  repeat (any_goals (first | with_reducible refine PySem.W.Looks.at (by assumption) ?_ | wp_step))
  refine xclass_get (s := ⟨hh, g, d, t + 1, os⟩) X hx hc Z.ob (wpAny_pure ?_)
  show wpAny _ _ (handedOut (.ref C)) _ _ _
  repeat (any_goals (first | assumption | wp_step))
end
end L2
namespace L2
open PySem PySem.Spec PyProof.Rows
section
variable {K : PySem.W.Frag} {e C : Addr}
theorem cls_of_mro {v : Value} {b : Bool} (h : PySem.W.mroIn K C v = some b) : ∃ c d cd sl, K.lookup C = some ⟨c, d, .cls cd, sl⟩ := by
  unfold PySem.W.mroIn PySem.W.clsIn at h
  obtain ⟨cd, hc, _⟩ := Option.bind_eq_some_iff.mp h
  split at hc
  · rename_i c d cd' sl ho
    exact ⟨c, d, cd', sl, ho⟩
  · cases hc
theorem kitx_exc (Z : XK1 K C) : PySem.W.KitX K (.ref e) (.ref C) (fun h => ∃ o vs, h.get? e = some o ∧ o.cls = .ref C ∧ o.data = .fields vs) where
  ty := fun M h X p => by
    obtain ⟨o, vs, h1, h2, _⟩ := p
    exact xtype h1 h2
  it := fun M h X _ => by
    obtain ⟨c, d, cd, sl, ho⟩ := cls_of_mro Z.ob
    intro A Q E s k q
    unfold isType loadHead
    exact wpAny_bind (wpAny_loadPart (k _ _ (X _ _ ho)) (wpAny_pure q))
  ne := fun h tp dd its n sl X htp => by
    obtain ⟨c, d, cd, sl', ho⟩ := cls_of_mro Z.ob
    refine Bool.eq_false_iff.mpr fun q => ?_
    have e : C = tp := Value.ref.inj (beq_iff_eq.mp q)
    subst e
    have z := (X _ _ ho).symm.trans htp
    cases z
  ca := fun X p k => by
    obtain ⟨o, vs, h1, h2, _⟩ := p
    exact xclass_attr X Z h1 h2 k
end
section
variable {X : Cx}
theorem exc_get {pins : List (Addr × Obj)} {σ : St} {H : Hp} {s : Shared} {e : Addr} {C : Value} (I : Inv X pins σ H s) (h : H e = some (ExcO e C)) : ∃ o vs, s.heap.get? e = some o ∧ o.cls = C ∧ o.data = .fields vs := (I.hok e _ h).1
/-- isinstance(e, C), C an own class or a built-in one -/
theorem call_isiO (K : PySem.W.Frag) (hK : X.K = K := by rfl) : CallR X (.builtin "isinstance") (fun xs H Q => ∃ e C D b, xs = [.ref e, .ref D] ∧ H e = some (ExcO e (.ref C)) ∧ XK1 K C ∧ PySem.W.kitOne K (.ref C) (.ref D) = some b ∧ Q (.bl b) H) := by
  subst hK
  intro pins s σ H xs us Q I r h
  obtain ⟨e, C, D, b, rfl, he, Z, kit, q⟩ := h
  obtain ⟨u, v, rfl, ru, rv⟩ := vals2 r
  cases ru
  cases rv
  exact PySem.W.kia_one (kitx_exc Z) I.kIn (exc_get I he) kit (fun z => nomatch z) fun tk => ⟨.bl b, H, I.tok tk, rfl, q⟩
end
/-! ### try: y = f(..) except C as n: suite -/
abbrev Cx.held (X : Cx) (e : Addr) : Cx := { X with A := X.A.mark (some (.ref e)), calm := false, xe := fun _ _ => False }
section
variable {X : Cx} {pins : List (Addr × Obj)} {σ : St} {H : Hp} {s : Shared} {e : Addr}
theorem Inv.held (I : Inv X pins σ H s) (e : Addr) : Inv (X.held e) pins σ H s :=
  ⟨⟨I.ok.mod, I.ok.kind, I.ok.glob, I.ok.blt, I.ok.above, I.ok.inj, I.ok.has, I.ok.cab, fun z => (Bool.false_ne_true z).elim, I.ok.frames, I.ok.stk, I.ok.exf, I.ok.bs, I.ok.bsz, I.ok.noex, I.ok.exfs, I.ok.funs, I.ok.frf⟩,
    I.os, I.bare, I.base, I.loc, I.cell, I.free, I.freeC, I.pin, I.hok, I.len⟩
theorem Inv.unheld (ok : X.Ok) (I : Inv (X.held e) pins σ H s) : Inv X pins σ H s := ⟨ok, I.os, I.bare, I.base, I.loc, I.cell, I.free, I.freeC, I.pin, I.hok, I.len⟩
theorem Inv.track {o : HO} (I : Inv X pins σ H s) (hn : H e = none) (h0 : X.s₀.heap.get? e = none) (hL : e ≠ X.env.locals) (hC : ∀ x c, X.env.cells.lookup x = some c → c ≠ e) (hp : ∀ p ∈ X.pn ++ pins, p.1 ≠ e)
    (new : ObjOk X.prog X.w (upd H e o) s.heap e o) : Inv X pins σ (upd H e o) s := by
  refine ⟨I.ok, I.os, I.bare, ⟨I.base.keep, I.base.slot, fun b u q n hx => ?_, I.base.there, fun b xs q => ?_, fun b u v q => ?_, fun b ps q => ?_⟩, I.loc, I.cell, ?_, fun x c q => ?_, fun p q => ?_, fun b u q => ?_, I.len⟩
  · rw [upd_ne (fun z => by rw [z, h0] at q; cases q)]
    exact I.base.free b u q n hx
  · have z := I.base.tups b xs q
    rw [upd_ne (ne_of_none z hn)]; exact z
  · have z := I.base.frzs b u v q
    rw [upd_ne (ne_of_none z hn)]; exact z
  · obtain ⟨more, z⟩ := I.base.tbls b ps q
    exact ⟨more, by rw [upd_ne (ne_of_none z hn)]; exact z⟩
  · rw [upd_ne (Ne.symm hL)]; exact I.free
  · rw [upd_ne (hC x c q)]; exact I.freeC x c q
  · obtain ⟨a, b, c, d, f⟩ := I.pin p q
    exact ⟨a, by rw [upd_ne (hp p q)]; exact b, c, d, f⟩
  · by_cases hb : b = e
    · subst hb
      rw [upd_same] at q; cases q
      exact new
    · rw [upd_ne hb] at q
      exact (I.hok b u q).stay (fun _ _ _ z => z) (fun c z => by rw [upd_ne (ne_of_none z hn)]; exact z) fun c xs z => by rw [upd_ne (ne_of_none z hn)]; exact z
theorem Inv.forgetLoc {h' : Heap} {m' : Str → Option Value} {t' : Nat} (I : Inv X pins σ H s) (hn : h'.Ns X.env.locals m') (hs : Heap.SameBut X.env.locals s.heap h') : Inv X pins (List.replicate X.N.length none) H { s with heap := h', toks := t' } := by
  have neL : ∀ b o, X.s₀.heap.get? b = some o → b ≠ X.env.locals := fun b o q => Nat.ne_of_lt (Nat.lt_of_lt_of_le (Heap.lt_size q) I.ok.above)
  refine ⟨I.ok, I.os, I.bare, ⟨fun b o q n hb hx => (hs.2 b (neL b o q)).trans (I.base.keep b o q n hb hx), fun b o q n hb hx => ?_, I.base.free, fun b o q hx => ?_, I.base.tups, I.base.frzs, I.base.tbls⟩, ⟨m', hn, fun i x v e1 e2 e3 => ?_⟩, fun x c q => ?_, I.free, I.freeC, fun p hp => ?_, fun a o q => ?_, by rw [List.length_replicate]⟩
  · obtain ⟨sl, e1⟩ := I.base.slot b o q n hb hx
    exact ⟨sl, (hs.2 b (neL b o q)).trans e1⟩
  · obtain ⟨o', e1⟩ := I.base.there b o q hx
    exact ⟨o', (hs.2 b (neL b o q)).trans e1⟩
  · rw [List.getElem?_replicate] at e2
    split at e2 <;> cases e2
  · obtain ⟨v, o, ho, hd⟩ := I.cell x c q
    exact ⟨v, o, (hs.2 c (I.cne x c q)).trans ho, hd⟩
  · obtain ⟨a, b, c, d, f⟩ := I.pin p hp
    exact ⟨(hs.2 p.1 c).trans a, b, c, d, f⟩
  · refine (I.hok a o q).stay (fun b u hb r => (hs.2 b ?_).trans r) (fun _ z => z) fun _ _ z => z
    intro z
    have t : H b ≠ none := by
      rcases hb with rfl | hb
      · rw [q]; exact fun z => nomatch z
      · rw [hb]; exact fun z => nomatch z
    exact t (by rw [z]; exact I.free)
end
def tTry (K : PySem.W.Frag) (Cx : Addr) (i j : Nat) (ta : TA) (sp : Sp) (th : TS) : TS := fun D σ H => ta σ H fun vs H1 => sp vs H1 (fun v H2 => D.nx (σ.set i (some v)) H2) fun C _ H2 =>
  ∃ c, C = .ref c ∧ PySem.W.exmOne K (.ref c) (.ref Cx) = some true ∧ ∀ e, H2 e = none → th { nx := fun _ _ => False, rt := D.rt } (σ.set j (some (.ref e))) (upd H2 e (ExcO e (.ref c)))
end L2
namespace L2
open PySem PySem.Spec PyProof.Rows
/-! ### the facts of classes, as they stand behind the top -/
section
variable {K : PySem.W.Frag} {h : Heap} {mg : Str → Option Value} {x y : Str} {C D : Addr} {v : Bool} {n : String}
theorem nsHave (X : K.In h) (a : PySem.W.nsIn K mainGlobals x = some (some (.ref C))) : PySem.W.nsIn K mainGlobals x = some (some (.ref C)) := a
theorem m_mk (X : K.In h) (G : h.Ns mainGlobals mg) (a : PySem.W.nsIn K mainGlobals x = some (some (.ref C))) : mg x = some (.ref (cA K x)) := by
  rw [cA_of a]; exact PySem.W.mg_of X G a
theorem x2_mk (a : PySem.W.nsIn K mainGlobals x = some (some (.ref C))) (q : PySem.W.excIn K C [.type "ValueError", .type "Exception", .type "BaseException", .type "object"] "ValueError.__new__" = true) : XK2 K (cA K x) := by
  rw [cA_of a]; exact ⟨q⟩
theorem x1_mk (a : PySem.W.nsIn K mainGlobals x = some (some (.ref C))) (q1 : PySem.W.findIn K (.ref C) "__getattribute__" = some (some (.builtin "BaseException.__getattribute__"))) (q2 : PySem.W.findIn K (.ref C) "__getattr__" = some none)
    (q3 : PySem.W.findIn K (.ref C) "__class__" = some (some (.builtin "object.__class__"))) (q4 : PySem.W.specialIn K (.builtin "object.__class__") "__get__" = some (some (.builtin "getset_descriptor.__get__")))
    (q5 : PySem.W.takesIn K (.builtin "object.__class__") = some true) (q6 : PySem.W.mroIn K C (.type "object") = some true) (q7 : PySem.W.subIn K (.ref C) (.type "BaseException") = some true) : XK1 K (cA K x) := by
  rw [cA_of a]; exact ⟨q1, q2, q3, q4, q5, q6, q7⟩
theorem kit_mk (a : PySem.W.nsIn K mainGlobals x = some (some (.ref C))) (b : PySem.W.nsIn K mainGlobals y = some (some (.ref D))) (q : PySem.W.kitOne K (.ref C) (.ref D) = some v) : PySem.W.kitOne K (.ref (cA K x)) (.ref (cA K y)) = some v := by
  rw [cA_of a, cA_of b]; exact q
inductive NL (K : PySem.W.Frag) : List Str → List Addr → Prop
  | nil : NL K [] []
  | cons {x : Str} {C : Addr} {xs : List Str} {Cs : List Addr} (a : PySem.W.nsIn K mainGlobals x = some (some (.ref C))) (l : NL K xs Cs) : NL K (x :: xs) (C :: Cs)
theorem NL.eq {xs : List Str} {Cs : List Addr} (l : NL K xs Cs) : xs.map (cA K) = Cs := by
  induction l with
  | nil => rfl
  | cons a _ ih => rw [List.map_cons, cA_of a, ih]
theorem exm_mk (a : PySem.W.nsIn K mainGlobals x = some (some (.ref C))) (b : PySem.W.nsIn K mainGlobals y = some (some (.ref D))) (q1 : PySem.W.subIn K (.ref D) (.type "BaseException") = some true)
    (q2 : PySem.W.isClsIn K D = true) (q3 : PySem.W.typeIn K (.ref D) = some (.type "type")) (q4 : PySem.W.subIn K (.ref C) (.ref D) = some true) : PySem.W.exmOne K (.ref (cA K x)) (.ref (cA K y)) = some true := by
  rw [cA_of a, cA_of b]
  unfold PySem.W.exmOne PySem.W.kitCls
  unfold PySem.W.isClsIn at q2
  rw [q1, if_pos (by decide)]
  dsimp only
  rw [q2, q3, if_pos (by decide)]
  exact q4
end
end L2
namespace L2
open PySem PySem.Spec PyProof.Rows
/-! ### a def that is called within an except suite (it raises nothing) -/
structure RoomH (k : Nat) (A : Around) : Prop where
  dp : A.depth + 3 * k + 5 < recursionLimit
  un : A.units + 16 * k + 200 < cLine
theorem RoomH.of {k : Nat} {A : Around} {v : Option Value} (r : Room k A) : RoomH k (A.mark v) := ⟨r.dp, r.un⟩
theorem RoomH.mono {j k : Nat} {A : Around} (r : RoomH k A) (h : j ≤ k) : RoomH j A := ⟨by have := r.dp; omega, by have := r.un; omega⟩
theorem RoomH.deeper {k : Nat} {A : Around} (r : RoomH (k + 1) A) (env : Env) : RoomH k (A.deeper env) :=
  ⟨by have := r.dp; show A.depth + 1 + 3 * k + 5 < _; omega, by have := r.un; show A.units + 3 + 16 * k + 200 < _; omega⟩
abbrev cxH (P : Program) (w : World) (K : PySem.W.Frag) (mg : Str → Option Value) (base : Heap) (N : List Str) (qual : Str) (scope : Scope) (f : Addr) (cd : Value) (A : Around) (outer : List Env) (s : Shared) (H : Hp) : Cx :=
  { cxOf CX0 P w K mg base N qual scope f cd A outer s H E0 with calm := false, xe := fun _ _ => False }
structure FnOkH (P : Program) (w : World) (K : PySem.W.Frag) (mg : Str → Option Value) (base : Heap) (k : Nat) (f : Addr) (fd : FuncData) (ps : List Str) (sp : Sp) : Prop where
  len : ∀ vs H Q E, sp vs H Q E → vs.length = ps.length
  run : ∀ (A : Around) (outer : List Env) (s : Shared) (H : Hp) (args : Args) (us : List Value) (vs : List V) (Q : VK), RoomH k A → Env0 P w K mg base A outer s H → BindsTo s fd args (ps.zip us) → Vals vs us → sp vs H Q E0 →
    codeAny (model P w) A (.call (.ref f) args) (CR CX0 outer P w H s Q E0) s
structure DefH (P : Program) (w : World) (K : PySem.W.Frag) (mg : Str → Option Value) (base : Heap) (k : Nat) (x : Str) (ps : List Str) (sp : Sp) : Prop where
  ex : ∃ (f : Addr) (fd : FuncData), FnOkH P w K mg base k f fd ps sp ∧ mg x = some (.ref f) ∧ PySem.W.keepIn K (.ref f) = true ∧ (∀ us : List Value, us.length = ps.length → bindArgs fd ⟨us, []⟩ = pure (ps.zip us))
section
variable {P : Program} {w : World} {K : PySem.W.Frag} {mg : Str → Option Value} {base : Heap} {x : Str} {st : Stmt} {N ps : List Str} {k : Nat} {sp : Sp}
end
section
variable {X : Cx} {x : Str} {p pos : Pos} {e : Expr} {es : List Expr} {t : TA} {j k : Nat} {ps : List Str} {sp : Sp}
end
/-! ### lists by what is true of each item -/
theorem at_mem {xs : List V} {k : Int} (h0 : 0 ≤ k) (h : k < (xs.length : Int)) : ∃ v, atI xs k = some v ∧ v ∈ xs := by
  have hk : k.toNat < xs.length := by omega
  have q : atI xs ((k.toNat : Nat) : Int) = some xs[k.toNat] := atI_nat (List.getElem?_eq_getElem hk)
  rw [show ((k.toNat : Nat) : Int) = k by omega] at q
  exact ⟨_, q, List.getElem_mem hk⟩
theorem mem1 {v : V} {xs : List V} {p : V → Prop} (h : p v) (t : ∀ x ∈ xs, p x) : ∀ x ∈ v :: xs, p x := fun x hx => by
  rcases List.mem_cons.mp hx with rfl | hx
  · exact h
  · exact t x hx
theorem mem0 {p : V → Prop} : ∀ x ∈ ([] : List V), p x := fun x hx => by cases hx
theorem IsKind.same {K : PySem.W.Frag} {H H' : Hp} {x : V} {T : String} (h : IsKind K H x T) (s : Same H H') : IsKind K H' x T := by
  refine ⟨?_, h.2⟩
  have q := h.1
  generalize e : Value.type T = t at q ⊢
  cases q with
  | non => exact .non
  | bl b => exact .bl b
  | int i => exact .int i
  | str y => exact .str y
  | flt y => exact .flt y
  | lst ea => exact .lst (s _ _ ea)
  | frz ea => exact .frz (s _ _ ea)
  | tup ea => exact .tup (s _ _ ea)
  | dK ea => exact .dK (s _ _ ea)
  | ins => cases e
theorem IsKind.upd {K : PySem.W.Frag} {H : Hp} {x : V} {T : String} {l : Addr} {xs ys : List V} (h : IsKind K H x T) (hl : H l = some (.lst xs)) : IsKind K (upd H l (.lst ys)) x T := by
  refine ⟨?_, h.2⟩
  have q := h.1
  generalize e : Value.type T = t at q ⊢
  cases q with
  | non => exact .non
  | bl b => exact .bl b
  | int i => exact .int i
  | str y => exact .str y
  | flt y => exact .flt y
  | @lst a zs ea =>
    by_cases z : a = l
    · subst z; exact .lst upd_same
    · exact .lst (by rw [upd_ne z]; exact ea)
  | @frz a o zs ea => exact .frz (by rw [upd_ne (ne_of ea hl (by intro z; cases z))]; exact ea)
  | @tup a zs ea => exact .tup (by rw [upd_ne (ne_of ea hl (by intro z; cases z))]; exact ea)
  | @dK a zs ea => exact .dK (by rw [upd_ne (ne_of ea hl (by intro z; cases z))]; exact ea)
  | ins => cases e
/-- a list that is newer than H is changed -/
theorem same_put {H H' : Hp} {l : Addr} {o : HO} (s : Same H H') (h : H l = none) : Same H (upd H' l o) := fun b u q => by
  rw [upd_ne (ne_of_none q h)]; exact s b u q
end L2
namespace L2
open PySem PySem.W PyProof.Rows
def tSeqN (t u : TS) : TS := tSeq t u
theorem pss_consN {X : Cx} {st : Stmt} {rest : List Stmt} {t u : TS} (h1 : PS X st t) (h2 : PSs X rest u) : PSs X (st :: rest) (tSeqN t u) := pss_cons h1 h2
def Mkd (p : Prop) : Prop := p
variable {t1 t2 t3 t4 t5 t6 t7 t8 t9 t10 : TS} {D : Ends} {σ : St} {H : Hp}
theorem sqG (h : Mkd (tSeqN t1 t2 D σ H)) : tSeqN t1 t2 D σ H := h
theorem sqN2 (h : let v1 := t2; tSeq t1 v1 D σ H) : Mkd ((tSeqN t1 t2) D σ H) := h
theorem sqN3 (h : let v2 := t3; let v1 := tSeq t2 v2; tSeq t1 v1 D σ H) : Mkd ((tSeqN t1 (tSeqN t2 t3)) D σ H) := h
theorem sqN4 (h : let v3 := t4; let v2 := tSeq t3 v3; let v1 := tSeq t2 v2; tSeq t1 v1 D σ H) : Mkd ((tSeqN t1 (tSeqN t2 (tSeqN t3 t4))) D σ H) := h
theorem sqN5 (h : let v4 := t5; let v3 := tSeq t4 v4; let v2 := tSeq t3 v3; let v1 := tSeq t2 v2; tSeq t1 v1 D σ H) : Mkd ((tSeqN t1 (tSeqN t2 (tSeqN t3 (tSeqN t4 t5)))) D σ H) := h
theorem sqN6 (h : let v5 := t6; let v4 := tSeq t5 v5; let v3 := tSeq t4 v4; let v2 := tSeq t3 v3; let v1 := tSeq t2 v2; tSeq t1 v1 D σ H) : Mkd ((tSeqN t1 (tSeqN t2 (tSeqN t3 (tSeqN t4 (tSeqN t5 t6))))) D σ H) := h
theorem sqN7 (h : let v6 := t7; let v5 := tSeq t6 v6; let v4 := tSeq t5 v5; let v3 := tSeq t4 v4; let v2 := tSeq t3 v3; let v1 := tSeq t2 v2; tSeq t1 v1 D σ H) : Mkd ((tSeqN t1 (tSeqN t2 (tSeqN t3 (tSeqN t4 (tSeqN t5 (tSeqN t6 t7)))))) D σ H) := h
theorem sqN8 (h : let v7 := t8; let v6 := tSeq t7 v7; let v5 := tSeq t6 v6; let v4 := tSeq t5 v5; let v3 := tSeq t4 v4; let v2 := tSeq t3 v3; let v1 := tSeq t2 v2; tSeq t1 v1 D σ H) : Mkd ((tSeqN t1 (tSeqN t2 (tSeqN t3 (tSeqN t4 (tSeqN t5 (tSeqN t6 (tSeqN t7 t8))))))) D σ H) := h
theorem sqN9 (h : let v8 := t9; let v7 := tSeq t8 v8; let v6 := tSeq t7 v7; let v5 := tSeq t6 v6; let v4 := tSeq t5 v5; let v3 := tSeq t4 v4; let v2 := tSeq t3 v3; let v1 := tSeq t2 v2; tSeq t1 v1 D σ H) : Mkd ((tSeqN t1 (tSeqN t2 (tSeqN t3 (tSeqN t4 (tSeqN t5 (tSeqN t6 (tSeqN t7 (tSeqN t8 t9)))))))) D σ H) := h
theorem sqN10 (h : let v9 := t10; let v8 := tSeq t9 v9; let v7 := tSeq t8 v8; let v6 := tSeq t7 v7; let v5 := tSeq t6 v6; let v4 := tSeq t5 v5; let v3 := tSeq t4 v4; let v2 := tSeq t3 v3; let v1 := tSeq t2 v2; tSeq t1 v1 D σ H) : Mkd ((tSeqN t1 (tSeqN t2 (tSeqN t3 (tSeqN t4 (tSeqN t5 (tSeqN t6 (tSeqN t7 (tSeqN t8 (tSeqN t9 t10))))))))) D σ H) := h
inductive Ee4 {α0 α1 α2 α3 : Type} (p : α0 → α1 → α2 → α3 → Prop) : Prop | mk (x0 : α0) (x1 : α1) (x2 : α2) (x3 : α3) (h : p x0 x1 x2 x3) : Ee4 p
inductive Ee5 {α0 α1 α2 α3 α4 : Type} (p : α0 → α1 → α2 → α3 → α4 → Prop) : Prop | mk (x0 : α0) (x1 : α1) (x2 : α2) (x3 : α3) (x4 : α4) (h : p x0 x1 x2 x3 x4) : Ee5 p
inductive Ee6 {α0 α1 α2 α3 α4 α5 : Type} (p : α0 → α1 → α2 → α3 → α4 → α5 → Prop) : Prop | mk (x0 : α0) (x1 : α1) (x2 : α2) (x3 : α3) (x4 : α4) (x5 : α5) (h : p x0 x1 x2 x3 x4 x5) : Ee6 p
inductive Ee7 {α0 α1 α2 α3 α4 α5 α6 : Type} (p : α0 → α1 → α2 → α3 → α4 → α5 → α6 → Prop) : Prop | mk (x0 : α0) (x1 : α1) (x2 : α2) (x3 : α3) (x4 : α4) (x5 : α5) (x6 : α6) (h : p x0 x1 x2 x3 x4 x5 x6) : Ee7 p
inductive Ee8 {α0 α1 α2 α3 α4 α5 α6 α7 : Type} (p : α0 → α1 → α2 → α3 → α4 → α5 → α6 → α7 → Prop) : Prop | mk (x0 : α0) (x1 : α1) (x2 : α2) (x3 : α3) (x4 : α4) (x5 : α5) (x6 : α6) (x7 : α7) (h : p x0 x1 x2 x3 x4 x5 x6 x7) : Ee8 p
inductive Ee9 {α0 α1 α2 α3 α4 α5 α6 α7 α8 : Type} (p : α0 → α1 → α2 → α3 → α4 → α5 → α6 → α7 → α8 → Prop) : Prop | mk (x0 : α0) (x1 : α1) (x2 : α2) (x3 : α3) (x4 : α4) (x5 : α5) (x6 : α6) (x7 : α7) (x8 : α8) (h : p x0 x1 x2 x3 x4 x5 x6 x7 x8) : Ee9 p
inductive Ee10 {α0 α1 α2 α3 α4 α5 α6 α7 α8 α9 : Type} (p : α0 → α1 → α2 → α3 → α4 → α5 → α6 → α7 → α8 → α9 → Prop) : Prop | mk (x0 : α0) (x1 : α1) (x2 : α2) (x3 : α3) (x4 : α4) (x5 : α5) (x6 : α6) (x7 : α7) (x8 : α8) (x9 : α9) (h : p x0 x1 x2 x3 x4 x5 x6 x7 x8 x9) : Ee10 p
inductive Ee11 {α0 α1 α2 α3 α4 α5 α6 α7 α8 α9 α10 : Type} (p : α0 → α1 → α2 → α3 → α4 → α5 → α6 → α7 → α8 → α9 → α10 → Prop) : Prop | mk (x0 : α0) (x1 : α1) (x2 : α2) (x3 : α3) (x4 : α4) (x5 : α5) (x6 : α6) (x7 : α7) (x8 : α8) (x9 : α9) (x10 : α10) (h : p x0 x1 x2 x3 x4 x5 x6 x7 x8 x9 x10) : Ee11 p
inductive Ee12 {α0 α1 α2 α3 α4 α5 α6 α7 α8 α9 α10 α11 : Type} (p : α0 → α1 → α2 → α3 → α4 → α5 → α6 → α7 → α8 → α9 → α10 → α11 → Prop) : Prop | mk (x0 : α0) (x1 : α1) (x2 : α2) (x3 : α3) (x4 : α4) (x5 : α5) (x6 : α6) (x7 : α7) (x8 : α8) (x9 : α9) (x10 : α10) (x11 : α11) (h : p x0 x1 x2 x3 x4 x5 x6 x7 x8 x9 x10 x11) : Ee12 p
inductive Ee13 {α0 α1 α2 α3 α4 α5 α6 α7 α8 α9 α10 α11 α12 : Type} (p : α0 → α1 → α2 → α3 → α4 → α5 → α6 → α7 → α8 → α9 → α10 → α11 → α12 → Prop) : Prop | mk (x0 : α0) (x1 : α1) (x2 : α2) (x3 : α3) (x4 : α4) (x5 : α5) (x6 : α6) (x7 : α7) (x8 : α8) (x9 : α9) (x10 : α10) (x11 : α11) (x12 : α12) (h : p x0 x1 x2 x3 x4 x5 x6 x7 x8 x9 x10 x11 x12) : Ee13 p
inductive Aa3 (a0 a1 a2 : Prop) : Prop | mk (h0 : a0) (h1 : a1) (h2 : a2) : Aa3 a0 a1 a2
inductive Aa4 (a0 a1 a2 a3 : Prop) : Prop | mk (h0 : a0) (h1 : a1) (h2 : a2) (h3 : a3) : Aa4 a0 a1 a2 a3
inductive Aa5 (a0 a1 a2 a3 a4 : Prop) : Prop | mk (h0 : a0) (h1 : a1) (h2 : a2) (h3 : a3) (h4 : a4) : Aa5 a0 a1 a2 a3 a4
inductive Aa6 (a0 a1 a2 a3 a4 a5 : Prop) : Prop | mk (h0 : a0) (h1 : a1) (h2 : a2) (h3 : a3) (h4 : a4) (h5 : a5) : Aa6 a0 a1 a2 a3 a4 a5
inductive Aa7 (a0 a1 a2 a3 a4 a5 a6 : Prop) : Prop | mk (h0 : a0) (h1 : a1) (h2 : a2) (h3 : a3) (h4 : a4) (h5 : a5) (h6 : a6) : Aa7 a0 a1 a2 a3 a4 a5 a6
inductive Aa8 (a0 a1 a2 a3 a4 a5 a6 a7 : Prop) : Prop | mk (h0 : a0) (h1 : a1) (h2 : a2) (h3 : a3) (h4 : a4) (h5 : a5) (h6 : a6) (h7 : a7) : Aa8 a0 a1 a2 a3 a4 a5 a6 a7
inductive Aa9 (a0 a1 a2 a3 a4 a5 a6 a7 a8 : Prop) : Prop | mk (h0 : a0) (h1 : a1) (h2 : a2) (h3 : a3) (h4 : a4) (h5 : a5) (h6 : a6) (h7 : a7) (h8 : a8) : Aa9 a0 a1 a2 a3 a4 a5 a6 a7 a8
inductive Aa10 (a0 a1 a2 a3 a4 a5 a6 a7 a8 a9 : Prop) : Prop | mk (h0 : a0) (h1 : a1) (h2 : a2) (h3 : a3) (h4 : a4) (h5 : a5) (h6 : a6) (h7 : a7) (h8 : a8) (h9 : a9) : Aa10 a0 a1 a2 a3 a4 a5 a6 a7 a8 a9
inductive Aa11 (a0 a1 a2 a3 a4 a5 a6 a7 a8 a9 a10 : Prop) : Prop | mk (h0 : a0) (h1 : a1) (h2 : a2) (h3 : a3) (h4 : a4) (h5 : a5) (h6 : a6) (h7 : a7) (h8 : a8) (h9 : a9) (h10 : a10) : Aa11 a0 a1 a2 a3 a4 a5 a6 a7 a8 a9 a10
inductive Aa12 (a0 a1 a2 a3 a4 a5 a6 a7 a8 a9 a10 a11 : Prop) : Prop | mk (h0 : a0) (h1 : a1) (h2 : a2) (h3 : a3) (h4 : a4) (h5 : a5) (h6 : a6) (h7 : a7) (h8 : a8) (h9 : a9) (h10 : a10) (h11 : a11) : Aa12 a0 a1 a2 a3 a4 a5 a6 a7 a8 a9 a10 a11
inductive Aa13 (a0 a1 a2 a3 a4 a5 a6 a7 a8 a9 a10 a11 a12 : Prop) : Prop | mk (h0 : a0) (h1 : a1) (h2 : a2) (h3 : a3) (h4 : a4) (h5 : a5) (h6 : a6) (h7 : a7) (h8 : a8) (h9 : a9) (h10 : a10) (h11 : a11) (h12 : a12) : Aa13 a0 a1 a2 a3 a4 a5 a6 a7 a8 a9 a10 a11 a12
end L2
namespace L2
open PySem PySem.Spec PyProof.Rows
/-! ### an own class of exceptions with an __init__ of its own, right under one without -/
structure XK3 (K : PySem.W.Frag) (C f : Addr) : Prop where
  ob : ∃ D nm q N bs sn sub ab col dd k0 k1 k2 k3 k5, K.lookup C = some (excClassObj nm q C N bs (.ref D :: bmV) true sn sub ab col dd k0 k1 k2 k3 k5 "ValueError.__new__") ∧ PySem.W.excIn K D bmV "ValueError.__new__" = true
  init : PySem.W.findIn K (.ref C) "__init__" = some (some (.ref f))
  fn : PySem.W.typeIn K (.ref f) = some (.type "function")
  sa : PySem.W.findIn K (.ref C) "__setattr__" = some (some (.builtin "object.__setattr__"))
  kp : PySem.W.keepIn K (.ref C) = true
  z : XK1 K C
section
variable {prog : Program} {w : World} {A : Around} {E : Value → Shared → Prop} {s : Shared} {K : PySem.W.Frag} {e C f : Addr} {oe : Obj}
end
section
open PySem.Builtin PySem.Builtin.ObjectAttr
variable {prog : Program} {w : World} {A : Around} {E : Value → Shared → Prop} {s : Shared} {K : PySem.W.Frag} {e C f dx : Addr} {oe : Obj} {vs : Array Value} {mA : Str → Option Value} {name : Str} {v : Value}
end
section
open PySem.Builtin PySem.Builtin.ObjectAttr
variable {prog : Program} {w : World} {A : Around} {E : Value → Shared → Prop} {s : Shared} {K : PySem.W.Frag} {x C f dx : Addr} {o : Obj} {vs : Array Value} {mA : Str → Option Value} {name : Str} {v : Value}
set_option maxHeartbeats 2000000 in
end
/-! ### exceptions as things that are made and read -/
def ExcN (e : Addr) (C : Value) : HO := .ext fun h => ∃ o vs, h.get? e = some o ∧ o.cls = C ∧ o.data = .fields vs ∧ o.dict = none ∧ (∃ a0, vs[0]? = some a0) ∧ vs[1]? = some .none
def ExcD (e : Addr) (C : Value) (d : Addr) : HO := .ext fun h => ∃ o vs, h.get? e = some o ∧ o.cls = C ∧ o.data = .fields vs ∧ o.dict = some d ∧ (∃ a0, vs[0]? = some a0) ∧ vs[1]? = some .none
/-- an exception of the class C, with or without a dict -/
def IsX (H : Hp) (e : Addr) (C : Value) : Prop := ∃ φ, H e = some (.ext φ) ∧ ∀ h, φ h → ∃ o vs, h.get? e = some o ∧ o.cls = C ∧ o.data = .fields vs
theorem IsX.o {H : Hp} {e : Addr} {C : Value} (h : H e = some (ExcO e C)) : IsX H e C := ⟨_, h, fun _ q => q⟩
theorem IsX.d {H : Hp} {e d : Addr} {C : Value} (h : H e = some (ExcD e C d)) : IsX H e C := ⟨_, h, fun _ ⟨o, vs, a, b, c, _⟩ => ⟨o, vs, a, b, c⟩⟩
theorem IsX.same {H H' : Hp} {e : Addr} {C : Value} (x : IsX H e C) (s : Same H H') : IsX H' e C := let ⟨φ, a, b⟩ := x; ⟨φ, s _ _ a, b⟩
section
variable {X : Cx} {pins : List (Addr × Obj)} {σ : St} {H : Hp} {s : Shared} {e : Addr}
end
section
variable {X : Cx} {x : Str} {np pos : Pos} {e0 : Expr} {rest : List Expr} {t : TA}
/-- C(..), C an own class of exceptions without an __init__ -/
def tNewX (C : Addr) (t : TA) : TE := fun σ H Q => t σ H fun vs H1 => vs.length ≤ sizeLine ∧ ∀ e H', Same H1 H' → IsX H' e (.ref C) → Q (.ref e) H'
end
section
variable {X : Cx} {o value : Expr} {name : Str} {pos pos' : Pos} {ta tv : TE} {C f : Addr}
/-- e.name = value, e an exception that has no dict yet -/
def sXFld (C : Addr) (ta tv : TE) (name : Str) : TS := fun D σ H => tv σ H fun y H1 => ta σ H1 fun x H2 => ∃ e, x = .ref e ∧ H2 e = some (ExcN e (.ref C)) ∧ ∀ d, d ≠ e → H2 d = none → D.nx σ (upd (upd H2 e (ExcD e (.ref C) d)) d (.xd [(name, y)]))
/-- e.name, a number in the dict of an exception -/
def tXFld (C : Addr) (ta : TE) (name : Str) : TE := fun σ H Q => ta σ H fun x H1 => ∃ e d fs i, x = .ref e ∧ H1 e = some (ExcD e (.ref C) d) ∧ H1 d = some (.xd fs) ∧ fs.lookup name = some (.int i) ∧ Q (.int i) H1
end
section
variable {X : Cx} {x : Str} {np pos : Pos} {e0 : Expr} {t : TA} {C f : Addr} {fd : FuncData} {ps : List Str} {name : Str} {j k : Nat}
/-- what the __init__ of such a class does: one name in the new dict -/
def sp_xinit (C : Addr) (name : Str) : Sp := fun vs H Q _ => ∃ e v, vs = [.ref e, v] ∧ H e = some (ExcN e (.ref C)) ∧ ∀ d, d ≠ e → H d = none → Q .non (upd (upd H e (ExcD e (.ref C) d)) d (.xd [(name, v)]))
def tNewI (C : Addr) (name : Str) (t : TA) : TE := fun σ H Q => t σ H fun vs H1 => ∃ v, vs = [v] ∧ ∀ e d H', Same H1 H' → H' e = some (ExcD e (.ref C) d) → H' d = some (.xd [(name, v)]) → Q (.ref e) H'
structure InitX (P : Program) (w : World) (K : PySem.W.Frag) (mg : Str → Option Value) (base : Heap) (k : Nat) (C : Addr) (name : Str) : Prop where
  ex : ∃ f fd ps, FnOk P w K mg base CX0 k f fd ps (sp_xinit C name) ∧ XK3 K C f ∧ ps.length = 2 ∧ ∀ us : List Value, us.length = ps.length → bindArgs fd ⟨us, []⟩ = pure (ps.zip us)
end
/-! ### the facts, as they stand behind the top -/
section
variable {X : Cx} {o : Expr} {name : Str} {pos : Pos} {ta : TE} {C : Addr}
end
section
variable {K : PySem.W.Frag} {h : Heap} {mg : Str → Option Value} {x : Str} {C f D : Addr}
structure InitS (K : PySem.W.Frag) (C : Addr) (x qual : Str) (st : Stmt) (ps : List Str) : Prop where
  ex : ∃ f fd, Fun K x qual st f fd ∧ XK3 K C f ∧ ∀ us : List Value, us.length = ps.length → bindArgs fd ⟨us, []⟩ = pure (ps.zip us)
theorem InitS.xk {qual : Str} {st : Stmt} {ps : List Str} (S : InitS K C x qual st ps) : ∃ f, XK3 K C f := let ⟨f, _, _, z, _⟩ := S.ex; ⟨f, z⟩
end
end L2
namespace L2
open PySem PySem.Spec PyProof.Rows
/-! ### sets of whole numbers: what stands in the table, and how it is walked -/
namespace SetL
def Up (xs : Array Nat) : Prop := xs.toList.Pairwise (· < ·)
/-- what holds of the table of a set that was filled and never lost anything -/
structure Tab (bt : Bool) (t : SetTable) : Prop where
  led : t.led = !bt
  dum : t.dummies = #[]
  up : t.plain = true → Up t.place
end SetL
end L2
namespace L2
open PySem PySem.Spec PyProof.Rows
namespace SetL
def intOf : Value → Int
  | .int i _ => i
  | _ => 0
/-- the set at a has just the whole numbers ms, in the order of its entries -/
structure SetI (prog : Program) (w : World) (h : Heap) (a : Addr) (ms : List Int) : Prop where
  ex : ∃ o es ep t, (h.get? a = some o ∧ o.ExactSet ∧ o.data = .set es ep t) ∧ (ElemsOf (intKind prog w) es.toList ∧ es.size < scanBound ∧ t.fits es.size = true) ∧ Tab (w.params.followText "set-order") t ∧
    es.toList.map (fun e => intOf e.2) = ms
  nd : ms.Nodup
section
variable {prog : Program} {w : World} {A : Around} {E : Value → Shared → Prop} {s : Shared} {a : Addr} {ms : List Int} {k : Int} {tk : Tok}
end
end SetL
end L2
namespace L2
open PySem PySem.Spec PyProof.Rows
namespace SetL
theorem SetI.keep {prog : Program} {w : World} {h h' : Heap} {a : Addr} {ms : List Int} (S : SetI prog w h a ms) (k : ∀ o, h.get? a = some o → h'.get? a = some o) : SetI prog w h' a ms := by
  obtain ⟨⟨o, es, ep, t, ⟨ho, r⟩, r2⟩, nd⟩ := S
  exact ⟨⟨o, es, ep, t, ⟨k o ho, r⟩, r2⟩, nd⟩
section
variable {prog : Program} {w : World} {A : Around} {R : Result → Shared → Prop} {I a : Addr} {fp wr : List Addr} {G : Array GenState → Array GenState → Prop} {n : Nat} {P : Nat → Value → Prop} {St : Nat → Shared → Prop} {val : Nat → Int}
end
section
variable {prog : Program} {w : World} {A : Around} {E : Value → Shared → Prop} {s : Shared}
abbrev empty (w : World) : Obj := { cls := .type "set", dict := none, data := .set #[] 0 (.fresh 0 0 (!w.params.followText "set-order")) }
end
end SetL
end L2
namespace L2
open PySem PySem.Spec PyProof.Rows
namespace SetL
section
variable {prog : Program} {w : World} {A : Around} {E : Value → Shared → Prop} {s : Shared}
set_option maxHeartbeats 3200000 in
end
end SetL
end L2
namespace L2
open PySem PySem.Spec PyProof.Rows
namespace SetL
/-- the iterator at I, at its i-th turn -/
def IterAt (h : Heap) (I a : Addr) (first : Value) (i n ep : Nat) : Prop := ∃ o, h.get? I = some o ∧ o.cls = .type "set_iterator" ∧ o.data = .fields #[first, .int i 0, .ref a, .int n 0, .int ep 0]
theorem IterAt.ty {s : Shared} {I a : Addr} {first : Value} {i n ep : Nat} (h : IterAt s.heap I a first i n ep) : s.TypeIs (.ref I) "set_iterator" := let ⟨_, a, b, _⟩ := h; ⟨_, a, b⟩
theorem IterAt.keep {h h' : Heap} {I a : Addr} {first : Value} {i n ep : Nat} (x : IterAt h I a first i n ep) (k : ∀ o, h.get? I = some o → h'.get? I = some o) : IterAt h' I a first i n ep := let ⟨o, a, b⟩ := x; ⟨o, k o a, b⟩
/-- the object of the set -/
def ObjAt (h : Heap) (a : Addr) (es : Array (Int × Value)) (ep : Nat) (t : SetTable) : Prop := ∃ o, h.get? a = some o ∧ o.data = .set es ep t ∧ t.fits es.size = true
theorem ObjAt.keep {h h' : Heap} {a : Addr} {es : Array (Int × Value)} {ep : Nat} {t : SetTable} (x : ObjAt h a es ep t) (k : ∀ o, h.get? a = some o → h'.get? a = some o) : ObjAt h' a es ep t := let ⟨o, a, b⟩ := x; ⟨o, k o a, b⟩
section
variable {prog : Program} {w : World} {A : Around} {E : Value → Shared → Prop} {s : Shared} {I a : Addr} {es : Array (Int × Value)} {ep : Nat} {t : SetTable}
end
end SetL
end L2
namespace L2
open PySem PySem.Spec PyProof.Rows
namespace SetL
section
variable {prog : Program} {w : World} {A : Around} {E : Value → Shared → Prop} {s : Shared} {I a : Addr} {es : Array (Int × Value)} {ep : Nat} {t : SetTable}
end
end SetL
end L2
namespace L2
open PySem PySem.Spec PyProof.Rows
namespace SetL
section
variable {prog : Program} {w : World} {A : Around} {E : Value → Shared → Prop} {s : Shared} {I a T : Addr} {es : Array (Int × Value)} {ep : Nat} {t : SetTable} {ps : Array Value}
def PlacesAt (h : Heap) (T : Addr) (ps : Array Value) : Prop := ∃ o n, h.get? T = some o ∧ o.data = .seq ps n
theorem PlacesAt.keep {h h' : Heap} (x : PlacesAt h T ps) (k : ∀ o, h.get? T = some o → h'.get? T = some o) : PlacesAt h' T ps := let ⟨o, n, a, b⟩ := x; ⟨o, n, k o a, b⟩
end
end SetL
end L2
namespace L2
open PySem PySem.Spec PyProof.Rows
namespace SetL
/-- the slot from which the i-th turn looks -/
def slotAt (t : SetTable) (i : Nat) : Nat := if i = 0 then 0 else t.place.getD (i - 1) 0 + 1
section
variable {prog : Program} {w : World} {a : Addr} {es : Array (Int × Value)} {ep : Nat} {t : SetTable}
end
end SetL
end L2
namespace L2
open PySem PySem.Spec PyProof.Rows
namespace SetL
section
variable {prog : Program} {w : World} {A : Around} {E : Value → Shared → Prop}
end
section
variable {prog : Program} {w : World} {A : Around} {E : Value → Shared → Prop} {s : Shared} {a : Addr} {es : Array (Int × Value)} {ep : Nat} {t : SetTable}
end
end SetL
end L2
namespace L2
open PySem PySem.Spec PyProof.Rows
namespace SetL
section
variable {prog : Program} {w : World} {A : Around} {E : Value → Shared → Prop} {s : Shared} {a : Addr} {es : Array (Int × Value)} {ep : Nat} {t : SetTable}
end
end SetL
end L2
namespace L2
open PySem PySem.Spec PyProof.Rows
namespace SetL
section
variable {prog : Program} {w : World} {A : Around} {E : Value → Shared → Prop} {s : Shared} {a : Addr} {ms : List Int}
end
end SetL
end L2
namespace L2
open PySem PySem.Spec PyProof.Rows
/-- a set of just the whole numbers ms -/
def SetO (P : Program) (w : World) (a : Addr) (ms : List Int) : HO := .ext fun h => SetL.SetI P w h a ms
theorem SetL.SetI.obj {P : Program} {w : World} {h : Heap} {a : Addr} {ms : List Int} (S : SetL.SetI P w h a ms) : ∃ o, h.get? a = some o := let ⟨⟨o, _, _, _, ⟨e, _⟩, _⟩, _⟩ := S; ⟨o, e⟩
section
variable {X : Cx} {pins : List (Addr × Obj)} {σ : St} {H : Hp} {s : Shared}
end
end L2
namespace L2
open PySem PySem.Spec PyProof.Rows
/-! ### for a, b in zip(xs, ys): two lists -/
section
variable {X : Cx} {pins : List (Addr × Obj)} {σ : St} {H : Hp} {s : Shared} {h' : Heap}
end
def Itz (K : PySem.W.Frag) (a b : Addr) : It :=
  ⟨fun i H => ∃ xs ys x y, SqL K H a xs ∧ SqL K H b ys ∧ xs[i]? = some x ∧ ys[i]? = some y,
    fun i H v H' => ∃ p, v = .ref p ∧ H p = none ∧ ∀ xs ys x y, SqL K H a xs → SqL K H b ys → xs[i]? = some x → ys[i]? = some y → H' = upd H p (.tup [x, y]),
    fun i H => ∃ xs ys, SqL K H a xs ∧ SqL K H b ys ∧ (xs.length ≤ i ∨ ys.length ≤ i)⟩
/-- the zip at z, at turn i -/
def ZipT (z ti to i1 i2 l1 l2 : Addr) (i : Nat) (h : Heap) : Prop := ((IsZip h z ti to .none ∧ IsPair h ti (.ref i1) (.ref i2)) ∧ ∃ a b, IsPair h to a b) ∧ h.IsListIter i1 l1 i ∧ h.IsListIter i2 l2 i
def iZip (K : PySem.W.Frag) (ta : TA) : TI := fun σ H R => ta σ H fun vs H1 => ∃ a b, vs = [.ref a, .ref b] ∧ (∃ xs, SqL K H1 a xs) ∧ (∃ ys, SqL K H1 b ys) ∧ R (Itz K a b) H1
end L2
namespace L2
open PySem PySem.Spec PyProof.Rows
/-! ### lists of tuples of two whole numbers each (tables, spans) -/
inductive Rows2 (K : PySem.W.Frag) (H : Hp) : List V → List (Int × Int) → Prop
  | nil : Rows2 K H [] []
  | cons {p : Addr} {s : Int × Int} {xs : List V} {l : List (Int × Int)} : H p = some (.tup [.int s.1, .int s.2]) → Rows2 K H xs l → Rows2 K H (.ref p :: xs) (s :: l)
section
variable {K : PySem.W.Frag} {H H' : Hp} {xs ys zs : List V} {l : List (Int × Int)} {p : Addr} {s : Int × Int}
theorem Rows2.get (r : Rows2 K H xs l) : ∀ {i : Nat} {x : V}, xs[i]? = some x → ∃ p s, x = .ref p ∧ l[i]? = some s ∧ H p = some (.tup [.int s.1, .int s.2]) := by
  induction r with
  | nil => intro i x e; simp at e
  | cons h _ ih =>
    intro i x e
    cases i with
    | zero => cases e; exact ⟨_, _, rfl, rfl, h⟩
    | succ i => exact ih e
theorem Rows2.length (r : Rows2 K H xs l) : xs.length = l.length := by
  induction r with
  | nil => rfl
  | cons _ _ ih => simp [ih]
theorem Rows2.same (r : Rows2 K H xs l) (s : Same H H') : Rows2 K H' xs l := by
  induction r with
  | nil => exact .nil
  | cons h _ ih => exact .cons (s _ _ h) ih
theorem Rows2.put (r : Rows2 K H xs l) (hp : H p = some (.lst ys)) : Rows2 K (upd H p (.lst zs)) xs l := by
  induction r with
  | nil => exact .nil
  | cons h _ ih => exact .cons (by rw [upd_ne (ne_of h hp (by intro z; cases z))]; exact h) ih
theorem Rows2.push (r : Rows2 K H xs l) (h : H p = some (.tup [.int s.1, .int s.2])) : Rows2 K H (xs ++ [.ref p]) (l ++ [s]) := by
  induction r with
  | nil => exact .cons h .nil
  | cons h' _ ih => exact .cons h' ih
def rowD (s : Int × Int) : PyData := .tuple [.int s.1, .int s.2]
theorem Rows2.rd (r : Rows2 K H xs l) : RdVs K H xs (l.map rowD) := by
  induction r with
  | nil => exact .nil
  | cons h _ ih => exact .cons (.tup (SqT.of h) (.cons (.int _) (.cons (.int _) .nil))) ih
end
end L2
namespace L2
open PySem PySem.Spec PyProof.Rows
/-! ### comprehensions, whatever is walked -/
/-- what is walked has just these items, however the heap grows -/
structure WalkOf (J : It) (H : Hp) (xs : List V) : Prop where
  go : ∀ i H', Same H H' → i < xs.length → J.go i H'
  yld : ∀ i H' x H2, Same H H' → J.yld i H' x H2 → H2 = H' ∧ xs[i]? = some x
  stop : ∀ i H', Same H H' → xs.length ≤ i → J.stop i H'
/-- each item by a word of it that new objects don't touch -/
theorem comp_any {J : It} {ix : List Nat} {te : TE} {σ : St} {l : Addr} {xs : List V} {H : Hp} {R : Hp → Prop} (Y : WalkOf J H xs) (hl : H l = none) (hz : xs.length ≤ sizeLine) (P : Nat → V → Hp → Prop)
    (mono : ∀ i v H1 H2, Same H1 H2 → P i v H1 → P i v H2) (put : ∀ i v H1 ys zs, H1 l = some (.lst ys) → P i v H1 → P i v (upd H1 l (.lst zs)))
    (hel : ∀ i x H' Q', xs[i]? = some x → Same H H' → (∀ v H2, Same H' H2 → P i v H2 → Q' v H2) → te (some x :: capts σ ix) H' Q')
    (fin : ∀ ys H', Same H H' → H' l = some (.lst ys) → ys.length = xs.length → (∀ j v, ys[j]? = some v → P j v H') → R H') :
    ∃ W : Nat → Nat → List V → Hp → Prop, (∃ m, W 0 m [] (upd H l (.lst []))) ∧ Turns ix te σ J l R W := by
  refine ⟨fun i m ys H' => m = xs.length - i ∧ i ≤ xs.length ∧ ys.length = i ∧ (∀ j v, ys[j]? = some v → P j v H') ∧ Same H H' ∧ H' l = some (.lst ys), ⟨xs.length, by simp, Nat.zero_le _, rfl, (fun j v e => by simp at e), same_new hl _, upd_same⟩, ?_⟩
  rintro i m ys H' ⟨rfl, hi, hx, hp, sH, hL⟩
  refine ⟨hL, ?_⟩
  by_cases hlt : i < xs.length
  · refine .inr ⟨Y.go i H' sH hlt, by omega, fun x H2 y => ?_⟩
    obtain ⟨rfl, e2⟩ := Y.yld i H' x H2 sH y
    refine hel i x _ _ e2 sH fun v H3 s3 hv => ⟨s3 _ _ hL, xs.length - (i + 1), by omega, rfl, hlt, by rw [List.length_append, hx]; rfl, fun j w e => ?_, same_put (sH.trans s3) hl, upd_same⟩
    by_cases hj : j < ys.length
    · rw [List.getElem?_append_left hj] at e
      exact put _ _ _ _ _ (s3 _ _ hL) (mono _ _ _ _ s3 (hp j w e))
    · by_cases hj2 : j = ys.length
      · subst hj2
        rw [List.getElem?_append_right (Nat.le_refl _), Nat.sub_self] at e
        cases e
        rw [hx]
        exact put _ _ _ _ _ (s3 _ _ hL) hv
      · rw [List.getElem?_eq_none (by rw [List.length_append, List.length_singleton]; omega)] at e
        cases e
  · exact .inl ⟨Y.stop i H' sH (by omega), fin ys H' sH hL (by omega) hp⟩
/-! ### range with a step -/
def Its (lo st : Int) (n : Nat) : It := ⟨fun i _ => i < n, fun i H x H' => H' = H ∧ x = .int (lo + i * st), fun i _ => n ≤ i⟩
def iRng3 (n : Nat) (ta : TA) : TI := fun σ H R => ta σ H fun vs H1 => ∃ i j k : Int, vs = [.int i, .int j, .int k] ∧ (k ≠ 0 ∧ Builtin.Range.small i j k = true ∧ (n : Int) = Builtin.Range.rangeSize i j k ∧ Builtin.divisionGoesByPylong (j - i) k = false) ∧ R (Its i k n) H1
end L2
namespace L2
open PySem
theorem Rows2.take {K : PySem.W.Frag} {H : Hp} {xs : List V} {l : List (Int × Int)} (r : Rows2 K H xs l) : ∀ n : Nat, Rows2 K H (xs.take n) (l.take n) := by
  induction r with
  | nil => intro n; rw [List.take_nil, List.take_nil]; exact .nil
  | cons h _ ih =>
    intro n
    cases n with
    | zero => exact .nil
    | succ n => exact .cons h (ih n)
end L2
namespace L2
open PySem PySem.Spec PyProof.Rows
section
variable {X : Cx} {pins : List (Addr × Obj)} {σ : St} {H : Hp} {s : Shared} {sc : Scope} {x : Str} {ix : List Nat} {fp : List Addr} {elt iter c : Expr} {te : TE} {tt : TT} {wi : TI} {px pos : Pos}
end
end L2
namespace L2
open PySem PySem.Spec PyProof.Rows
/-! ### C() where no class of it has an __init__ -/
structure Mk0 (K : PySem.W.Frag) (C : Addr) : Prop where
  makes : PySem.W.makesIn K C = true
  init : PySem.W.findIn K (.ref C) "__init__" = some (some (.builtin "object.__init__"))
  kp : PySem.W.keepIn K (.ref C) = true
def tNew0 (C : Addr) : TE := fun _ H Q => ∀ x dx, H x = none → H dx = none → dx ≠ x → Q (.ref x) (upd (upd H dx (.own x)) x (.ins C dx []))
section
variable {X : Cx} {C : Addr} {x m : Str} {p pos apos : Pos} {e o : Expr} {es : List Expr} {ta : TE} {t : TA} {j k : Nat} {ps : List Str}
/-! ### four classes, one under which the others stand; methods by the class of the instance -/
inductive Kd where
  | plain | bank | thirty | exact
def Kd.cls : Kd → Str
  | .plain => "Count"
  | .bank => "Bank"
  | .thirty => "Thirty"
  | .exact => "Exact"
/-- an instance of that class, without attributes -/
def IsCnt (K : PySem.W.Frag) (H : Hp) (a : Addr) (kd : Kd) : Prop := ∃ dx, H a = some (.ins (cA K kd.cls) dx [])
theorem IsCnt.same {K : PySem.W.Frag} {H H' : Hp} {a : Addr} {kd : Kd} (h : IsCnt K H a kd) (s : Same H H') : IsCnt K H' a kd := let ⟨dx, e⟩ := h; ⟨dx, s _ _ e⟩
/-- a method of the text, as it is found from a class -/
structure MethS (K : PySem.W.Frag) (C : Addr) (m qual : Str) (st : Stmt) (ps : List Str) : Prop where
  ex : ∃ (f : Addr) (fd : FuncData), Fun K m qual st f fd ∧ Meth K C m f ∧ ∀ us : List Value, us.length = ps.length → bindArgs fd ⟨us, []⟩ = pure (ps.zip us)
structure DefM (P : Program) (w : World) (K : PySem.W.Frag) (mg : Str → Option Value) (base : Heap) (k : Nat) (C : Addr) (m : Str) (ps : List Str) (sp : Sp) : Prop where
  ex : ∃ (f : Addr) (fd : FuncData), FnOk P w K mg base CX0 k f fd ps sp ∧ Meth K C m f ∧ ∀ us : List Value, us.length = ps.length → bindArgs fd ⟨us, []⟩ = pure (ps.zip us)
theorem MethS.ok {P : Program} {w : World} {K : PySem.W.Frag} {mg : Str → Option Value} {base : Heap} {C : Addr} {m qual : Str} {st : Stmt} {N ps : List Str} {k : Nat} {sp : Sp} (S : MethS K C m qual st ps) (sc : FnScope N ps (defScope st)) (len : ∀ vs H Q E, sp vs H Q E → vs.length = ps.length)
    (hbody : ∀ (f : Addr) (cdv : Value) (A : Around) (outer : List Env) (s : Shared) (H : Hp) (vs : List V) (Q : VK) (E : XK), Room k (A.deeper (envOfC qual (defScope st) s.heap.objs.size f cdv)) → sp vs H Q E →
      ∃ t, PSs (cxOf CX0 P w K mg base N qual (defScope st) f cdv A outer s H E).nox (defBody st) t ∧ t { nx := fun _ H' => Q .non H', rt := Q } (start N vs) H) : DefM P w K mg base (k + 1) C m ps sp := by
  obtain ⟨f, fd, F, hm, hb⟩ := S.ex
  exact ⟨f, fd, F.ok sc len (fun cdv => hbody f cdv), hm, hb⟩
theorem MethS.okF {P : Program} {w : World} {K : PySem.W.Frag} {mg : Str → Option Value} {base : Heap} {C : Addr} {m qual : Str} {st : Stmt} {N ps : List Str} {k : Nat} {sp : Sp} (S : MethS K C m qual st ps) (sc : FnScope N ps (defScope st)) (len : ∀ vs H Q E, sp vs H Q E → vs.length = ps.length)
    (hbody : ∀ (f : Addr) (cdv : Value) (A : Around) (outer : List Env) (s : Shared) (H : Hp) (vs : List V) (Q : VK) (E : XK), Room k (A.deeper (envOfC qual (defScope st) s.heap.objs.size f cdv)) → sp vs H Q E →
      ∃ t, PSs (cxOf CX0 P w K mg base N qual (defScope st) f cdv A outer s H E).nox (defBody st) t ∧ t { nx := fun _ H' => Same H H' ∧ Q .non H, rt := fun v H' => Same H H' ∧ Q v H } (start N vs) H) : DefM P w K mg base (k + 1) C m ps sp := by
  obtain ⟨f, fd, F, hm, hb⟩ := S.ex
  have G : FnOk P w K mg base CX0 (k + 1) f fd ps (fun vs H R E => ∃ Q, sp vs H Q E ∧ R = fun v H' => Same H H' ∧ Q v H) :=
    F.ok sc (fun vs H R E ⟨Q, h, _⟩ => len vs H Q E h) fun cdv A outer s H vs R E hr ⟨Q, h, e⟩ => by
      subst e
      exact hbody f cdv A outer s H vs Q E hr h
  exact ⟨f, fd, G.forget fun vs H Q E h => ⟨Q, h, rfl⟩, hm, hb⟩
def tMethK (K : PySem.W.Frag) (sp : Kd → Sp) (ta : TE) (t : TA) : TE := fun σ H Q => ta σ H fun x H1 => ∃ (kd : Kd) (a : Addr), x = .ref a ∧ IsCnt K H1 a kd ∧ t σ H1 fun vs H2 => sp kd (x :: vs) H2 Q E0
end
/-! ### the facts, by the class's name -/
section
variable {K : PySem.W.Frag} {x : Str} {C f : Addr}
end
end L2
namespace L2
open PySem
end L2
namespace L2
end L2
namespace L2
open PySem PySem.Spec PyProof.Rows
/-! ### for x in reversed(xs), xs a list -/
def Itv (K : PySem.W.Frag) (a : Addr) (n : Nat) : It :=
  ⟨fun i H => ∃ xs x, SqL K H a xs ∧ xs.length = n ∧ i < n ∧ xs[n - 1 - i]? = some x, fun i H x H' => H' = H ∧ ∀ xs, SqL K H a xs → xs[n - 1 - i]? = some x, fun i _ => n ≤ i⟩
def iRev (K : PySem.W.Frag) (ta : TA) : TI := fun σ H R => ta σ H fun vs H1 => ∃ a xs, vs = [.ref a] ∧ SqL K H1 a xs ∧ R (Itv K a xs.length) H1
end L2
namespace L2
open PySem PySem.Spec PyProof.Rows
/-! ### comprehensions with two names: [elt for x, y in iter] -/
def Cx.block2 (X : Cx) (sc : Scope) (x y0 : Str) (ix : List Nat) (b : Blk) : Cx where
  prog := X.prog
  w := X.w
  K := X.K
  mg := X.mg
  base := X.base
  A := X.A
  N := x :: y0 :: ix.map fun i => X.N.getD i x
  s₀ := b.s
  H₀ := b.H
  env := compEnvC sc (closOf sc X.env) b.C X.env
  outer := X.stack
  stack := X.stack
  ex := b.ex
  fn := fun _ => false
  calm := X.calm
  pn := b.pn
  xe := fun _ _ => False
structure CompOk2 (X : Cx) (sc : Scope) (x y0 : Str) (ix : List Nat) : Prop where
  clos : closureFor sc X.env = pure (closOf sc X.env)
  cell : ∀ y ∈ sc.names, y.2 ≠ .cell
  kind : sc.kind = .function
  names : ∀ y ∈ sc.names, y.2 = .local → sc.names.lookup y.1 = some .local
  var : sc.names.lookup x = some .local
  var2 : sc.names.lookup y0 = some .local
  nd : (x :: y0 :: ix.map fun i => X.N.getD i x).Nodup
  cap : CapsOk X sc x ix
  sub : SubOk X.env.cells (closOf sc X.env)
  has : HasOk (closOf sc X.env) (relabel sc X.env).names
section
variable {X : Cx} {pins : List (Addr × Obj)} {σ : St} {H : Hp} {s : Shared} {sc : Scope} {x y0 : Str} {ix : List Nat} {fp : List Addr}
end
def Turns2 (K0 : PySem.W.Frag) (ix : List Nat) (te : TE) (σ : St) (J : It) (l : Addr) (R : Hp → Prop) (W : Nat → Nat → List V → Hp → Prop) : Prop :=
  ∀ i m xs H', W i m xs H' → H' l = some (.lst xs) ∧ ((J.stop i H' ∧ R H') ∨ (J.go i H' ∧ xs.length < sizeLine ∧ ∀ x H2, J.yld i H' x H2 → ∃ p v1 v2, x = .ref p ∧ SqT K0 H2 p [v1, v2] ∧
    te (some v1 :: some v2 :: capts σ ix) H2 fun v H3 => H3 l = some (.lst xs) ∧ ∃ m', m' < m ∧ W (i + 1) m' (xs ++ [v]) (upd H3 l (.lst (xs ++ [v])))))
def tComp2 (K0 : PySem.W.Frag) (ix : List Nat) (wi : TI) (te : TE) : TE := fun σ H Q => wi σ H fun J H1 => ∀ l, H1 l = none → ∃ W : Nat → Nat → List V → Hp → Prop, (∃ m, W 0 m [] (upd H1 l (.lst []))) ∧ Turns2 K0 ix te σ J l (Q (.ref l)) W
section
variable {X : Cx} {pins : List (Addr × Obj)} {σ : St} {H : Hp} {s : Shared} {sc : Scope} {x y0 : Str} {ix : List Nat} {fp : List Addr} {elt iter : Expr} {te : TE} {wi : TI} {px py0 pt0 pos : Pos} {kt0 : Nat}
end
end L2
/-! The library's sorting of few items, as a tree of questions, told by an order. -/
namespace SortT
open PySem PySem.W PyProof.Rows
/-- every question is about two of n items, and answered by lt -/
def okT {α : Type} (n : Nat) (lt : Nat → Nat → Bool) : KasT α → (α → Prop) → Prop
  | .ret a, Q => Q a
  | .ask i j k, Q => (i < n ∧ j < n) ∧ okT n lt (k (lt i j)) Q
/-- an order: never both ways, and through -/
structure Ord (lt : Nat → Nat → Bool) : Prop where
  irr : ∀ i, lt i i = false
  asy : ∀ i j, lt i j = true → lt j i = false
  neg : ∀ i j k, lt i j = false → lt j k = false → lt i k = false
variable {N : Nat} {lt : Nat → Nat → Bool}
/-- all places name one of N items -/
def In (N : Nat) (p : Array Nat) : Prop := p.size = N ∧ ∀ i, i < N → p.getD i 0 < N
/-- rising up to k -/
def Up (lt : Nat → Nat → Bool) (p : Array Nat) (k : Nat) : Prop := ∀ i j, i ≤ j → j < k → lt (p.getD j 0) (p.getD i 0) = false
def Dn (lt : Nat → Nat → Bool) (p : Array Nat) (k : Nat) : Prop := ∀ i j, i ≤ j → j < k → lt (p.getD i 0) (p.getD j 0) = false
theorem getD_of {p q : Array Nat} {i j : Nat} (h : p[i]? = q[j]?) : p.getD i 0 = q.getD j 0 := by
  rw [Array.getD_eq_getD_getElem?, Array.getD_eq_getD_getElem?, h]
theorem rev_at {p : Array Nat} {i j k : Nat} (hj : j ≤ p.size) : (kas_rev p i j).getD k 0 = if i ≤ k ∧ k < j then p.getD (i + j - 1 - k) 0 else p.getD k 0 := by
  have e := getElem?_mirror_all (xs := p) (i := i) hj k
  unfold kas_rev
  by_cases c : i ≤ k ∧ k < j
  · rw [if_pos c] at e ⊢; exact getD_of e
  · rw [if_neg c] at e ⊢; exact getD_of e
theorem Up.one {p : Array Nat} (O : Ord lt) : Up lt p 1 := fun i j h1 h2 => by
  have : i = j := by omega
  subst this
  exact O.irr _
theorem Up.next {p : Array Nat} {n : Nat} (O : Ord lt) (h : Up lt p n) (h1 : 1 ≤ n) (c : lt (p.getD n 0) (p.getD (n - 1) 0) = false) : Up lt p (n + 1) := fun i j h2 h3 => by
  by_cases e : j = n
  · subst e
    by_cases e2 : i = j
    · subst e2; exact O.irr _
    · exact O.neg _ _ _ c (h i (j - 1) (by omega) (by omega))
  · exact h i j h2 (by omega)
/-- falling up to n, the last q + 1 alike -/
structure Des (lt : Nat → Nat → Bool) (p : Array Nat) (n q : Nat) : Prop where
  hq : q + 1 ≤ n
  dn : Dn lt p n
  al : ∀ i, n ≤ i + (q + 1) → i < n → lt (p.getD i 0) (p.getD (n - 1) 0) = false ∧ lt (p.getD (n - 1) 0) (p.getD i 0) = false
theorem Des.alike {p : Array Nat} {n q : Nat} (O : Ord lt) (D : Des lt p n q) {i j : Nat} (h1 : n ≤ i + (q + 1)) (h2 : i < n) (h3 : n ≤ j + (q + 1)) (h4 : j < n) : lt (p.getD i 0) (p.getD j 0) = false := O.neg _ _ _ (D.al i h1 h2).1 (D.al j h3 h4).2
/-- the alike ones turned about: still falling -/
theorem Des.turn {p : Array Nat} {n q : Nat} (O : Ord lt) (D : Des lt p n q) (hn : n ≤ p.size) : Dn lt (kas_rev p (n - (q + 1)) n) n := fun i j h1 h2 => by
  have := D.hq
  rw [rev_at hn, rev_at hn]
  by_cases ci : n - (q + 1) ≤ i ∧ i < n
  · rw [if_pos ci, if_pos (show n - (q + 1) ≤ j ∧ j < n by omega)]
    exact D.alike O (by omega) (by omega) (by omega) (by omega)
  · rw [if_neg ci]
    by_cases cj : n - (q + 1) ≤ j ∧ j < n
    · rw [if_pos cj]
      exact D.dn _ _ (by omega) (by omega)
    · rw [if_neg cj]
      exact D.dn i j h1 h2
theorem Dn.up {p : Array Nat} {n : Nat} (dn : Dn lt p n) (hn : n ≤ p.size) : Up lt (kas_rev p 0 n) n := fun i j h1 h2 => by
  rw [rev_at hn, rev_at hn, if_pos (by omega), if_pos (by omega)]
  exact dn _ _ (by omega) (by omega)
abbrev Good (N : Nat) (lt : Nat → Nat → Bool) (p0 : Array Nat) (r : Nat × Array Nat) : Prop := In N r.2 ∧ r.2.Perm p0 ∧ 1 ≤ r.1 ∧ r.1 ≤ N ∧ Up lt r.2 r.1
end SortT
namespace SortT
open PySem PySem.W PyProof.Rows PySem.Calls
/-! ### tuples of two whole numbers -/
def PairAt (h : Heap) (v : Value) (x : Int × Int) : Prop := ∃ a o n t u, v = .ref a ∧ h.get? a = some o ∧ o.cls = .type "tuple" ∧ o.data = .seq #[.int x.1 t, .int x.2 u] n
theorem PairAt.keep {h h' : Heap} {v : Value} {x : Int × Int} (p : PairAt h v x) (k : ∀ a o, v = .ref a → h.get? a = some o → h'.get? a = some o) : PairAt h' v x := by
  obtain ⟨a, o, n, t, u, rfl, e, r⟩ := p
  exact ⟨a, o, n, t, u, rfl, k a o rfl e, r⟩
def lex (x y : Int × Int) : Bool := decide (x.1 < y.1 ∨ (x.1 = y.1 ∧ x.2 < y.2))
section
variable {prog : Program} {w : World} {A : Around} {E : Value → Shared → Prop} {s : Shared}
end
end SortT
namespace L2
open PySem PySem.Spec PyProof.Rows
section
variable {X : Cx} {e k : Expr} {te : TE} {p2 pos : Pos} {lo hi : Option Expr} {tl th : TO}
/-! ### xs[::-1] of a list -/
def tSlR (K : PySem.W.Frag) (te : TE) (tl th tk : TO) : TE := fun σ H Q => te σ H fun x H1 => tl σ H1 fun l H2 => th σ H2 fun u H3 => tk σ H3 fun y H4 => ∃ a xs, x = .ref a ∧ l = none ∧ u = none ∧ y = some (-1) ∧ SqL K H4 a xs ∧ ∀ p, H4 p = none → Q (.ref p) (upd H4 p (.lst xs.reverse))
end
end L2
namespace L2
open PySem PySem.Spec PyProof.Rows
/-! ### a dict of whole numbers, by a list of pairs; no Python -/
def storedI (l : List (Int × Int)) (k y : Int) : List (Int × Int) := if l.any (fun p => p.1 = k) then l.map (fun p => if p.1 = k then (p.1, y) else p) else l ++ [(k, y)]
def dctI (l : List (Int × Int)) : List (Int × Int) := l.foldl (fun acc s => storedI acc s.1 s.2) []
inductive KR : List (Int × Value) → List (Int × Int) → Prop
  | nil : KR [] []
  | cons {k y : Int} {t : Tok} {r : List (Int × Value)} {l : List (Int × Int)} : KR r l → KR ((k, .int y t) :: r) ((k, y) :: l)
theorem KR.length {r : List (Int × Value)} {l : List (Int × Int)} (h : KR r l) : r.length = l.length := by
  induction h with
  | nil => rfl
  | cons _ ih => simp [ih]
theorem KR.any {r : List (Int × Value)} {l : List (Int × Int)} {k : Int} (h : KR r l) : r.any (fun kv => kv.1 = k) = l.any (fun p => p.1 = k) := by
  induction h with
  | nil => rfl
  | cons _ ih => rw [List.any_cons, List.any_cons, ih]
theorem KR.snoc {r : List (Int × Value)} {l : List (Int × Int)} {k y : Int} {t : Tok} (h : KR r l) : KR (r ++ [(k, .int y t)]) (l ++ [(k, y)]) := by
  induction h with
  | nil => exact .cons .nil
  | cons _ ih => exact .cons ih
theorem KR.map {r : List (Int × Value)} {l : List (Int × Int)} {k y : Int} {t : Tok} (h : KR r l) : KR (r.map fun kv => if kv.1 = k then (kv.1, .int y t) else kv) (l.map fun p => if p.1 = k then (p.1, y) else p) := by
  induction h with
  | nil => exact .nil
  | @cons k' y' t' r l _ ih =>
    rw [List.map_cons, List.map_cons]
    by_cases e : k' = k
    · rw [if_pos e, if_pos e]; exact .cons ih
    · rw [if_neg e, if_neg e]; exact .cons ih
theorem KR.stored {r : List (Int × Value)} {l : List (Int × Int)} {k y : Int} {t : Tok} (h : KR r l) : KR (stored r k (.int y t)) (storedI l k y) := by
  unfold PySem.stored storedI
  rw [h.any]
  split
  · exact h.map
  · exact h.snoc
theorem KR.get {r : List (Int × Value)} {l : List (Int × Int)} (h : KR r l) : ∀ {i : Nat} {k : Int} {v : Value}, r[i]? = some (k, v) → ∃ y t, l[i]? = some (k, y) ∧ v = .int y t := by
  induction h with
  | nil => intro i k v e; simp at e
  | cons _ ih =>
    intro i k v e
    cases i with
    | zero => cases e; exact ⟨_, _, rfl, rfl⟩
    | succ i => exact ih e
section
variable {prog : Program} {w : World} {A : Around} {s : Shared} {R : Result → Shared → Prop}
end
/-! ### such a dict, its items, sorted: as things of the text -/
def DictO (P : Program) (w : World) (d : Addr) (l : List (Int × Int)) : HO := .ext fun h => (d == sysModules) = false ∧ ∃ kvs, h.DictOf (intKind P w) d kvs ∧ KR kvs l
def ViewO (v d : Addr) : HO := .ext fun h => h.IsItemsView v d
section
variable {X : Cx} {pins : List (Addr × Obj)} {σ : St} {H : Hp} {s : Shared}
/-- d.items() -/
def tItems (P : Program) (w : World) (to : TE) : TE := fun σ H Q => to σ H fun x H1 => ∃ (d : Addr) (l : List (Int × Int)), x = .ref d ∧ H1 d = some (DictO P w d l) ∧ ∀ (v : Addr) (H' : Hp), H1 v = none → Same H1 H' → H' v = some (ViewO v d) → Q (.ref v) H'
end
end L2
/-! a debt: its principal m and its units n, and what a deed makes of them; no Python -/
namespace Dbt
def mx (a b : Int) : Int := if b > a then b else a
def mn (a b : Int) : Int := if b < a then b else a
theorem mx_le {a b : Int} : a ≤ mx a b ∧ b ≤ mx a b ∧ (mx a b = a ∨ mx a b = b) := by unfold mx; split <;> omega
theorem mn_le {a b : Int} : mn a b ≤ a ∧ mn a b ≤ b ∧ (mn a b = a ∨ mn a b = b) := by unfold mn; split <;> omega
inductive Wd where
  | lend | fee | turn | take | grow
/-- what is charged or lent, less what is taken, in cents -/
def cents : Wd → Int → Int
  | .lend, x => x
  | .fee, x => x
  | .take, x => -x
  | _, _ => 0
def grown : Wd → Int → Int
  | .grow, x => x
  | _, _ => 0
def step (u : Int) (w : Wd) (x m n : Int) : Int × Int :=
  match w with
  | .lend => (mn (m + x) (mx 0 ((n + u * x) / u)), n + u * x)
  | .fee => (mn m (mx 0 ((n + u * x) / u)), n + u * x)
  | .take => (mn m (mx 0 ((n + u * -x) / u)), n + u * -x)
  | .turn => (mx 0 (n / u), n)
  | .grow => (m, n + x)
/-- the number of a deed: what is lent and what is grown is from 0 on -/
def Okd : Wd → Int → Prop
  | .lend, x => 0 ≤ x
  | .grow, x => 0 ≤ x
  | _, _ => True
def Good (u m n : Int) : Prop := 0 ≤ m ∧ m ≤ mx 0 (n / u)
theorem good_step {u : Int} {w : Wd} {x m n : Int} (hu : 0 < u) (ok : Okd w x) (g : Good u m n) : Good u (step u w x m n).1 (step u w x m n).2 := by
  obtain ⟨g0, g1⟩ := g
  cases w with
  | lend =>
    have h0 : 0 ≤ x := ok
    have := mx_le (a := 0) (b := (n + u * x) / u)
    have := mn_le (a := m + x) (b := mx 0 ((n + u * x) / u))
    show 0 ≤ mn (m + x) (mx 0 ((n + u * x) / u)) ∧ mn (m + x) (mx 0 ((n + u * x) / u)) ≤ mx 0 ((n + u * x) / u)
    omega
  | fee =>
    have := mx_le (a := 0) (b := (n + u * x) / u)
    have := mn_le (a := m) (b := mx 0 ((n + u * x) / u))
    show 0 ≤ mn m (mx 0 ((n + u * x) / u)) ∧ mn m (mx 0 ((n + u * x) / u)) ≤ mx 0 ((n + u * x) / u)
    omega
  | take =>
    have := mx_le (a := 0) (b := (n + u * -x) / u)
    have := mn_le (a := m) (b := mx 0 ((n + u * -x) / u))
    show 0 ≤ mn m (mx 0 ((n + u * -x) / u)) ∧ mn m (mx 0 ((n + u * -x) / u)) ≤ mx 0 ((n + u * -x) / u)
    omega
  | turn =>
    have := mx_le (a := 0) (b := n / u)
    show 0 ≤ mx 0 (n / u) ∧ mx 0 (n / u) ≤ mx 0 (n / u)
    omega
  | grow =>
    have h0 : 0 ≤ x := ok
    have h1 : n / u ≤ (n + x) / u := Int.ediv_le_ediv hu (by omega)
    have := mx_le (a := 0) (b := n / u)
    have := mx_le (a := 0) (b := (n + x) / u)
    show 0 ≤ m ∧ m ≤ mx 0 ((n + x) / u)
    omega
/-- the six numbers, by their places -/
def six (u m n w : Int) : Int := if w = 0 then m else if w = 1 then n else if w = 2 then n / u else if w = 3 then mx 0 (n / u) - m else if w = 4 then mx 0 (-(n / u)) else n - u * (n / u)
/-- what a row of deeds comes to -/
def sumC : List (Wd × Int) → Int
  | [] => 0
  | d :: r => cents d.1 d.2 + sumC r
def sumG : List (Wd × Int) → Int
  | [] => 0
  | d :: r => grown d.1 d.2 + sumG r
/-! ### two debts side by side -/
theorem mx_mono {a b : Int} (h : a ≤ b) : mx 0 a ≤ mx 0 b := by unfold mx; split <;> split <;> omega
theorem mn_mono {a b c d : Int} (h : a ≤ c) (h2 : b ≤ d) : mn a b ≤ mn c d := by unfold mn; split <;> split <;> omega
structure Two (u s0 s1 m1 n1 m2 n2 : Int) : Prop where
  a0 : 0 ≤ s0
  a1 : 0 ≤ s1
  n : n1 ≤ n2 - u * (s0 + s1)
  m : m1 ≤ m2
  g1 : Good u m1 n1
  g2 : Good u m2 n2
variable {u s0 s1 m1 n1 m2 n2 x y : Int}
theorem Two.le (hu : 0 < u) (T : Two u s0 s1 m1 n1 m2 n2) : n1 ≤ n2 := by
  have h := Int.mul_nonneg (Int.le_of_lt hu) (show 0 ≤ s0 + s1 by have := T.a0; have := T.a1; omega)
  have := T.n
  omega
theorem step_mono {w : Wd} (hw : w = .lend ∨ w = .fee ∨ w = .take) (hu : 0 < u) (hm : m1 ≤ m2) (hx : w = .lend → x = y) (hn : (step u w x m1 n1).2 ≤ (step u w y m2 n2).2) : (step u w x m1 n1).1 ≤ (step u w y m2 n2).1 := by
  rcases hw with rfl | rfl | rfl
  · obtain rfl := hx rfl
    exact mn_mono (by omega) (mx_mono (Int.ediv_le_ediv hu hn))
  · exact mn_mono hm (mx_mono (Int.ediv_le_ediv hu hn))
  · exact mn_mono hm (mx_mono (Int.ediv_le_ediv hu hn))
theorem Two.lend (hu : 0 < u) (T : Two u s0 s1 m1 n1 m2 n2) (h : 0 ≤ x) : Two u s0 s1 (step u .lend x m1 n1).1 (step u .lend x m1 n1).2 (step u .lend x m2 n2).1 (step u .lend x m2 n2).2 := by
  have le := T.le hu
  have h1 : (step u .lend x m1 n1).2 = n1 + u * x := rfl
  have h2 : (step u .lend x m2 n2).2 = n2 + u * x := rfl
  exact ⟨T.a0, T.a1, by rw [h1, h2]; have := T.n; omega, step_mono (.inl rfl) hu T.m (fun _ => rfl) (by rw [h1, h2]; omega), good_step hu (w := .lend) h T.g1, good_step hu (w := .lend) h T.g2⟩
theorem Two.fee (hu : 0 < u) (T : Two u s0 s1 m1 n1 m2 n2) (h : 0 ≤ s1 + y - x) : Two u s0 (s1 + y - x) (step u .fee x m1 n1).1 (step u .fee x m1 n1).2 (step u .fee y m2 n2).1 (step u .fee y m2 n2).2 := by
  have h1 : (step u .fee x m1 n1).2 = n1 + u * x := rfl
  have h2 : (step u .fee y m2 n2).2 = n2 + u * y := rfl
  have hn : n1 + u * x ≤ n2 + u * y - u * (s0 + (s1 + y - x)) := by
    have := T.n
    rw [Int.mul_add] at this
    rw [Int.mul_add, Int.mul_sub, Int.mul_add]
    omega
  have h3 := Int.mul_nonneg (Int.le_of_lt hu) (show 0 ≤ s0 + (s1 + y - x) by have := T.a0; omega)
  exact ⟨T.a0, h, by rw [h1, h2]; exact hn, step_mono (.inr (.inl rfl)) hu T.m (fun z => by cases z) (by rw [h1, h2]; omega), good_step hu (w := .fee) trivial T.g1, good_step hu (w := .fee) trivial T.g2⟩
theorem Two.take (hu : 0 < u) (T : Two u s0 s1 m1 n1 m2 n2) (h : 0 ≤ s0 + x - y) : Two u (s0 + x - y) s1 (step u .take x m1 n1).1 (step u .take x m1 n1).2 (step u .take y m2 n2).1 (step u .take y m2 n2).2 := by
  have h1 : (step u .take x m1 n1).2 = n1 + u * -x := rfl
  have h2 : (step u .take y m2 n2).2 = n2 + u * -y := rfl
  have hn : n1 + u * -x ≤ n2 + u * -y - u * (s0 + x - y + s1) := by
    have := T.n
    rw [Int.mul_add] at this
    rw [Int.mul_add, Int.mul_sub, Int.mul_add, Int.mul_neg, Int.mul_neg]
    omega
  have h3 := Int.mul_nonneg (Int.le_of_lt hu) (show 0 ≤ s0 + x - y + s1 by have := T.a1; omega)
  exact ⟨h, T.a1, by rw [h1, h2]; exact hn, step_mono (.inr (.inr rfl)) hu T.m (fun z => by cases z) (by rw [h1, h2]; omega), good_step hu (w := .take) trivial T.g1, good_step hu (w := .take) trivial T.g2⟩
theorem Two.turn (hu : 0 < u) (T : Two u s0 s1 m1 n1 m2 n2) : Two u s0 s1 (step u .turn x m1 n1).1 (step u .turn x m1 n1).2 (step u .turn y m2 n2).1 (step u .turn y m2 n2).2 :=
  ⟨T.a0, T.a1, T.n, mx_mono (Int.ediv_le_ediv hu (T.le hu)), good_step hu (w := .turn) trivial T.g1, good_step hu (w := .turn) trivial T.g2⟩
theorem Two.turn2 (hu : 0 < u) (T : Two u s0 s1 m1 n1 m2 n2) : Two u s0 s1 m1 n1 (step u .turn y m2 n2).1 (step u .turn y m2 n2).2 :=
  ⟨T.a0, T.a1, T.n, Int.le_trans T.g1.2 (mx_mono (Int.ediv_le_ediv hu (T.le hu))), T.g1, good_step hu (w := .turn) trivial T.g2⟩
theorem Two.grow (hu : 0 < u) (T : Two u s0 s1 m1 n1 m2 n2) (h : 0 ≤ x) (h2 : x ≤ y) : Two u s0 s1 (step u .grow x m1 n1).1 (step u .grow x m1 n1).2 (step u .grow y m2 n2).1 (step u .grow y m2 n2).2 :=
  ⟨T.a0, T.a1, by have := T.n; show n1 + x ≤ n2 + y - _; omega, T.m, good_step hu (w := .grow) h T.g1, good_step hu (w := .grow) (show 0 ≤ y by omega) T.g2⟩
/-- a deed, or none, of the first one and a deed of the other -/
inductive POk (s0 s1 : Int) : Option (Wd × Int) → Wd × Int → Prop
  | lend {x : Int} : 0 ≤ x → POk s0 s1 (some (.lend, x)) (.lend, x)
  | fee {x y : Int} : 0 ≤ s1 + y - x → POk s0 s1 (some (.fee, x)) (.fee, y)
  | take {x y : Int} : 0 ≤ s0 + x - y → POk s0 s1 (some (.take, x)) (.take, y)
  | turn : POk s0 s1 (some (.turn, 0)) (.turn, 0)
  | turn2 : POk s0 s1 none (.turn, 0)
  | grow {x y : Int} : 0 ≤ x → x ≤ y → POk s0 s1 (some (.grow, x)) (.grow, y)
def up1 (u : Int) (f : Option (Wd × Int)) (m n : Int) : Int × Int :=
  match f with
  | none => (m, n)
  | some (w, x) => step u w x m n
def un (u n : Int) (f : Option (Wd × Int)) : Int :=
  match f with
  | none => n
  | some (w, x) => n + u * cents w x + grown w x
def t0 (s0 : Int) : Option (Wd × Int) → Wd × Int → Int
  | some (.take, x), (.take, y) => s0 + x - y
  | _, _ => s0
def t1 (s1 : Int) : Option (Wd × Int) → Wd × Int → Int
  | some (.fee, x), (.fee, y) => s1 + y - x
  | _, _ => s1
theorem POk.two {f : Option (Wd × Int)} {g : Wd × Int} (hu : 0 < u) (T : Two u s0 s1 m1 n1 m2 n2) (p : POk s0 s1 f g) : Two u (t0 s0 f g) (t1 s1 f g) (up1 u f m1 n1).1 (up1 u f m1 n1).2 (step u g.1 g.2 m2 n2).1 (step u g.1 g.2 m2 n2).2 := by
  cases p with
  | lend h => exact T.lend hu h
  | fee h => exact T.fee hu h
  | take h => exact T.take hu h
  | turn => exact T.turn (x := 0) (y := 0) hu
  | turn2 => exact T.turn2 (y := 0) hu
  | grow h h2 => exact T.grow hu h h2
end Dbt
namespace L2
open PySem PySem.Spec PyProof.Rows
/-! ### greater divisors and factors -/
def CDivW (i j : Int) : Prop := 0 < j ∧ j < 1152921504606846976
def CPowW (i j : Int) : Prop := 0 ≤ j ∧ (Builtin.Int.intBits i : Int) * j ≤ 2 ^ 27
section
variable {X : Cx}
theorem op_fdivW : OpR X (binaryOp .FloorDiv) (rI CDivW fun i j => .int (i / j)) := opI fun i j _ _ _ _ _ hc q => by
  have h1 : (0 : Int) < j := hc.1
  have h2 : j < 1152921504606846976 := hc.2
  refine floordiv_int (by omega) (by rw [Int.fdiv_eq_ediv_of_nonneg i (by omega)]; exact q) (.inl (PyProof.noPylong_of_log2 ?_))
  have h0 : j.natAbs ≠ 0 := by omega
  have : j.natAbs.log2 < 60 := (Nat.log2_lt h0).mpr (show j.natAbs < 1152921504606846976 by omega)
  omega
theorem op_powW : OpR X (binaryOp .Pow) (rI CPowW fun i j => .int (i ^ j.toNat)) := opI fun _ _ _ _ _ _ _ hc q => pow_int hc.1 hc.2 q
end
/-! ### a class of one's own with fields: C(..), o.f, o.f = e, o.m(..) -/
structure MkI (K : PySem.W.Frag) (C : Addr) : Prop where
  makes : PySem.W.makesIn K C = true
  kp : PySem.W.keepIn K (.ref C) = true
def tFldC (C : Addr) (f : Str) (ta : TE) : TE := fun σ H Q => ta σ H fun x H1 => ∃ a dx fs v, x = .ref a ∧ H1 a = some (.ins C dx fs) ∧ fs.lookup f = some v ∧ Q v H1
def sFldC (C : Addr) (f : Str) (ta tv : TE) : TS := fun D σ H => tv σ H fun y H1 => ta σ H1 fun x H2 => ∃ a dx fs, x = .ref a ∧ H2 a = some (.ins C dx fs) ∧ fs.length < 1000 ∧ D.nx σ (upd H2 a (.ins C dx (putF f y fs)))
section
variable {X : Cx} {C : Addr} {x m f : Str} {p pos pos' apos : Pos} {e o value : Expr} {es : List Expr} {ta tv : TE} {t : TA} {j k : Nat} {ps : List Str} {sp : Sp}
end
section
variable {K : PySem.W.Frag} {x : Str} {C f : Addr}
end
/-! ### a debt -/
def dbtF (u m n : Int) : List (Str × V) := [("cent_units", .int u), ("principal_cents", .int m), ("owed_units", .int n)]
abbrev Deb (K : PySem.W.Frag) (H : Hp) (p dx : Addr) (u m n : Int) : Prop := H p = some (.ins (cA K "Debt") dx (dbtF u m n))
def wtxt : Dbt.Wd → Str
  | .lend => "lend"
  | .fee => "fee"
  | .turn => "turn"
  | .take => "take"
  | .grow => "grow"
/-- a deed: a tuple of its word and its number -/
abbrev Deed (H : Hp) (d : Addr) (w : Dbt.Wd) (x : Int) : Prop := H d = some (.tup [.str (wtxt w), .int x])
theorem Deb.same {K : PySem.W.Frag} {H H' : Hp} {p dx : Addr} {u m n : Int} (e : Deb K H p dx u m n) (s : Same H H') : Deb K H' p dx u m n := s _ _ e
theorem at_new {H : Hp} {p : Addr} (o : HO) (_h : H p = none) : (upd H p o) p = some o := upd_same
/-- a list of deeds -/
def Deeds (H : Hp) (vs : List V) : Prop := ∀ v ∈ vs, ∃ (d : Addr) (w : Dbt.Wd) (x : Int), v = .ref d ∧ Deed H d w x
theorem Deeds.same {H H' : Hp} {vs : List V} (h : Deeds H vs) (s : Same H H') : Deeds H' vs := fun v hv => let ⟨d, w, x, e, hd⟩ := h v hv; ⟨d, w, x, e, s _ _ hd⟩
theorem Deeds.put {H : Hp} {vs : List V} {p C dx : Addr} {fs : List (Str × V)} {o : HO} (h : Deeds H vs) (e : H p = some (.ins C dx fs)) : Deeds (upd H p o) vs := fun v hv => let ⟨d, w, x, e1, hd⟩ := h v hv; ⟨d, w, x, e1, by
  show (upd H p o) d = _
  rw [upd_ne (ne_of hd e (by intro z; cases z))]; exact hd⟩
/-- .. by the deeds themselves -/
inductive DL (H : Hp) : List V → List (Dbt.Wd × Int) → Prop
  | nil : DL H [] []
  | cons {p : Addr} {d : Dbt.Wd × Int} {xs : List V} {l : List (Dbt.Wd × Int)} : Deed H p d.1 d.2 → DL H xs l → DL H (.ref p :: xs) (d :: l)
section
variable {H H' : Hp} {xs ys zs : List V} {l r : List (Dbt.Wd × Int)} {p : Addr} {d : Dbt.Wd × Int}
theorem DL.get (h : DL H xs l) : ∀ {i : Nat} {x : V}, xs[i]? = some x → ∃ p d, x = .ref p ∧ l[i]? = some d ∧ Deed H p d.1 d.2 := by
  induction h with
  | nil => intro i x e; simp at e
  | cons h _ ih =>
    intro i x e
    cases i with
    | zero => cases e; exact ⟨_, _, rfl, rfl, h⟩
    | succ i => exact ih e
theorem DL.length (h : DL H xs l) : xs.length = l.length := by
  induction h with
  | nil => rfl
  | cons _ _ ih => simp [ih]
theorem DL.same (h : DL H xs l) (s : Same H H') : DL H' xs l := by
  induction h with
  | nil => exact .nil
  | cons h _ ih => exact .cons (s _ _ h) ih
theorem DL.append (h : DL H xs l) (k : DL H ys r) : DL H (xs ++ ys) (l ++ r) := by
  induction h with
  | nil => exact k
  | cons h' _ ih => exact .cons h' ih
theorem DL.push (h : DL H xs l) (e : Deed H p d.1 d.2) : DL H (xs ++ [.ref p]) (l ++ [d]) := h.append (.cons e .nil)
theorem DL.take (h : DL H xs l) : ∀ n, DL H (xs.take n) (l.take n) := by
  induction h with
  | nil => intro n; simp; exact .nil
  | cons h' _ ih =>
    intro n
    cases n with
    | zero => exact .nil
    | succ n => exact .cons h' (ih n)
theorem DL.drop (h : DL H xs l) : ∀ n, DL H (xs.drop n) (l.drop n) := by
  induction h with
  | nil => intro n; simp; exact .nil
  | cons h' r ih =>
    intro n
    cases n with
    | zero => exact .cons h' r
    | succ n => exact ih n
theorem DL.reverse (h : DL H xs l) : DL H xs.reverse l.reverse := by
  induction h with
  | nil => exact .nil
  | cons h' _ ih => rw [List.reverse_cons, List.reverse_cons]; exact ih.push h'
/-- all but what is grown -/
def kept : Dbt.Wd → Bool
  | .grow => false
  | _ => true
def pkD : List V → List (Dbt.Wd × Int) → List (Bool × V)
  | x :: xs, d :: l => (kept d.1, x) :: pkD xs l
  | _, _ => []
end
/-- a deed, or none -/
def FirstAt (H : Hp) (v : V) : Option (Dbt.Wd × Int) → Prop
  | none => v = .non
  | some d => ∃ a, v = .ref a ∧ Deed H a d.1 d.2
theorem FirstAt.same {H H' : Hp} {v : V} {f : Option (Dbt.Wd × Int)} (h : FirstAt H v f) (s : Same H H') : FirstAt H' v f := by
  cases f with
  | none => exact h
  | some d => obtain ⟨a, e, hd⟩ := h; exact ⟨a, e, s _ _ hd⟩
/-! ### isinstance of an instance of one's own -/
structure InsK (K : PySem.W.Frag) (C : Addr) : Prop where
  ha : PySem.W.findIn K (.ref C) "__class__" = some (some (.builtin "object.__class__"))
  hn : PySem.W.specialIn K (.builtin "object.__class__") "__get__" = some (some (.builtin "getset_descriptor.__get__"))
  htk : PySem.W.takesIn K (.builtin "object.__class__") = some true
  hm : PySem.W.mroIn K C (.type "object") = some true
/-! ### tests of texts -/
theorem ifST {s : Str} {A B : Prop} (h : A) : if decide (V.str s = V.str s) = true then A else B := by rw [if_pos (by simp)]; exact h
theorem ifSF {s t : Str} {A B : Prop} (ne : s ≠ t) (h : B) : if decide (V.str s = V.str t) = true then A else B := by rw [if_neg (by simpa using ne)]; exact h
theorem ifSNT {s : Str} {A B : Prop} (h : B) : if (!decide (V.str s = V.str s)) = true then A else B := by rw [if_neg (by simp)]; exact h
theorem ifSNF {s t : Str} {A B : Prop} (ne : s ≠ t) (h : A) : if (!decide (V.str s = V.str t)) = true then A else B := by rw [if_pos (by simpa using ne)]; exact h
end L2
namespace L2
open PySem PySem.Spec PyProof.Rows
/-! ### C.m(..): a method taken of its class -/
structure UnbS (K : PySem.W.Frag) (C : Addr) (m qual : Str) (st : Stmt) (ps : List Str) : Prop where
  ex : ∃ (f : Addr) (fd : FuncData), Fun K m qual st f fd ∧ (PySem.W.specialIn K (.ref C) "__getattribute__" = some (some (.builtin "type.__getattribute__")) ∧ PySem.W.readsIn K C (.type "type") = true ∧
    PySem.W.findCls K (.ref C) (.type "type") m = some (.val (.ref f)) ∧ PySem.W.handedIn (.ref f) = true) ∧ ∀ us : List Value, us.length = ps.length → bindArgs fd ⟨us, []⟩ = pure (ps.zip us)
structure DefU (P : Program) (w : World) (K : PySem.W.Frag) (mg : Str → Option Value) (base : Heap) (k : Nat) (C : Addr) (m : Str) (ps : List Str) (sp : Sp) : Prop where
  ex : ∃ (f : Addr) (fd : FuncData), FnOk P w K mg base CX0 k f fd ps sp ∧ (PySem.W.specialIn K (.ref C) "__getattribute__" = some (some (.builtin "type.__getattribute__")) ∧ PySem.W.readsIn K C (.type "type") = true ∧
    PySem.W.findCls K (.ref C) (.type "type") m = some (.val (.ref f)) ∧ PySem.W.handedIn (.ref f) = true) ∧ PySem.W.keepIn K (.ref f) = true ∧ ∀ us : List Value, us.length = ps.length → bindArgs fd ⟨us, []⟩ = pure (ps.zip us)
theorem UnbS.ok {P : Program} {w : World} {K : PySem.W.Frag} {mg : Str → Option Value} {base : Heap} {C : Addr} {m qual : Str} {st : Stmt} {N ps : List Str} {k : Nat} {sp : Sp} (S : UnbS K C m qual st ps) (sc : FnScope N ps (defScope st)) (len : ∀ vs H Q E, sp vs H Q E → vs.length = ps.length)
    (hbody : ∀ (f : Addr) (cdv : Value) (A : Around) (outer : List Env) (s : Shared) (H : Hp) (vs : List V) (Q : VK) (E : XK), Room k (A.deeper (envOfC qual (defScope st) s.heap.objs.size f cdv)) → sp vs H Q E →
      ∃ t, PSs (cxOf CX0 P w K mg base N qual (defScope st) f cdv A outer s H E).nox (defBody st) t ∧ t { nx := fun _ H' => Q .non H', rt := Q } (start N vs) H) : DefU P w K mg base (k + 1) C m ps sp := by
  obtain ⟨f, fd, F, hm, hb⟩ := S.ex
  exact ⟨f, fd, F.ok sc len (fun cdv => hbody f cdv), hm, F.kp, hb⟩
section
variable {X : Cx} {C : Addr} {x m : Str} {p pos apos : Pos} {e o : Expr} {es : List Expr} {t : TA} {j k : Nat} {ps : List Str} {sp : Sp}
end
/-! ### all(xs), xs a list of truths -/
theorem boolsAre_vals : ∀ {bs : List Bool} {us : List Value}, Vals (bs.map V.bl) us → LSm.BoolsAre us bs
  | [], _, .nil => .nil
  | b :: bs, _, .cons r rs => by
    cases r
    exact .cons b (boolsAre_vals rs)
theorem call_allB {X : Cx} (hc : X.calm = true) : CallR X (.builtin "all") (fun xs H Q => ∃ (p : Addr) (bs : List Bool), xs = [.ref p] ∧ SqL X.K H p (bs.map V.bl) ∧ Q (.bl (bs.all id)) H) := by
  intro pins s σ H xs us Q I r h
  obtain ⟨p, bs, rfl, hq, q⟩ := h
  obtain ⟨u, rfl, rx⟩ := vals1 r
  cases rx
  obtain ⟨vs, rv, pl, hz⟩ := I.list hq
  have hb := boolsAre_vals rv
  have hl := pl.isList
  have hlt : p < s.heap.objs.size := by obtain ⟨_, e, _⟩ := hl; exact Heap.lt_size e
  refine PySem.call_all_walk (wpAny_pyIter_list hl ?_)
  refine ⟨s.heap.objs.size, [s.heap.objs.size, p], [s.heap.objs.size], vs.toArray.size, _, _, fun i => (bs[i]?).getD true, rfl, Walks.list (A := X.A.in1) (I.ok.hd hc) _ p (Nat.ne_of_lt hlt) vs.toArray,
    ⟨⟨_, Heap.get?_push_size _ rfl, rfl, rfl⟩, hl.push _⟩, fun i v s' Q' E' hP hQ => ?_, fun h' tk hk => ?_⟩
  · obtain ⟨b, e, rfl⟩ := hb.get i v (by simpa using hP)
    simp only [e, Option.getD_some] at hQ
    exact wpAny_truthy_bool hQ
  · have e : ((List.range vs.toArray.size).all fun i => (bs[i]?).getD true) = bs.all id := by
      rw [← LSm.range_all, List.size_toArray, hb.length]
    rw [e]
    exact ⟨.bl _, H, I.kept (LSm.kept_iter hk), rfl, q⟩
/-! ### nine classes, one above all others -/
inductive Ek where
  | out | fee | pay | due | turn | rate | late | still | base
def Ek.cls : Ek → Str
  | .out => "Out"
  | .fee => "Fee"
  | .pay => "Pay"
  | .due => "Due"
  | .turn => "Turn"
  | .rate => "Rate"
  | .late => "Late"
  | .still => "Still"
  | .base => "Entry"
def Ek.word : Ek → Str
  | .out => "out"
  | .fee => "fee"
  | .pay => "pay"
  | .due => "due"
  | .turn => "turn"
  | .rate => "rate"
  | .late => "late"
  | .still => "still"
  | .base => ""
/-- the fields of an entry -/
def entF : Ek → Int → Int → List (Str × V)
  | .turn, d, _ => [("day", .int d)]
  | .base, d, _ => [("day", .int d)]
  | .rate, d, x => [("day", .int d), ("rate", .int x)]
  | .late, d, x => [("day", .int d), ("rate", .int x)]
  | .still, d, x => [("day", .int d), ("until", .int x)]
  | .out, d, x => [("day", .int d), ("amount", .int x)]
  | .fee, d, x => [("day", .int d), ("amount", .int x)]
  | .pay, d, x => [("day", .int d), ("amount", .int x)]
  | .due, d, x => [("day", .int d), ("amount", .int x)]
/-- its row -/
def rowV : Ek → Int → Int → List V
  | .turn, d, _ => [.str "turn", .int d]
  | .base, d, _ => [.str "", .int d]
  | k, d, x => [.str k.word, .int d, .int x]
abbrev IsEnt (K : PySem.W.Frag) (H : Hp) (a dx : Addr) (k : Ek) (d x : Int) : Prop := H a = some (.ins (cA K k.cls) dx (entF k d x))
/-- whether the one stands under the other -/
def subE : Ek → Ek → Bool
  | _, .base => true
  | .out, .out => true
  | .fee, .fee => true
  | .pay, .pay => true
  | .due, .due => true
  | .turn, .turn => true
  | .rate, .rate => true
  | .late, .late => true
  | .still, .still => true
  | _, _ => false
/-- what the third thing of a row must be -/
def ThirdOk : Ek → Int → Int → Prop
  | .fee, _, x => -1000000000000 ≤ x ∧ x ≤ 1000000000000
  | .rate, _, x => 0 ≤ x ∧ x ≤ 1000000
  | .late, _, x => 0 ≤ x ∧ x ≤ 1000000
  | .still, d, x => d + 1 ≤ x ∧ x ≤ 1000000
  | .turn, _, _ => True
  | .base, _, _ => False
  | .out, _, x => 1 ≤ x ∧ x ≤ 1000000000000
  | .pay, _, x => 1 ≤ x ∧ x ≤ 1000000000000
  | .due, _, x => 1 ≤ x ∧ x ≤ 1000000000000
def GoodRow (k : Ek) (d x : Int) : Prop := (0 ≤ d ∧ d ≤ 999999) ∧ ThirdOk k d x
def rowDt : Ek → Int → Int → List PyData
  | .turn, d, _ => [.str "turn", .int d]
  | .base, d, _ => [.str "", .int d]
  | k, d, x => [.str k.word, .int d, .int x]
/-- the eight answers, and the eight words -/
def kindsV (k : Ek) : List V := [.bl (subE k .out), .bl (subE k .fee), .bl (subE k .pay), .bl (subE k .due), .bl (subE k .turn), .bl (subE k .rate), .bl (subE k .late), .bl (subE k .still)]
def kindsD (k : Ek) : List PyData := [.bool (subE k .out), .bool (subE k .fee), .bool (subE k .pay), .bool (subE k .due), .bool (subE k .turn), .bool (subE k .rate), .bool (subE k .late), .bool (subE k .still)]
def eightW : List Str := ["out", "fee", "pay", "due", "turn", "rate", "late", "still"]
def tMethE (K : PySem.W.Frag) (m : Str) (sp : Ek → Sp) (ta : TE) (t : TA) : TE := fun σ H Q => ta σ H fun x H1 => ∃ (k : Ek) (a dx : Addr) (fs : List (Str × V)), x = .ref a ∧ H1 a = some (.ins (cA K k.cls) dx fs) ∧ fs.lookup m = none ∧ t σ H1 fun vs H2 => sp k (x :: vs) H2 Q E0
section
variable {X : Cx} {C : Addr} {x m : Str} {p pos apos : Pos} {e o : Expr} {es : List Expr} {ta : TE} {t : TA} {j k : Nat} {ps : List Str}
end
section
variable {K : PySem.W.Frag} {x : Str} {C f : Addr}
end
end L2
/-! ### methods and makers that may raise -/
namespace L2
open PySem PySem.Spec PyProof.Rows
structure DefMX (P : Program) (w : World) (K : PySem.W.Frag) (mg : Str → Option Value) (base : Heap) (k : Nat) (C : Addr) (m : Str) (ps : List Str) (sp : Sp) : Prop where
  ex : ∃ (f : Addr) (fd : FuncData), FnOk P w K mg base (CXX P w) k f fd ps sp ∧ Meth K C m f ∧ ∀ us : List Value, us.length = ps.length → bindArgs fd ⟨us, []⟩ = pure (ps.zip us)
section
variable {P : Program} {w : World} {K : PySem.W.Frag} {mg : Str → Option Value} {base : Heap} {C : Addr} {m qual : Str} {st : Stmt} {N ps : List Str} {k : Nat} {sp : Sp}
theorem MethS.okXF (S : MethS K C m qual st ps) (sc : FnScope N ps (defScope st)) (len : ∀ vs H Q E, sp vs H Q E → vs.length = ps.length)
    (hbody : ∀ (f : Addr) (cdv : Value) (A : Around) (outer : List Env) (s : Shared) (H : Hp) (vs : List V) (Q : VK) (E : XK), Room k (A.deeper (envOfC qual (defScope st) s.heap.objs.size f cdv)) → sp vs H Q E →
      ∃ t, PSs (cxOf (CXX P w) P w K mg base N qual (defScope st) f cdv A outer s H (fun C d H' => Same H H' ∧ E C d H)) (defBody st) t ∧ t { nx := fun _ H' => Same H H' ∧ Q .non H, rt := fun v H' => Same H H' ∧ Q v H } (start N vs) H) : DefMX P w K mg base (k + 1) C m ps sp := by
  obtain ⟨f, fd, F, hm, hb⟩ := S.ex
  obtain ⟨oc, od, kV, doc, pm, an, cdv, ct, osl, rfl, lk, hcd⟩ := F.ex
  have G : FnOk P w K mg base (CXX P w) (k + 1) f _ ps (fun vs H R E' => ∃ Q E, sp vs H Q E ∧ R = (fun v H' => Same H H' ∧ Q v H) ∧ E' = fun C d H' => Same H H' ∧ E C d H) :=
    fn_of lk hcd sc (fun vs H R E' ⟨Q, E, h, _⟩ => len vs H Q E h) fun A outer s H vs R E' hr ⟨Q, E, h, e1, e2⟩ => by
      subst e1 e2
      exact hbody f cdv A outer s H vs Q E hr h
  exact ⟨f, _, G.forgetX fun vs H Q E h => ⟨Q, E, h, rfl, rfl⟩, hm, hb⟩
end
section
variable {X : Cx} {C : Addr} {x m : Str} {p pos apos : Pos} {e o : Expr} {es : List Expr} {ta : TE} {t : TA} {j k : Nat} {ps : List Str} {sp : Sp}
end
end L2
namespace L2
open PySem PySem.Spec PyProof.Rows
/-! ### texts: slices, upper; a call in a try whose value is dropped -/
section
variable {X : Cx}
/-- a slice of a text: some text, no longer -/
def rSlS : V → Option Int → Option Int → Hp → VK → Prop := fun x _ _ H Q => ∃ z, x = .str z ∧ z.length ≤ 1000 ∧ ∀ y : Str, y.length ≤ z.length → Q (.str y) H
/-- in great letters -/
def rUpper : V → List V → Hp → VK → Prop := fun x vs H Q => ∃ z, x = .str z ∧ vs = [] ∧ Builtin.Str.tooLong (Txt.upper z).length = false ∧ Q (.str (Txt.upper z)) H
end
def tTryE (K : PySem.W.Frag) (Cx : Addr) (j : Nat) (ta : TA) (sp : Sp) (th : TS) : TS := fun D σ H => ta σ H fun vs H1 => sp vs H1 (fun _ H2 => D.nx σ H2) fun C _ H2 =>
  ∃ c, C = .ref c ∧ PySem.W.exmOne K (.ref c) (.ref Cx) = some true ∧ ∀ e, H2 e = none → th { nx := fun _ _ => False, rt := D.rt } (σ.set j (some (.ref e))) (upd H2 e (ExcO e (.ref c)))
end L2
namespace L2
open PySem
end L2
namespace L2
def eqK : Kd → Kd → Bool
  | .plain, .plain => true
  | .bank, .bank => true
  | .thirty, .thirty => true
  | .exact, .exact => true
  | _, _ => false
def subK (k : Kd) : Kd → Bool
  | .plain => true
  | .bank => eqK k .bank
  | .thirty => eqK k .thirty
  | .exact => eqK k .exact
end L2
/-! ### try: any rows, except X as e: rows that return -/
namespace L2
open PySem PySem.Spec PyProof.Rows
/-- the rows of a try: what is raised goes to xe -/
abbrev Cx.tried (X : Cx) (xe : Value → Shared → Prop) (pn : List (Addr × Obj)) : Cx := { X with xe := xe, pn := X.pn ++ pn }
section
variable {X : Cx} {pins pins' : List (Addr × Obj)} {σ : St} {H : Hp} {s : Shared} {xe : Value → Shared → Prop}
theorem Cx.Ok.tried (ok : X.Ok) (xe : Value → Shared → Prop) (pn : List (Addr × Obj)) : (X.tried xe pn).Ok := ⟨ok.mod, ok.kind, ok.glob, ok.blt, ok.above, ok.inj, ok.has, ok.cab, ok.hd, ok.frames, ok.stk, ok.exf, ok.bs, ok.bsz, ok.noex, ok.exfs, ok.funs, ok.frf⟩
theorem Cx.Ok.untried {pn : List (Addr × Obj)} (ok : (X.tried xe pn).Ok) : X.Ok := ⟨ok.mod, ok.kind, ok.glob, ok.blt, ok.above, ok.inj, ok.has, ok.cab, ok.hd, ok.frames, ok.stk, ok.exf, ok.bs, ok.bsz, ok.noex, ok.exfs, ok.funs, ok.frf⟩
theorem Inv.tried (I : Inv X pins σ H s) (xe : Value → Shared → Prop) : Inv (X.tried xe pins) [] σ H s := ⟨I.ok.tried xe pins, I.os, I.bare, I.base, I.loc, I.cell, I.free, I.freeC, fun p hp => I.pin p (by rw [List.append_nil] at hp; exact hp), I.hok, I.len⟩
theorem Inv.untried (I : Inv (X.tried xe pins) pins' σ H s) : Inv X pins σ H s := ⟨I.ok.untried, I.os, I.bare, I.base, I.loc, I.cell, I.free, I.freeC, fun p hp => I.pin p (List.mem_append_left _ hp), I.hok, I.len⟩
theorem Inv.blank (I : Inv X pins σ H s) {σn : St} (hl : σn.length = X.N.length) (hn : ∀ (i : Nat) (v : V), σn[i]? ≠ some (some v)) : Inv X pins σn H s := ⟨I.ok, I.os, I.bare, I.base, (let ⟨m, a, _⟩ := I.loc; ⟨m, a, fun i x v _ h => absurd h (hn i v)⟩), I.cell, I.free, I.freeC, I.pin, I.hok, hl⟩
theorem SP.untried {D : Ends} {f : Flow} {s' : Shared} (h : SP (X.tried xe pins) [] D f s') : SP X pins D f s' := by
  cases f with
  | next => obtain ⟨σ', H', I, q⟩ := h; exact ⟨σ', H', I.untried, q⟩
  | brk => obtain ⟨σ', H', I, q⟩ := h; exact ⟨σ', H', I.untried, q⟩
  | cont => obtain ⟨σ', H', I, q⟩ := h; exact ⟨σ', H', I.untried, q⟩
  | ret u => obtain ⟨v, σ', H', I, r, q⟩ := h; exact ⟨v, σ', H', I.untried, r, q⟩
end
def tTryG (K : PySem.W.Frag) (Cx : Addr) (j : Nat) (σn : St) (tb : XK → TS) (th : TS) : TS := fun D σ H => tb (fun C _ H2 =>
  ∃ c, C = .ref c ∧ PySem.W.exmOne K (.ref c) (.ref Cx) = some true ∧ ∀ e, H2 e = none → th { nx := fun _ _ => False, rt := D.rt } (σn.set j (some (.ref e))) (upd H2 e (ExcO e (.ref c)))) D σ H
theorem ps_tryG {X : Cx} {n x : Str} {j : Nat} {tb : XK → TS} {np hpos pos : Pos} {b₀ : Stmt} {suite body : List Stmt} {th : TS} (σn : St)
    (hN : X.N.Nodup) (hj : X.N[j]? = some n) (hn : X.env.scope.names.lookup n = some .local) (hcx : X.mg x = some (.ref (cA X.K x)))
    (hb : ∀ (E : XK) (xe : Value → Shared → Prop) (pn : List (Addr × Obj)), Passes (CXX X.prog X.w) (X.tried xe pn) E → PSs (X.tried xe pn) body (tb E)) (hs : ∀ e, PSs (X.held e) (b₀ :: suite) th)
    (hσl : σn.length = X.N.length := by rfl) (hσn : σn = List.replicate σn.length none := by rfl) (hgx : Gl X x := by rfl) (hst : X.stack = X.env :: X.outer := by rfl) (hfr : X.env.frame = some X.env.locals := by rfl) (hex : X.ex = [] := by rfl) (hdx : (x == ("__debug__" : Str)) = false := by decide) :
    PS X (.Try body [.ExceptHandler (some (.Name x np)) (some n) (b₀ :: suite) hpos] [] [] pos) (tTryG X.K (cA X.K x) j σn tb th) := by
  intro pins s σ H D I h
  refine wpAny_Try_except ?_
  refine wpAny_mono (hb _ _ pins (fun pins' σ' H1 s1 ev s2 J1 hq => ?_) [] s σ H D (I.tried _) h) (fun fl s' q => ?_) fun ev s' z => z
  rotate_left
  · have q' := SP.untried q
    cases fl with
    | next => exact wpAny_execs_nil q'
    | brk => exact q'
    | cont => exact q'
    | ret u => exact q'
  have I1 : Inv X pins σ' H1 s1 := J1.untried
  obtain ⟨e, C, H2, rfl, hE, os, bare, un, hok, new, free, oe, vs', T, oT, ts, a0, h1, h2, h3, h4, h5, h6, h7, h8, h9⟩ := hq
  obtain ⟨c, rfl, hsub, hth⟩ := hE
  have hσv : ∀ (i : Nat) (v : V), σn[i]? ≠ some (some v) := fun i v z => by
    rw [hσn, List.getElem?_replicate] at z
    split at z <;> cases z
  have I2 : Inv X pins σn H2 s2 := Inv.blank (I1.call' os un hok bare (fun b z => absurd z (by simp))) hσl hσv
  have fresh : ∀ b, s1.heap.get? b = none → X.s₀.heap.get? b = none := fun b z => by
    cases q : X.s₀.heap.get? b with
    | none => rfl
    | some o =>
      obtain ⟨o', e1⟩ := I1.base.there b o q (by rw [hex]; simp)
      rw [z] at e1; cases e1
  have pnn : ∀ b, s1.heap.get? b = none → ∀ p ∈ X.pn ++ pins, p.1 ≠ b := fun b z p hp y => by
    have := (I1.pin p hp).1
    rw [y, z] at this; cases this
  have me : e ∈ e :: T :: frs X.stack := List.mem_cons_self
  have mT : T ∈ e :: T :: frs X.stack := List.mem_cons_of_mem _ List.mem_cons_self
  have nm : ∀ b, b ∉ frs X.stack → b ∉ [e, T] → b ∉ e :: T :: frs X.stack := fun b n m z => by
    rcases List.mem_cons.mp z with z | z
    · exact m (by rw [z]; simp)
    · rcases List.mem_cons.mp z with z | z
      · exact m (by rw [z]; simp)
      · exact n z
  have hh : ∀ b ∈ [e, T], X.s₀.heap.get? b = none ∧ H2 b = none ∧ ∀ p ∈ X.pn ++ pins, p.1 ≠ b := fun b z => by
    rcases List.mem_cons.mp z with z | z
    · subst z; exact ⟨fresh _ new, free, pnn _ new⟩
    · have z' : b = T := by simpa using z
      subst z'; exact ⟨fresh _ h5.1, h5.2, pnn _ h5.1⟩
  refine wpAny_looks_onW (base := PySem.W.hideAll s2.heap (e :: T :: frs X.stack)) (outer := X.outer) (L := X.env.locals) (cls := .ref c) (a0 := a0) (by rw [I.ok.frames, hst]) hfr
    ⟨fun b o q => PySem.W.of_hideAll _ q, PySem.W.hideAll_none _ me, by rw [← hst]; exact PySem.W.funFrames_hide I2.stack (fun env he a ha => List.mem_cons_of_mem _ (List.mem_cons_of_mem _ (List.mem_filterMap.mpr ⟨env, he, ha⟩))),
      oe, vs', T, oT, ts, h1, h2, h3, h4, PySem.W.hideAll_none _ mT, h6, h7, h8, h9⟩ fun h₄ held u4 => ?_
  refine wpAny_landsW held fun h₅ fly u5 => ?_
  have F5 : Flew X [e, T] s2.heap h₅ := ⟨fun b o q n m => fly.1 b o (PySem.W.hideAll_get _ q (nm b n m)), u4.trans u5⟩
  have I5 := I2.flew F5 hh
  obtain ⟨ob, hob, hobc⟩ := fly.there
  refine wpAny_handleBy_cons (codeAny_handlers_test (ld_glob (I5.held e) hgx hcx ?_ hdx)) (by intro q; cases q)
  refine (PySem.W.exm_one (K := X.K) I5.kIn (xtype hob hobc) hsub).here ?_
  refine codeAny_handlers_suite_as (lands_againW fly fun h₆ fly6 u6 => ?_)
  have F6 : Flew X [e, T] s2.heap h₆ := ⟨fun b o q n m => fly6.1 b o (PySem.W.hideAll_get _ q (nm b n m)), (u4.trans u5).trans u6⟩
  have I6 := I2.flew F6 hh
  obtain ⟨oe6, vs6, he6, hc6, hd6, _⟩ := fly6.first
  have I7 : Inv X pins σn (upd H2 e (ExcO e (.ref c))) { s2 with heap := h₆ } := by
    refine I6.track free (fresh e new) (fun z => ?_) (fun x c' q z => ?_) (pnn e new) ⟨⟨oe6, vs6, he6, hc6, hd6⟩, ⟨oe6, he6⟩, fun g1 g2 p k => ?_⟩
    · obtain ⟨m, ⟨o, es, ep, ho, hd, _⟩, _⟩ := I6.loc
      rw [← z] at ho
      have y := ho.symm.trans he6
      cases y
      rw [hd6] at hd; cases hd
    · obtain ⟨v, o, ho, hd⟩ := I6.cell x c' q
      rw [z] at ho
      have y := ho.symm.trans he6
      cases y
      rw [hd6] at hd; cases hd
    · obtain ⟨o, vs, a, b, d⟩ := p
      exact ⟨o, vs, k o a, b, d⟩
  refine store_ok I7 hN hj (.inl hn) (v := .ref e) rfl (fun s7 I8 => ?_) (.inr hn)
  refine wpAny_mono (hs e pins s7 _ _ _ (I8.held e) (hth e free)) (fun fl s8 q8 => ?_) fun _ _ z => False.elim z
  cases fl with
  | ret u =>
    obtain ⟨v, σ', H8, I9, rv, qv⟩ := q8
    have I9 := I9.unheld I.ok
    obtain ⟨m, hm', _⟩ := id I9.loc
    exact wpAny_nameGoes hn hm' (by rw [I.ok.kind]; rfl) fun h₉ m₉ hn₉ hs₉ => ⟨v, _, H8, I9.forgetLoc hn₉ hs₉, rv, qv⟩
  | next => obtain ⟨_, _, _, z⟩ := q8; exact False.elim z
  | brk => obtain ⟨_, _, _, z⟩ := q8; exact False.elim z
  | cont => obtain ⟨_, _, _, z⟩ := q8; exact False.elim z
end L2
namespace L2
open PySem PySem.Spec PyProof.Rows
/-! ### a list of things and what is known of each -/
inductive LL {α : Type} (R : V → α → Prop) : List V → List α → Prop
  | nil : LL R [] []
  | cons {v : V} {e : α} {vs : List V} {es : List α} : R v e → LL R vs es → LL R (v :: vs) (e :: es)
section
variable {α : Type} {R S : V → α → Prop} {vs ws : List V} {es fs : List α}
theorem LL.length (h : LL R vs es) : vs.length = es.length := by
  induction h with
  | nil => rfl
  | cons _ _ ih => simp [ih]
theorem LL.append (h : LL R vs es) (k : LL R ws fs) : LL R (vs ++ ws) (es ++ fs) := by
  induction h with
  | nil => exact k
  | cons h _ ih => exact .cons h ih
theorem LL.push {v : V} {e : α} (h : LL R vs es) (k : R v e) : LL R (vs ++ [v]) (es ++ [e]) := h.append (.cons k .nil)
theorem LL.reverse (h : LL R vs es) : LL R vs.reverse es.reverse := by
  induction h with
  | nil => exact .nil
  | cons h _ ih => rw [List.reverse_cons, List.reverse_cons]; exact ih.push h
theorem LL.take (h : LL R vs es) : ∀ n, LL R (vs.take n) (es.take n) := by
  induction h with
  | nil => intro n; simp; exact .nil
  | cons h _ ih =>
    intro n
    cases n with
    | zero => exact .nil
    | succ n => exact .cons h (ih n)
theorem LL.get (h : LL R vs es) : ∀ {i : Nat} {v : V}, vs[i]? = some v → ∃ e, es[i]? = some e ∧ R v e := by
  induction h with
  | nil => intro i v e; simp at e
  | cons h _ ih =>
    intro i v e
    cases i with
    | zero => cases e; exact ⟨_, rfl, h⟩
    | succ i => exact ih e
end
def lkI (l : List (Int × Int)) (k : Int) : Option Int := (l.find? fun p => p.1 = k).map (·.2)
theorem KR.look {r : List (Int × Value)} {l : List (Int × Int)} {k : Int} {v : V} {u : Value} (rv : RelV v u) (h : KR r l) : RelV (((lkI l k).map V.int).getD v) ((valueAt r k).getD u) := by
  induction h with
  | nil => exact rv
  | @cons k' y t r l _ ih =>
    unfold lkI PySem.valueAt at *
    by_cases e : k' = k
    · rw [List.find?_cons_of_pos (by simpa using e), List.find?_cons_of_pos (by simpa using e)]
      exact ⟨t, rfl⟩
    · rw [List.find?_cons_of_neg (by simpa using e), List.find?_cons_of_neg (by simpa using e)]
      exact ih
section
variable {X : Cx} {pins : List (Addr × Obj)} {σ : St} {H : Hp} {s : Shared} {o i e f value : Expr} {pos pos' apos cpos : Pos} {td ty tx tv : TE}
def tDNewI (P : Program) (w : World) : TE := fun _ H Q => ∀ p, H p = none → Q (.ref p) (upd H p (DictO P w p []))
def tGetI (P : Program) (w : World) (td ty tx : TE) : TE := fun σ H Q => td σ H fun x H1 => ∃ (d : Addr) (l : List (Int × Int)), x = .ref d ∧ H1 d = some (DictO P w d l) ∧ ty σ H1 fun y H2 => tx σ H2 fun z H3 => ∃ (k : Int), y = .int k ∧ H3 d = some (DictO P w d l) ∧ Q (((lkI l k).map V.int).getD z) H3
def sPutI (P : Program) (w : World) (td ty tv : TE) : TS := fun D σ H => tv σ H fun v H1 => td σ H1 fun x H2 => ty σ H2 fun y H3 => ∃ (d : Addr) (l : List (Int × Int)) (k n : Int), x = .ref d ∧ y = .int k ∧ v = .int n ∧ H3 d = some (DictO P w d l) ∧ l.length ≤ 1000 ∧ D.nx σ (upd H3 d (DictO P w d (storedI l k n)))
end
/-! ### fields and methods of entries within comprehensions -/
section
variable {X : Cx} {m f : Str} {pos apos : Pos} {o e : Expr} {ta : TE} {j k : Nat} {ps : List Str}
end
end L2
namespace L2
open PySem PySem.Spec PyProof.Rows
/-! ### comprehensions with three names and a test: [elt for x, y, z in iter if c] -/
def Cx.block3 (X : Cx) (sc : Scope) (x y0 y1 : Str) (ix : List Nat) (b : Blk) : Cx where
  prog := X.prog
  w := X.w
  K := X.K
  mg := X.mg
  base := X.base
  A := X.A
  N := x :: y0 :: y1 :: ix.map fun i => X.N.getD i x
  s₀ := b.s
  H₀ := b.H
  env := compEnvC sc (closOf sc X.env) b.C X.env
  outer := X.stack
  stack := X.stack
  ex := b.ex
  fn := fun _ => false
  calm := X.calm
  pn := b.pn
  xe := fun _ _ => False
structure CompOk3 (X : Cx) (sc : Scope) (x y0 y1 : Str) (ix : List Nat) : Prop where
  clos : closureFor sc X.env = pure (closOf sc X.env)
  cell : ∀ y ∈ sc.names, y.2 ≠ .cell
  kind : sc.kind = .function
  names : ∀ y ∈ sc.names, y.2 = .local → sc.names.lookup y.1 = some .local
  var : sc.names.lookup x = some .local
  var2 : sc.names.lookup y0 = some .local
  var3 : sc.names.lookup y1 = some .local
  nd : (x :: y0 :: y1 :: ix.map fun i => X.N.getD i x).Nodup
  cap : CapsOk X sc x ix
  sub : SubOk X.env.cells (closOf sc X.env)
  has : HasOk (closOf sc X.env) (relabel sc X.env).names
section
variable {X : Cx} {pins : List (Addr × Obj)} {σ : St} {H : Hp} {s : Shared} {sc : Scope} {x y0 y1 : Str} {ix : List Nat} {fp : List Addr}
end
def TurnsIf3 (K0 : PySem.W.Frag) (ix : List Nat) (tt : TT) (te : TE) (σ : St) (J : It) (l : Addr) (R : Hp → Prop) (W : Nat → Nat → List V → Hp → Prop) : Prop :=
  ∀ i m xs H', W i m xs H' → H' l = some (.lst xs) ∧ ((J.stop i H' ∧ R H') ∨ (J.go i H' ∧ xs.length < sizeLine ∧ ∀ x H2, J.yld i H' x H2 → ∃ p v1 v2 v3, x = .ref p ∧ SqT K0 H2 p [v1, v2, v3] ∧
    tt (some v1 :: some v2 :: some v3 :: capts σ ix) H2 fun b H3 => if b = true then te (some v1 :: some v2 :: some v3 :: capts σ ix) H3 fun v H4 => H4 l = some (.lst xs) ∧ ∃ m', m' < m ∧ W (i + 1) m' (xs ++ [v]) (upd H4 l (.lst (xs ++ [v]))) else ∃ m', m' < m ∧ W (i + 1) m' xs H3))
def tComp3If (K0 : PySem.W.Frag) (ix : List Nat) (wi : TI) (tt : TT) (te : TE) : TE := fun σ H Q => wi σ H fun J H1 => ∀ l, H1 l = none → ∃ W : Nat → Nat → List V → Hp → Prop, (∃ m, W 0 m [] (upd H1 l (.lst []))) ∧ TurnsIf3 K0 ix tt te σ J l (Q (.ref l)) W
section
variable {X : Cx} {pins : List (Addr × Obj)} {σ : St} {H : Hp} {s : Shared} {sc : Scope} {x y0 y1 : Str} {ix : List Nat} {fp : List Addr} {elt iter c : Expr} {te : TE} {tt : TT} {wi : TI} {px py0 py1 pt0 pos : Pos} {kt0 : Nat}
end
end L2
namespace L2
open PySem PySem.Spec PyProof.Rows
/-! ### texts as they are: slices, find, startswith, zfill, int(text); a text walked sign by sign -/
section
variable {X : Cx}
/-- a slice of a text, as it is -/
def rSlE : V → Option Int → Option Int → Hp → VK → Prop := fun x lo hi H Q => ∃ z, x = .str z ∧ z.length ≤ 1000 ∧ Q (.str (Txt.slice z lo hi)) H
theorem sl_strE : SlR X rSlE := by
  intro pins s σ H x v vl vu lo hi sl Q I rx hs pl pu h
  obtain ⟨z, rfl, hz, q⟩ := h
  obtain ⟨t, rfl⟩ := rx
  obtain ⟨o, ho, hc, hd⟩ := hs
  have hsz : z.length ≤ sizeLine := by have := sizeLine_eq; omega
  refine ⟨"str", _, F.slot_str_getitem.lookup, typeIs_str _ _ _, ?_⟩
  cases pl with
  | none =>
    cases pu with
    | none => exact wpAny_getItem_str_slice (l := none) (u := none) (st := none) ⟨o, ho, hc, hd⟩ rfl (post_val_or_str ⟨Nat.le_trans (Txt.slice_le z _ _) hsz, fun t' k => ⟨.str _, H, I.tok k, ⟨_, rfl⟩, q⟩⟩)
    | int j uj => exact wpAny_getItem_str_slice (l := none) (u := some (j, uj)) (st := none) ⟨o, ho, hc, hd⟩ rfl (post_val_or_str ⟨Nat.le_trans (Txt.slice_le z _ _) hsz, fun t' k => ⟨.str _, H, I.tok k, ⟨_, rfl⟩, q⟩⟩)
  | int i ui =>
    cases pu with
    | none => exact wpAny_getItem_str_slice (l := some (i, ui)) (u := none) (st := none) ⟨o, ho, hc, hd⟩ rfl (post_val_or_str ⟨Nat.le_trans (Txt.slice_le z _ _) hsz, fun t' k => ⟨.str _, H, I.tok k, ⟨_, rfl⟩, q⟩⟩)
    | int j uj => exact wpAny_getItem_str_slice (l := some (i, ui)) (u := some (j, uj)) (st := none) ⟨o, ho, hc, hd⟩ rfl (post_val_or_str ⟨Nat.le_trans (Txt.slice_le z _ _) hsz, fun t' k => ⟨.str _, H, I.tok k, ⟨_, rfl⟩, q⟩⟩)
def rFind : V → List V → Hp → VK → Prop := fun x vs H Q => ∃ z y, x = .str z ∧ vs = [.str y] ∧ Q (.int (Txt.find z y)) H
theorem mt_find : MtR X "str.find" rFind := by
  intro pins s σ H x vs v us Q I rx rv h
  obtain ⟨z, y, rfl, rfl, q⟩ := h
  obtain ⟨t, rfl⟩ := rx
  obtain ⟨u, rfl, ru⟩ := vals1 rv
  obtain ⟨t2, rfl⟩ := ru
  exact SC.find ⟨.int _, H, I.tok _, ⟨_, rfl⟩, q⟩
def rStarts : V → List V → Hp → VK → Prop := fun x vs H Q => ∃ z y, x = .str z ∧ vs = [.str y] ∧ Q (.bl (Txt.startswith z y)) H
theorem mt_startswith : MtR X "str.startswith" rStarts := by
  intro pins s σ H x vs v us Q I rx rv h
  obtain ⟨z, y, rfl, rfl, q⟩ := h
  obtain ⟨t, rfl⟩ := rx
  obtain ⟨u, rfl, ru⟩ := vals1 rv
  obtain ⟨t2, rfl⟩ := ru
  exact SC.startswith ⟨.bl _, H, I, rfl, q⟩
def rZfill : V → List V → Hp → VK → Prop := fun x vs H Q => ∃ z i, x = .str z ∧ vs = [.int i] ∧ (0 ≤ i ∧ i ≤ 1000) ∧ Q (.str (Txt.zfill z i)) H
theorem mt_zfill : MtR X "str.zfill" rZfill := by
  intro pins s σ H x vs v us Q I rx rv h
  obtain ⟨z, i, rfl, rfl, ⟨h0, h1⟩, q⟩ := h
  obtain ⟨t, rfl⟩ := rx
  obtain ⟨u, rfl, ru⟩ := vals1 rv
  obtain ⟨t2, rfl⟩ := ru
  exact SC.zfill (padOk_of (by omega) (by omega)) fun t' k => ⟨.str _, H, I.tok _, ⟨_, rfl⟩, q⟩
def rIntT : List V → Hp → VK → Prop := fun xs H Q => ∃ z n, xs = [.str z] ∧ z.length ≤ 640 ∧ PySem.intText? z = some n ∧ Q (.int n) H
theorem call_intT : CallR X (.type "int") rIntT := by
  intro pins s σ H xs us Q I r h
  obtain ⟨z, n, rfl, hl, hn, q⟩ := h
  obtain ⟨u, rfl, ru⟩ := vals1 r
  obtain ⟨t, rfl⟩ := ru
  exact PySem.W.KIN.call_text hn hl ⟨.int _, H, I.tok _, ⟨_, rfl⟩, q⟩
end
theorem gstr_mk {K : PySem.W.Frag} {mg : Str → Option Value} {x : Str} {h : Heap} {i : Str} {t : Tok} (X : K.In h) (G : h.Ns mainGlobals mg) (a : PySem.W.nsIn K mainGlobals x = some (some (.str i t))) : ∃ t, mg x = some (.str i t) := ⟨t, PySem.W.mg_of X G a⟩
theorem pe_gstr {X : Cx} {x : Str} {pos : Pos} {i : Str} (h : ∃ t, X.mg x = some (.str i t)) (hg : Gl X x := by rfl) (hd : (x == ("__debug__" : Str)) = false := by decide) : PE X (.Name x pos) (tC (.str i)) := by
  obtain ⟨t, h⟩ := h
  exact pe_glob hg h ⟨t, rfl⟩ hd
/-- the signs of a text, one by one -/
def Itx (x : Str) : It := ⟨fun i _ => i < x.cps.size, fun i H v H' => H' = H ∧ ∃ c, x.cps[i]? = some c ∧ v = .str ⟨#[c]⟩, fun i _ => x.cps.size ≤ i⟩
theorem walks_str {P : Program} {w : World} {A : Around} (h : A.handled = none) (it : Addr) (x : Str) (t : Tok) : Walks P w A it [it] [it] x.cps.size (SignAt x) fun i h => h.IsStrIter it (strIterType x) x t i := by
  unfold strIterType
  split
  · exact Walks.strAscii h it x t
  · exact Walks.strWide h it x t
theorem turn_str {P : Program} {w : World} {K : PySem.W.Frag} {tg : Expr} (it : Addr) (x : Str) (t : Tok) : Turn P w K tg (Itx x) [it] it (fun i h => i ≤ x.cps.size ∧ h.IsStrIter it (strIterType x) x t i) where
  mem := by simp
  obj := fun i h st b hb => by
    have e : b = it := by simpa using hb
    subst e
    obtain ⟨_, o, e, c, d⟩ := st
    exact ⟨o, e, fun v z => by rw [d] at z; cases z⟩
  keep := fun i h h' st k => by
    obtain ⟨l, o, e, c, d⟩ := st
    exact ⟨l, o, k it (by simp) o e, c, d⟩
  item := by
    intro X hP hw hK hc i pins s σ H E I hf st hg
    subst hP hw hK
    obtain ⟨f0, f1, f2, f3, f4, f5⟩ := hf it (by simp)
    refine (walks_str (I.ok.hd hc) it x t).item i s _ E hg st.2 fun v h' tk hv st' kp => ?_
    have I1 : Inv X pins σ H { s with heap := h', toks := tk } := I.turned (t' := tk) (fun b o hb e => kp b o (by simpa using hb) e) f0 f1 f3 f4 f5
    obtain ⟨c, u, hc1, rfl⟩ := hv
    obtain ⟨o, e, cl, d⟩ := id st'
    exact ⟨_, rfl, go_of (s := { s with heap := h', toks := tk }) e cl d (by unfold strIterType; split <;> decide) ⟨.str ⟨#[c]⟩, H, I1, ⟨u, rfl⟩, ⟨rfl, c, hc1, rfl⟩, ⟨hg, st'⟩, fun b hb => (hf b hb).1⟩⟩
  done := by
    intro X hP hw hK hc i pins s σ H E I hf st hg
    subst hP hw hK
    obtain ⟨f0, f1, f2, f3, f4, f5⟩ := hf it (by simp)
    have e : i = x.cps.size := Nat.le_antisymm st.1 hg
    subst e
    exact (walks_str (I.ok.hd hc) it x t).done s _ E st.2 fun h' tk kp => ⟨rfl, I.turned (t' := tk) (fun b o hb e => kp b o (by simpa using hb) e) f0 f1 f3 f4 f5⟩
  self := fun A i s Q E st h => by
    obtain ⟨_, st⟩ := st
    unfold strIterType at st
    split at st
    · exact wpAny_pyIter_striter_ascii st h
    · exact wpAny_pyIter_striter_wide st h
def iTxt (tl : TE) : TI := fun σ H R => tl σ H fun x H1 => ∃ z, x = .str z ∧ R (Itx z) H1
theorem pi_str {X : Cx} {tg : Expr} {l : Expr} {tl : TE} (hl : PE X l tl) : PI X tg l (iTxt tl) := by
  intro pins s σ H R I h
  refine thn (hl pins s σ H _ I h) fun v s1 ⟨x, H1, I1, r1, q1⟩ => ?_
  obtain ⟨z, e, q⟩ := q1
  subst e
  obtain ⟨t, rfl⟩ := r1
  refine wpAny_pyIter_strU ?_
  refine ⟨s1.heap.objs.size, [s1.heap.objs.size], _, _, H1, rfl, I1.kept (t' := s1.toks) fun b o e => Heap.get?_push_of_some _ e, turn_str _ z t, ⟨Nat.zero_le _, _, Heap.get?_push_size _ rfl, rfl, rfl⟩, fun b hb => ?_, q⟩
  have e : b = s1.heap.objs.size := by simpa using hb
  subst e
  exact I1.fpOk (Nat.le_refl _) (I1.hok.fresh (Nat.le_refl _))
theorem walk_str {H : Hp} {x : Str} : WalkOf (Itx x) H (x.cps.toList.map fun c => V.str ⟨#[c]⟩) :=
  ⟨fun i H' s hi => by rw [List.length_map, Array.length_toList] at hi; exact hi, fun i H' v H2 s y => ⟨y.1, by
    obtain ⟨_, c, e, rfl⟩ := y
    rw [List.getElem?_map, Array.getElem?_toList, e]; rfl⟩, fun i H' s hi => by rw [List.length_map, Array.length_toList] at hi; exact hi⟩
theorem for_str {x : Str} {g : TG} {tb : TS} {D : Ends} {σ : St} {H : Hp} (Pv : Nat → St → Hp → Prop) (h0 : Pv 0 σ H)
    (hs : ∀ i c σ H, x.cps.toList[i]? = some c → Pv i σ H → g (.str ⟨#[c]⟩) σ H fun σ2 H2 => tb { D with nx := Pv (i + 1), ct := Pv (i + 1), bk := D.nx } σ2 H2) (hd : ∀ σ H, Pv x.cps.size σ H → D.nx σ H) :
    ∃ W : Nat → Nat → St → Hp → Prop, (∃ m, W 0 m σ H) ∧ ∀ i m σ H, W i m σ H →
      ((Itx x).stop i H ∧ D.nx σ H) ∨ ((Itx x).go i H ∧ ∃ N : St → Hp → Prop, (∀ σ' H', N σ' H' → ∃ m', m' < m ∧ W (i + 1) m' σ' H') ∧ ∀ v H', (Itx x).yld i H v H' → g v σ H' fun σ2 H2 => tb { D with nx := N, ct := N, bk := D.nx } σ2 H2) := by
  refine ⟨fun i m σ H => m = x.cps.size - i ∧ i ≤ x.cps.size ∧ Pv i σ H, ⟨x.cps.size, by simp, Nat.zero_le _, h0⟩, ?_⟩
  rintro i m σ H ⟨rfl, hi, p⟩
  by_cases hlt : i < x.cps.size
  · refine .inr ⟨hlt, Pv (i + 1), fun σ' H' p' => ⟨x.cps.size - (i + 1), by omega, rfl, hlt, p'⟩, fun v H' y => ?_⟩
    obtain ⟨e, c, hc, rfl⟩ := y
    subst e
    exact hs i c σ _ (by rw [Array.getElem?_toList]; exact hc) p
  · have e : i = x.cps.size := by omega
    subst e
    exact .inl ⟨Nat.le_refl _, hd σ H p⟩
/-- texts joined -/
def SL (H : Hp) (a : Addr) (zs : List Str) : Prop := H a = some (.lst (zs.map V.str))
section
variable {X : Cx}
theorem strs_are : ∀ {zs : List Str} {us : List Value}, Vals (zs.map V.str) us → StrsAre us zs
  | [], us, h => by cases h; exact .nil
  | z :: zs, us, h => by
    cases h with
    | cons r rs =>
      obtain ⟨t, rfl⟩ := r
      exact .cons _ _ (strs_are rs)
def rJoin (K : PySem.W.Frag) : V → List V → Hp → VK → Prop := fun x vs H Q => ∃ z a zs, x = .str z ∧ vs = [.ref a] ∧ SqL K H a (zs.map V.str) ∧ (zs.map (·.length)).sum + zs.length * z.length ≤ 16777216 ∧ Q (.str (Txt.join z zs)) H
def rPart : V → List V → Hp → VK → Prop := fun x vs H Q => ∃ z y, x = .str z ∧ vs = [.str y] ∧ 0 < y.length ∧ z.length ≤ 1000 ∧ ∀ l, H l = none → Q (.ref l) (upd H l (.tup [.str (Txt.partition z y).1, .str (Txt.partition z y).2.1, .str (Txt.partition z y).2.2]))
theorem mt_partition : MtR X "str.partition" rPart := by
  intro pins s σ H x vs v us Q I rx rv h
  obtain ⟨z, y, rfl, rfl, hy, hz, q⟩ := h
  obtain ⟨t, rfl⟩ := rx
  obtain ⟨u, rfl, ru⟩ := vals1 rv
  obtain ⟨t2, rfl⟩ := ru
  have sz := sizeLine_eq
  have lay : ∀ (a b c : Str) (ta tb tc : Tok) (k : Nat), Inv X pins σ (upd H s.heap.objs.size (.tup [.str a, .str b, .str c])) { s with heap := s.heap.push { cls := .type "tuple", data := .seq [Value.str a ta, .str b tb, .str c tc].toArray }, toks := k } := fun a b c ta tb tc k =>
    I.laid (t' := k) (fun b o e => Heap.get?_push_of_some _ e) (Nat.le_refl _) (show ObjOk X.prog X.w _ _ _ (.tup [.str a, .str b, .str c]) from ⟨by show 3 ≤ sizeLine; omega, _, .cons ⟨ta, rfl⟩ (.cons ⟨tb, rfl⟩ (.cons ⟨tc, rfl⟩ .nil)), IsTup.new _ _⟩)
  have q' := q _ (I.hok.fresh (Nat.le_refl _))
  refine call_meets F.slot_str_partition (typeIs_str _ _ _) F.entry_str_partition (F.args_str_partition_2 _ _) (meets_str_partition z y t t2 (by simp; omega) (by omega)) ?_
  unfold Txt.partition at q'
  revert q'
  cases Builtin.Str.occurrences z y 0 z.length 1 with
  | nil => intro q'; exact ⟨.ref _, _, lay _ _ _ _ _ _ _, rfl, q'⟩
  | cons i r => intro q'; exact ⟨.ref _, _, lay _ _ _ _ _ _ _, rfl, q'⟩
def rSplit : V → List V → Hp → VK → Prop := fun x vs H Q => ∃ z y, x = .str z ∧ vs = [.str y] ∧ 0 < y.length ∧ z.length ≤ 1000 ∧ ∀ l, H l = none → Q (.ref l) (upd H l (.lst ((Txt.split z y).map V.str)))
end
end L2
namespace L2
open PySem PySem.Spec PyProof.Rows
/-! ### text[-k], texts with fields, texts joined from behind -/
section
variable {X : Cx} {a b : Expr} {ta tb : TE} {pos : Pos}
theorem pe_item_strM (ha : PE X a ta) (hb : PE X b tb) (hs : PlainIxT b) :
    PE X (.Subscript a b pos) (tOp (fun x y H Q => ∃ z i c, x = .str z ∧ y = .int i ∧ i < 0 ∧ 0 ≤ i + z.length ∧ z.length ≤ 1000 ∧ z.cps[(i + z.length).toNat]? = some c ∧ Q (.str ⟨#[c]⟩) H) ta tb) := by
  intro pins s σ H Q I h
  refine Subscript_ (binT ha hb I h fun v u s2 x y H2 I2 rx ry q => ?_)
  obtain ⟨z, i, c, rfl, rfl, i0, i1, zl, hc, q⟩ := q
  obtain ⟨t, rfl⟩ := rx
  obtain ⟨t', rfl⟩ := ry
  have ix : seqIndex? i z.length = some (i + z.length).toNat := seqIndex_neg i0 (by omega)
  exact tail_any (typeIs_str s2 z t) slot_str_getitem.lookup (getItem_str (c := c) (by
    have f1 : decide (i < -(2 ^ 63 : Int)) = false := decide_eq_false (by omega)
    have f2 : decide (i ≥ 2 ^ 63) = false := decide_eq_false (by omega)
    rw [f1, f2] <;> rfl) (by rw [ix]; exact hc) ⟨.str ⟨#[c]⟩, H2, I2.tok _, ⟨_, rfl⟩, q⟩) (hs _ _)
/-- the pieces of a text with fields, behind what stands so far -/
def PJ (X : Cx) (es : List Expr) (t : Str → St → Hp → (Str → Hp → Prop) → Prop) : Prop :=
  ∀ (pins : List (Addr × Obj)) (s : Shared) (σ : St) (H : Hp) (acc : Str) (Q : Str → Hp → Prop), Inv X pins σ H s → t acc σ H Q →
    Joins (model X.prog X.w) X.A X.xe (evalEach es X.env) acc (fun out s1 => ∃ H1, Inv X pins σ H1 s1 ∧ Q out H1) s
def jNil : Str → St → Hp → (Str → Hp → Prop) → Prop := fun acc _ H Q => Q acc H
def jCons (te : TE) (t : Str → St → Hp → (Str → Hp → Prop) → Prop) : Str → St → Hp → (Str → Hp → Prop) → Prop := fun acc σ H Q => te σ H fun x H1 => ∃ z, x = .str z ∧ acc.length + z.length ≤ 16777216 ∧ t (acc ++ z) σ H1 Q
variable {e : Expr} {es : List Expr} {te : TE} {t : Str → St → Hp → (Str → Hp → Prop) → Prop}
theorem pj_nil : PJ X [] jNil := fun _ _ _ H _ _ I h => ⟨H, I, h⟩
theorem pj_txt (he : PE X e te) (hr : PJ X es t) : PJ X (e :: es) (jCons te t) := by
  intro pins s σ H acc Q I h
  refine thn (he pins s σ H _ I h) fun v s1 ⟨x, H1, I1, r1, z, ex, hz, q⟩ => ?_
  subst ex
  obtain ⟨tk, rfl⟩ := r1
  exact ⟨z, tk, rfl, by rw [Str.length_append, sizeLine_eq]; exact hz, hr pins s1 σ H1 _ Q I1 q⟩
theorem pj_val (he : PE X e te) (hr : PJ X es t) : PJ X (.FormattedValue e (-1) none pos :: es) (jCons te t) := by
  intro pins s σ H acc Q I h
  refine wpAny_FormattedValue_plain (thn (he pins s σ H _ I h) fun v s1 ⟨x, H1, I1, r1, z, ex, hz, q⟩ => ?_)
  subst ex
  obtain ⟨tk, rfl⟩ := r1
  have sz := sizeLine_eq
  have lz : (acc ++ z).length ≤ sizeLine := by rw [Str.length_append, sz]; exact hz
  exact wpAny_formatField_str ⟨z, tk, rfl, lz, hr pins s1 σ H1 _ Q I1 q⟩ ⟨z, _, rfl, lz, hr pins _ σ H1 _ Q (I1.tok _) q⟩ (by omega)
def tFs (t : Str → St → Hp → (Str → Hp → Prop) → Prop) : TE := fun σ H Q => t Str.empty σ H fun out H1 => out.length ≤ 16777216 ∧ Q (.str out) H1
theorem pe_fstr {v1 v2 : Expr} {rest : List Expr} (h : PJ X (v1 :: v2 :: rest) t) : PE X (.JoinedStr (v1 :: v2 :: rest) pos) (tFs t) := by
  intro pins s σ H Q I q
  refine wpAny_JoinedStr ?_
  have J := h pins s σ H Str.empty _ I q
  have mono : ∀ (l : List (Sem Value)) (acc : Str) (R R' : Str → Shared → Prop) (s : Shared), (∀ o s, R o s → R' o s) → Joins (model X.prog X.w) X.A X.xe l acc R s → Joins (model X.prog X.w) X.A X.xe l acc R' s := by
    intro l
    induction l with
    | nil => exact fun acc R R' s g j => g _ _ j
    | cons m l ih => exact fun acc R R' s g j => thn j fun v s1 ⟨y, t1, e1, h1, j1⟩ => ⟨y, t1, e1, h1, ih _ _ _ _ g j1⟩
  refine mono _ _ _ _ _ (fun o s1 w1 => ?_) J
  obtain ⟨H1, I1, ho, hq⟩ := w1
  exact ⟨by rw [sizeLine_eq]; exact ho, .str o, H1, I1.tok _, ⟨_, rfl⟩, hq⟩
end
/-! .. joined from behind: what reversed gives is gathered first -/
theorem lri_nolen : typeLookup (.type "list_reverseiterator") "__len__" = pure none := by rw [typeLookup_type, builtinLookup_eq_fast]; kernel_rfl
theorem lri_hint : typeLookup (.type "list_reverseiterator") "__length_hint__" = pure (some (.builtin "list_reverseiterator.__length_hint__")) := by rw [typeLookup_type, builtinLookup_eq_fast]; kernel_rfl
theorem gather_rev {prog : Program} {w : World} {A : Around} {E : Value → Shared → Prop} {s : Shared} {it l : Addr} {xs : Array Value} {Q : List Value → Shared → Prop} (hh : A.handled = none) (ne : l ≠ it)
    (st : s.heap.IsRevIter it l ((xs.size : Int) - 1)) (li : s.heap.IsList l xs) (sz : xs.size ≤ sizeLine)
    (q : ∀ s' acc, Moved [it] (fun a b => b = a) s s' → ItemsOf (fun i v => xs[xs.size - 1 - i]? = some v) acc xs.size → Q acc.toList s') : wpAny (model prog w) A (collect (.ref it)) Q E s := by
  have W := (Walks.listRev (prog := prog) (w := w) (A := A.in1) hh it l ne xs).toS
  have hT : ∀ (i : Nat) (s : Shared), (i ≤ xs.size ∧ s.heap.IsRevIter it l ((xs.size : Int) - 1 - (i : Int)) ∧ s.heap.IsList l xs) → s.TypeIs (.ref it) "list_reverseiterator" := fun _ _ g => g.2.1.typeIs
  have st0 : 0 ≤ xs.size ∧ s.heap.IsRevIter it l ((xs.size : Int) - 1 - ((0 : Nat) : Int)) ∧ s.heap.IsList l xs := ⟨Nat.zero_le _, by rw [show (xs.size : Int) - 1 - ((0 : Nat) : Int) = (xs.size : Int) - 1 by omega]; exact st, li⟩
  have lt1 : it < s.heap.objs.size := by obtain ⟨o, ho, _⟩ := st; exact Heap.lt_size ho
  have lt2 : l < s.heap.objs.size := by obtain ⟨o, ho, _⟩ := li; exact Heap.lt_size ho
  have nf : s.heap.objs.size ∉ [it, l] := fun m => by
    rcases List.mem_cons.mp m with m | m
    · exact absurd (m ▸ lt1) (Nat.lt_irrefl _)
    · exact absurd (List.mem_singleton.mp m ▸ lt2) (Nat.lt_irrefl _)
  have n1 : s.heap.objs.size ≠ it := fun m => absurd (m ▸ lt1) (Nat.lt_irrefl _)
  unfold collect
  refine wpAny_bind (wpAny_runValue (codeAny_builtin F.entry_proto_collect ?_))
  rw [Around.under_plainId F.plain_proto_collect _]
  refine wpAny_bind (m := newList []) (wpAny_newObj_type ?_)
  refine wpAny_pure ⟨plainId_quiet F.plain_list_iadd _, codeAny_builtin F.entry_list_iadd ?_⟩
  rw [Around.under_plainId F.plain_list_iadd _]
  have st1 := W.frame 0 s (s.heap.push { cls := .type "list", data := .seq (([] : List Value)).toArray }) s.toks st0 (Nat.le_refl _) fun b _ o e => Heap.get?_push_of_some _ e
  have eL : (s.heap.push { cls := .type "list", data := .seq (([] : List Value)).toArray }).get? s.heap.objs.size = some { cls := .type "list", data := .seq (([] : List Value)).toArray } := Heap.get?_push_size _ rfl
  have same : Builtin.List.listSameRef (.ref s.heap.objs.size) (.ref it) = false := by simp [Builtin.List.listSameRef, n1]
  show wpAny _ A.in1 (Builtin.List.listExtendWith (.ref s.heap.objs.size) (.ref it) (.ref s.heap.objs.size)) _ _ _
  unfold Builtin.List.listExtendWith
  refine wpAny_bind (wpAny_typeOf (hT 0 _ st1) ?_)
  rw [if_neg (by rw [same]; decide)]
  refine wpAny_bind (W.self 0 _ _ _ st1 ?_)
  refine wpAny_bind (wpAny_holding ?_)
  unfold Builtin.List.listLengthHint
  refine wpAny_bind (wpAny_specialOf (hT 0 _ st1) lri_nolen ?_)
  refine wpAny_bind (m := specialOf (Value.ref it) (Str.ofString "__length_hint__")) (wpAny_specialOf (hT 0 _ st1) lri_hint ?_)
  generalize hid : ("list_reverseiterator.__length_hint__" : String) = id0
  fail_if_success (clear hid id0)
  wp_delta
  rw [show splitId id0 = some ("list_reverseiterator", "__length_hint__") from by subst hid; decide +kernel]
  subst hid
  refine wpAny_bind (wpAny_isInstance (b := true) (hT 0 _ st1) (by rw [isSubtype_type]; kernel_rfl) ?_)
  refine wpAny_pure ?_
  rw [if_neg (by decide)]
  refine wpAny_pure ⟨plainId_quiet F.plain_extend_loop _, codeAny_extend_loopS W sz _ nf _ xs.size 0 _ _ _ rfl (Nat.zero_le _) st1 eL (ItemsOf.nil _) fun s2 acc c2 mv e2 it2 => ?_⟩
  refine wpAny_bind (m := load s.heap.objs.size) (wpAny_load e2 ?_)
  exact wpAny_pure (q s2 acc (Moved.drop_new (o := { cls := .type "list", data := .seq (([] : List Value)).toArray }) (tk := s.toks) mv (Nat.le_refl _)) it2)
def tJoinRev (K : PySem.W.Frag) (to : TE) (ta : TA) : TE := fun σ H Q => to σ H fun x H1 => ∃ z, x = .str z ∧ ta σ H1 fun vs H2 => ∃ (a : Addr) (zs : List Str), vs = [.ref a] ∧ SqL K H2 a (zs.map V.str) ∧ (zs.reverse.map (·.length)).sum + zs.reverse.length * z.length ≤ 16777216 ∧ Q (.str (Txt.join z zs.reverse)) H2
theorem rev_strs {us acc : Array Value} {zs : List Str} (r : Vals (zs.map V.str) us.toList) (h : ItemsOf (fun i v => us[us.size - 1 - i]? = some v) acc us.size) : StrsAre acc.toList zs.reverse := by
  have e : acc.toList = us.toList.reverse := by
    apply List.ext_getElem?
    intro j
    by_cases hj : j < us.size
    · have g := h.2 j (acc[j]'(by rw [h.1]; exact hj)) (Array.getElem?_eq_getElem _)
      rw [Array.getElem?_toList, Array.getElem?_eq_getElem (by rw [h.1]; exact hj), List.getElem?_reverse (by simpa using hj), Array.length_toList, Array.getElem?_toList, g]
    · rw [List.getElem?_eq_none (by rw [Array.length_toList, h.1]; omega), List.getElem?_eq_none (by rw [List.length_reverse, Array.length_toList]; omega)]
  rw [e]
  have key : ∀ (us : List Value) (zs : List Str), StrsAre us zs → StrsAre us.reverse zs.reverse := by
    have snoc : ∀ (us : List Value) (zs : List Str) (z : Str) (t : Tok), StrsAre us zs → StrsAre (us ++ [.str z t]) (zs ++ [z]) := by
      intro us zs z t h
      induction h with
      | nil => exact .cons _ _ .nil
      | cons y u _ ih => exact .cons _ _ ih
    intro us zs h
    induction h with
    | nil => exact .nil
    | cons y u _ ih => rw [List.reverse_cons, List.reverse_cons]; exact snoc _ _ _ _ ih
  exact key _ _ (strs_are r)
theorem pe_joinRev {X : Cx} {o e1 : Expr} {to : TE} {ta : TA} {apos cpos rpos p : Pos} (hg : Gl X "reversed") (hm : X.mg "reversed" = none) (ho : PE X o to) (ha : PA X [e1] ta) (hc : X.calm = true := by rfl)
    (hbase : attributeBase o "join" X.env (eval o X.env) = eval o X.env := by rfl)
    (hfew : ((backTo cpos (starEach [.Call (.Name "reversed" p) [e1] [] rpos] X.env)).all (fun x => !x.1) && (backToKw cpos (keywordEach [] X.env)).all (fun x => x.1.isSome)
      && decide ([Expr.Call (.Name "reversed" p) [e1] [] rpos].length + ([] : List Keyword).length + (if ([] : List Keyword).isEmpty then 0 else 1) < 30)) = true := by rfl)
    (hline : (apos.endLine == cpos.line) = true := by rfl) (hs : starEach [.Call (.Name "reversed" p) [e1] [] rpos] X.env = [(false, eval (.Call (.Name "reversed" p) [e1] [] rpos) X.env)] := by rfl) (hs1 : starEach [e1] X.env = [(false, eval e1 X.env)] := by rfl) :
    PE X (.Call (.Attribute o "join" apos) [.Call (.Name "reversed" p) [e1] [] rpos] [] cpos) (tJoinRev X.K to ta) := by
  intro pins s σ H Q I h
  refine wpAny_Call_method_late hbase hfew hline rfl (thn (ho pins s σ H _ I h) fun v s1 ⟨x, H1, I1, r1, z, ex, q1⟩ => ?_)
  subst ex
  obtain ⟨tk, rfl⟩ := r1
  refine ⟨"str", "str.join", PySem.F.plainAttrs_str, PySem.F.slot_str_join, PySem.F.type_str_join, typeIs_str _ _ _, (fun _ e => nomatch e), ?_⟩
  rw [hs]
  refine Calls.callWith_builtin rfl (Calls.evalArgs_plain (Calls.spliced_cons ?_))
  refine Call_ (ld_blt I1 hg hm boot_reversed (PyProof.Rows.callWith_type1 (thn (ha rpos pins s1 σ H1 _ I1 q1) fun us s2 ⟨vs, H2, I2, r2, q2⟩ => ?_) hs1 rfl))
  obtain ⟨a, zs, ev, hq, hz, q⟩ := q2
  subst ev
  obtain ⟨u, rfl, rx⟩ := vals1 r2
  cases rx
  obtain ⟨its, rv, pl, lz⟩ := I2.list hq
  refine call_reversed_list pl.isList (Calls.spliced_nil ?_)
  have I3 : Inv X pins σ H2 { s2 with heap := s2.heap.push (revObj a ((its.toArray.size : Int) - 1)) } := I2.kept (t' := s2.toks) fun b o e => Heap.get?_push_of_some _ e
  have st : (s2.heap.push (revObj a ((its.toArray.size : Int) - 1))).IsRevIter s2.heap.objs.size a ((its.toArray.size : Int) - 1) := ⟨_, Heap.get?_push_size _ rfl, rfl, rfl⟩
  have li : (s2.heap.push (revObj a ((its.toArray.size : Int) - 1))).IsList a its.toArray := pl.isList.at fun o e => Heap.get?_push_of_some _ e
  have ne : a ≠ s2.heap.objs.size := by obtain ⟨o, e, _⟩ := pl.isList; exact fun m => absurd (m ▸ Heap.lt_size e) (Nat.lt_irrefl _)
  refine wpAny_call (codeAny_call_builtin F.slot_str_join.plain F.entry_str_join (F.slot_str_join.check _ _ _ _ _ _ _ _ (typeIs_str _ _ _) (F.args_str_join_2 _ _) ?_))
  show wpAny _ _ (Builtin.«str.join» ⟨[.str z tk, .ref s2.heap.objs.size], []⟩) _ _ _
  rw [join_tree_other]
  refine wpAny_bind (wpAny_typeOf st.typeIs ?_)
  rw [if_neg (by decide)]
  refine wpAny_bind (wpAny_tryCatch (wpAny_pyIter_revIter st ?_))
  have sl : its.toArray.size ≤ sizeLine := by rw [List.size_toArray, ← rv.length]; exact lz
  refine wpAny_bind (gather_rev (I3.ok.hd hc) ne st li sl fun s4 acc mv ia => ?_)
  obtain ⟨l, e1, e2⟩ := strsAre_values (rev_strs (by simpa using rv) ia)
  have fp := I2.fpOk (Nat.le_refl _) (I2.hok.fresh (Nat.le_refl _))
  have I4 : ∀ k, Inv X pins σ H2 { s4 with toks := k } := fun k => by
    have I5 := I3.turned (h' := s4.heap) (t' := k) (it := s2.heap.objs.size) (fun b o hb e => mv.heap b o (fun m => hb (List.mem_singleton.mp m)) e) fp.1 fp.2.1 fp.2.2.2.1 fp.2.2.2.2.1 fp.2.2.2.2.2
    have f1 : s4.gens = s2.gens := mv.gens
    have f2 : s4.drawn = s2.drawn := mv.drawn
    have f3 : s4.os = s2.os := mv.os
    rw [f1, f2, f3]
    exact I5
  have ok := joinOk_of hz
  rw [← e2] at ok
  unfold JoinOk at ok
  rw [Bool.not_eq_true'] at ok
  have gv : ∀ l : List (Str × Tok), Builtin.Str.tooLong (((l.map (·.1)).toArray).foldl (fun x1 x2 => x1 + x2.length + z.length) 0) = false → Gives (joinTail z (strValues l)) (joinMade z l) := fun l ok => by
    have g0 := gives_joinTail z l ok
    cases l with
    | nil => exact g0
    | cons p r => cases r <;> exact g0
  rw [e1]
  refine gv l ok _ _ _ (wants _ _) _ (post_join l ⟨joinFit_length ok, fun t2 k => ?_⟩)
  rw [e2]
  exact ⟨.str _, H2, I4 k, ⟨_, rfl⟩, q⟩
theorem comp_rngN {lo : Int} {n : Nat} {ix : List Nat} {te : TE} {σ : St} {l : Addr} {H : Hp} {R : Hp → Prop} (hl : H l = none) (hz : n ≤ sizeLine) (P : Nat → V → Hp → Prop)
    (mono : ∀ i v H1 H2, Same H1 H2 → P i v H1 → P i v H2) (put : ∀ i v H1 ys zs, H1 l = some (.lst ys) → P i v H1 → P i v (upd H1 l (.lst zs)))
    (hel : ∀ (i : Nat) H' Q', i < n → Same H H' → (∀ v H2, Same H' H2 → P i v H2 → Q' v H2) → te (some (.int (lo + i)) :: capts σ ix) H' Q')
    (fin : ∀ ys H', Same H H' → H' l = some (.lst ys) → ys.length = n → (∀ (j : Nat) v, ys[j]? = some v → P j v H') → R H') :
    ∃ W : Nat → Nat → List V → Hp → Prop, (∃ m, W 0 m [] (upd H l (.lst []))) ∧ Turns ix te σ (Itr lo n) l R W := by
  refine ⟨fun i m ys H' => m = n - i ∧ i ≤ n ∧ ys.length = i ∧ (∀ (j : Nat) v, ys[j]? = some v → P j v H') ∧ Same H H' ∧ H' l = some (.lst ys), ⟨n, by simp, Nat.zero_le _, rfl, (fun j v e => by simp at e), same_new hl _, upd_same⟩, ?_⟩
  rintro i m ys H' ⟨rfl, hi, hx, hp, sH, hL⟩
  refine ⟨hL, ?_⟩
  by_cases hlt : i < n
  · refine .inr ⟨hlt, by omega, fun x H2 y => ?_⟩
    obtain ⟨rfl, rfl⟩ := y
    refine hel i _ _ hlt sH fun v H3 s3 hv => ⟨s3 _ _ hL, n - (i + 1), by omega, rfl, hlt, by rw [List.length_append, hx]; rfl, fun j w e => ?_, same_put (sH.trans s3) hl, upd_same⟩
    by_cases hj : j < ys.length
    · rw [List.getElem?_append_left hj] at e
      exact put _ _ _ _ _ (s3 _ _ hL) (mono _ _ _ _ s3 (hp j w e))
    · by_cases hj2 : j = ys.length
      · subst hj2
        rw [List.getElem?_append_right (Nat.le_refl _), Nat.sub_self] at e
        cases e
        rw [hx]
        exact put _ _ _ _ _ (s3 _ _ hL) hv
      · rw [List.getElem?_eq_none (by rw [List.length_append, List.length_singleton]; omega)] at e
        cases e
  · exact .inl ⟨show n ≤ i by omega, fin ys H' sH hL (by omega) hp⟩
end L2
namespace L2
open PySem
/-! ### the figures of a whole number (no Python) -/
def dg (m : Nat) : List Nat := (Nat.toDigits 10 m).map Char.toNat
theorem dg_text (m : Nat) : (Str.ofString (toString (m : Int))).cps.toList = dg m := PySem.W.KIN.signs_num m
theorem dg_lt {m : Nat} (h : m < 10) : dg m = [48 + m] := by
  unfold dg
  rw [Nat.toDigits_of_lt_base h]
  match m, h with
  | 0, _ | 1, _ | 2, _ | 3, _ | 4, _ | 5, _ | 6, _ | 7, _ | 8, _ | 9, _ => rfl
  | n + 10, h => omega
theorem dg_ge {m : Nat} (h : 10 ≤ m) : dg m = dg (m / 10) ++ [48 + m % 10] := by
  have e := dg_lt (m := m % 10) (Nat.mod_lt _ (by decide))
  unfold dg at e ⊢
  rw [Nat.toDigits_of_base_le (by decide) h, List.map_append, ← e, Nat.toDigits_of_lt_base (Nat.mod_lt _ (by decide))]
def dz : Nat → Nat → List Nat
  | 0, _ => []
  | k + 1, m => dz k (m / 10) ++ [48 + m % 10]
theorem dg_cut : ∀ k m, 10 ^ k ≤ m → dg m = dg (m / 10 ^ k) ++ dz k (m % 10 ^ k)
  | 0, m, _ => by simp [dz]
  | k + 1, m, h => by
    have p : 10 ^ (k + 1) = 10 * 10 ^ k := by rw [Nat.pow_succ, Nat.mul_comm]
    have p0 : 0 < 10 ^ k := Nat.pow_pos (by decide)
    have m10 : 10 ≤ m := by rw [p] at h; omega
    rw [dg_ge m10, dg_cut k (m / 10) (by rw [p] at h; exact (Nat.le_div_iff_mul_le (by decide)).mpr (by omega))]
    rw [dz, p, Nat.mod_mul_right_div_self, Nat.mod_mul_right_mod, Nat.div_div_eq_div_mul, List.append_assoc]
theorem dz_pad : ∀ k m, m < 10 ^ (k + 1) → dz (k + 1) m = List.replicate (k + 1 - (dg m).length) 48 ++ dg m
  | 0, m, h => by rw [dg_lt (by omega)]; simp [dz]; omega
  | k + 1, m, h => by
    have p : 10 ^ (k + 1 + 1) = 10 * 10 ^ (k + 1) := by rw [Nat.pow_succ, Nat.mul_comm]
    rw [dz]
    by_cases m10 : m < 10
    · have e := dz_pad k 0 (Nat.pow_pos (by decide))
      rw [Nat.div_eq_of_lt m10, e, dg_lt m10, dg_lt (m := 0) (by decide), Nat.mod_eq_of_lt m10]
      show List.replicate k 48 ++ [48] ++ [48 + m] = List.replicate (k + 1) 48 ++ [48 + m]
      rw [List.replicate_succ']
    · rw [dz_pad k (m / 10) (by rw [p] at h; omega), dg_ge (m := m) (by omega), List.length_append, List.append_assoc]
      congr 2
      simp
theorem dg_fig : ∀ m, ∀ c ∈ dg m, 48 ≤ c ∧ c ≤ 57 := by
  intro m
  induction m using Nat.strongRecOn with
  | ind m ih =>
    intro c hc
    by_cases h : m < 10
    · rw [dg_lt h, List.mem_singleton] at hc; omega
    · rw [dg_ge (by omega)] at hc
      rcases List.mem_append.mp hc with hc | hc
      · exact ih (m / 10) (by omega) c hc
      · rw [List.mem_singleton] at hc; omega
theorem dg_ne (m : Nat) : dg m ≠ [] := by
  by_cases h : m < 10
  · rw [dg_lt h]; simp
  · rw [dg_ge (by omega)]; simp
theorem dg_head : ∀ m, m ≠ 0 → (dg m)[0]? ≠ some 48 := by
  intro m
  induction m using Nat.strongRecOn with
  | ind m ih =>
    intro h0 hc
    by_cases h : m < 10
    · rw [dg_lt h] at hc; simp at hc; omega
    · rw [dg_ge (by omega), List.getElem?_append_left (List.length_pos_iff.mpr (dg_ne _))] at hc
      exact ih (m / 10) (by omega) (by omega) hc
theorem dg_len : ∀ k m, m < 10 ^ (k + 1) → (dg m).length ≤ k + 1
  | 0, m, h => by rw [dg_lt (by omega)]; simp
  | k + 1, m, h => by
    by_cases m10 : m < 10
    · rw [dg_lt m10]; simp
    · have p : 10 ^ (k + 1 + 1) = 10 * 10 ^ (k + 1) := by rw [Nat.pow_succ, Nat.mul_comm]
      rw [dg_ge (by omega), List.length_append]
      have := dg_len k (m / 10) (by rw [p] at h; omega)
      simp
      omega
theorem zfill_dg {z : Str} {m k : Nat} (h : z.cps.toList = dg m) (hm : m < 10 ^ (k + 1)) : (Txt.zfill z ((k + 1 : Nat) : Int)).cps.toList = dz (k + 1) m := by
  have zl : z.length = (dg m).length := by rw [← h]; exact Array.length_toList.symm
  have le := dg_len k m hm
  rw [dz_pad k m hm]
  unfold Txt.zfill
  by_cases q : ((k + 1 : Nat) : Int) ≤ z.length
  · rw [if_pos q, show k + 1 - (dg m).length = 0 by omega, h]; rfl
  · rw [if_neg q]
    have c0 : ∃ c, z.cps[0]? = some c ∧ 48 ≤ c := by
      cases e : dg m with
      | nil => exact absurd e (dg_ne m)
      | cons c r => exact ⟨c, by rw [← Array.getElem?_toList, h, e]; rfl, (dg_fig m c (by rw [e]; exact List.mem_cons_self)).1⟩
    obtain ⟨c, hc, c48⟩ := c0
    have pe : zfilled z (((k + 1 : Nat) : Int).toNat - z.length) = Builtin.Str.padded z (((k + 1 : Nat) : Int).toNat - z.length) 0 48 := by
      unfold zfilled
      rw [hc]
      split
      · rename_i e; cases e; omega
      · rename_i e; cases e; omega
      · rfl
    rw [pe]
    unfold Builtin.Str.padded
    simp [h, zl]
theorem join_none : ∀ zs : List Str, (Str.join ⟨#[]⟩ zs).cps.toList = (zs.map fun z => z.cps.toList).flatten
  | [] => rfl
  | [z] => by simp [Str.join]
  | z :: y :: r => by
    rw [show Str.join ⟨#[]⟩ (z :: y :: r) = z ++ ⟨#[]⟩ ++ Str.join ⟨#[]⟩ (y :: r) from rfl]
    show ((z.cps ++ #[]) ++ (Str.join ⟨#[]⟩ (y :: r)).cps).toList = _
    rw [Array.toList_append, Array.toList_append, join_none (y :: r)]
    simp
/-! ### signs that are figures; what a text of figures, of cents tells -/
def figB (c : Nat) : Bool := decide (48 ≤ c) && decide (c ≤ 57)
theorem fig_iff {c : Nat} : figB c = true ↔ 48 ≤ c ∧ c ≤ 57 := by simp [figB]
theorem fig_in (c : Nat) : (!(Builtin.Str.occurrences (Str.ofString "0123456789") ⟨#[c]⟩ 0 (Str.ofString "0123456789").length 1).isEmpty) = figB c := by
  rw [PySem.StrLaws.found_one]
  have e : (Str.ofString "0123456789").cps.toList = [48, 49, 50, 51, 52, 53, 54, 55, 56, 57] := by decide +kernel
  rw [e, Bool.eq_iff_iff]
  simp [figB]
  omega
def fval (l : List Nat) : Int := l.foldl (fun (v : Int) (c : Nat) => 10 * v + ((c : Int) - 48)) 0
theorem fval_snoc (l : List Nat) (c : Nat) : fval (l ++ [c]) = 10 * fval l + ((c : Int) - 48) := by unfold fval; rw [List.foldl_append]; rfl
theorem fig_find (c : Nat) : Txt.find (Str.ofString "0123456789") ⟨#[c]⟩ = if figB c = true then (c : Int) - 48 else -1 := by
  by_cases h : figB c = true
  · rw [if_pos h]
    obtain ⟨k, rfl, hk⟩ : ∃ k, c = 48 + k ∧ k < 10 := ⟨c - 48, by have := fig_iff.mp h; omega, by have := fig_iff.mp h; omega⟩
    clear h
    revert hk
    revert k
    decide +kernel
  · rw [if_neg h]
    have e := fig_in c
    rw [Bool.eq_false_iff.mpr h] at e
    unfold Txt.find
    cases q : Builtin.Str.occurrences (Str.ofString "0123456789") ⟨#[c]⟩ 0 (Str.ofString "0123456789").length 1 with
    | nil => rfl
    | cons i r => rw [q] at e; simp at e
theorem figs_val : ∀ (l : List Nat) (v : Nat), l.all figB = true → ((l.foldl (fun acc c => acc * 10 + (c - 48)) v : Nat) : Int) = l.foldl (fun (v : Int) (c : Nat) => 10 * v + ((c : Int) - 48)) (v : Int)
  | [], _, _ => rfl
  | c :: l, v, h => by
    rw [List.all_cons, Bool.and_eq_true] at h
    have c48 := fig_iff.mp h.1
    rw [List.foldl_cons, List.foldl_cons, figs_val l _ h.2]
    congr 1
    omega
theorem fval_eq {l : List Nat} (h : l.all figB = true) : fval l = ((PySem.NumText.digitsVal l : Nat) : Int) := (figs_val l 0 h).symm
theorem fval_nn {l : List Nat} (h : l.all figB = true) : 0 ≤ fval l := by rw [fval_eq h]; omega
theorem fig_text {z : Str} (h : z.cps.toList.all figB = true) (h1 : z.cps.toList ≠ []) (h2 : z.length ≤ 4300) : PySem.intText? z = some (fval z.cps.toList) := by
  rw [PySem.intText_digits (fun c hc => by simpa [figB] using List.all_eq_true.mp h c hc) h1 h2, fval_eq h]
theorem dg_all (m : Nat) : (dg m).all figB = true := List.all_eq_true.mpr fun c hc => fig_iff.mpr (dg_fig m c hc)
theorem dg_val (m : Nat) : fval (dg m) = m := by rw [fval_eq (dg_all m)]; exact congrArg Int.ofNat (PySem.W.KIN.val_back m)
/-- a whole number's text: one to thirty figures, no nought ahead -/
def wholeL (l : List Nat) : Option Int := if (1 ≤ l.length ∧ l.length ≤ 30) ∧ (l[0]? = some 48 → l.length = 1) ∧ l.all figB = true then some (fval l) else none
def coinsL (l : List Nat) : Option Int := if 3 ≤ l.length ∧ l[l.length - 3]? = some 46 ∧ (l.drop (l.length - 2)).all figB = true then (wholeL (l.take (l.length - 3))).map (fun w => 100 * w + fval (l.drop (l.length - 2))) else none
def centsL (l : List Nat) : Option Int := if l[0]? = some 45 then (coinsL (l.drop 1)).bind (fun c => if c = 0 then none else some (-c)) else coinsL l
def rateL (l : List Nat) : Option Int := (centsL l).bind fun r => if 0 ≤ r ∧ r ≤ 1000000 then some r else none
theorem whole_nn {l : List Nat} {n : Int} (h : wholeL l = some n) : 0 ≤ n ∧ l.all figB = true ∧ 1 ≤ l.length := by
  unfold wholeL at h
  split at h
  · rename_i q; cases h; exact ⟨fval_nn q.2.2, q.2.2, q.1.1⟩
  · cases h
theorem coins_nn {l : List Nat} {n : Int} (h : coinsL l = some n) : 0 ≤ n ∧ ∃ c, l[0]? = some c ∧ figB c = true := by
  unfold coinsL at h
  split at h
  · rename_i q
    obtain ⟨w, hw, rfl⟩ := Option.map_eq_some_iff.mp h
    obtain ⟨w0, wf, wl⟩ := whole_nn hw
    refine ⟨by have := fval_nn q.2.2; omega, ?_⟩
    cases l with
    | nil => simp at q
    | cons c r =>
      refine ⟨c, rfl, ?_⟩
      rw [List.length_take] at wl
      obtain ⟨k, hk⟩ : ∃ k, (c :: r).length - 3 = k + 1 := ⟨(c :: r).length - 4, by omega⟩
      rw [hk, List.take_succ_cons, List.all_cons, Bool.and_eq_true] at wf
      exact wf.1
  · cases h
theorem coins_part {l a b : List Nat} (h : (46 ∉ l ∧ b = []) ∨ (l = a ++ 46 :: b ∧ 46 ∉ a)) : coinsL l = if b.length = 2 ∧ b.all figB = true then (wholeL a).map (fun w => 100 * w + fval b) else none := by
  rcases h with ⟨hl, rfl⟩ | ⟨rfl, ha⟩
  · rw [if_neg (by simp)]
    exact if_neg fun q => hl (List.mem_of_getElem? q.2.1)
  · have ll : (a ++ 46 :: b).length = a.length + (b.length + 1) := by simp
    have nf : figB 46 = false := by decide
    by_cases hb : b.length = 2
    · have e1 : (a ++ 46 :: b).length - 3 = a.length := by omega
      have e2 : (a ++ 46 :: b).length - 2 = a.length + 1 := by omega
      have e3 : (a ++ 46 :: b).drop (a.length + 1) = b := by rw [List.drop_append]; simp
      unfold coinsL
      rw [e1, e2, e3, List.take_left]
      by_cases hf : b.all figB = true
      · rw [if_pos ⟨by omega, by simp, hf⟩, if_pos ⟨hb, hf⟩]
      · rw [if_neg (fun q => hf q.2.2), if_neg (fun q => hf q.2)]
    · rw [if_neg (fun q => hb q.1)]
      unfold coinsL
      split
      · rename_i q
        obtain ⟨q1, q2, q3⟩ := q
        rcases Nat.lt_or_gt_of_ne hb with lt | gt
        · exfalso
          have m : 46 ∈ (a ++ 46 :: b).drop ((a ++ 46 :: b).length - 2) := by
            rw [List.mem_iff_getElem?]
            refine ⟨a.length - ((a ++ 46 :: b).length - 2), ?_⟩
            rw [List.getElem?_drop, show (a ++ 46 :: b).length - 2 + (a.length - ((a ++ 46 :: b).length - 2)) = a.length by omega]
            simp
          have := List.all_eq_true.mp q3 46 m
          rw [nf] at this
          cases this
        · have m : 46 ∈ (a ++ 46 :: b).take ((a ++ 46 :: b).length - 3) := by
            rw [List.mem_iff_getElem?]
            exact ⟨a.length, by rw [List.getElem?_take_of_lt (by omega)]; simp⟩
          cases w : wholeL ((a ++ 46 :: b).take ((a ++ 46 :: b).length - 3)) with
          | none => rfl
          | some n =>
            have := List.all_eq_true.mp (whole_nn w).2.1 46 m
            rw [nf] at this
            cases this
      · rfl
theorem cents_minus {l : List Nat} (h : l[0]? = some 45) : centsL l = (centsL (l.drop 1)).bind (fun c => if c ≤ 0 then none else some (-c)) := by
  rw [show centsL l = (coinsL (l.drop 1)).bind (fun c => if c = 0 then none else some (-c)) from if_pos h]
  by_cases h2 : (l.drop 1)[0]? = some 45
  · have e : coinsL (l.drop 1) = none := by
      cases w : coinsL (l.drop 1) with
      | none => rfl
      | some n =>
        obtain ⟨_, c, hc, fc⟩ := coins_nn w
        rw [h2] at hc
        cases hc
        cases fc
    rw [e, show centsL (l.drop 1) = (coinsL ((l.drop 1).drop 1)).bind (fun c => if c = 0 then none else some (-c)) from if_pos h2]
    cases w : coinsL ((l.drop 1).drop 1) with
    | none => rfl
    | some n =>
      have n0 := (coins_nn w).1
      show none = ((if n = 0 then none else some (-n)).bind fun c => if c ≤ 0 then none else some (-c) : Option Int)
      by_cases z : n = 0
      · rw [if_pos z]; rfl
      · rw [if_neg z]
        show none = (if -n ≤ 0 then none else _ : Option Int)
        rw [if_pos (by omega)]
  · rw [show centsL (l.drop 1) = coinsL (l.drop 1) from if_neg h2]
    cases w : coinsL (l.drop 1) with
    | none => rfl
    | some n =>
      have n0 := (coins_nn w).1
      show (if n = 0 then none else some (-n) : Option Int) = if n ≤ 0 then none else some (-n)
      by_cases z : n = 0
      · rw [if_pos z, if_pos (by omega)]
      · rw [if_neg z, if_neg (by omega)]
/-- what is written -/
def two (n : Int) : Str := ⟨#[48 + (n / 10).toNat, 48 + (n % 10).toNat]⟩
theorem two_eq {n : Int} (h0 : 0 ≤ n) (h1 : n ≤ 99) : Txt.zfill (Str.ofString (toString n)) 2 = two n := by
  obtain ⟨k, rfl⟩ := Int.eq_ofNat_of_zero_le h0
  have : k < 100 := by omega
  revert this
  clear h0 h1
  revert k
  decide +kernel
theorem two_law {n : Int} (h0 : 0 ≤ n) (h1 : n ≤ 99) : Str.ofString (toString (n / 10)) ++ Str.ofString (toString (n % 10)) = two n := by
  obtain ⟨k, rfl⟩ := Int.eq_ofNat_of_zero_le h0
  have : k < 100 := by omega
  revert this
  clear h0 h1
  revert k
  decide +kernel
theorem log2_small {f : Int} (h0 : 0 ≤ f) (h1 : f < 10 ^ 90) : f.natAbs.log2 < 1920 := by
  by_cases hz : f.natAbs = 0
  · rw [hz]; decide
  · exact (Nat.log2_lt hz).mpr (Nat.lt_of_lt_of_le (show f.natAbs < 10 ^ 90 by omega) (by decide +kernel))
def sgn (n : Int) : Str := if n < 0 then Str.ofString "-" else Str.ofString ""
noncomputable def shC (n : Int) : Str := sgn n ++ Str.ofString (toString ((n.natAbs / 100 : Nat) : Int)) ++ Str.ofString "." ++ two ((n.natAbs % 100 : Nat) : Int)
theorem app_list (a b : Str) : (a ++ b).cps.toList = a.cps.toList ++ b.cps.toList := by
  show (a.cps ++ b.cps).toList = _
  rw [Array.toList_append]
theorem str_ext {a b : Str} (h : a.cps.toList = b.cps.toList) : a = b := by
  obtain ⟨⟨a⟩⟩ := a
  obtain ⟨⟨b⟩⟩ := b
  have h : a = b := h
  rw [h]
theorem dot_list : (Str.ofString ".").cps.toList = [46] := by decide +kernel
theorem minus_list : (Str.ofString "-").cps.toList = [45] := by decide +kernel
theorem none_list : (Str.ofString "").cps.toList = [] := by decide +kernel
theorem shC_list (n : Int) : (shC n).cps.toList = (sgn n).cps.toList ++ (dg (n.natAbs / 100) ++ 46 :: [48 + n.natAbs % 100 / 10, 48 + n.natAbs % 100 % 10]) := by
  unfold shC
  rw [app_list, app_list, app_list, dg_text, dot_list, List.append_assoc, List.append_assoc]
  rfl
theorem coins_shown {m : Nat} (h : m < 10 ^ 30) : coinsL (dg (m / 100) ++ 46 :: [48 + m % 100 / 10, 48 + m % 100 % 10]) = some (m : Int) := by
  rw [coins_part (.inr ⟨rfl, fun q => by have := dg_fig _ _ q; omega⟩), if_pos ⟨rfl, by simp [figB]; omega⟩]
  have len := dg_len 27 (m / 100) (by omega)
  have w : wholeL (dg (m / 100)) = some ((m / 100 : Nat) : Int) := by
    have hq : (dg (m / 100))[0]? = some 48 → (dg (m / 100)).length = 1 := fun q => by
      by_cases z : m / 100 = 0
      · rw [z]; rfl
      · exact absurd q (dg_head _ z)
    unfold wholeL
    rw [if_pos ⟨⟨List.length_pos_iff.mpr (dg_ne _), by omega⟩, hq, dg_all _⟩, dg_val]
  rw [w]
  show some (100 * ((m / 100 : Nat) : Int) + fval [48 + m % 100 / 10, 48 + m % 100 % 10]) = _
  rw [show fval [48 + m % 100 / 10, 48 + m % 100 % 10] = 10 * (10 * 0 + (((48 + m % 100 / 10 : Nat) : Int) - 48)) + (((48 + m % 100 % 10 : Nat) : Int) - 48) from rfl]
  congr 1
  omega
theorem cents_shown {n : Int} (h : n.natAbs < 10 ^ 30) : centsL (shC n).cps.toList = some n := by
  rw [shC_list]
  have c := coins_shown h
  by_cases s : n < 0
  · rw [show (sgn n).cps.toList = [45] by unfold sgn; rw [if_pos s]; exact minus_list]
    unfold centsL
    refine (if_pos rfl).trans ?_
    show (coinsL (dg (n.natAbs / 100) ++ 46 :: [48 + n.natAbs % 100 / 10, 48 + n.natAbs % 100 % 10])).bind _ = _
    rw [c]
    show (if ((n.natAbs : Nat) : Int) = 0 then none else some (-((n.natAbs : Nat) : Int))) = _
    rw [if_neg (by omega)]
    congr 1
    omega
  · rw [show (sgn n).cps.toList = [] by unfold sgn; rw [if_neg s]; exact none_list, List.nil_append]
    unfold centsL
    rw [if_neg, c]
    · congr 1; omega
    · intro q
      rw [List.getElem?_append_left (List.length_pos_iff.mpr (dg_ne _))] at q
      have := dg_fig _ _ (List.mem_of_getElem? q)
      omega
theorem shC_len {n : Int} {k : Nat} (h : n.natAbs / 100 < 10 ^ (k + 1)) : (shC n).length ≤ k + 5 := by
  have e := congrArg List.length (shC_list n)
  rw [Array.length_toList, List.length_append, List.length_append] at e
  have := dg_len k _ h
  have s : (sgn n).cps.toList.length ≤ 1 := by
    unfold sgn
    split
    · rw [minus_list]; simp
    · rw [none_list]; simp
  show (shC n).cps.size ≤ _
  rw [e]
  show _ + (_ + 3) ≤ _
  omega
/-! ### parts of a text -/
theorem slice_to (z : Str) {j : Int} (h0 : 0 ≤ j) : (Txt.slice z none (some j)).cps.toList = z.cps.toList.take j.toNat := by
  have zl : z.cps.toList.length = z.length := Array.length_toList
  by_cases h : j ≤ z.length
  · have e : Txt.slice z none (some j) = ⟨((z.cps.toList.drop 0).take (j - 0).toNat).toArray⟩ := PySem.StrLaws.sliceText_to ⟨h0, by rw [zl]; exact h⟩
    rw [e]
    simp
  · have e : Txt.slice z none (some (z.length : Int)) = ⟨((z.cps.toList.drop 0).take ((z.length : Int) - 0).toNat).toArray⟩ := PySem.StrLaws.sliceText_to ⟨by omega, by rw [zl]; omega⟩
    rw [show Txt.slice z none (some j) = Txt.slice z none (some (z.length : Int)) by unfold Txt.slice; rw [PyProof.Rows.sliceIdx_hi_beyond z.length (by omega)], e]
    have : z.cps.toList.take j.toNat = z.cps.toList := List.take_of_length_le (by omega)
    rw [this]
    show (z.cps.toList.take _) = _
    exact List.take_of_length_le (by omega)
theorem slice_from (z : Str) {i : Int} (h0 : 0 ≤ i) : (Txt.slice z (some i) none).cps.toList = z.cps.toList.drop i.toNat := by
  have zl : z.cps.toList.length = z.length := Array.length_toList
  by_cases h : i ≤ z.length
  · have e : Txt.slice z (some i) none = ⟨((z.cps.toList.drop i.toNat).take ((z.cps.toList.length : Int) - i).toNat).toArray⟩ := PySem.StrLaws.sliceText_from ⟨h0, by rw [zl]; exact h⟩
    rw [e]
    show (z.cps.toList.drop i.toNat).take _ = _
    exact List.take_of_length_le (by rw [List.length_drop]; omega)
  · have e : Txt.slice z (some (z.length : Int)) none = ⟨((z.cps.toList.drop ((z.length : Int)).toNat).take ((z.cps.toList.length : Int) - (z.length : Int)).toNat).toArray⟩ := PySem.StrLaws.sliceText_from ⟨by omega, by rw [zl]; omega⟩
    rw [show Txt.slice z (some i) none = Txt.slice z (some (z.length : Int)) none by unfold Txt.slice; rw [PyProof.Rows.indices_beyond (by omega)], e]
    show (z.cps.toList.drop _).take _ = _
    rw [List.drop_eq_nil_of_le (by omega), List.drop_eq_nil_of_le (by omega), List.take_nil]
theorem slice_toN (z : Str) {j : Int} (h0 : j < 0) (h1 : 0 ≤ j + z.length) : (Txt.slice z none (some j)).cps.toList = z.cps.toList.take (j + z.length).toNat := by
  rw [← slice_to z h1]
  unfold Txt.slice
  rw [PySem.StrLaws.sliceIdx_neg_hi none z.length h0 (by omega)]
theorem slice_fromN (z : Str) {i : Int} (h0 : i < 0) (h1 : 0 ≤ i + z.length) : (Txt.slice z (some i) none).cps.toList = z.cps.toList.drop (i + z.length).toNat := by
  rw [← slice_from z h1]
  unfold Txt.slice
  rw [PySem.StrLaws.sliceIdx_neg_lo none z.length h0 (by omega)]
theorem starts_one (z : Str) (c : Nat) : Txt.startswith z ⟨#[c]⟩ = decide (z.cps.toList[0]? = some c) := by
  unfold Txt.startswith
  rw [Bool.eq_iff_iff, Bool.and_eq_true, decide_eq_true_iff, decide_eq_true_iff]
  rw [PySem.StrLaws.subAt_eq, show (⟨#[c]⟩ : Str).length = 1 from rfl, show (⟨#[c]⟩ : Str).cps.toList = [c] from rfl, PySem.StrLaws.take1_drop]
  exact ⟨fun q => q.2, fun q => ⟨by have := (List.getElem?_eq_some_iff.mp q).1; rw [Array.length_toList] at this; exact this, q⟩⟩
theorem part_one (z : Str) (c : Nat) : (c ∉ z.cps.toList ∧ (Txt.partition z ⟨#[c]⟩).2.2.cps.toList = []) ∨ (z.cps.toList = (Txt.partition z ⟨#[c]⟩).1.cps.toList ++ c :: (Txt.partition z ⟨#[c]⟩).2.2.cps.toList ∧ c ∉ (Txt.partition z ⟨#[c]⟩).1.cps.toList) := by
  have sum := congrArg (fun x : Str => x.cps.toList) (PySem.StrLaws.partition_sum z ⟨#[c]⟩)
  have em := PyProof.Rows.partition_head z ⟨#[c]⟩
  have at_ : ∀ k, PySem.StrLaws.At z ⟨#[c]⟩ z.length k ↔ z.cps.toList[k]? = some c := fun k => by
    unfold PySem.StrLaws.At
    rw [PySem.StrLaws.subAt_eq, show (⟨#[c]⟩ : Str).length = 1 from rfl, show (⟨#[c]⟩ : Str).cps.toList = [c] from rfl, PySem.StrLaws.take1_drop]
    exact ⟨fun q => q.2, fun q => ⟨by have := (List.getElem?_eq_some_iff.mp q).1; rw [Array.length_toList] at this; exact this, q⟩⟩
  have e1 := PySem.StrLaws.found_one z c
  unfold Txt.partition at sum em ⊢
  cases o : Builtin.Str.occurrences z ⟨#[c]⟩ 0 z.length 1 with
  | nil =>
    rw [o] at e1
    refine .inl ⟨fun m => ?_, rfl⟩
    rw [decide_eq_true m] at e1
    cases e1
  | cons i r =>
    rw [o] at sum em
    dsimp only at sum em ⊢
    rw [app_list, app_list] at sum
    refine .inr ⟨by rw [← sum, List.append_assoc]; rfl, fun m => ?_⟩
    rcases em with ⟨_, em⟩ | ⟨k, ek, _, em⟩
    · have mz : c ∈ z.cps.toList := by rw [← sum, List.append_assoc]; exact List.mem_append_left _ m
      obtain ⟨q, hq⟩ := List.mem_iff_getElem?.mp mz
      exact em q ((at_ q).mpr hq)
    · rw [ek, PySem.StrLaws.strSub_toList] at m
      obtain ⟨q, hq⟩ := List.mem_iff_getElem?.mp m
      have lt : q < k := by
        have := (List.getElem?_eq_some_iff.mp hq).1
        rw [List.length_take] at this
        omega
      rw [List.getElem?_take_of_lt (by omega), List.drop_zero] at hq
      exact em q lt ((at_ q).mpr hq)
end L2
/-! the reading, step by step -/
theorem L2.us1 {α : Type} {P : List α → Prop} (h : ∀ a, P [a]) : ∀ us : List α, us.length = 1 → P us
  | [a], _ => h a
theorem L2.us2 {α : Type} {P : List α → Prop} (h : ∀ a b, P [a, b]) : ∀ us : List α, us.length = 2 → P us
  | [a, b], _ => h a b
theorem L2.us3 {α : Type} {P : List α → Prop} (h : ∀ a b c, P [a, b, c]) : ∀ us : List α, us.length = 3 → P us
  | [a, b, c], _ => h a b c
theorem L2.us4 {α : Type} {P : List α → Prop} (h : ∀ a b c d, P [a, b, c, d]) : ∀ us : List α, us.length = 4 → P us
  | [a, b, c, d], _ => h a b c d
theorem L2.us5 {α : Type} {P : List α → Prop} (h : ∀ a b c d e, P [a, b, c, d, e]) : ∀ us : List α, us.length = 5 → P us
  | [a, b, c, d, e], _ => h a b c d e
local macro_rules | `(tactic| walk_at "cap") => `(tactic| repeat (first | exact trivial | refine ⟨⟨by first | exact Or.inl rfl | exact Or.inr rfl, by first | exact Or.inl rfl | exact Or.inr rfl, rfl⟩, ?_⟩))
local macro_rules | `(tactic| walk_at "sub") => `(tactic| repeat (first | exact trivial | refine ⟨rfl, ?_⟩))
local macro_rules | `(tactic| walk_at "has") => `(tactic| repeat (first | exact trivial | refine ⟨fun _ => ⟨_, rfl⟩, ?_⟩ | refine ⟨(fun z => by (rcases z with z | z <;> first | cases (show PySem.NameKind.local = PySem.NameKind.cell from z) | cases (show PySem.NameKind.local = PySem.NameKind.free from z) | cases (show PySem.NameKind.globalImplicit = PySem.NameKind.cell from z) | cases (show PySem.NameKind.globalImplicit = PySem.NameKind.free from z))), ?_⟩))
local macro_rules | `(tactic| walk_at "rd1") => `(tactic| first
  | with_reducible refine L2.iteT ?_
  | with_reducible refine L2.iteF ?_
  | refine ⟨_, rfl, ?_⟩
  | refine ⟨_, _, rfl, rfl, ?_⟩
  | refine ⟨_, _, rfl, ?_⟩
  | refine ⟨_, _, _, rfl, ?_⟩
  | refine ⟨rfl, ?_⟩
  | refine ⟨(⟨by decide, by decide⟩ : L2.CDiv _ _), ?_⟩
  | refine ⟨(show (0 : Int) < _ by first | decide | omega), ?_⟩
  | refine ⟨(⟨by decide, by decide, by decide⟩ : L2.CPow _ _), ?_⟩
  | refine ⟨(Or.inl ⟨by first | decide | omega, by first | decide | omega⟩ : L2.CMul _ _), ?_⟩
  | refine ⟨(Or.inr ⟨by first | decide | omega, by first | decide | omega⟩ : L2.CMul _ _), ?_⟩
  | refine ⟨_, _, rfl, .inl (by assumption), ?_⟩
  | refine ⟨_, _, _, _, rfl, rfl, L2.SqT.of (by assumption), rfl, ?_⟩
  | (refine ⟨_, _, _, _, rfl, (by assumption), (by first | omega | decide), (by first | omega | decide), (by first | omega | decide), ?_⟩; intro r' r0' r1')
  | (refine ⟨_, _, _, rfl, (by assumption), (by omega), (by omega), ?_⟩; intro r' r0' r1')
  | refine And.intro (by omega) ?_
  | refine And.intro (Nat.le_of_ble_eq_true rfl) ?_
  | with_reducible refine L2.iteNF ?_
  | with_reducible refine L2.iteNT ?_
  | with_reducible refine L2.ifI (fun _ => ?_) (fun _ => ?_)
  | with_reducible refine L2.ifNI (fun _ => ?_) (fun _ => ?_)
  | with_reducible refine L2.ifD (fun _ => ?_) (fun _ => ?_)
  | with_reducible refine L2.ifND (fun _ => ?_) (fun _ => ?_))
local macro_rules | `(tactic| walk_at "rd") => `(tactic| repeat' walk_at "rd1")
seal L2.PSs L2.PS L2.PE L2.PT L2.PA L2.PI L2.PG L2.PGs L2.PW L2.PC L2.PO
local macro_rules | `(tactic| walk_at "rd1") => `(tactic| first
  | with_reducible refine L2.ifST ?_
  | with_reducible refine L2.ifSF (by decide) ?_
  | with_reducible refine L2.ifSNT ?_
  | with_reducible refine L2.ifSNF (by decide) ?_
  | ((with_reducible refine And.intro (a := L2.CDivW _ _) ?_ ?_); (exact ⟨by first | decide | omega, by first | decide | omega⟩))
  | fail)
local macro_rules | `(tactic| walk_at "rd1") => `(tactic| ((with_reducible refine L2.sqG ?_); (first | (with_reducible refine L2.sqN10 ?_) | (with_reducible refine L2.sqN9 ?_) | (with_reducible refine L2.sqN8 ?_) | (with_reducible refine L2.sqN7 ?_) | (with_reducible refine L2.sqN6 ?_) | (with_reducible refine L2.sqN5 ?_) | (with_reducible refine L2.sqN4 ?_) | (with_reducible refine L2.sqN3 ?_) | (with_reducible refine L2.sqN2 ?_)); intros))
local macro_rules | `(tactic| walk_at "s1") => `(tactic| first | exact L2.us1 (fun _ => rfl) | exact L2.us2 (fun _ _ => rfl) | exact L2.us3 (fun _ _ _ => rfl) | exact L2.us4 (fun _ _ _ _ => rfl) | exact L2.us5 (fun _ _ _ _ _ => rfl) | k_is | rfl)
namespace My
open PySem L2
def top (i : Nat) : Stmt := PySem.Challenge.pw_loanroll_k91_cents_and_numbers.main.body.getD i (.Pass ⟨0, 0, 0, 0⟩)
structure Txt (K : PySem.W.Frag) (mg : Str → Option Value) : Prop where
  n_abs : mg "abs" = none
  n_all : mg "all" = none
  n_bool : mg "bool" = none
  n_int : mg "int" = none
  n_isinstance : mg "isinstance" = none
  n_len : mg "len" = none
  n_range : mg "range" = none
  n_reversed : mg "reversed" = none
  n_str : mg "str" = none
  m_LoanError : mg "LoanError" = some (.ref (cA K "LoanError"))
  m_NoRow : mg "NoRow" = some (.ref (cA K "NoRow"))
  m_NoText : mg "NoText" = some (.ref (cA K "NoText"))
  x_NoText : XK2 K (cA K "NoText")
  e_NoText_NoText : PySem.W.exmOne K (.ref (cA K "NoText")) (.ref (cA K "NoText")) = some true
  z_NoText : XK1 K (cA K "NoText")
  k_NoText_LoanError : PySem.W.kitOne K (.ref (cA K "NoText")) (.ref (cA K "LoanError")) = some true
  k_NoText_NoRow : PySem.W.kitOne K (.ref (cA K "NoText")) (.ref (cA K "NoRow")) = some false
  g_FIGURES : ∃ t, mg "FIGURES" = some (.str "0123456789" t)
  g_MOST_FIGURES : ∃ t, mg "MOST_FIGURES" = some (.int 30 t)
  g_MOST_RATE : ∃ t, mg "MOST_RATE" = some (.int 1000000 t)
  g_PART : ∃ t, mg "PART" = some (.int 1000000000000000000 t)
  g_PART_FIGURES : ∃ t, mg "PART_FIGURES" = some (.int 18 t)
abbrev s_check_text : Stmt := top 10
abbrev s_are_figures : Stmt := top 11
abbrev s_show_whole : Stmt := top 16
abbrev s_two_figures : Stmt := top 17
abbrev s__law_cell_at : Stmt := top 21
abbrev s__law_draws : Stmt := top 22
abbrev s__law_shown : Stmt := top 23
abbrev s__law_whole_of : Stmt := top 24
abbrev s_read_whole : Stmt := top 12
abbrev s_show_cents : Stmt := top 18
abbrev s__law_made : Stmt := top 29
abbrev s_read_coins : Stmt := top 13
abbrev s_show_rate : Stmt := top 19
abbrev s_read_cents : Stmt := top 14
abbrev s_read_rate : Stmt := top 15
abbrev s__law_read : Stmt := top 27
abbrev s__law_cents_of : Stmt := top 25
abbrev s__law_due : Stmt := top 26
abbrev s__law_right : Stmt := top 28
abbrev s_law : Stmt := top 30
section
variable {P : Program} {w : World} {K : PySem.W.Frag} {mg : Str → Option Value} {base : Heap}
--@ check_text
theorem kit_txt {K : PySem.W.Frag} {T : String} (h : T ∈ kinds) : PySem.W.kitOne K (.type T) (.type "str") = some (decide (T = "str")) := by
  simp only [kinds, List.mem_cons, List.not_mem_nil, or_false] at h
  rcases h with rfl | rfl | rfl | rfl | rfl | rfl | rfl <;> rfl
def sp_check_text (K : PySem.W.Frag) : Sp := fun vs H Q E => ∃ x T, vs = [x] ∧ IsKind K H x T ∧ (T = "str" → Q .non H) ∧ (T ≠ "str" → E (.ref (cA K "NoText")) none H)
theorem sc_check_text : FnScope ["thing"] ["thing"] (defScope s_check_text) := ⟨rfl, rfl, rfl, by decide +kernel, rfl, by decide +kernel, by decide +kernel⟩
theorem d_check_text (S : Src K mg "check_text" s_check_text ["thing"]) (T : Txt K mg)  : DefX P w K mg base 1 "check_text" ["thing"] (sp_check_text K) := by
  refine S.okXF sc_check_text (fun vs H Q E h => ?_) (fun f cdv A outer s H vs Q E hr h => ?_)
  · obtain ⟨x, Tk, rfl, hk, h, hE⟩ := h
    rfl
  obtain ⟨x, Tk, rfl, hk, h, hE⟩ := h
  refine ⟨_, (pss_one (ps_if (pt_not (pt_val (pe_callB call_isinst rfl T.n_isinstance PyProof.Rows.boot_isinstance (pa_cons (pv 0) (pa_cons (pe_bltn (v := .ty "str") rfl T.n_str PyProof.Rows.boot_str rfl) pa_nil)))))
      (pss_one (ps_raise (E := fun C d H' => Same H H' ∧ E C d H) T.m_NoText T.x_NoText (fun _ _ _ _ _ _ _ I hx hE => xe_made I hx hE) (pa_cons pe_str pa_nil)))
      pss_nil)), ?_⟩
  walk_at "rd"
  refine ⟨_, _, _, _, rfl, hk.1, kit_txt hk.2, ?_⟩
  walk_at "rd"
  · rename_i z
    exact ⟨Same.refl _, hE z⟩
  · rename_i z
    exact ⟨Same.refl _, h z⟩
--@ are_figures
def wholeT : V → Option Int
  | .str z => wholeL z.cps.toList
  | _ => none
def centsT : V → Option Int
  | .str z => centsL z.cps.toList
  | _ => none
def rateT : V → Option Int
  | .str z => rateL z.cps.toList
  | _ => none
def optV : Option Int → V
  | some n => .int n
  | none => .non
theorem V_str {a b : Str} (h : V.str a = V.str b) : a.cps.toList = b.cps.toList := by injection h with h; rw [h]
theorem str_V {a b : Str} (h : a.cps.toList = b.cps.toList) : V.str a = V.str b := congrArg V.str (str_ext h)
theorem o_list : (Str.ofString "0").cps.toList = [48] := by decide +kernel
def sp_are_figures (K : PySem.W.Frag) : Sp := fun vs H Q _ => ∃ (z : Str), vs = [.str z] ∧ z.length ≤ 1000 ∧ Q (.bl (z.cps.toList.all figB)) H
theorem sc_are_figures : FnScope ["text"] ["text"] (defScope s_are_figures) := ⟨rfl, rfl, rfl, by decide +kernel, rfl, by decide +kernel, by decide +kernel⟩
theorem d_are_figures (S : Src K mg "are_figures" s_are_figures ["text"]) (T : Txt K mg)  : Def P w K mg base 1 "are_figures" ["text"] (sp_are_figures K) := by
  refine S.okF sc_are_figures (fun vs H Q E h => ?_) (fun f cdv A outer s H vs Q E hr h => ?_)
  · obtain ⟨z, rfl, hz, h⟩ := h
    rfl
  obtain ⟨z, rfl, hz, h⟩ := h
  refine ⟨_, (pss_one (ps_ret (pe_callB (call_allB rfl) rfl T.n_all PyProof.Rows.boot_all (pa_cons (pe_comp (ix := []) ⟨rfl, by decide +kernel, rfl, by decide +kernel, rfl, (show (["sign"] : List Str).Nodup by decide +kernel), by walk_at "cap", by walk_at "sub", by walk_at "has"⟩ (pi_str (pv 0)) (fun b => (pe_cmpR op_in_str (pv 0) (pe_gstr T.g_FIGURES) (by with_unfolding_all rfl)))) pa_nil)))), ?_⟩
  have sz := sizeLine_eq
  walk_at "rd"
  intro l nl
  have zl : (z.cps.toList.map fun c => V.str ⟨#[c]⟩).length = z.length := by rw [List.length_map, Array.length_toList]; rfl
  refine comp_any walk_str nl (by omega) (fun i v _ => ∃ c, z.cps.toList[i]? = some c ∧ v = .bl (figB c)) (fun _ _ _ _ _ q => q) (fun _ _ _ _ _ _ q => q) ?_ ?_
  · rintro i v H' Q' hv sH hq
    rw [List.getElem?_map] at hv
    obtain ⟨c, hc, rfl⟩ := Option.map_eq_some_iff.mp hv
    walk_at "rd"
    rw [fig_in]
    exact hq _ _ (Same.refl _) ⟨c, hc, rfl⟩
  · rintro ys H' s' eL yl hp
    have ey : ys = (z.cps.toList.map figB).map V.bl := by
      apply List.ext_getElem?
      intro j
      cases e : ys[j]? with
      | none => rw [List.getElem?_eq_none (by have := List.getElem?_eq_none_iff.mp e; rw [List.length_map, List.length_map]; rw [List.length_map] at yl; omega)]
      | some v =>
        obtain ⟨c, h1, rfl⟩ := hp j v e
        rw [List.getElem?_map, List.getElem?_map, h1]
        rfl
    walk_at "rd"
    refine ⟨l, z.cps.toList.map figB, rfl, SqL.of (by rw [← ey]; exact eL), s', ?_⟩
    rw [List.all_map]
    exact h
--@ show_whole
def sp_show_whole (K : PySem.W.Frag) : Sp := fun vs H Q _ => ∃ (n : Nat), vs = [.int n] ∧ n < 10 ^ 80 ∧ Q (.str (Str.ofString (toString (n : Int)))) H
theorem sc_show_whole : FnScope ["number", "parts", "rest"] ["number"] (defScope s_show_whole) := ⟨rfl, rfl, rfl, by decide +kernel, rfl, by decide +kernel, by decide +kernel⟩
theorem d_show_whole (S : Src K mg "show_whole" s_show_whole ["number"]) (T : Txt K mg)  : Def P w K mg base 1 "show_whole" ["number"] (sp_show_whole K) := by
  refine S.okF sc_show_whole (fun vs H Q E h => ?_) (fun f cdv A outer s H vs Q E hr h => ?_)
  · obtain ⟨n, rfl, hn, h⟩ := h
    rfl
  obtain ⟨n, rfl, hn, h⟩ := h
  refine ⟨_, (pss_consN (ps_set (i := 1) sc_show_whole.nd rfl (by first | exact Or.inl rfl | exact Or.inr rfl) (pe_lst pa_nil))
      (pss_consN (ps_set (i := 2) sc_show_whole.nd rfl (by first | exact Or.inl rfl | exact Or.inr rfl) (pv 0))
      (pss_consN (ps_while PassesOwn.never (pt_cmpR op_ge (pv 2) (pe_gint T.g_PART) (nomark _))
      (pss_consN (ps_expr (pe_bm PySem.F.plainAttrs_list PySem.F.slot_list_append PySem.F.type_list_append mt_append (pv 1) (pa_cons (pe_bm PySem.F.plainAttrs_str PySem.F.slot_str_zfill PySem.F.type_str_zfill mt_zfill (pe_callTy call_str_int rfl T.n_str PyProof.Rows.boot_str (pa_cons (pe_op op_mod (pv 2) (pe_gint T.g_PART)) pa_nil)) (pa_cons (pe_gint T.g_PART_FIGURES) pa_nil)) pa_nil)))
      (pss_one (ps_set (i := 2) sc_show_whole.nd rfl (by first | exact Or.inl rfl | exact Or.inr rfl) (pe_op op_fdivW (pv 2) (pe_gint T.g_PART))))))
      (pss_consN (ps_expr (pe_bm PySem.F.plainAttrs_list PySem.F.slot_list_append PySem.F.type_list_append mt_append (pv 1) (pa_cons (pe_callTy call_str_int rfl T.n_str PyProof.Rows.boot_str (pa_cons (pv 2) pa_nil)) pa_nil)))
      (pss_one (ps_ret (pe_joinRev rfl T.n_reversed pe_str (pa_cons (pv 1) pa_nil)))))))), ?_⟩
  have sz := sizeLine_eq
  walk_at "rd"
  intro p np
  have sp := same_new np (.lst [])
  walk_at "rd"
  refine ⟨fun k σ H' => ∃ (r : Nat) (zs : List Str), Same H H' ∧ H' p = some (.lst (zs.map V.str)) ∧ σ = [some (.int (n : Int)), some (.ref p), some (.int (r : Int))] ∧ dg n = dg r ++ (zs.reverse.map fun z => z.cps.toList).flatten ∧ (zs.reverse.map (·.length)).sum = 18 * zs.length ∧ r ≤ n ∧ r = k, ⟨_, n, [], sp, upd_same, rfl, by simp, rfl, Nat.le_refl _, rfl⟩, ?_⟩
  rintro k σ H' ⟨r, zs, sH, eP, rfl, dn, ls, rn, rfl⟩
  have dl := congrArg List.length dn
  rw [List.length_append, List.length_flatten, List.map_map] at dl
  have d80 := dg_len 79 n hn
  have e1 : (List.map (List.length ∘ fun z : Str => z.cps.toList) zs.reverse) = zs.reverse.map (·.length) := List.map_congr_left fun z _ => Array.length_toList
  rw [e1, ls] at dl
  have zl : zs.length ≤ 4 := by omega
  walk_at "rd"
  · rename_i c
    have r18 : 10 ^ 18 ≤ r := by omega
    refine ⟨_, fun σ' H' z => z, ?_⟩
    walk_at "rd"
    refine ⟨.inl ⟨rfl, _, SqL.of eP⟩, ?_⟩
    walk_at "rd"
    have em : ((r : Int) % 1000000000000000000) = ((r % 10 ^ 18 : Nat) : Int) := by omega
    have ed : ((r : Int) / 1000000000000000000) = ((r / 10 ^ 18 : Nat) : Int) := by omega
    refine ⟨log2_small (by omega) (by omega), ?_⟩
    walk_at "rd"
    have zf := zfill_dg (z := Str.ofString (toString ((r : Int) % 1000000000000000000))) (m := r % 10 ^ 18) (k := 17) (by rw [em]; exact dg_text _) (Nat.mod_lt _ (by decide))
    generalize Txt.zfill (Str.ofString (toString ((r : Int) % 1000000000000000000))) 18 = y at zf ⊢
    refine ⟨p, _, _, rfl, rfl, eP, by rw [List.length_map]; omega, ?_⟩
    walk_at "rd"
    have yl : y.length = 18 := by
      have q := congrArg List.length zf
      rw [Array.length_toList] at q
      exact q
    refine ⟨r / 10 ^ 18, Nat.div_lt_self (by omega) (by decide), r / 10 ^ 18, zs ++ [y], same_put sH np, by rw [List.map_append]; exact upd_same, by rw [← ed]; rfl, ?_, ?_, by omega, rfl⟩
    · rw [List.reverse_append, List.map_append, List.flatten_append, show ([y].reverse.map fun z : Str => z.cps.toList).flatten = y.cps.toList by simp, zf, ← List.append_assoc, ← dg_cut 18 r r18]
      exact dn
    · rw [List.reverse_append, List.map_append, List.sum_append, ls, List.length_append, show ([y].reverse.map (·.length)).sum = 18 by simpa using yl]
      show 18 + 18 * zs.length = 18 * (zs.length + 1)
      omega
  · rename_i c
    walk_at "rd"
    refine ⟨.inl ⟨rfl, _, SqL.of eP⟩, ?_⟩
    walk_at "rd"
    refine ⟨log2_small (by omega) (by omega), ?_⟩
    walk_at "rd"
    refine ⟨p, _, _, rfl, rfl, eP, by rw [List.length_map]; omega, ?_⟩
    walk_at "rd"
    have r0 := dg_text r
    have l0 : (Str.ofString (toString (r : Int))).length ≤ 80 := by
      have q := congrArg List.length r0
      rw [Array.length_toList] at q
      show (Str.ofString (toString (r : Int))).cps.size ≤ 80
      omega
    generalize Str.ofString (toString (r : Int)) = y at r0 l0 ⊢
    have e0 : (Str.ofString "").length = 0 := by decide +kernel
    refine ⟨p, zs ++ [y], rfl, SqL.of (by rw [List.map_append]; exact upd_same), ?_, same_put sH np, ?_⟩
    · rw [e0, List.reverse_append, List.map_append, List.sum_append, ls, show ([y].reverse.map (·.length)).sum = y.length by simp]
      omega
    · rw [show Txt.join (Str.ofString "") (zs ++ [y]).reverse = Str.ofString (toString (n : Int)) from str_ext ?_]
      · exact h
      · rw [dg_text, dn]
        unfold Txt.join
        rw [show Str.ofString "" = ⟨#[]⟩ by decide +kernel, PySem.StrLaws.glued_eq_join, join_none, List.reverse_append, List.map_append, List.flatten_append, ← r0]
        simp
--@ two_figures
def sp_two_figures (K : PySem.W.Frag) : Sp := fun vs H Q _ => ∃ n, vs = [.int n] ∧ (0 ≤ n ∧ n ≤ 99) ∧ Q (.str (two n)) H
theorem sc_two_figures : FnScope ["number"] ["number"] (defScope s_two_figures) := ⟨rfl, rfl, rfl, by decide +kernel, rfl, by decide +kernel, by decide +kernel⟩
theorem d_two_figures (S : Src K mg "two_figures" s_two_figures ["number"]) (T : Txt K mg)  : Def P w K mg base 1 "two_figures" ["number"] (sp_two_figures K) := by
  refine S.ok sc_two_figures (fun vs H Q E h => ?_) (fun f cdv A outer s H vs Q E hr h => ?_)
  · obtain ⟨n, rfl, ⟨h0, h1⟩, h⟩ := h
    rfl
  obtain ⟨n, rfl, ⟨h0, h1⟩, h⟩ := h
  refine ⟨_, (pss_one (ps_ret (pe_bm PySem.F.plainAttrs_str PySem.F.slot_str_zfill PySem.F.type_str_zfill mt_zfill (pe_callTy call_str_int rfl T.n_str PyProof.Rows.boot_str (pa_cons (pv 0) pa_nil)) (pa_cons pe_int pa_nil)))), ?_⟩
  walk_at "rd"
  refine ⟨log2_small h0 (by omega), ?_⟩
  walk_at "rd"
  rw [two_eq h0 h1]
  exact h
--@ _law_cell_at
def cellAt (ns : List Int) (k : Nat) : Int := ns.getD k 0
def sp__law_cell_at (K : PySem.W.Frag) : Sp := fun vs H Q _ => ∃ (p : Addr) (ns : List Int) (k : Nat), vs = [.ref p, .int k] ∧ SqL K H p (ns.map V.int) ∧ Q (.int (cellAt ns k)) H
theorem sc__law_cell_at : FnScope ["_law_script", "_law_k"] ["_law_script", "_law_k"] (defScope s__law_cell_at) := ⟨rfl, rfl, rfl, by decide +kernel, rfl, by decide +kernel, by decide +kernel⟩
theorem d__law_cell_at (S : Src K mg "_law_cell_at" s__law_cell_at ["_law_script", "_law_k"]) (T : Txt K mg)  : Def P w K mg base 1 "_law_cell_at" ["_law_script", "_law_k"] (sp__law_cell_at K) := by
  refine S.ok sc__law_cell_at (fun vs H Q E h => ?_) (fun f cdv A outer s H vs Q E hr h => ?_)
  · obtain ⟨p, ns, k, rfl, hp, h⟩ := h
    rfl
  obtain ⟨p, ns, k, rfl, hp, h⟩ := h
  refine ⟨_, (pss_consN (ps_if (pt_cmpR op_lt (pv 1) (pe_callB call_len_seq rfl T.n_len PySem.boot_len (pa_cons (pv 0) pa_nil)) (nomark _))
      (pss_one (ps_ret (pe_ix ix_list (pv 0) (pv 1) (fun _ _ => rfl))))
      pss_nil)
      (pss_one (ps_ret pe_int))), ?_⟩
  walk_at "rd"
  · rename_i q
    rw [List.length_map] at q
    have kl : k < ns.length := by omega
    refine ⟨p, _, _, _, rfl, rfl, hp, atI_nat (by rw [List.getElem?_map, List.getElem?_eq_getElem kl]; rfl), ?_⟩
    unfold cellAt at h
    rw [List.getD_eq_getElem?_getD, List.getElem?_eq_getElem kl] at h
    exact h
  · rename_i q
    rw [List.length_map] at q
    unfold cellAt at h
    rw [List.getD_eq_getElem?_getD, List.getElem?_eq_none (by omega)] at h
    walk_at "rd"
    exact h
--@ _law_draws
def sp__law_draws (K : PySem.W.Frag) : Sp := fun vs H Q _ => ∃ c k, vs = [.int c, .int k] ∧ 0 ≤ k ∧ k ≤ 20 ∧ ∀ p (ns : List Int) H', Same H H' → H p = none → H' p = some (.lst (ns.map V.int)) → (ns.length : Int) = k → (∀ x ∈ ns, (0 : Int) ≤ x ∧ x < 10000000000000) → Q (.ref p) H'
theorem sc__law_draws : FnScope ["_law_cell", "_law_many", "_law_found", "_law_number", "_law_one", "_law_other", "_law_k"] ["_law_cell", "_law_many"] (defScope s__law_draws) := ⟨rfl, rfl, rfl, by decide +kernel, rfl, by decide +kernel, by decide +kernel⟩
theorem d__law_draws (S : Src K mg "_law_draws" s__law_draws ["_law_cell", "_law_many"]) (T : Txt K mg)  : Def P w K mg base 1 "_law_draws" ["_law_cell", "_law_many"] (sp__law_draws K) := by
  refine S.ok sc__law_draws (fun vs H Q E h => ?_) (fun f cdv A outer s H vs Q E hr h => ?_)
  · obtain ⟨c, k, rfl, k0, k1, h⟩ := h
    rfl
  obtain ⟨c, k, rfl, k0, k1, h⟩ := h
  refine ⟨_, (pss_consN (ps_set (i := 2) sc__law_draws.nd rfl (by first | exact Or.inl rfl | exact Or.inr rfl) (pe_lst pa_nil))
      (pss_consN (ps_set (i := 3) sc__law_draws.nd rfl (by first | exact Or.inl rfl | exact Or.inr rfl) (pe_op op_fdiv (pv 0) pe_int))
      (pss_consN (ps_set (i := 4) sc__law_draws.nd rfl (by first | exact Or.inl rfl | exact Or.inr rfl) (pe_op op_add (pe_op op_mod (pv 0) pe_int) pe_int))
      (pss_consN (ps_set (i := 5) sc__law_draws.nd rfl (by first | exact Or.inl rfl | exact Or.inr rfl) (pe_op op_add (pe_op op_mod (pv 0) pe_int) pe_int))
      (pss_consN (ps_for PassesOwn.never rfl (pi_range1 rfl T.n_range (pa_cons (pv 1) pa_nil)) (pg_name (i := 6) sc__law_draws.nd rfl (by first | exact Or.inl rfl | exact Or.inr rfl))
      (pss_consN (ps_set (i := 4) sc__law_draws.nd rfl (by first | exact Or.inl rfl | exact Or.inr rfl) (pe_op op_mod (pe_op op_mul (pv 4) pe_int) pe_int))
      (pss_consN (ps_set (i := 5) sc__law_draws.nd rfl (by first | exact Or.inl rfl | exact Or.inr rfl) (pe_op op_mod (pe_op op_add (pe_op op_mul (pv 5) (pv 5)) (pv 4)) pe_int))
      (pss_one (ps_if (PW.pt (pw_and (pt_cmpR op_gt (pv 0) (pe_powc (v := 1000000000000000000) (by decide +kernel) ⟨by decide, by decide, by decide⟩) (nomark _)) (pw_and (pt_cmpR op_eq (pe_op op_mod (pv 0) pe_int) pe_int (nomark _)) (pw_and1 (pt_cmpR op_gt (pv 3) pe_int (nomark _))))))
      (pss_consN (ps_expr (pe_bm PySem.F.plainAttrs_list PySem.F.slot_list_append PySem.F.type_list_append mt_append (pv 2) (pa_cons (pe_op op_mod (pv 3) (pe_powc (v := 10000000000000) (by decide +kernel) ⟨by decide, by decide, by decide⟩)) pa_nil)))
      (pss_one (ps_set (i := 3) sc__law_draws.nd rfl (by first | exact Or.inl rfl | exact Or.inr rfl) (pe_op op_fdivW (pv 3) (pe_powc (v := 10000000000000) (by decide +kernel) ⟨by decide, by decide, by decide⟩)))))
      (pss_one (ps_expr (pe_bm PySem.F.plainAttrs_list PySem.F.slot_list_append PySem.F.type_list_append mt_append (pv 2) (pa_cons (pe_op op_fdiv (pe_op op_mod (pe_op op_add (pv 4) (pe_op op_mul (pv 5) pe_int)) pe_int) pe_int) pa_nil)))))))))
      (pss_one (ps_ret (pv 2)))))))), ?_⟩
  have sz := sizeLine_eq
  walk_at "rd"
  intro p np
  have sp := same_new np (.lst [])
  walk_at "rd"
  have o0 : 0 ≤ c % 2147483647 := Int.emod_nonneg _ (by decide)
  have o1 : c % 2147483647 < 2147483647 := Int.emod_lt_of_pos _ (by decide)
  have p0 : 0 ≤ c % 998244353 := Int.emod_nonneg _ (by decide)
  have p1 : c % 998244353 < 998244353 := Int.emod_lt_of_pos _ (by decide)
  refine for_range (fun i σ H' => L2.Ee5 fun (ns : List Int) (a b e : Int) (z : Option V) => L2.Aa5 ((Same H H' ∧ H' p = some (.lst (ns.map V.int)))) (ns.length = i) ((∀ x ∈ ns, (0 : Int) ≤ x ∧ x < 10000000000000)) ((0 ≤ a ∧ a < 4294967296 ∧ 0 ≤ b ∧ b < 4294967296)) (σ = [some (.int c), some (.int k), some (.ref p), some (.int e), some (.int a), some (.int b), z]))
    ⟨[], _, _, _, _, ⟨sp, upd_same⟩, rfl, fun x hx => (by cases hx), ⟨by omega, by omega, by omega, by omega⟩, rfl⟩ ?_ ?_
  · rintro i σ H' hi ⟨ns, a, b, e, z, ⟨sH, eP⟩, nl, nn, ⟨a0, a1, b0, b1⟩, rfl⟩
    have ab := Int.emod_nonneg (a * 48271) (show (2147483647 : Int) ≠ 0 by decide)
    have ab1 := Int.emod_lt_of_pos (a * 48271) (show (0 : Int) < 2147483647 by decide)
    have bb := Int.emod_nonneg (b * b + a * 48271 % 2147483647) (show (998244353 : Int) ≠ 0 by decide)
    have bb1 := Int.emod_lt_of_pos (b * b + a * 48271 % 2147483647) (show (0 : Int) < 998244353 by decide)
    have snoc : ∀ y : Int, (0 ≤ y ∧ y < 10000000000000) → ∀ x ∈ ns ++ [y], (0 : Int) ≤ x ∧ x < 10000000000000 := fun y hy x hx => by
      rcases List.mem_append.mp hx with hx | hx
      · exact nn x hx
      · obtain rfl : x = y := by simpa using hx
        exact hy
    have eP' : ∀ y : Int, (upd H' p (.lst (ns.map V.int ++ [.int y]))) p = some (.lst ((ns ++ [y]).map V.int)) := fun y => by rw [List.map_append]; exact upd_same
    have small : ∀ z : Int, (0 : Int) ≤ z % 2147483647 / 7 ∧ z % 2147483647 / 7 < 10000000000000 := fun z => by
      have := Int.emod_nonneg z (show (2147483647 : Int) ≠ 0 by decide)
      have := Int.emod_lt_of_pos z (show (0 : Int) < 2147483647 by decide)
      omega
    have i20 : i < 20 := by omega
    walk_at "rd"
    · refine ⟨.inl ⟨rfl, _, SqL.of eP⟩, ?_⟩
      walk_at "rd"
      refine ⟨p, _, _, rfl, rfl, eP, by rw [List.length_map]; omega, ?_⟩
      walk_at "rd"
      exact ⟨ns ++ [_], _, _, _, _, ⟨same_put sH np, eP' _⟩, by rw [List.length_append, nl]; rfl, snoc _ ⟨Int.emod_nonneg _ (by decide), Int.emod_lt_of_pos _ (by decide)⟩, ⟨ab, by omega, bb, by omega⟩, rfl⟩
    all_goals
      refine ⟨.inl ⟨rfl, _, SqL.of eP⟩, ?_⟩
      walk_at "rd"
      refine ⟨p, _, _, rfl, rfl, eP, by rw [List.length_map]; omega, ?_⟩
      exact ⟨ns ++ [_], _, _, _, _, ⟨same_put sH np, eP' _⟩, by rw [List.length_append, nl]; rfl, snoc _ (small _), ⟨ab, by omega, bb, by omega⟩, rfl⟩
  · rintro σ H' ⟨ns, a, b, e, z, ⟨sH, eP⟩, nl, nn, _, rfl⟩
    walk_at "rd"
    exact h p ns H' sH np eP (by omega) nn
--@ _law_shown
def sp__law_shown (K : PySem.W.Frag) : Sp := fun vs H Q _ => ∃ (n : Int), vs = [.int n] ∧ n.natAbs < 10 ^ 80 ∧ Q (.str (shC n)) H
theorem sc__law_shown : FnScope ["_law_number", "_law_sign"] ["_law_number"] (defScope s__law_shown) := ⟨rfl, rfl, rfl, by decide +kernel, rfl, by decide +kernel, by decide +kernel⟩
theorem d__law_shown (S : Src K mg "_law_shown" s__law_shown ["_law_number"]) (T : Txt K mg)  : Def P w K mg base 1 "_law_shown" ["_law_number"] (sp__law_shown K) := by
  refine S.ok sc__law_shown (fun vs H Q E h => ?_) (fun f cdv A outer s H vs Q E hr h => ?_)
  · obtain ⟨n, rfl, hn, h⟩ := h
    rfl
  obtain ⟨n, rfl, hn, h⟩ := h
  refine ⟨_, (pss_consN (ps_set (i := 1) sc__law_shown.nd rfl (by first | exact Or.inl rfl | exact Or.inr rfl) pe_str)
      (pss_consN (ps_if (pt_cmpR op_lt (pv 0) pe_int (nomark _))
      (pss_consN (ps_set (i := 1) sc__law_shown.nd rfl (by first | exact Or.inl rfl | exact Or.inr rfl) pe_str)
      (pss_one (ps_set (i := 0) sc__law_shown.nd rfl (by first | exact Or.inl rfl | exact Or.inr rfl) (pe_op op_sub pe_int (pv 0)))))
      pss_nil)
      (pss_one (ps_ret (pe_op op_add_str (pe_op op_add_str (pe_op op_add_str (pe_op op_add_str (pv 1) (pe_callTy call_str_int rfl T.n_str PyProof.Rows.boot_str (pa_cons (pe_op op_fdiv (pv 0) pe_int) pa_nil))) pe_str) (pe_callTy call_str_int rfl T.n_str PyProof.Rows.boot_str (pa_cons (pe_op op_fdiv (pe_op op_mod (pv 0) pe_int) pe_int) pa_nil))) (pe_callTy call_str_int rfl T.n_str PyProof.Rows.boot_str (pa_cons (pe_op op_mod (pv 0) pe_int) pa_nil))))))), ?_⟩
  have sz := sizeLine_eq
  have q80 : n.natAbs / 100 < 10 ^ 80 := Nat.lt_of_le_of_lt (Nat.div_le_self _ _) hn
  have dl := dg_len 79 _ q80
  have tl : (Str.ofString (toString ((n.natAbs / 100 : Nat) : Int))).length ≤ 80 := by
    have q := congrArg List.length (dg_text (n.natAbs / 100))
    rw [Array.length_toList] at q
    show (Str.ofString (toString ((n.natAbs / 100 : Nat) : Int))).cps.size ≤ 80
    omega
  have e1 : (Str.ofString ".").length = 1 := by decide +kernel
  have m0 : (0 : Int) ≤ ((n.natAbs % 100 : Nat) : Int) := by omega
  have m1 : ((n.natAbs % 100 : Nat) : Int) ≤ 99 := by omega
  have tw := two_law m0 m1
  have l2 : (Str.ofString (toString (((n.natAbs % 100 : Nat) : Int) / 10))).length + (Str.ofString (toString (((n.natAbs % 100 : Nat) : Int) % 10))).length = 2 := by
    have := congrArg Str.length tw
    rw [Str.length_append] at this
    exact this
  have sl : (sgn n).length ≤ 1 := by unfold sgn; split <;> decide +kernel
  have b1 : ((n.natAbs / 100 : Nat) : Int).natAbs.log2 < 1920 := log2_small (by omega) (by omega)
  have b2 : (((n.natAbs % 100 : Nat) : Int) / 10).natAbs.log2 < 1920 := log2_small (by omega) (by omega)
  have b3 : (((n.natAbs % 100 : Nat) : Int) % 10).natAbs.log2 < 1920 := log2_small (by omega) (by omega)
  have key : Q (.str (sgn n ++ Str.ofString (toString ((n.natAbs / 100 : Nat) : Int)) ++ Str.ofString "." ++ Str.ofString (toString (((n.natAbs % 100 : Nat) : Int) / 10)) ++ Str.ofString (toString (((n.natAbs % 100 : Nat) : Int) % 10)))) H := by
    rw [show sgn n ++ Str.ofString (toString ((n.natAbs / 100 : Nat) : Int)) ++ Str.ofString "." ++ Str.ofString (toString (((n.natAbs % 100 : Nat) : Int) / 10)) ++ Str.ofString (toString (((n.natAbs % 100 : Nat) : Int) % 10)) = shC n from str_ext ?_]
    · exact h
    · unfold shC
      rw [← tw, app_list, app_list, app_list, app_list, app_list, app_list, app_list, app_list]
      simp only [List.append_assoc]
  clear h tw
  walk_at "rd"
  · rename_i c _
    have f1 : (0 - n) / 100 = ((n.natAbs / 100 : Nat) : Int) := by omega
    have f2 : (0 - n) % 100 / 10 = ((n.natAbs % 100 : Nat) : Int) / 10 := by omega
    have f3 : (0 - n) % 10 = ((n.natAbs % 100 : Nat) : Int) % 10 := by omega
    have sg : Str.ofString "-" = sgn n := by unfold sgn; rw [if_pos c]
    rw [f1]
    refine ⟨b1, ?_⟩
    walk_at "rd"
    rw [sg]
    refine ⟨by omega, ?_⟩
    walk_at "rd"
    refine ⟨by rw [Str.length_append]; omega, ?_⟩
    walk_at "rd"
    rw [f2]
    refine ⟨b2, ?_⟩
    walk_at "rd"
    refine ⟨by rw [Str.length_append, Str.length_append]; omega, ?_⟩
    walk_at "rd"
    rw [f3]
    refine ⟨b3, ?_⟩
    walk_at "rd"
    refine ⟨by rw [Str.length_append, Str.length_append, Str.length_append]; omega, ?_⟩
    exact key
  · rename_i c
    have f1 : n / 100 = ((n.natAbs / 100 : Nat) : Int) := by omega
    have f2 : n % 100 / 10 = ((n.natAbs % 100 : Nat) : Int) / 10 := by omega
    have f3 : n % 10 = ((n.natAbs % 100 : Nat) : Int) % 10 := by omega
    have sg : Str.ofString "" = sgn n := by unfold sgn; rw [if_neg c]
    rw [f1]
    refine ⟨b1, ?_⟩
    walk_at "rd"
    rw [sg]
    refine ⟨by omega, ?_⟩
    walk_at "rd"
    refine ⟨by rw [Str.length_append]; omega, ?_⟩
    walk_at "rd"
    rw [f2]
    refine ⟨b2, ?_⟩
    walk_at "rd"
    refine ⟨by rw [Str.length_append, Str.length_append]; omega, ?_⟩
    walk_at "rd"
    rw [f3]
    refine ⟨b3, ?_⟩
    walk_at "rd"
    refine ⟨by rw [Str.length_append, Str.length_append, Str.length_append]; omega, ?_⟩
    exact key
--@ _law_whole_of
def sp__law_whole_of (K : PySem.W.Frag) : Sp := fun vs H Q _ => ∃ (z : Str), vs = [.str z] ∧ z.length ≤ 1000 ∧ Q (optV (wholeL z.cps.toList)) H
theorem sc__law_whole_of : FnScope ["_law_text", "_law_value", "_law_sign", "_law_figure"] ["_law_text"] (defScope s__law_whole_of) := ⟨rfl, rfl, rfl, by decide +kernel, rfl, by decide +kernel, by decide +kernel⟩
theorem d__law_whole_of (S : Src K mg "_law_whole_of" s__law_whole_of ["_law_text"]) (T : Txt K mg)  : Def P w K mg base 1 "_law_whole_of" ["_law_text"] (sp__law_whole_of K) := by
  refine S.ok sc__law_whole_of (fun vs H Q E h => ?_) (fun f cdv A outer s H vs Q E hr h => ?_)
  · obtain ⟨z, rfl, zl, h⟩ := h
    rfl
  obtain ⟨z, rfl, zl, h⟩ := h
  refine ⟨_, (pss_consN (ps_if (PW.pt (pw_or (pt_cmpR op_lt (pe_callB call_len rfl T.n_len PySem.boot_len (pa_cons (pv 0) pa_nil)) pe_int (nomark _)) (pw_or (pt_cmpR op_gt (pe_callB call_len rfl T.n_len PySem.boot_len (pa_cons (pv 0) pa_nil)) pe_int (nomark _)) (pw_or1 (PW.pt (pw_and (pt_cmpR op_gt (pe_callB call_len rfl T.n_len PySem.boot_len (pa_cons (pv 0) pa_nil)) pe_int (nomark _)) (pw_and1 (pt_cmpR op_eq (pe_item_str (pv 0) pe_int (fun _ _ => rfl)) pe_str (nomark _)))))))))
      (pss_one (ps_ret pe_non))
      pss_nil)
      (pss_consN (ps_set (i := 1) sc__law_whole_of.nd rfl (by first | exact Or.inl rfl | exact Or.inr rfl) pe_int)
      (pss_consN (ps_for PassesOwn.never rfl (pi_str (pv 0)) (pg_name (i := 2) sc__law_whole_of.nd rfl (by first | exact Or.inl rfl | exact Or.inr rfl))
      (pss_consN (ps_set (i := 3) sc__law_whole_of.nd rfl (by first | exact Or.inl rfl | exact Or.inr rfl) (pe_bm PySem.F.plainAttrs_str PySem.F.slot_str_find PySem.F.type_str_find mt_find pe_str (pa_cons (pv 2) pa_nil)))
      (pss_consN (ps_if (pt_cmpR op_lt (pv 3) pe_int (nomark _))
      (pss_one (ps_ret pe_non))
      pss_nil)
      (pss_one (ps_set (i := 1) sc__law_whole_of.nd rfl (by first | exact Or.inl rfl | exact Or.inr rfl) (pe_op op_add (pe_op op_mul pe_int (pv 1)) (pv 3)))))))
      (pss_one (ps_ret (pv 1)))))), ?_⟩
  have sz := sizeLine_eq
  walk_at "rd"
  refine ⟨.str z, z.length, rfl, ⟨by omega, rfl⟩, ?_⟩
  have ll : z.cps.toList.length = z.length := Array.length_toList
  walk_at "rd"
  · rename_i c
    rw [show wholeL z.cps.toList = none from if_neg fun q => by have := q.1.1; omega] at h
    exact h
  rename_i c1
  walk_at "rd"
  refine ⟨.str z, z.length, rfl, ⟨by omega, rfl⟩, ?_⟩
  walk_at "rd"
  · rename_i c
    rw [show wholeL z.cps.toList = none from if_neg fun q => by have := q.1.2; omega] at h
    exact h
  rename_i c2
  walk_at "rd"
  refine ⟨.str z, z.length, rfl, ⟨by omega, rfl⟩, ?_⟩
  obtain ⟨d, hd⟩ : ∃ d, z.cps[0]? = some d := ⟨_, Array.getElem?_eq_getElem (show 0 < z.cps.size by show 0 < z.length; omega)⟩
  have hd' : z.cps.toList[0]? = some d := by rw [Array.getElem?_toList]; exact hd
  walk_at "rd"
  · rename_i q
    refine ⟨z, 0, d, rfl, rfl, by decide, by decide, by omega, hd, ?_⟩
    walk_at "rd"
    · rename_i v
      have d48 : d = 48 := by have y := (V_str v).trans o_list; simpa using y
      rw [show wholeL z.cps.toList = none from if_neg fun y => by have := y.2.1 (by rw [hd', d48]); omega] at h
      exact h
    rename_i v
    have hz1 : z.cps.toList[0]? = some 48 → z.cps.toList.length = 1 := fun y => absurd (str_V (by rw [hd'] at y; cases y; exact o_list.symm)) v
    refine for_str (fun i σ H' => H' = H ∧ (z.cps.toList.take i).all figB = true ∧ ∃ z1 z2 : Option V, σ = [some (.str z), some (.int (fval (z.cps.toList.take i))), z1, z2]) ⟨rfl, rfl, _, _, rfl⟩ ?_ ?_
    · rintro i c1 σ H' hc ⟨eH, hf, z1, z2, rfl⟩
      subst eH
      have tk : z.cps.toList.take (i + 1) = z.cps.toList.take i ++ [c1] := by rw [List.take_add_one, hc]; rfl
      have ff := fig_find c1
      walk_at "rd"
      · rename_i lt
        have hg : ¬ figB c1 = true := fun hg => by
          rw [if_pos hg] at ff
          have c48 := (fig_iff.mp hg).1
          have := lt
          omega
        rw [show wholeL z.cps.toList = none from if_neg fun y => hg (List.all_eq_true.mp y.2.2 c1 (List.mem_of_getElem? hc))] at h
        exact h
      · rename_i lt
        have hg : figB c1 = true := by
          cases y : figB c1 with
          | true => rfl
          | false =>
            rw [if_neg (by rw [y]; decide)] at ff
            have := lt
            omega
        rw [if_pos hg] at ff
        rw [tk, fval_snoc, ← ff]
        exact ⟨by rw [List.all_append, hf]; simp [hg], _, _, rfl⟩
    · rintro σ H' ⟨eH, hf, z1, z2, rfl⟩
      subst eH
      rw [show z.cps.toList.take z.cps.size = z.cps.toList from List.take_of_length_le (by simp)] at *
      walk_at "rd"
      rw [show wholeL z.cps.toList = some (fval z.cps.toList) from if_pos ⟨⟨by omega, by omega⟩, hz1, hf⟩] at h
      exact h
  · rename_i q
    have hz1 : z.cps.toList[0]? = some 48 → z.cps.toList.length = 1 := fun y => by omega
    refine for_str (fun i σ H' => H' = H ∧ (z.cps.toList.take i).all figB = true ∧ ∃ z1 z2 : Option V, σ = [some (.str z), some (.int (fval (z.cps.toList.take i))), z1, z2]) ⟨rfl, rfl, _, _, rfl⟩ ?_ ?_
    · rintro i c1 σ H' hc ⟨eH, hf, z1, z2, rfl⟩
      subst eH
      have tk : z.cps.toList.take (i + 1) = z.cps.toList.take i ++ [c1] := by rw [List.take_add_one, hc]; rfl
      have ff := fig_find c1
      walk_at "rd"
      · rename_i lt
        have hg : ¬ figB c1 = true := fun hg => by
          rw [if_pos hg] at ff
          have c48 := (fig_iff.mp hg).1
          have := lt
          omega
        rw [show wholeL z.cps.toList = none from if_neg fun y => hg (List.all_eq_true.mp y.2.2 c1 (List.mem_of_getElem? hc))] at h
        exact h
      · rename_i lt
        have hg : figB c1 = true := by
          cases y : figB c1 with
          | true => rfl
          | false =>
            rw [if_neg (by rw [y]; decide)] at ff
            have := lt
            omega
        rw [if_pos hg] at ff
        rw [tk, fval_snoc, ← ff]
        exact ⟨by rw [List.all_append, hf]; simp [hg], _, _, rfl⟩
    · rintro σ H' ⟨eH, hf, z1, z2, rfl⟩
      subst eH
      rw [show z.cps.toList.take z.cps.size = z.cps.toList from List.take_of_length_le (by simp)] at *
      walk_at "rd"
      rw [show wholeL z.cps.toList = some (fval z.cps.toList) from if_pos ⟨⟨by omega, by omega⟩, hz1, hf⟩] at h
      exact h
--@ read_whole
def sp_read_whole (K : PySem.W.Frag) : Sp := fun vs H Q E => ∃ x T, vs = [x] ∧ IsKind K H x T ∧ (∀ z, x = .str z → z.length ≤ 1000) ∧ (∀ n, wholeT x = some n → Q (.int n) H) ∧ (wholeT x = none → E (.ref (cA K "NoText")) none H)
theorem sc_read_whole : FnScope ["text"] ["text"] (defScope s_read_whole) := ⟨rfl, rfl, rfl, by decide +kernel, rfl, by decide +kernel, by decide +kernel⟩
theorem d_read_whole (S : Src K mg "read_whole" s_read_whole ["text"]) (T : Txt K mg) (D_check_text : DefX P w K mg base 1 "check_text" ["thing"] (sp_check_text K)) (D_are_figures : Def P w K mg base 1 "are_figures" ["text"] (sp_are_figures K)) : DefX P w K mg base 2 "read_whole" ["text"] (sp_read_whole K) := by
  refine S.okXF sc_read_whole (fun vs H Q E h => ?_) (fun f cdv A outer s H vs Q E hr h => ?_)
  · obtain ⟨x, Tk, rfl, hk, hl, h, hE⟩ := h
    rfl
  obtain ⟨x, Tk, rfl, hk, hl, h, hE⟩ := h
  refine ⟨_, (pss_consN (ps_expr (pe_fnX (E := fun C d H' => Same H H' ∧ E C d H) D_check_text hr passX (pa_cons (pv 0) pa_nil)))
      (pss_consN (ps_if (PW.pt (pw_or (pt_not (pt_chain op_le op_le pe_int (pe_callB call_len rfl T.n_len PySem.boot_len (pa_cons (pv 0) pa_nil)) (pe_gint T.g_MOST_FIGURES))) (pw_or1 (pt_not (pt_val (pe_fn D_are_figures hr (pa_cons (pv 0) pa_nil)))))))
      (pss_one (ps_raise (E := fun C d H' => Same H H' ∧ E C d H) T.m_NoText T.x_NoText (fun _ _ _ _ _ _ _ I hx hE => xe_made I hx hE) (pa_cons pe_str pa_nil)))
      pss_nil)
      (pss_consN (ps_if (PW.pt (pw_and (pt_cmpR op_eq (pe_item_str (pv 0) pe_int (fun _ _ => rfl)) pe_str (nomark _)) (pw_and1 (pt_cmpR op_ne (pv 0) pe_str (nomark _)))))
      (pss_one (ps_raise (E := fun C d H' => Same H H' ∧ E C d H) T.m_NoText T.x_NoText (fun _ _ _ _ _ _ _ I hx hE => xe_made I hx hE) (pa_cons pe_str pa_nil)))
      pss_nil)
      (pss_one (ps_ret (pe_callTy call_intT rfl T.n_int PyProof.Rows.boot_int (pa_cons (pv 0) pa_nil))))))), ?_⟩
  have sz := sizeLine_eq
  walk_at "rd"
  refine ⟨x, Tk, rfl, hk, fun e => ?_, fun e => ?_⟩
  rotate_left
  · refine ⟨Same.refl _, hE ?_⟩
    cases x <;> first | rfl | skip
    cases hk.1
    exact absurd rfl e
  obtain ⟨z, rfl⟩ : ∃ z, x = .str z := by
    cases x <;> first | exact ⟨_, rfl⟩ | (cases hk.1 <;> exact absurd e (by decide))
  have zl := hl z rfl
  walk_at "rd"
  refine ⟨.str z, z.length, rfl, ⟨by omega, rfl⟩, ?_⟩
  walk_at "rd"
  · rename_i c1 c2
    exact ⟨Same.refl _, hE (if_neg fun q => c2 (by have y := q.1.2; rw [Array.length_toList] at y; show ((z.cps.size : Nat) : Int) ≤ 30; omega))⟩
  · rename_i c1 c2
    have l1 : 1 ≤ z.length := by omega
    have l2 : z.length ≤ 30 := by omega
    have ll : z.cps.toList.length = z.length := Array.length_toList
    obtain ⟨c, hc⟩ : ∃ c, z.cps[0]? = some c := ⟨_, Array.getElem?_eq_getElem (show 0 < z.cps.size from l1)⟩
    have hc' : z.cps.toList[0]? = some c := by rw [Array.getElem?_toList]; exact hc
    cases eq : z.cps.toList.all figB with
    | false =>
      walk_at "rd"
      exact ⟨Same.refl _, hE (if_neg fun q => by rw [eq] at q; cases q.2.2)⟩
    | true =>
      walk_at "rd"
      refine ⟨z, 0, c, rfl, rfl, by decide, by decide, by omega, hc, ?_⟩
      walk_at "rd"
      · rename_i v1 v2
        refine ⟨Same.refl _, hE (if_neg fun q => v2 (str_V ?_))⟩
        have l1 := q.2.1 (hc'.trans (by rw [show c = 48 by have y := (V_str v1).trans o_list; simpa using y]))
        rw [o_list]
        match e : z.cps.toList, l1, hc' with
        | [d], _, hc' =>
          cases hc'
          have y := (V_str v1).trans o_list
          simpa using y
      · rename_i v1 v2
        have ez := (V_str v2).trans o_list
        walk_at "rd"
        refine ⟨z, _, rfl, by omega, fig_text eq (fun q => by rw [q] at ll; exact absurd ll (by simp; omega)) (by omega), ?_⟩
        exact ⟨Same.refl _, h _ (if_pos ⟨⟨by omega, by omega⟩, fun _ => by rw [ez]; rfl, eq⟩)⟩
      · rename_i v1
        walk_at "rd"
        refine ⟨z, _, rfl, by omega, fig_text eq (fun q => by rw [q] at ll; exact absurd ll (by simp; omega)) (by omega), ?_⟩
        exact ⟨Same.refl _, h _ (if_pos ⟨⟨by omega, by omega⟩, fun q => absurd (by rw [hc'] at q; cases q; exact str_V o_list.symm) v1, eq⟩)⟩
  · rename_i c1
    exact ⟨Same.refl _, hE (if_neg fun q => c1 (by have y := q.1.1; rw [Array.length_toList] at y; show 1 ≤ ((z.cps.size : Nat) : Int); omega))⟩
--@ show_cents
def sp_show_cents (K : PySem.W.Frag) : Sp := fun vs H Q _ => ∃ (n : Int), vs = [.int n] ∧ n.natAbs < 10 ^ 80 ∧ Q (.str (shC n)) H
theorem sc_show_cents : FnScope ["cents", "sign", "coins", "rest"] ["cents"] (defScope s_show_cents) := ⟨rfl, rfl, rfl, by decide +kernel, rfl, by decide +kernel, by decide +kernel⟩
theorem d_show_cents (S : Src K mg "show_cents" s_show_cents ["cents"]) (T : Txt K mg) (D_show_whole : Def P w K mg base 1 "show_whole" ["number"] (sp_show_whole K)) (D_two_figures : Def P w K mg base 1 "two_figures" ["number"] (sp_two_figures K)) : Def P w K mg base 2 "show_cents" ["cents"] (sp_show_cents K) := by
  refine S.ok sc_show_cents (fun vs H Q E h => ?_) (fun f cdv A outer s H vs Q E hr h => ?_)
  · obtain ⟨n, rfl, hn, h⟩ := h
    rfl
  obtain ⟨n, rfl, hn, h⟩ := h
  refine ⟨_, (pss_consN (ps_set (i := 1) sc_show_cents.nd rfl (by first | exact Or.inl rfl | exact Or.inr rfl) (pe_ifExp (pt_cmpR op_lt (pv 0) pe_int (nomark _)) pe_str pe_str))
      (pss_consN (ps_set (i := 2) sc_show_cents.nd rfl (by first | exact Or.inl rfl | exact Or.inr rfl) (pe_fn D_show_whole hr (pa_cons (pe_op op_fdiv (pe_callB call_abs rfl T.n_abs PyProof.Rows.boot_abs (pa_cons (pv 0) pa_nil)) pe_int) pa_nil)))
      (pss_consN (ps_set (i := 3) sc_show_cents.nd rfl (by first | exact Or.inl rfl | exact Or.inr rfl) (pe_fn D_two_figures hr (pa_cons (pe_op op_mod (pe_callB call_abs rfl T.n_abs PyProof.Rows.boot_abs (pa_cons (pv 0) pa_nil)) pe_int) pa_nil)))
      (pss_one (ps_ret (pe_fstr (pj_val (pv 1) (pj_val (pv 2) (pj_txt pe_str (pj_val (pv 3) pj_nil)))))))))), ?_⟩
  have sz := sizeLine_eq
  have ab : (if n < 0 then -n else n) = (n.natAbs : Int) := by split <;> omega
  have eq1 : (if n < 0 then -n else n) / 100 = ((n.natAbs / 100 : Nat) : Int) := by rw [ab]; omega
  have eq2 : (if n < 0 then -n else n) % 100 = ((n.natAbs % 100 : Nat) : Int) := by rw [ab]; omega
  have q80 : n.natAbs / 100 < 10 ^ 80 := Nat.lt_of_le_of_lt (Nat.div_le_self _ _) hn
  have m99 : n.natAbs % 100 < 100 := Nat.mod_lt _ (by decide)
  have dl := dg_len 79 _ q80
  have tl : (Str.ofString (toString ((n.natAbs / 100 : Nat) : Int))).length ≤ 80 := by
    have q := congrArg List.length (dg_text (n.natAbs / 100))
    rw [Array.length_toList] at q
    show (Str.ofString (toString ((n.natAbs / 100 : Nat) : Int))).cps.size ≤ 80
    omega
  have sl : (sgn n).length ≤ 1 := by unfold sgn; split <;> decide +kernel
  have e1 : (Str.ofString ".").length = 1 := by decide +kernel
  have lt2 : ∀ m : Int, (two m).length = 2 := fun _ => rfl
  have e2 : (two ((n.natAbs % 100 : Nat) : Int)).length = 2 := rfl
  have key : ∀ g : Str, sgn n = g → Q (.str (((Str.empty ++ g ++ Str.ofString (toString ((n.natAbs / 100 : Nat) : Int))) ++ Str.ofString ".") ++ two ((n.natAbs % 100 : Nat) : Int))) H := fun g hg => by
    rw [show Str.empty ++ g = sgn n by rw [hg]; exact str_ext (by rw [app_list]; rfl)]
    exact h
  walk_at "rd"
  · rename_i c
    have sg : sgn n = Str.ofString "-" := by unfold sgn; rw [if_pos c]
    have ky := key _ sg
    rw [sg] at sl
    have s0 : (Str.empty ++ Str.ofString "-").length ≤ 1 := by decide +kernel
    refine ⟨n.natAbs / 100, congrArg (fun v => [V.int v]) eq1, q80, ?_⟩
    walk_at "rd"
    refine ⟨by rw [Str.length_append]; omega, ?_⟩
    walk_at "rd"
    refine ⟨by rw [Str.length_append, Str.length_append, lt2]; omega, ?_⟩
    walk_at "rd"
    rw [eq2]
    refine ⟨by rw [Str.length_append, Str.length_append, Str.length_append, e2]; omega, ?_⟩
    exact ky
  · rename_i c
    have sg : sgn n = Str.ofString "" := by unfold sgn; rw [if_neg c]
    have ky := key _ sg
    rw [sg] at sl
    have s0 : (Str.empty ++ Str.ofString "").length ≤ 1 := by decide +kernel
    refine ⟨n.natAbs / 100, congrArg (fun v => [V.int v]) eq1, q80, ?_⟩
    walk_at "rd"
    refine ⟨by rw [Str.length_append]; omega, ?_⟩
    walk_at "rd"
    refine ⟨by rw [Str.length_append, Str.length_append, lt2]; omega, ?_⟩
    walk_at "rd"
    rw [eq2]
    refine ⟨by rw [Str.length_append, Str.length_append, Str.length_append, e2]; omega, ?_⟩
    exact ky
--@ _law_made
def sp__law_made (K : PySem.W.Frag) : Sp := fun vs H Q _ => L2.Ee8 fun px x0 x1 x2 x3 x4 x5 x6 => L2.Aa4 (vs = [.ref px]) (H px = some (.lst ([x0, x1, x2, x3, x4, x5, x6].map V.int))) (((0 ≤ x0 ∧ x0 < 10000000000000) ∧ 0 ≤ x1 ∧ 0 ≤ x2 ∧ 0 ≤ x3 ∧ 0 ≤ x4 ∧ 0 ≤ x5)) (∀ (z : Str), z.length < 45 → Q (.str z) H)
theorem sc__law_made : FnScope ["_law_xs", "_law_number", "_law_shown_here", "_law_text", "_law_at", "_law_sign", "_law_way"] ["_law_xs"] (defScope s__law_made) := ⟨rfl, rfl, rfl, by decide +kernel, rfl, by decide +kernel, by decide +kernel⟩
theorem d__law_made (S : Src K mg "_law_made" s__law_made ["_law_xs"]) (T : Txt K mg) (D__law_shown : Def P w K mg base 1 "_law_shown" ["_law_number"] (sp__law_shown K)) : Def P w K mg base 2 "_law_made" ["_law_xs"] (sp__law_made K) := by
  refine S.okF sc__law_made (fun vs H Q E h => ?_) (fun f cdv A outer s H vs Q E hr h => ?_)
  · obtain ⟨px, x0, x1, x2, x3, x4, x5, x6, rfl, ex, ⟨⟨n0, m0⟩, n1, n2, n3, n4, n5⟩, h⟩ := h
    rfl
  obtain ⟨px, x0, x1, x2, x3, x4, x5, x6, rfl, ex, ⟨⟨n0, m0⟩, n1, n2, n3, n4, n5⟩, h⟩ := h
  refine ⟨_, (pss_consN (ps_set (i := 1) sc__law_made.nd rfl (by first | exact Or.inl rfl | exact Or.inr rfl) (pe_ix ix_list (pe_lst (pa_cons (pe_op op_mod (pe_ix ix_list (pv 0) pe_int (fun _ _ => rfl)) pe_int) (pa_cons (pe_ix ix_list (pv 0) pe_int (fun _ _ => rfl)) (pa_cons (pe_op op_mod (pe_op op_powW (pe_ix ix_list (pv 0) pe_int (fun _ _ => rfl)) pe_int) (pe_powc (v := 10000000000000000000000000000000000) (by decide +kernel) ⟨by decide, by decide, by decide⟩)) (pa_cons (pe_op op_add (pe_op op_sub (pe_powc (v := 1000000) (by decide +kernel) ⟨by decide, by decide, by decide⟩) pe_int) (pe_op op_mod (pe_ix ix_list (pv 0) pe_int (fun _ _ => rfl)) pe_int)) (pa_cons (pe_op op_mod (pe_ix ix_list (pv 0) pe_int (fun _ _ => rfl)) pe_int) pa_nil)))))) (pe_op op_mod (pe_ix ix_list (pv 0) pe_int (fun _ _ => rfl)) pe_int) (fun _ _ => rfl)))
      (pss_consN (ps_set (i := 2) sc__law_made.nd rfl (by first | exact Or.inl rfl | exact Or.inr rfl) (pe_fn D__law_shown hr (pa_cons (pv 1) pa_nil)))
      (pss_consN (ps_set (i := 3) sc__law_made.nd rfl (by first | exact Or.inl rfl | exact Or.inr rfl) (pe_ix ix_list (pe_lst (pa_cons (pe_callTy call_str_int rfl T.n_str PyProof.Rows.boot_str (pa_cons (pv 1) pa_nil)) (pa_cons (pv 2) (pa_cons (pv 2) (pa_cons (pe_op op_add_str pe_str (pv 2)) (pa_cons (pe_ix ix_list (pe_lst (pa_cons pe_str (pa_cons pe_str (pa_cons pe_str (pa_cons pe_str pa_nil))))) (pe_op op_mod (pe_ix ix_list (pv 0) pe_int (fun _ _ => rfl)) pe_int) (fun _ _ => rfl)) pa_nil)))))) (pe_op op_mod (pe_ix ix_list (pv 0) pe_int (fun _ _ => rfl)) pe_int) (fun _ _ => rfl)))
      (pss_consN (ps_set (i := 4) sc__law_made.nd rfl (by first | exact Or.inl rfl | exact Or.inr rfl) (pe_op op_mod (pe_ix ix_list (pv 0) pe_int (fun _ _ => rfl)) (pe_op op_add (pe_callB call_len rfl T.n_len PySem.boot_len (pa_cons (pv 3) pa_nil)) pe_int)))
      (pss_consN (ps_set (i := 5) sc__law_made.nd rfl (by first | exact Or.inl rfl | exact Or.inr rfl) (pe_item_str pe_str (pe_op op_mod (pe_ix ix_list (pv 0) pe_int (fun _ _ => rfl)) pe_int) (fun _ _ => rfl)))
      (pss_consN (ps_set (i := 6) sc__law_made.nd rfl (by first | exact Or.inl rfl | exact Or.inr rfl) (pe_op op_mod (pe_ix ix_list (pv 0) pe_int (fun _ _ => rfl)) pe_int))
      (pss_consN (ps_if (pt_cmpR op_eq (pv 6) pe_int (nomark _))
      (pss_one (ps_ret (pe_op op_add_str (pe_op op_add_str (pe_slice sl_strE (pv 3) po_none (po_some (pv 4))) (pv 5)) (pe_slice sl_strE (pv 3) (po_some (pv 4)) po_none))))
      pss_nil)
      (pss_consN (ps_if (pt_cmpR op_eq (pv 6) pe_int (nomark _))
      (pss_one (ps_ret (pe_op op_add_str (pe_slice sl_strE (pv 3) po_none (po_some (pv 4))) (pe_slice sl_strE (pv 3) (po_some (pe_op op_add (pv 4) pe_int)) po_none))))
      pss_nil)
      (pss_consN (ps_if (pt_cmpR op_eq (pv 6) pe_int (nomark _))
      (pss_one (ps_ret (pe_op op_add_str (pe_op op_add_str (pe_slice sl_strE (pv 3) po_none (po_some (pv 4))) (pv 5)) (pe_slice sl_strE (pv 3) (po_some (pe_op op_add (pv 4) pe_int)) po_none))))
      pss_nil)
      (pss_one (ps_ret (pv 3)))))))))))), ?_⟩
  have sz := sizeLine_eq
  walk_at "rd"
  refine ⟨px, _, _, _, rfl, rfl, SqL.of ex, rfl, ?_⟩
  walk_at "rd"
  refine ⟨px, _, _, _, rfl, rfl, SqL.of ex, rfl, ?_⟩
  walk_at "rd"
  refine ⟨px, _, _, _, rfl, rfl, SqL.of ex, rfl, ?_⟩
  walk_at "rd"
  have bits := intBits_le_64 (show -(2 ^ 64) < x0 by omega) (by omega)
  refine ⟨⟨by decide, by show ((Builtin.Int.intBits x0 : Nat) : Int) * 4 ≤ 2 ^ 27; omega⟩, ?_⟩
  walk_at "rd"
  refine ⟨px, _, _, _, rfl, rfl, SqL.of ex, rfl, ?_⟩
  walk_at "rd"
  refine ⟨px, _, _, _, rfl, rfl, SqL.of ex, rfl, ?_⟩
  walk_at "rd"
  intro l1 nl1
  have s1 := same_new nl1 (.lst [V.int (x0 % 1000), .int x0, .int (x0 ^ (4 : Int).toNat % 10000000000000000000000000000000000), .int (1000000 - 2 + x0 % 5), .int (x0 % 12)])
  have e1 := at_new (.lst [V.int (x0 % 1000), .int x0, .int (x0 ^ (4 : Int).toNat % 10000000000000000000000000000000000), .int (1000000 - 2 + x0 % 5), .int (x0 % 12)]) nl1
  generalize upd H l1 (.lst [V.int (x0 % 1000), .int x0, .int (x0 ^ (4 : Int).toNat % 10000000000000000000000000000000000), .int (1000000 - 2 + x0 % 5), .int (x0 % 12)]) = H1 at s1 e1 ⊢
  have p34 : 0 ≤ x0 ^ (4 : Int).toNat % 10000000000000000000000000000000000 ∧ x0 ^ (4 : Int).toNat % 10000000000000000000000000000000000 < 10000000000000000000000000000000000 := ⟨Int.emod_nonneg _ (by decide), Int.emod_lt_of_pos _ (by decide)⟩
  generalize x0 ^ (4 : Int).toNat % 10000000000000000000000000000000000 = y4 at p34 e1
  have ex1 := s1 _ _ ex
  have b0 := Int.emod_nonneg x1 (show (5 : Int) ≠ 0 by decide)
  have b1 := Int.emod_lt_of_pos x1 (show (0 : Int) < 5 by decide)
  obtain ⟨n, hn, n34⟩ : ∃ n : Int, atI [V.int (x0 % 1000), .int x0, .int y4, .int (1000000 - 2 + x0 % 5), .int (x0 % 12)] (x1 % 5) = some (.int n) ∧ 0 ≤ n ∧ n < 10000000000000000000000000000000000 := by
    rcases (show x1 % 5 = 0 ∨ x1 % 5 = 1 ∨ x1 % 5 = 2 ∨ x1 % 5 = 3 ∨ x1 % 5 = 4 by omega) with e | e | e | e | e <;> rw [e]
    · exact ⟨_, rfl, by omega, by omega⟩
    · exact ⟨_, rfl, by omega, by omega⟩
    · exact ⟨_, rfl, by omega, by omega⟩
    · exact ⟨_, rfl, by omega, by omega⟩
    · exact ⟨_, rfl, by omega, by omega⟩
  walk_at "rd"
  refine ⟨px, _, _, _, rfl, rfl, SqL.of ex1, rfl, ?_⟩
  walk_at "rd"
  refine ⟨l1, _, _, _, rfl, rfl, SqL.of e1, hn, ?_⟩
  clear hn e1
  have na : n.natAbs < 10 ^ 34 := by omega
  have l36 := shC_len (n := n) (k := 31) (by omega)
  have lt : (Str.ofString (toString n)).length ≤ 34 := by
    obtain ⟨m, rfl⟩ := Int.eq_ofNat_of_zero_le n34.1
    have q := congrArg List.length (dg_text m)
    rw [Array.length_toList] at q
    have := dg_len 33 m (by omega)
    show (Str.ofString (toString (m : Int))).cps.size ≤ 34
    omega
  have lg : n.natAbs.log2 < 1920 := log2_small n34.1 (by omega)
  have m1 : (Str.ofString "-").length = 1 := by decide +kernel
  walk_at "rd"
  generalize shC n = sc at l36 ⊢
  generalize Str.ofString (toString n) = st at lt ⊢
  intro l2 nl2
  have s2 := same_new nl2 (.lst [V.str "00.00", .str "-", .str "", .str "--1.00"])
  have e2 := at_new (.lst [V.str "00.00", .str "-", .str "", .str "--1.00"]) nl2
  generalize upd H1 l2 (.lst [V.str "00.00", .str "-", .str "", .str "--1.00"]) = H2 at s2 e2 ⊢
  have ex2 := s2 _ _ ex1
  have c0 := Int.emod_nonneg x0 (show (4 : Int) ≠ 0 by decide)
  have c1 := Int.emod_lt_of_pos x0 (show (0 : Int) < 4 by decide)
  obtain ⟨od, ho, hol⟩ : ∃ od : Str, atI [V.str "00.00", .str "-", .str "", .str "--1.00"] (x0 % 4) = some (.str od) ∧ od.length ≤ 6 := by
    rcases (show x0 % 4 = 0 ∨ x0 % 4 = 1 ∨ x0 % 4 = 2 ∨ x0 % 4 = 3 by omega) with e | e | e | e <;> rw [e] <;> exact ⟨_, rfl, by decide +kernel⟩
  walk_at "rd"
  refine ⟨px, _, _, _, rfl, rfl, SqL.of ex2, rfl, ?_⟩
  walk_at "rd"
  refine ⟨l2, _, _, _, rfl, rfl, SqL.of e2, ho, ?_⟩
  clear ho e2
  walk_at "rd"
  intro l3 nl3
  have s3 := same_new nl3 (.lst [V.str st, .str sc, .str sc, .str (Str.ofString "-" ++ sc), .str od])
  have e3 := at_new (.lst [V.str st, .str sc, .str sc, .str (Str.ofString "-" ++ sc), .str od]) nl3
  generalize upd H2 l3 (.lst [V.str st, .str sc, .str sc, .str (Str.ofString "-" ++ sc), .str od]) = H3 at s3 e3 ⊢
  have ex3 := s3 _ _ ex2
  have d0 := Int.emod_nonneg x2 (show (5 : Int) ≠ 0 by decide)
  have d1 := Int.emod_lt_of_pos x2 (show (0 : Int) < 5 by decide)
  obtain ⟨z, hz, zl⟩ : ∃ z : Str, atI [V.str st, .str sc, .str sc, .str (Str.ofString "-" ++ sc), .str od] (x2 % 5) = some (.str z) ∧ z.length ≤ 40 := by
    rcases (show x2 % 5 = 0 ∨ x2 % 5 = 1 ∨ x2 % 5 = 2 ∨ x2 % 5 = 3 ∨ x2 % 5 = 4 by omega) with e | e | e | e | e <;> rw [e]
    · exact ⟨_, rfl, by omega⟩
    · exact ⟨_, rfl, by omega⟩
    · exact ⟨_, rfl, by omega⟩
    · exact ⟨_, rfl, by rw [Str.length_append]; omega⟩
    · exact ⟨_, rfl, by omega⟩
  walk_at "rd"
  refine ⟨px, _, _, _, rfl, rfl, SqL.of ex3, rfl, ?_⟩
  walk_at "rd"
  refine ⟨l3, _, _, _, rfl, rfl, SqL.of e3, hz, ?_⟩
  clear hz e3
  have sH := s1.trans (s2.trans s3)
  walk_at "rd"
  refine ⟨px, _, _, _, rfl, rfl, SqL.of ex3, rfl, ?_⟩
  walk_at "rd"
  refine ⟨.str z, z.length, rfl, ⟨by omega, rfl⟩, ?_⟩
  walk_at "rd"
  refine ⟨px, _, _, _, rfl, rfl, SqL.of ex3, rfl, ?_⟩
  have f0 := Int.emod_nonneg x4 (show (16 : Int) ≠ 0 by decide)
  have f1 := Int.emod_lt_of_pos x4 (show (0 : Int) < 16 by decide)
  obtain ⟨k, hk⟩ := Int.eq_ofNat_of_zero_le f0
  obtain ⟨c, hc⟩ : ∃ c, (Str.ofString "0123456789.-, +a").cps[k]? = some c := by
    have : k < 16 := by omega
    have e : (Str.ofString "0123456789.-, +a").cps.size = 16 := by decide +kernel
    exact ⟨_, Array.getElem?_eq_getElem (by omega)⟩
  walk_at "rd"
  have sl : ∀ l u, (Txt.slice z l u).length ≤ 40 := fun l u => Nat.le_trans (Txt.slice_le z l u) zl
  have cl : (⟨#[c]⟩ : Str).length = 1 := rfl
  have e16 : (Str.ofString "0123456789.-, +a").length = 16 := by decide +kernel
  refine ⟨_, x4 % 16, c, rfl, rfl, f0, by omega, by rw [e16]; exact f1, by rw [hk]; exact hc, ?_⟩
  walk_at "rd"
  refine ⟨px, _, _, _, rfl, rfl, SqL.of ex3, rfl, ?_⟩
  have ix0 := Int.emod_nonneg x3 (show ((z.length : Int) + 1) ≠ 0 by omega)
  have ix1 := Int.emod_lt_of_pos x3 (show (0 : Int) < (z.length : Int) + 1 by omega)
  have t1 : (Txt.slice z none (some (x3 % (z.length + 1)))).length + (Txt.slice z (some (x3 % (z.length + 1))) none).length ≤ 40 := by
    have q1 := congrArg List.length (slice_to z ix0)
    have q2 := congrArg List.length (slice_from z ix0)
    rw [Array.length_toList, List.length_take, Array.length_toList] at q1
    rw [Array.length_toList, List.length_drop, Array.length_toList] at q2
    show (Txt.slice z none (some (x3 % (z.length + 1)))).cps.size + (Txt.slice z (some (x3 % (z.length + 1))) none).cps.size ≤ 40
    have : z.length = z.cps.size := rfl
    omega
  have t2 : (Txt.slice z none (some (x3 % (z.length + 1)))).length + (Txt.slice z (some (x3 % (z.length + 1) + 1)) none).length ≤ 40 := by
    have q1 := congrArg List.length (slice_to z ix0)
    have q2 := congrArg List.length (slice_from z (show 0 ≤ x3 % ((z.length : Int) + 1) + 1 by omega))
    rw [Array.length_toList, List.length_take, Array.length_toList] at q1
    rw [Array.length_toList, List.length_drop, Array.length_toList] at q2
    show (Txt.slice z none (some (x3 % (z.length + 1)))).cps.size + (Txt.slice z (some (x3 % (z.length + 1) + 1)) none).cps.size ≤ 40
    have : z.length = z.cps.size := rfl
    omega
  walk_at "rd"
  · refine ⟨by rw [Str.length_append, cl]; omega, sH, ?_⟩
    exact h _ (by rw [Str.length_append, Str.length_append, cl]; omega)
  · exact h _ (by rw [Str.length_append]; omega)
  · refine ⟨by rw [Str.length_append, cl]; omega, sH, ?_⟩
    exact h _ (by rw [Str.length_append, Str.length_append, cl]; omega)
  · exact h _ (by omega)
--@ read_coins
def sp_read_coins (K : PySem.W.Frag) : Sp := fun vs H Q E => ∃ z, vs = [.str z] ∧ z.length ≤ 1000 ∧ (∀ n, coinsL z.cps.toList = some n → Q (.int n) H) ∧ (coinsL z.cps.toList = none → E (.ref (cA K "NoText")) none H)
theorem sc_read_coins : FnScope ["text", "parts"] ["text"] (defScope s_read_coins) := ⟨rfl, rfl, rfl, by decide +kernel, rfl, by decide +kernel, by decide +kernel⟩
theorem d_read_coins (S : Src K mg "read_coins" s_read_coins ["text"]) (T : Txt K mg) (D_are_figures : Def P w K mg base 1 "are_figures" ["text"] (sp_are_figures K)) (D_read_whole : DefX P w K mg base 2 "read_whole" ["text"] (sp_read_whole K)) : DefX P w K mg base 3 "read_coins" ["text"] (sp_read_coins K) := by
  refine S.okXF sc_read_coins (fun vs H Q E h => ?_) (fun f cdv A outer s H vs Q E hr h => ?_)
  · obtain ⟨z, rfl, zl, h, hE⟩ := h
    rfl
  obtain ⟨z, rfl, zl, h, hE⟩ := h
  refine ⟨_, (pss_consN (ps_set (i := 1) sc_read_coins.nd rfl (by first | exact Or.inl rfl | exact Or.inr rfl) (pe_bm PySem.F.plainAttrs_str PySem.F.slot_str_partition PySem.F.type_str_partition mt_partition (pv 0) (pa_cons pe_str pa_nil)))
      (pss_consN (ps_if (PW.pt (pw_or (pt_cmpR op_ne (pe_callB call_len rfl T.n_len PySem.boot_len (pa_cons (pe_ix ix_tup (pv 1) pe_int (fun _ _ => rfl)) pa_nil)) pe_int (nomark _)) (pw_or1 (pt_not (pt_val (pe_fn D_are_figures hr (pa_cons (pe_ix ix_tup (pv 1) pe_int (fun _ _ => rfl)) pa_nil)))))))
      (pss_one (ps_raise (E := fun C d H' => Same H H' ∧ E C d H) T.m_NoText T.x_NoText (fun _ _ _ _ _ _ _ I hx hE => xe_made I hx hE) (pa_cons pe_str pa_nil)))
      pss_nil)
      (pss_one (ps_ret (pe_op op_add (pe_op op_mul pe_int (pe_fnX (E := fun C d H' => Same H H' ∧ E C d H) D_read_whole hr passX (pa_cons (pe_ix ix_tup (pv 1) pe_int (fun _ _ => rfl)) pa_nil))) (pe_callTy call_intT rfl T.n_int PyProof.Rows.boot_int (pa_cons (pe_ix ix_tup (pv 1) pe_int (fun _ _ => rfl)) pa_nil))))))), ?_⟩
  have sz := sizeLine_eq
  walk_at "rd"
  intro p np
  have sp := same_new np (.tup [V.str (Txt.partition z (Str.ofString ".")).fst, V.str (Txt.partition z (Str.ofString ".")).snd.fst, V.str (Txt.partition z (Str.ofString ".")).snd.snd])
  have ep := at_new (.tup [V.str (Txt.partition z (Str.ofString ".")).fst, V.str (Txt.partition z (Str.ofString ".")).snd.fst, V.str (Txt.partition z (Str.ofString ".")).snd.snd]) np
  generalize upd H p (.tup [V.str (Txt.partition z (Str.ofString ".")).fst, V.str (Txt.partition z (Str.ofString ".")).snd.fst, V.str (Txt.partition z (Str.ofString ".")).snd.snd]) = H1 at sp ep ⊢
  have pt := part_one z 46
  rw [show (⟨#[46]⟩ : Str) = Str.ofString "." by decide +kernel] at pt
  generalize (Txt.partition z (Str.ofString ".")).1 = a at pt ep
  generalize (Txt.partition z (Str.ofString ".")).2.1 = b at pt ep
  generalize (Txt.partition z (Str.ofString ".")).2.2 = c at pt ep
  have cp := coins_part (a := a.cps.toList) (b := c.cps.toList) pt
  have al : a.cps.toList.length = a.length := Array.length_toList
  have cl : c.cps.toList.length = c.length := Array.length_toList
  have ll : z.cps.toList.length = z.length := Array.length_toList
  have c1 : c.length ≤ 1000 := by
    rcases pt with pt | pt
    · rw [← cl, pt.2]; decide
    · have := congrArg List.length pt.1
      rw [List.length_append, List.length_cons] at this
      omega
  walk_at "rd"
  refine ⟨.str c, c.length, rfl, ⟨by omega, rfl⟩, ?_⟩
  walk_at "rd"
  · rename_i q
    exact hE (cp.trans (if_neg fun y => q (by have := y.1; omega)))
  rename_i q
  have c2 : c.cps.toList.length = 2 := by omega
  walk_at "rd"
  cases eq : c.cps.toList.all figB with
  | false =>
    walk_at "rd"
    exact hE (cp.trans (if_neg fun y => by rw [eq] at y; cases y.2))
  | true =>
    rw [if_pos ⟨c2, eq⟩] at cp
    walk_at "rd"
    have a1 : a.length ≤ 1000 := by
      rcases pt with pt | pt
      · rw [pt.2] at c2; cases c2
      · have := congrArg List.length pt.1
        rw [List.length_append, List.length_cons] at this
        omega
    walk_at "rd"
    refine ⟨.str a, "str", rfl, ⟨.str _, by simp [kinds]⟩, (fun y e => by cases e; exact a1), fun n hn => ?_, fun hn => ?_⟩
    · walk_at "rd"
      refine ⟨c, _, rfl, by omega, fig_text eq (fun y => by rw [y] at c2; cases c2) (by omega), ?_⟩
      walk_at "rd"
      exact h _ (cp.trans (by rw [show wholeL a.cps.toList = some n from hn]; rfl))
    · exact ⟨sp, hE (cp.trans (by rw [show wholeL a.cps.toList = none from hn]; rfl))⟩
--@ show_rate
def sp_show_rate (K : PySem.W.Frag) : Sp := fun vs H Q _ => ∃ (n : Int), vs = [.int n] ∧ n.natAbs < 10 ^ 80 ∧ Q (.str (shC n)) H
theorem sc_show_rate : FnScope ["rate"] ["rate"] (defScope s_show_rate) := ⟨rfl, rfl, rfl, by decide +kernel, rfl, by decide +kernel, by decide +kernel⟩
theorem d_show_rate (S : Src K mg "show_rate" s_show_rate ["rate"]) (T : Txt K mg) (D_show_cents : Def P w K mg base 2 "show_cents" ["cents"] (sp_show_cents K)) : Def P w K mg base 3 "show_rate" ["rate"] (sp_show_rate K) := by
  refine S.ok sc_show_rate (fun vs H Q E h => ?_) (fun f cdv A outer s H vs Q E hr h => ?_)
  · obtain ⟨n, rfl, hn, h⟩ := h
    rfl
  obtain ⟨n, rfl, hn, h⟩ := h
  refine ⟨_, (pss_one (ps_ret (pe_fn D_show_cents hr (pa_cons (pv 0) pa_nil)))), ?_⟩
  walk_at "rd"
  exact h
--@ read_cents
def sp_read_cents (K : PySem.W.Frag) : Sp := fun vs H Q E => ∃ x T, vs = [x] ∧ IsKind K H x T ∧ (∀ z, x = .str z → z.length ≤ 1000) ∧ (∀ n, centsT x = some n → Q (.int n) H) ∧ (centsT x = none → E (.ref (cA K "NoText")) none H)
theorem sc_read_cents : FnScope ["text", "cents"] ["text"] (defScope s_read_cents) := ⟨rfl, rfl, rfl, by decide +kernel, rfl, by decide +kernel, by decide +kernel⟩
theorem d_read_cents (S : Src K mg "read_cents" s_read_cents ["text"]) (T : Txt K mg) (D_check_text : DefX P w K mg base 1 "check_text" ["thing"] (sp_check_text K)) (D_read_coins : DefX P w K mg base 3 "read_coins" ["text"] (sp_read_coins K)) : DefX P w K mg base 4 "read_cents" ["text"] (sp_read_cents K) := by
  refine S.okXF sc_read_cents (fun vs H Q E h => ?_) (fun f cdv A outer s H vs Q E hr h => ?_)
  · obtain ⟨x, Tk, rfl, hk, hl, h, hE⟩ := h
    rfl
  obtain ⟨x, Tk, rfl, hk, hl, h, hE⟩ := h
  refine ⟨_, (pss_consN (ps_expr (pe_fnX (E := fun C d H' => Same H H' ∧ E C d H) D_check_text hr passX (pa_cons (pv 0) pa_nil)))
      (pss_consN (ps_if (pt_not (pt_val (pe_bm PySem.F.plainAttrs_str PySem.F.slot_str_startswith PySem.F.type_str_startswith mt_startswith (pv 0) (pa_cons pe_str pa_nil))))
      (pss_one (ps_ret (pe_fnX (E := fun C d H' => Same H H' ∧ E C d H) D_read_coins hr passX (pa_cons (pv 0) pa_nil))))
      pss_nil)
      (pss_consN (ps_set (i := 1) sc_read_cents.nd rfl (by first | exact Or.inl rfl | exact Or.inr rfl) (pe_fnX (E := fun C d H' => Same H H' ∧ E C d H) D_read_coins hr passX (pa_cons (pe_slice sl_strE (pv 0) (po_some pe_int) po_none) pa_nil)))
      (pss_consN (ps_if (pt_cmpR op_eq (pv 1) pe_int (nomark _))
      (pss_one (ps_raise (E := fun C d H' => Same H H' ∧ E C d H) T.m_NoText T.x_NoText (fun _ _ _ _ _ _ _ I hx hE => xe_made I hx hE) (pa_cons pe_str pa_nil)))
      pss_nil)
      (pss_one (ps_ret (pe_un un_neg (pv 1)))))))), ?_⟩
  have sz := sizeLine_eq
  walk_at "rd"
  refine ⟨x, Tk, rfl, hk, fun e => ?_, fun e => ?_⟩
  rotate_left
  · refine ⟨Same.refl _, hE ?_⟩
    cases x <;> first | rfl | skip
    cases hk.1
    exact absurd rfl e
  obtain ⟨z, rfl⟩ : ∃ z, x = .str z := by
    cases x <;> first | exact ⟨_, rfl⟩ | (cases hk.1 <;> exact absurd e (by decide))
  have zl := hl z rfl
  walk_at "rd"
  rw [show (Str.ofString "-") = ⟨#[45]⟩ by decide +kernel, starts_one]
  by_cases q : z.cps.toList[0]? = some 45
  · rw [decide_eq_true q]
    have ct : centsT (.str z) = (coinsL (z.cps.toList.drop 1)).bind (fun c => if c = 0 then none else some (-c)) := if_pos q
    walk_at "rd"
    have s1 : (Txt.slice z (some 1) none).cps.toList = z.cps.toList.drop 1 := slice_from z (by decide)
    have s2 := Txt.slice_le z (some 1) none
    generalize Txt.slice z (some 1) none = y at s1 s2 ⊢
    rw [← s1] at ct
    refine ⟨by omega, fun n hn => ?_, fun hn => ?_⟩
    · rw [hn] at ct
      walk_at "rd"
      · rename_i c
        exact ⟨Same.refl _, hE (ct.trans (if_pos c))⟩
      · rename_i c
        exact ⟨Same.refl _, h _ (ct.trans (if_neg c))⟩
    · exact ⟨Same.refl _, hE (ct.trans (by rw [hn]; rfl))⟩
  · rw [decide_eq_false q]
    have ct : centsT (.str z) = coinsL z.cps.toList := if_neg q
    walk_at "rd"
    exact ⟨fun n hn => ⟨Same.refl _, h n (ct.trans hn)⟩, fun hn => ⟨Same.refl _, hE (ct.trans hn)⟩⟩
--@ read_rate
def sp_read_rate (K : PySem.W.Frag) : Sp := fun vs H Q E => ∃ x T, vs = [x] ∧ IsKind K H x T ∧ (∀ z, x = .str z → z.length ≤ 1000) ∧ (∀ n, rateT x = some n → Q (.int n) H) ∧ (rateT x = none → E (.ref (cA K "NoText")) none H)
theorem sc_read_rate : FnScope ["text", "rate"] ["text"] (defScope s_read_rate) := ⟨rfl, rfl, rfl, by decide +kernel, rfl, by decide +kernel, by decide +kernel⟩
theorem d_read_rate (S : Src K mg "read_rate" s_read_rate ["text"]) (T : Txt K mg) (D_read_cents : DefX P w K mg base 4 "read_cents" ["text"] (sp_read_cents K)) : DefX P w K mg base 5 "read_rate" ["text"] (sp_read_rate K) := by
  refine S.okXF sc_read_rate (fun vs H Q E h => ?_) (fun f cdv A outer s H vs Q E hr h => ?_)
  · obtain ⟨x, Tk, rfl, hk, hl, h, hE⟩ := h
    rfl
  obtain ⟨x, Tk, rfl, hk, hl, h, hE⟩ := h
  refine ⟨_, (pss_consN (ps_set (i := 1) sc_read_rate.nd rfl (by first | exact Or.inl rfl | exact Or.inr rfl) (pe_fnX (E := fun C d H' => Same H H' ∧ E C d H) D_read_cents hr passX (pa_cons (pv 0) pa_nil)))
      (pss_consN (ps_if (pt_not (pt_chain op_le op_le pe_int (pv 1) (pe_gint T.g_MOST_RATE)))
      (pss_one (ps_raise (E := fun C d H' => Same H H' ∧ E C d H) T.m_NoText T.x_NoText (fun _ _ _ _ _ _ _ I hx hE => xe_made I hx hE) (pa_cons pe_str pa_nil)))
      pss_nil)
      (pss_one (ps_ret (pv 1))))), ?_⟩
  have sz := sizeLine_eq
  walk_at "rd"
  refine ⟨x, Tk, rfl, hk, hl, fun n e => ?_, fun e => ?_⟩
  rotate_left
  · refine ⟨Same.refl _, hE ?_⟩
    cases x <;> first | rfl | skip
    exact congrArg (Option.bind · _) e
  have r : rateT x = if 0 ≤ n ∧ n ≤ 1000000 then some n else none := by
    cases x <;> first | (cases e; done) | skip
    show (centsL _).bind _ = _
    rw [show centsL _ = some n from e]
    rfl
  walk_at "rd"
  · rename_i c1 c2
    exact ⟨Same.refl _, hE (r.trans (if_neg fun y => c2 y.2))⟩
  · rename_i c1 c2
    exact ⟨Same.refl _, h n (r.trans (if_pos ⟨c1, c2⟩))⟩
  · rename_i c1
    exact ⟨Same.refl _, hE (r.trans (if_neg fun y => c1 y.1))⟩
--@ _law_read
def readO (w : Int) (x : V) : Option Int := if w = 0 then wholeT x else if w = 1 then centsT x else rateT x
def readR (w : Int) (x : V) : List V := match readO w x with | some n => [.str "told", .int n, .bl true] | none => [.str "none", .bl true, .bl false]
def sp__law_read (K : PySem.W.Frag) : Sp := fun vs H Q _ => ∃ w x T, vs = [.int w, x] ∧ IsKind K H x T ∧ (∀ z, x = .str z → z.length ≤ 1000) ∧ ∀ p H', Same H H' → H' p = some (.tup (readR w x)) → Q (.ref p) H'
theorem sc__law_read : FnScope ["_law_way", "_law_thing", "_law_found", "e"] ["_law_way", "_law_thing"] (defScope s__law_read) := ⟨rfl, rfl, rfl, by decide +kernel, rfl, by decide +kernel, by decide +kernel⟩
theorem d__law_read (S : Src K mg "_law_read" s__law_read ["_law_way", "_law_thing"]) (T : Txt K mg) (D_read_whole : DefX P w K mg base 2 "read_whole" ["text"] (sp_read_whole K)) (D_read_cents : DefX P w K mg base 4 "read_cents" ["text"] (sp_read_cents K)) (D_read_rate : DefX P w K mg base 5 "read_rate" ["text"] (sp_read_rate K)) : Def P w K mg base 6 "_law_read" ["_law_way", "_law_thing"] (sp__law_read K) := by
  refine S.ok sc__law_read (fun vs H Q E h => ?_) (fun f cdv A outer s H vs Q E hr h => ?_)
  · obtain ⟨w, x, Tk, rfl, hk, hl, h⟩ := h
    rfl
  obtain ⟨w, x, Tk, rfl, hk, hl, h⟩ := h
  refine ⟨_, (pss_consN (ps_set (i := 2) sc__law_read.nd rfl (by first | exact Or.inl rfl | exact Or.inr rfl) pe_non)
      (pss_consN (ps_tryG [none, none, none, none] sc__law_read.nd (j := 3) rfl rfl T.m_NoText (fun E xe pn px => (pss_one (ps_if (pt_cmpR op_eq (pv 0) pe_int (nomark _))
      (pss_one (ps_set (i := 2) sc__law_read.nd rfl (by first | exact Or.inl rfl | exact Or.inr rfl) (pe_fnX (E := E) D_read_whole hr px (pa_cons (pv 1) pa_nil))))
      (pss_one (ps_if (pt_cmpR op_eq (pv 0) pe_int (nomark _))
      (pss_one (ps_set (i := 2) sc__law_read.nd rfl (by first | exact Or.inl rfl | exact Or.inr rfl) (pe_fnX (E := E) D_read_cents hr px (pa_cons (pv 1) pa_nil))))
      (pss_one (ps_set (i := 2) sc__law_read.nd rfl (by first | exact Or.inl rfl | exact Or.inr rfl) (pe_fnX (E := E) D_read_rate hr px (pa_cons (pv 1) pa_nil))))))))) (fun e => (pss_one (ps_ret (pe_tup (pa_cons pe_str (pa_cons (pe_callB (call_isiO K) rfl T.n_isinstance PyProof.Rows.boot_isinstance (pa_cons (pv 3) (pa_cons (pe_glob (v := .ref (cA K "LoanError")) rfl T.m_LoanError rfl) pa_nil))) (pa_cons (pe_callB (call_isiO K) rfl T.n_isinstance PyProof.Rows.boot_isinstance (pa_cons (pv 3) (pa_cons (pe_glob (v := .ref (cA K "NoRow")) rfl T.m_NoRow rfl) pa_nil))) pa_nil))))))))
      (pss_one (ps_ret (pe_tup (pa_cons pe_str (pa_cons (pv 2) (pa_cons (pe_and (pe_callB call_isinst rfl T.n_isinstance PyProof.Rows.boot_isinstance (pa_cons (pv 2) (pa_cons (pe_bltn (v := .ty "int") rfl T.n_int PyProof.Rows.boot_int rfl) pa_nil))) (pe_one (pe_not (pe_callB call_isinst rfl T.n_isinstance PyProof.Rows.boot_isinstance (pa_cons (pv 2) (pa_cons (pe_bltn (v := .ty "bool") rfl T.n_bool PyProof.Rows.boot_bool rfl) pa_nil)))))) pa_nil)))))))), ?_⟩
  walk_at "rd"
  · rename_i c
    have er : readO w x = wholeT x := if_pos c
    walk_at "rd"
    refine ⟨x, Tk, rfl, hk, hl, fun n hn => ?_, fun hn => ?_⟩
    · walk_at "rd"
      refine ⟨_, _, _, _, rfl, .int _, kit_int (T := "int") (by simp [kinds]), ?_⟩
      walk_at "rd"
      refine ⟨_, _, _, _, rfl, .int _, kit_bool (T := "int") (by simp [kinds]), ?_⟩
      walk_at "rd"
      intro p np
      exact h p _ (same_new np _) (by rw [upd_same]; unfold readR; rw [er, hn]; rfl)
    · refine ⟨_, rfl, T.e_NoText_NoText, ?_⟩
      walk_at "rd"
      intro e ne
      have s1 := same_new ne (ExcO e (.ref (cA K "NoText")))
      have ee := at_new (ExcO e (.ref (cA K "NoText"))) ne
      walk_at "rd"
      refine ⟨e, _, _, _, rfl, ee, T.z_NoText, T.k_NoText_LoanError, ?_⟩
      walk_at "rd"
      refine ⟨e, _, _, _, rfl, ee, T.z_NoText, T.k_NoText_NoRow, ?_⟩
      walk_at "rd"
      intro p np
      exact h p _ (s1.trans (same_new np _)) (by rw [upd_same]; unfold readR; rw [er, hn])
  · rename_i c d
    have er : readO w x = centsT x := (if_neg c).trans (if_pos d)
    walk_at "rd"
    refine ⟨x, Tk, rfl, hk, hl, fun n hn => ?_, fun hn => ?_⟩
    · walk_at "rd"
      refine ⟨_, _, _, _, rfl, .int _, kit_int (T := "int") (by simp [kinds]), ?_⟩
      walk_at "rd"
      refine ⟨_, _, _, _, rfl, .int _, kit_bool (T := "int") (by simp [kinds]), ?_⟩
      walk_at "rd"
      intro p np
      exact h p _ (same_new np _) (by rw [upd_same]; unfold readR; rw [er, hn]; rfl)
    · refine ⟨_, rfl, T.e_NoText_NoText, ?_⟩
      walk_at "rd"
      intro e ne
      have s1 := same_new ne (ExcO e (.ref (cA K "NoText")))
      have ee := at_new (ExcO e (.ref (cA K "NoText"))) ne
      walk_at "rd"
      refine ⟨e, _, _, _, rfl, ee, T.z_NoText, T.k_NoText_LoanError, ?_⟩
      walk_at "rd"
      refine ⟨e, _, _, _, rfl, ee, T.z_NoText, T.k_NoText_NoRow, ?_⟩
      walk_at "rd"
      intro p np
      exact h p _ (s1.trans (same_new np _)) (by rw [upd_same]; unfold readR; rw [er, hn])
  · rename_i c d
    have er : readO w x = rateT x := (if_neg c).trans (if_neg d)
    walk_at "rd"
    refine ⟨x, Tk, rfl, hk, hl, fun n hn => ?_, fun hn => ?_⟩
    · walk_at "rd"
      refine ⟨_, _, _, _, rfl, .int _, kit_int (T := "int") (by simp [kinds]), ?_⟩
      walk_at "rd"
      refine ⟨_, _, _, _, rfl, .int _, kit_bool (T := "int") (by simp [kinds]), ?_⟩
      walk_at "rd"
      intro p np
      exact h p _ (same_new np _) (by rw [upd_same]; unfold readR; rw [er, hn]; rfl)
    · refine ⟨_, rfl, T.e_NoText_NoText, ?_⟩
      walk_at "rd"
      intro e ne
      have s1 := same_new ne (ExcO e (.ref (cA K "NoText")))
      have ee := at_new (ExcO e (.ref (cA K "NoText"))) ne
      walk_at "rd"
      refine ⟨e, _, _, _, rfl, ee, T.z_NoText, T.k_NoText_LoanError, ?_⟩
      walk_at "rd"
      refine ⟨e, _, _, _, rfl, ee, T.z_NoText, T.k_NoText_NoRow, ?_⟩
      walk_at "rd"
      intro p np
      exact h p _ (s1.trans (same_new np _)) (by rw [upd_same]; unfold readR; rw [er, hn])
--@ _law_cents_of
def sr__law_cents_of (k : Nat) (K : PySem.W.Frag) : Sp := fun vs H Q _ => ∃ (z : Str), vs = [.str z] ∧ z.length < k ∧ z.length ≤ 1000 ∧ Q (optV (centsL z.cps.toList)) H
theorem sr0__law_cents_of {K : PySem.W.Frag} {vs : List V} {H : Hp} {Q : VK} {E : XK} (h : sr__law_cents_of 0 K vs H Q E) : False := by
  obtain ⟨z, _, h, _⟩ := h
  exact absurd h (Nat.not_lt_zero _)
def sp__law_cents_of (K : PySem.W.Frag) : Sp := sr__law_cents_of 45 K
theorem sc__law_cents_of : FnScope ["_law_text", "_law_cents", "_law_whole", "_law_part"] ["_law_text"] (defScope s__law_cents_of) := ⟨rfl, rfl, rfl, by decide +kernel, rfl, by decide +kernel, by decide +kernel⟩
theorem ds__law_cents_of (S : Src K mg "_law_cents_of" s__law_cents_of ["_law_text"]) (T : Txt K mg) (D__law_whole_of : Def P w K mg base 1 "_law_whole_of" ["_law_text"] (sp__law_whole_of K)) (k : Nat) (D__law_cents_of : Def P w K mg base (2 + k) "_law_cents_of" ["_law_text"] (sr__law_cents_of k K)) : Def P w K mg base (2 + k + 1) "_law_cents_of" ["_law_text"] (sr__law_cents_of (k + 1) K) := by
  refine S.ok sc__law_cents_of (fun vs H Q E h => ?_) (fun f cdv A outer s H vs Q E hr h => ?_)
  · obtain ⟨z, rfl, zk, zl, h⟩ := h
    rfl
  obtain ⟨z, rfl, zk, zl, h⟩ := h
  refine ⟨_, (pss_consN (ps_if (pt_cmpR op_eq (pe_slice sl_strE (pv 0) po_none (po_some pe_int)) pe_str (nomark _))
      (pss_consN (ps_set (i := 1) sc__law_cents_of.nd rfl (by first | exact Or.inl rfl | exact Or.inr rfl) (pe_fn D__law_cents_of hr (pa_cons (pe_slice sl_strE (pv 0) (po_some pe_int) po_none) pa_nil) (hj := by omega)))
      (pss_consN (ps_if (PW.pt (pw_or (pt_cmp (pc_isN (pv 1))) (pw_or1 (pt_cmpR op_le (pv 1) pe_int (nomark _)))))
      (pss_one (ps_ret pe_non))
      pss_nil)
      (pss_one (ps_ret (pe_op op_sub pe_int (pv 1))))))
      pss_nil)
      (pss_consN (ps_if (PW.pt (pw_or (pt_cmpR op_lt (pe_callB call_len rfl T.n_len PySem.boot_len (pa_cons (pv 0) pa_nil)) pe_int (nomark _)) (pw_or1 (pt_cmpR op_ne (pe_item_strM (pv 0) (pe_un un_neg pe_int) (fun _ _ => rfl)) pe_str (nomark _)))))
      (pss_one (ps_ret pe_non))
      pss_nil)
      (pss_consN (ps_set (i := 2) sc__law_cents_of.nd rfl (by first | exact Or.inl rfl | exact Or.inr rfl) (pe_fn D__law_whole_of hr (pa_cons (pe_slice sl_strE (pv 0) po_none (po_some (pe_un un_neg pe_int))) pa_nil) (hj := by omega)))
      (pss_consN (ps_set (i := 3) sc__law_cents_of.nd rfl (by first | exact Or.inl rfl | exact Or.inr rfl) (pe_fn D__law_whole_of hr (pa_cons (pe_op op_add_str pe_str (pe_slice sl_strE (pv 0) (po_some (pe_un un_neg pe_int)) po_none)) pa_nil) (hj := by omega)))
      (pss_consN (ps_if (PW.pt (pw_or (pt_cmp (pc_isN (pv 2))) (pw_or1 (pt_cmp (pc_isN (pv 3))))))
      (pss_one (ps_ret pe_non))
      pss_nil)
      (pss_one (ps_ret (pe_op op_sub (pe_op op_add (pe_op op_mul pe_int (pv 2)) (pv 3)) pe_int)))))))), ?_⟩
  have sz := sizeLine_eq
  have ll : z.cps.toList.length = z.length := Array.length_toList
  have s1 : (Txt.slice z none (some 1)).cps.toList = z.cps.toList.take 1 := slice_to z (by decide)
  have s2 : (Txt.slice z (some 1) none).cps.toList = z.cps.toList.drop 1 := slice_from z (by decide)
  walk_at "rd"
  · rename_i c _ _
    have hc : z.cps.toList[0]? = some 45 := by
      have y := (s1.symm.trans (V_str c)).trans minus_list
      cases e : z.cps.toList with
      | nil => rw [e] at y; cases y
      | cons d r => rw [e] at y; cases y; rfl
    have cm := cents_minus hc
    rw [← s2] at cm
    have sl : (Txt.slice z (some 1) none).length < z.length := by
      have q := congrArg List.length s2
      rw [Array.length_toList, List.length_drop, ll] at q
      have : 0 < z.cps.toList.length := (List.getElem?_eq_some_iff.mp hc).1
      show (Txt.slice z (some 1) none).cps.size < z.length
      omega
    generalize Txt.slice z (some 1) none = y at cm sl ⊢
    refine ⟨by omega, by omega, ?_⟩
    cases eq : centsL y.cps.toList with
    | none =>
      rw [eq] at cm
      rw [cm] at h
      walk_at "rd"
      · exact h
      · rename_i q
        exact absurd rfl q
    | some n =>
      rw [eq] at cm
      rw [cm] at h
      walk_at "rd"
      · rename_i q
        rw [show (some n : Option Int).bind (fun c => if c ≤ 0 then none else some (-c)) = none from if_pos q] at h
        exact h
      · rename_i q
        rw [show (some n : Option Int).bind (fun c => if c ≤ 0 then none else some (-c)) = some (-n) from if_neg q, show -n = 0 - n by omega] at h
        exact h
  · rename_i c
    have hc : ¬ z.cps.toList[0]? = some 45 := fun q => c (str_V (by
      rw [s1, minus_list]
      cases e : z.cps.toList with
      | nil => rw [e] at q; cases q
      | cons d r => rw [e] at q; cases q; rfl))
    rw [show centsL z.cps.toList = coinsL z.cps.toList from if_neg hc] at h
    walk_at "rd"
    refine ⟨.str z, z.length, rfl, ⟨by omega, rfl⟩, ?_⟩
    walk_at "rd"
    · rename_i q
      have e : coinsL z.cps.toList = none := by
        cases w : coinsL z.cps.toList with
        | none => rfl
        | some n =>
          unfold coinsL at w
          split at w
          · obtain ⟨m, hm, _⟩ := Option.map_eq_some_iff.mp w
            have := (whole_nn hm).2.2
            rw [List.length_take] at this
            omega
          · cases w
      rw [e] at h
      exact h
    rename_i q
    have z4 : 4 ≤ z.length := by omega
    obtain ⟨d, hd⟩ : ∃ d, z.cps[z.length - 3]? = some d := ⟨_, Array.getElem?_eq_getElem (show z.length - 3 < z.cps.size by show _ < z.length; omega)⟩
    have hd' : z.cps.toList[z.cps.toList.length - 3]? = some d := by rw [ll, Array.getElem?_toList]; exact hd
    have i3 : (-3 + (z.length : Int)).toNat = z.length - 3 := by omega
    have i2 : (-2 + (z.length : Int)).toNat = z.length - 2 := by omega
    have t3 : (Txt.slice z none (some (-3))).cps.toList = z.cps.toList.take (z.cps.toList.length - 3) := by rw [slice_toN z (by decide) (by omega), i3, ll]
    have t2 : (Txt.slice z (some (-2)) none).cps.toList = z.cps.toList.drop (z.cps.toList.length - 2) := by rw [slice_fromN z (by decide) (by omega), i2, ll]
    have t3l := Txt.slice_le z none (some (-3))
    have t2l := Txt.slice_le z (some (-2)) none
    have o1 : (Str.ofString "1").length = 1 := by decide +kernel
    walk_at "rd"
    refine ⟨z, -3, d, rfl, rfl, by decide, by omega, zl, by rw [i3]; exact hd, ?_⟩
    walk_at "rd"
    · rename_i v
      rw [show coinsL z.cps.toList = none from if_neg fun y => v (str_V (by rw [hd'] at y; cases y.2.1; exact dot_list.symm))] at h
      exact h
    rename_i v
    have d46 : d = 46 := by have y := (V_str v).trans dot_list; simpa using y
    subst d46
    walk_at "rd"
    have dr : (z.cps.toList.drop (z.cps.toList.length - 2)).length = 2 := by rw [List.length_drop]; omega
    have t2n : (Txt.slice z (some (-2)) none).length = 2 := by rw [← dr, ← t2]; exact Array.length_toList.symm
    refine ⟨by rw [Str.length_append, o1, t2n]; decide, ?_⟩
    have cl : coinsL z.cps.toList = if (z.cps.toList.drop (z.cps.toList.length - 2)).all figB = true then (wholeL (z.cps.toList.take (z.cps.toList.length - 3))).map (fun w => 100 * w + fval (z.cps.toList.drop (z.cps.toList.length - 2))) else none := by
      unfold coinsL
      by_cases f : (z.cps.toList.drop (z.cps.toList.length - 2)).all figB = true
      · rw [if_pos f, if_pos ⟨by omega, hd', f⟩]
      · rw [if_neg f, if_neg fun y => f y.2.2]
    have w1 : wholeL (Str.ofString "1" ++ Txt.slice z (some (-2)) none).cps.toList = if (z.cps.toList.drop (z.cps.toList.length - 2)).all figB = true then some (100 + fval (z.cps.toList.drop (z.cps.toList.length - 2))) else none := by
      rw [app_list, t2, show (Str.ofString "1").cps.toList = [49] by decide +kernel]
      generalize z.cps.toList.drop (z.cps.toList.length - 2) = r at dr ⊢
      match r, dr with
      | [a, b], _ =>
        by_cases f : [a, b].all figB = true
        · rw [if_pos f]
          unfold wholeL
          rw [if_pos ⟨⟨by simp, by simp⟩, (fun y => by simp at y), by rw [List.all_append, f]; rfl⟩]
          show some (10 * (10 * (10 * 0 + (((49 : Nat) : Int) - 48)) + ((a : Int) - 48)) + ((b : Int) - 48)) = some (100 + (10 * (10 * 0 + ((a : Int) - 48)) + ((b : Int) - 48)))
          congr 1
          omega
        · rw [if_neg f]
          exact if_neg fun y => f (by have y := y.2.2; rw [List.all_append, Bool.and_eq_true] at y; exact y.2)
    rw [w1, t3]
    rw [cl] at h
    generalize fval (z.cps.toList.drop (z.cps.toList.length - 2)) = u at h ⊢
    generalize wholeL (z.cps.toList.take (z.cps.toList.length - 3)) = ow at h ⊢
    cases f : (z.cps.toList.drop (z.cps.toList.length - 2)).all figB with
    | false =>
      rw [f, if_neg (by decide)] at h
      rw [if_neg (by decide)]
      cases ow with
      | none =>
        walk_at "rd"
        all_goals first | exact h | (rename_i y; exact absurd rfl y) | (rename_i y _; exact absurd rfl y)
      | some n =>
        walk_at "rd"
        all_goals first | exact h | (rename_i y; exact absurd rfl y) | (rename_i y _; exact absurd rfl y)
    | true =>
      rw [f, if_pos rfl] at h
      rw [if_pos rfl]
      cases ow with
      | none =>
        walk_at "rd"
        all_goals first | exact h | (rename_i y; exact absurd rfl y) | (rename_i y _; exact absurd rfl y)
      | some n =>
        walk_at "rd"
        have h : Q (.int (100 * n + u)) H := h
        rw [show 100 * n + u = 100 * n + (100 + u) - 100 by omega] at h
        exact h
theorem dr__law_cents_of (S : Src K mg "_law_cents_of" s__law_cents_of ["_law_text"]) (T : Txt K mg) (D__law_whole_of : Def P w K mg base 1 "_law_whole_of" ["_law_text"] (sp__law_whole_of K)) : ∀ k, Def P w K mg base (2 + k) "_law_cents_of" ["_law_text"] (sr__law_cents_of k K)
  | 0 => S.ok (k := 1) sc__law_cents_of (fun vs H Q E h => (sr0__law_cents_of h).elim) (fun f cdv A outer s H vs Q E hr h => (sr0__law_cents_of h).elim)
  | k + 1 => ds__law_cents_of S T D__law_whole_of k (dr__law_cents_of S T D__law_whole_of k)
theorem d__law_cents_of (S : Src K mg "_law_cents_of" s__law_cents_of ["_law_text"]) (T : Txt K mg) (D__law_whole_of : Def P w K mg base 1 "_law_whole_of" ["_law_text"] (sp__law_whole_of K)) : Def P w K mg base 47 "_law_cents_of" ["_law_text"] (sp__law_cents_of K) := dr__law_cents_of S T D__law_whole_of 45
--@ _law_due
def dueO (w : Int) (l : List Nat) : Option Int := if w = 0 then wholeL l else if w = 1 then centsL l else rateL l
def sp__law_due (K : PySem.W.Frag) : Sp := fun vs H Q _ => ∃ (w : Int) (z : Str), vs = [.int w, .str z] ∧ z.length < 45 ∧ Q (optV (dueO w z.cps.toList)) H
theorem sc__law_due : FnScope ["_law_way", "_law_text", "_law_rate"] ["_law_way", "_law_text"] (defScope s__law_due) := ⟨rfl, rfl, rfl, by decide +kernel, rfl, by decide +kernel, by decide +kernel⟩
theorem d__law_due (S : Src K mg "_law_due" s__law_due ["_law_way", "_law_text"]) (T : Txt K mg) (D__law_whole_of : Def P w K mg base 1 "_law_whole_of" ["_law_text"] (sp__law_whole_of K)) (D__law_cents_of : Def P w K mg base 47 "_law_cents_of" ["_law_text"] (sp__law_cents_of K)) : Def P w K mg base 48 "_law_due" ["_law_way", "_law_text"] (sp__law_due K) := by
  refine S.ok sc__law_due (fun vs H Q E h => ?_) (fun f cdv A outer s H vs Q E hr h => ?_)
  · obtain ⟨w, z, rfl, zl, h⟩ := h
    rfl
  obtain ⟨w, z, rfl, zl, h⟩ := h
  refine ⟨_, (pss_consN (ps_if (pt_cmpR op_eq (pv 0) pe_int (nomark _))
      (pss_one (ps_ret (pe_fn D__law_whole_of hr (pa_cons (pv 1) pa_nil))))
      pss_nil)
      (pss_consN (ps_if (pt_cmpR op_eq (pv 0) pe_int (nomark _))
      (pss_one (ps_ret (pe_fn D__law_cents_of hr (pa_cons (pv 1) pa_nil))))
      pss_nil)
      (pss_consN (ps_set (i := 2) sc__law_due.nd rfl (by first | exact Or.inl rfl | exact Or.inr rfl) (pe_fn D__law_cents_of hr (pa_cons (pv 1) pa_nil)))
      (pss_consN (ps_if (PW.pt (pw_or (pt_cmp (pc_isN (pv 2))) (pw_or (pt_cmpR op_lt (pv 2) pe_int (nomark _)) (pw_or1 (pt_cmpR op_gt (pv 2) (pe_powc (v := 1000000) (by decide +kernel) ⟨by decide, by decide, by decide⟩) (nomark _))))))
      (pss_one (ps_ret pe_non))
      pss_nil)
      (pss_one (ps_ret (pv 2))))))), ?_⟩
  have sz := sizeLine_eq
  walk_at "rd"
  · rename_i c
    rw [show dueO w z.cps.toList = wholeL z.cps.toList from if_pos c] at h
    exact h
  · rename_i c0 c1
    rw [show dueO w z.cps.toList = centsL z.cps.toList from (if_neg c0).trans (if_pos c1)] at h
    exact h
  · rename_i c0 c1 y
    rw [show dueO w z.cps.toList = rateL z.cps.toList from (if_neg c0).trans (if_neg c1)] at h
    cases eq : centsL z.cps.toList with
    | none =>
      rw [show rateL z.cps.toList = none by unfold rateL; rw [eq]; rfl] at h
      walk_at "rd"
      exact h
    | some n => rw [eq] at y; cases y
  · rename_i c0 c1 y
    rw [show dueO w z.cps.toList = rateL z.cps.toList from (if_neg c0).trans (if_neg c1)] at h
    cases eq : centsL z.cps.toList with
    | none => rw [eq] at y; exact absurd rfl y
    | some n =>
      have er : rateL z.cps.toList = if 0 ≤ n ∧ n ≤ 1000000 then some n else none := by unfold rateL; rw [eq]; rfl
      rw [er] at h
      walk_at "rd"
      · rename_i d
        rw [if_neg (by omega)] at h
        exact h
      · rename_i d e
        rw [if_neg (by omega)] at h
        exact h
      · rename_i d e
        rw [if_pos (by omega)] at h
        exact h
--@ _law_right
def sp__law_right (K : PySem.W.Frag) : Sp := fun vs H Q _ => ∃ (z : Str), vs = [.str z] ∧ z.length < 45 ∧ Q (.bl true) H
theorem sc__law_right : FnScope ["_law_text", "_law_way", "_law_due_here", "_law_found"] ["_law_text"] (defScope s__law_right) := ⟨rfl, rfl, rfl, by decide +kernel, rfl, by decide +kernel, by decide +kernel⟩
theorem d__law_right (S : Src K mg "_law_right" s__law_right ["_law_text"]) (T : Txt K mg) (D__law_due : Def P w K mg base 48 "_law_due" ["_law_way", "_law_text"] (sp__law_due K)) (D__law_read : Def P w K mg base 6 "_law_read" ["_law_way", "_law_thing"] (sp__law_read K)) : Def P w K mg base 49 "_law_right" ["_law_text"] (sp__law_right K) := by
  refine S.okF sc__law_right (fun vs H Q E h => ?_) (fun f cdv A outer s H vs Q E hr h => ?_)
  · obtain ⟨z, rfl, hz, h⟩ := h
    rfl
  obtain ⟨z, rfl, hz, h⟩ := h
  refine ⟨_, (pss_consN (ps_for PassesOwn.never rfl (pi_range1 rfl T.n_range (pa_cons pe_int pa_nil)) (pg_name (i := 1) sc__law_right.nd rfl (by first | exact Or.inl rfl | exact Or.inr rfl))
      (pss_consN (ps_set (i := 2) sc__law_right.nd rfl (by first | exact Or.inl rfl | exact Or.inr rfl) (pe_fn D__law_due hr (pa_cons (pv 1) (pa_cons (pv 0) pa_nil))))
      (pss_consN (ps_set (i := 3) sc__law_right.nd rfl (by first | exact Or.inl rfl | exact Or.inr rfl) (pe_fn D__law_read hr (pa_cons (pv 1) (pa_cons (pv 0) pa_nil))))
      (pss_consN (ps_if (PW.pt (pw_and (pt_cmp (pc_isN (pv 2))) (pw_and1 (pt_cmpR (op_neD hr.units) (pv 3) (pe_tup (pa_cons pe_str (pa_cons pe_bl (pa_cons pe_bl pa_nil)))) (nomark _)))))
      (pss_one (ps_ret pe_bl))
      pss_nil)
      (pss_one (ps_if (PW.pt (pw_and (pt_cmp (pc_notN (pv 2))) (pw_and1 (pt_cmpR (op_neD hr.units) (pv 3) (pe_tup (pa_cons pe_str (pa_cons (pv 2) (pa_cons pe_bl pa_nil)))) (nomark _)))))
      (pss_one (ps_ret pe_bl))
      pss_nil))))))
      (pss_one (ps_ret pe_bl))), ?_⟩
  have hk : ∀ H', IsKind K H' (.str z) "str" := fun H' => ⟨.str _, by simp [kinds]⟩
  walk_at "rd"
  refine for_range (fun i σ H' => Same H H' ∧ ∃ z1 z2 z3 : Option V, σ = [some (.str z), z1, z2, z3]) ⟨Same.refl _, _, _, _, rfl⟩ ?_ ?_
  · rintro i σ H' hi ⟨sH, z1, z2, z3, rfl⟩
    walk_at "rd"
    refine ⟨_, .str z, "str", rfl, hk _, (fun z' e => by cases e; omega), fun p H2 s2 ep => ?_⟩
    generalize (0 + (i : Int)) = w at ep ⊢
    cases ed : dueO w z.cps.toList with
    | none =>
      have er : readR w (.str z) = [.str "none", .bl true, .bl false] := by
        unfold readR
        rw [show readO w (.str z) = none from ed]
      rw [er] at ep
      walk_at "rd"
      intro t nt
      have st := same_new nt (.tup [.str "none", .bl true, .bl false])
      have et := at_new (.tup [.str "none", .bl true, .bl false]) nt
      refine ⟨_, _, .tup (SqT.of (st _ _ ep)) (.cons (.str _) (.cons (.bl _) (.cons (.bl _) .nil))), .tup (SqT.of et) (.cons (.str _) (.cons (.bl _) (.cons (.bl _) .nil))), ?_, ?_, ?_⟩
      · decide +kernel
      · decide +kernel
      rw [show PyData.eqv (.tuple [.str "none", .bool true, .bool false]) (.tuple [.str "none", .bool true, .bool false]) = true by decide +kernel]
      walk_at "rd"
      · rename_i y
        exact absurd rfl y
      · walk_at "rd"
        exact ⟨sH.trans (s2.trans st), _, _, _, rfl⟩
    | some n =>
      have er : readR w (.str z) = [.str "told", .int n, .bl true] := by
        unfold readR
        rw [show readO w (.str z) = some n from ed]
      rw [er] at ep
      walk_at "rd"
      intro t nt
      have st := same_new nt (.tup [.str "told", .int n, .bl true])
      have et := at_new (.tup [.str "told", .int n, .bl true]) nt
      refine ⟨_, _, .tup (SqT.of (st _ _ ep)) (.cons (.str _) (.cons (.int _) (.cons (.bl _) .nil))), .tup (SqT.of et) (.cons (.str _) (.cons (.int _) (.cons (.bl _) .nil))), ?_, ?_, ?_⟩
      · simp [SeqAt.shaped, PyData.canLay0, PyData.canLayAll0, PyData.depth, PyData.depthAll]; decide +kernel
      · simp [SeqAt.shaped, PyData.canLay0, PyData.canLayAll0, PyData.depth, PyData.depthAll]; decide +kernel
      rw [show PyData.eqv (.tuple [.str "told", .int n, .bool true]) (.tuple [.str "told", .int n, .bool true]) = true by simp [PyData.eqv, PyData.eqvAll]]
      walk_at "rd"
      exact ⟨sH.trans (s2.trans st), _, _, _, rfl⟩
  · rintro σ H' ⟨sH, z1, z2, z3, rfl⟩
    walk_at "rd"
    exact h
--@ law
def sp_law (K : PySem.W.Frag) : Sp := fun vs H Q _ => ∃ (a : Addr) (ns : List Int), vs = [.ref a] ∧ SqL K H a (ns.map V.int) ∧ ns.length ≤ 63 ∧ ∀ H', Q (.bl true) H'
theorem sevenL {js : List Int} (h : js.length = 7) : ∃ a b c d e f g, js = [a, b, c, d, e, f, g] := by
  match js, h with
  | [a, b, c, d, e, f, g], _ => exact ⟨a, b, c, d, e, f, g, rfl⟩
theorem sc_law : FnScope ["_law_script", "_law_k", "_law_xs", "_law_cents", "_law_rate", "_law_thing"] ["_law_script"] (defScope s_law) := ⟨rfl, rfl, rfl, by decide +kernel, rfl, by decide +kernel, by decide +kernel⟩
theorem d_law (S : Src K mg "law" s_law ["_law_script"]) (T : Txt K mg) (D__law_draws : Def P w K mg base 1 "_law_draws" ["_law_cell", "_law_many"] (sp__law_draws K)) (D__law_cell_at : Def P w K mg base 1 "_law_cell_at" ["_law_script", "_law_k"] (sp__law_cell_at K)) (D__law_right : Def P w K mg base 49 "_law_right" ["_law_text"] (sp__law_right K)) (D__law_made : Def P w K mg base 2 "_law_made" ["_law_xs"] (sp__law_made K)) (D_show_cents : Def P w K mg base 2 "show_cents" ["cents"] (sp_show_cents K)) (D__law_shown : Def P w K mg base 1 "_law_shown" ["_law_number"] (sp__law_shown K)) (D_read_cents : DefX P w K mg base 4 "read_cents" ["text"] (sp_read_cents K)) (D_read_rate : DefX P w K mg base 5 "read_rate" ["text"] (sp_read_rate K)) (D_show_rate : Def P w K mg base 3 "show_rate" ["rate"] (sp_show_rate K)) (D__law_read : Def P w K mg base 6 "_law_read" ["_law_way", "_law_thing"] (sp__law_read K)) : Def P w K mg base 50 "law" ["_law_script"] (sp_law K) := by
  refine S.ok sc_law (fun vs H Q E h => ?_) (fun f cdv A outer s H vs Q E hr h => ?_)
  · obtain ⟨a, ns, rfl, hS, hl, h⟩ := h
    rfl
  obtain ⟨a, ns, rfl, hS, hl, h⟩ := h
  refine ⟨_, (pss_consN (ps_for PassesOwn.never rfl (pi_range1 rfl T.n_range (pa_cons pe_int pa_nil)) (pg_name (i := 1) sc_law.nd rfl (by first | exact Or.inl rfl | exact Or.inr rfl))
      (pss_consN (ps_set (i := 2) sc_law.nd rfl (by first | exact Or.inl rfl | exact Or.inr rfl) (pe_fn D__law_draws hr (pa_cons (pe_fn D__law_cell_at hr (pa_cons (pv 0) (pa_cons (pv 1) pa_nil))) (pa_cons pe_int pa_nil))))
      (pss_consN (ps_if (pt_not (pt_val (pe_fn D__law_right hr (pa_cons (pe_fn D__law_made hr (pa_cons (pv 2) pa_nil)) pa_nil))))
      (pss_one (ps_ret pe_bl))
      pss_nil)
      (pss_consN (ps_set (i := 3) sc_law.nd rfl (by first | exact Or.inl rfl | exact Or.inr rfl) (pe_ix ix_list (pe_lst (pa_cons (pe_op op_sub (pe_op op_mod (pe_ix ix_list (pv 2) pe_int (fun _ _ => rfl)) pe_int) pe_int) (pa_cons (pe_op op_sub (pe_ix ix_list (pv 2) pe_int (fun _ _ => rfl)) (pe_powc (v := 100000000) (by decide +kernel) ⟨by decide, by decide, by decide⟩)) (pa_cons (pe_op op_sub (pe_op op_powW (pe_ix ix_list (pv 2) pe_int (fun _ _ => rfl)) pe_int) (pe_powc (v := 10000000000000000000000000000000000000000) (by decide +kernel) ⟨by decide, by decide, by decide⟩)) (pa_cons pe_int pa_nil))))) (pe_op op_mod (pe_ix ix_list (pv 2) pe_int (fun _ _ => rfl)) pe_int) (fun _ _ => rfl)))
      (pss_consN (ps_if (pt_cmpR op_ne (pe_fn D_show_cents hr (pa_cons (pv 3) pa_nil)) (pe_fn D__law_shown hr (pa_cons (pv 3) pa_nil)) (nomark _))
      (pss_one (ps_ret pe_bl))
      pss_nil)
      (pss_consN (ps_if (PW.pt (pw_and (pt_cmpR op_lt (pe_callB call_abs rfl T.n_abs PyProof.Rows.boot_abs (pa_cons (pv 3) pa_nil)) (pe_powc (v := 1000000000000000000000000000000) (by decide +kernel) ⟨by decide, by decide, by decide⟩) (nomark _)) (pw_and1 (pt_cmpR op_ne (pe_fnX D_read_cents hr passX0 (pa_cons (pe_fn D_show_cents hr (pa_cons (pv 3) pa_nil)) pa_nil)) (pv 3) (nomark _)))))
      (pss_one (ps_ret pe_bl))
      pss_nil)
      (pss_consN (ps_set (i := 4) sc_law.nd rfl (by first | exact Or.inl rfl | exact Or.inr rfl) (pe_op op_mod (pe_ix ix_list (pv 2) pe_int (fun _ _ => rfl)) (pe_op op_add (pe_powc (v := 1000000) (by decide +kernel) ⟨by decide, by decide, by decide⟩) pe_int)))
      (pss_consN (ps_if (PW.pt (pw_or (pt_cmpR op_ne (pe_fn D_show_rate hr (pa_cons (pv 4) pa_nil)) (pe_fn D__law_shown hr (pa_cons (pv 4) pa_nil)) (nomark _)) (pw_or1 (pt_cmpR op_ne (pe_fnX D_read_rate hr passX0 (pa_cons (pe_fn D_show_rate hr (pa_cons (pv 4) pa_nil)) pa_nil)) (pv 4) (nomark _)))))
      (pss_one (ps_ret pe_bl))
      pss_nil)
      (pss_consN (ps_set (i := 5) sc_law.nd rfl (by first | exact Or.inl rfl | exact Or.inr rfl) (pe_ix ix_list (pe_lst (pa_cons pe_non (pa_cons pe_int (pa_cons pe_bl (pa_cons (pe_lst (pa_cons pe_str pa_nil)) (pa_cons (pe_tup (pa_cons pe_str (pa_cons pe_str pa_nil))) (pa_cons pe_int pa_nil))))))) (pe_op op_mod (pe_ix ix_list (pv 2) pe_int (fun _ _ => rfl)) pe_int) (fun _ _ => rfl)))
      (pss_one (ps_if (pt_cmpR (op_neD hr.units) (pe_comp (ix := [5]) ⟨rfl, by decide +kernel, rfl, by decide +kernel, rfl, (show (["_law_way", "_law_thing"] : List Str).Nodup by decide +kernel), by walk_at "cap", by walk_at "sub", by walk_at "has"⟩ (pi_range1 rfl T.n_range (pa_cons pe_int pa_nil)) (fun b => (pe_fn D__law_read hr (pa_cons (pv 0) (pa_cons (pv 1) pa_nil))))) (pe_op op_rep (pe_lst (pa_cons (pe_tup (pa_cons pe_str (pa_cons pe_bl (pa_cons pe_bl pa_nil)))) pa_nil)) pe_int) (nomark _))
      (pss_one (ps_ret pe_bl))
      pss_nil)))))))))))
      (pss_one (ps_ret pe_bl))), ?_⟩
  have sz := sizeLine_eq
  walk_at "rd"
  refine for_range (fun i σ H' => Same H H' ∧ ∃ z1 z2 z3 z4 z5 : Option V, σ = [some (.ref a), z1, z2, z3, z4, z5]) ⟨Same.refl _, _, _, _, _, _, rfl⟩ ?_ ?_
  · rintro i σ H' hi ⟨sH, z1, z2, z3, z4, z5, rfl⟩
    walk_at "rd"
    refine ⟨a, ns, i, by rw [Int.zero_add]; rfl, sH.seq hS, ?_⟩
    walk_at "rd"
    intro px xs H1 s1 npx ep nl nn
    obtain ⟨x0, x1, x2, x3, x4, x5, x6, rfl⟩ := sevenL (show xs.length = 7 by omega)
    have n0 := nn x0 (by simp)
    have n1 := (nn x1 (by simp)).1
    have n2 := (nn x2 (by simp)).1
    have n3 := (nn x3 (by simp)).1
    have n4 := (nn x4 (by simp)).1
    have n5 := (nn x5 (by simp)).1
    have n6 := nn x6 (by simp)
    walk_at "rd"
    refine ⟨px, x0, x1, x2, x3, x4, x5, x6, rfl, ep, ⟨n0, n1, n2, n3, n4, n5⟩, fun z hz => ?_⟩
    walk_at "rd"
    refine ⟨px, _, _, _, rfl, rfl, SqL.of ep, rfl, ?_⟩
    walk_at "rd"
    refine ⟨px, _, _, _, rfl, rfl, SqL.of ep, rfl, ?_⟩
    walk_at "rd"
    refine ⟨px, _, _, _, rfl, rfl, SqL.of ep, rfl, ?_⟩
    walk_at "rd"
    have bits := intBits_le_64 (show -(2 ^ 64) < x6 by omega) (by omega)
    refine ⟨⟨by decide, by show ((Builtin.Int.intBits x6 : Nat) : Int) * 5 ≤ 2 ^ 27; omega⟩, ?_⟩
    have p5 : 0 ≤ x6 ^ (5 : Int).toNat ∧ x6 ^ (5 : Int).toNat < 10 ^ 65 := by
      refine ⟨Int.pow_nonneg n6.1, ?_⟩
      show x6 ^ 5 < 10 ^ 65
      obtain ⟨m, rfl⟩ := Int.eq_ofNat_of_zero_le n6.1
      have := Nat.pow_lt_pow_left (show m < 10000000000000 by omega) (show 5 ≠ 0 by decide)
      have e : ((m : Int)) ^ 5 = ((m ^ 5 : Nat) : Int) := by rw [Int.natCast_pow]
      rw [e]
      have : (10000000000000 : Nat) ^ 5 = 10 ^ 65 := by decide
      omega
    walk_at "rd"
    intro l1 nl1
    have s2 := same_new nl1 (.lst [V.int (x6 % 300 - 150), .int (x6 - 100000000), .int (x6 ^ (5 : Int).toNat - 10000000000000000000000000000000000000000), .int 0])
    have e2 := at_new (.lst [V.int (x6 % 300 - 150), .int (x6 - 100000000), .int (x6 ^ (5 : Int).toNat - 10000000000000000000000000000000000000000), .int 0]) nl1
    generalize upd H1 l1 (.lst [V.int (x6 % 300 - 150), .int (x6 - 100000000), .int (x6 ^ (5 : Int).toNat - 10000000000000000000000000000000000000000), .int 0]) = H2 at s2 e2 ⊢
    generalize x6 ^ (5 : Int).toNat = y5 at p5 e2
    have ep2 := s2 _ _ ep
    have b0 := Int.emod_nonneg x5 (show (4 : Int) ≠ 0 by decide)
    have b1 := Int.emod_lt_of_pos x5 (show (0 : Int) < 4 by decide)
    obtain ⟨n, hn, n66⟩ : ∃ n : Int, atI [V.int (x6 % 300 - 150), .int (x6 - 100000000), .int (y5 - 10000000000000000000000000000000000000000), .int 0] (x5 % 4) = some (.int n) ∧ n.natAbs < 10 ^ 80 := by
      rcases (show x5 % 4 = 0 ∨ x5 % 4 = 1 ∨ x5 % 4 = 2 ∨ x5 % 4 = 3 by omega) with e | e | e | e <;> rw [e]
      · exact ⟨_, rfl, by omega⟩
      · exact ⟨_, rfl, by omega⟩
      · exact ⟨_, rfl, by omega⟩
      · exact ⟨_, rfl, by decide⟩
    walk_at "rd"
    refine ⟨px, _, _, _, rfl, rfl, SqL.of ep2, rfl, ?_⟩
    walk_at "rd"
    refine ⟨l1, _, _, _, rfl, rfl, SqL.of e2, hn, ?_⟩
    clear hn e2 p5 y5 bits
    have sl := shC_len (n := n) (k := 79) (by omega)
    walk_at "rd"
    focus
      rename_i c
      have n30 : n.natAbs < 10 ^ 30 := by split at c <;> omega
      have cs := cents_shown n30
      generalize shC n = y at cs sl ⊢
      walk_at "rd"
      refine ⟨.str y, "str", rfl, ⟨.str _, by simp [kinds]⟩, (fun z' e => by cases e; omega), fun m hm => ?_, fun hm => absurd (cs.symm.trans hm) (by simp)⟩
      obtain rfl : n = m := by have := cs.symm.trans hm; simpa using this
      walk_at "rd"
      · rename_i y
        exact absurd rfl y
    all_goals
      have r0 := Int.emod_nonneg x6 (show (1000000 + 1 : Int) ≠ 0 by decide)
      have r1 := Int.emod_lt_of_pos x6 (show (0 : Int) < 1000000 + 1 by decide)
      have rl := shC_len (n := x6 % (1000000 + 1)) (k := 79) (by omega)
      have rs : rateL (shC (x6 % (1000000 + 1))).cps.toList = some (x6 % (1000000 + 1)) := by
        unfold rateL
        rw [cents_shown (by omega)]
        exact if_pos ⟨r0, by omega⟩
      walk_at "rd"
      refine ⟨px, _, _, _, rfl, rfl, SqL.of ep2, rfl, ?_⟩
      walk_at "rd"
      refine ⟨.str _, "str", rfl, ⟨.str _, by simp [kinds]⟩, (fun z' e => by cases e; omega), fun m hm => ?_, fun hm => absurd (rs.symm.trans hm) (by simp)⟩
      obtain rfl : x6 % (1000000 + 1) = m := by have := rs.symm.trans hm; simpa using this
      walk_at "rd"
      · rename_i y
        exact absurd rfl y
      intro l2 nl2
      have s3 := same_new nl2 (.lst [.str "1.00"])
      have e3 := at_new (.lst [.str "1.00"]) nl2
      generalize upd H2 l2 (.lst [.str "1.00"]) = H3 at s3 e3 ⊢
      walk_at "rd"
      intro t1 nt1
      have s4 := same_new nt1 (.tup [.str "1", .str "00"])
      have e4 := at_new (.tup [.str "1", .str "00"]) nt1
      generalize upd H3 t1 (.tup [.str "1", .str "00"]) = H4 at s4 e4 ⊢
      walk_at "rd"
      intro l3 nl3
      have s5 := same_new nl3 (.lst [.non, .int 5, .bl true, .ref l2, .ref t1, .int 1])
      have e5 := at_new (.lst [.non, .int 5, .bl true, .ref l2, .ref t1, .int 1]) nl3
      generalize upd H4 l3 (.lst [.non, .int 5, .bl true, .ref l2, .ref t1, .int 1]) = H5 at s5 e5 ⊢
      walk_at "rd"
      refine ⟨px, _, _, _, rfl, rfl, SqL.of (s5 _ _ (s4 _ _ (s3 _ _ ep2))), rfl, ?_⟩
      have g0 := Int.emod_nonneg x0 (show (6 : Int) ≠ 0 by decide)
      have g1 := Int.emod_lt_of_pos x0 (show (0 : Int) < 6 by decide)
      obtain ⟨v, hv, hm⟩ := at_mem (xs := [.non, .int 5, .bl true, .ref l2, .ref t1, .int 1]) g0 (by simpa using g1)
      obtain ⟨Tk, ku, nu, du⟩ := (mem1 ⟨"NoneType", ⟨.non, by simp [kinds]⟩, (fun z e => by cases e), fun w => by unfold readO; split <;> (try split) <;> rfl⟩ (mem1 ⟨"int", ⟨.int _, by simp [kinds]⟩, (fun z e => by cases e), fun w => by unfold readO; split <;> (try split) <;> rfl⟩ (mem1 ⟨"bool", ⟨.bl _, by simp [kinds]⟩, (fun z e => by cases e), fun w => by unfold readO; split <;> (try split) <;> rfl⟩ (mem1 ⟨"list", ⟨.lst (s5 _ _ (s4 _ _ e3)), by simp [kinds]⟩, (fun z e => by cases e), fun w => by unfold readO; split <;> (try split) <;> rfl⟩ (mem1 ⟨"tuple", ⟨.tup (s5 _ _ e4), by simp [kinds]⟩, (fun z e => by cases e), fun w => by unfold readO; split <;> (try split) <;> rfl⟩ (mem1 ⟨"int", ⟨.int _, by simp [kinds]⟩, (fun z e => by cases e), fun w => by unfold readO; split <;> (try split) <;> rfl⟩ mem0))))) : ∀ v ∈ ([.non, .int 5, .bl true, .ref l2, .ref t1, .int 1] : List V), ∃ Tk, IsKind K H5 v Tk ∧ (∀ z, v = .str z → z.length ≤ 1000) ∧ ∀ w, readO w v = none) v hm
      walk_at "rd"
      refine ⟨l3, _, _, _, rfl, rfl, SqL.of e5, hv, ?_⟩
      clear hv hm
      have s6 := s2.trans (s3.trans (s4.trans s5))
      clear e3 e4 e5
      walk_at "rd"
      intro l5 nl5
      refine comp_rngN nl5 (by rw [sz]; decide) (fun _ v H' => ∃ t, v = .ref t ∧ H' t = some (.tup [.str "none", .bl true, .bl false])) (fun _ v H1 H2 s ⟨t, e1, e2⟩ => ⟨t, e1, s _ _ e2⟩) (fun _ v H1 ys zs hL ⟨t, e1, e2⟩ => ⟨t, e1, by rw [upd_ne (ne_of e2 hL (by intro z; cases z))]; exact e2⟩) ?_ ?_
      · rintro j H6 Q6 hj s7 hq
        walk_at "rd"
        refine ⟨_, v, Tk, rfl, ku.same s7, nu, fun p2 H7 s8 e8 => ?_⟩
        rw [show readR _ v = [.str "none", .bl true, .bl false] by unfold readR; rw [du]] at e8
        exact hq _ _ s8 ⟨p2, rfl, e8⟩
      · rintro ys H6 s7 e7 yl hp
        obtain ⟨v1, v2, v3, rfl⟩ : ∃ v1 v2 v3, ys = [v1, v2, v3] := by
          match ys, yl with
          | [v1, v2, v3], _ => exact ⟨v1, v2, v3, rfl⟩
        obtain ⟨a1, rfl, f1⟩ := hp 0 v1 rfl
        obtain ⟨a2, rfl, f2⟩ := hp 1 v2 rfl
        obtain ⟨a3, rfl, f3⟩ := hp 2 v3 rfl
        walk_at "rd"
        intro t2 nt2
        have s8 := same_new nt2 (.tup [.str "none", .bl true, .bl false])
        have e8 := at_new (.tup [.str "none", .bl true, .bl false]) nt2
        generalize upd H6 t2 (.tup [.str "none", .bl true, .bl false]) = H7 at s8 e8 ⊢
        walk_at "rd"
        intro l6 nl6
        have s9 := same_new nl6 (.lst [.ref t2])
        have e9 := at_new (.lst [.ref t2]) nl6
        generalize upd H7 l6 (.lst [.ref t2]) = H8 at s9 e9 ⊢
        refine ⟨l6, 3, _, rfl, rfl, e9, by decide, by decide, by rw [sz]; show 1 * 3 ≤ 16777216; decide, fun l7 nl7 => ?_⟩
        have s10 := same_new nl7 (.lst (List.replicate (3 : Int).toNat [V.ref t2]).flatten)
        have e10 : upd H8 l7 (.lst (List.replicate (3 : Int).toNat [V.ref t2]).flatten) l7 = some (.lst [.ref t2, .ref t2, .ref t2]) := at_new (.lst (List.replicate (3 : Int).toNat [V.ref t2]).flatten) nl7
        generalize upd H8 l7 (.lst (List.replicate (3 : Int).toNat [V.ref t2]).flatten) = H9 at s10 e10 ⊢
        have s11 := s8.trans (s9.trans s10)
        have e8' := s10 _ _ (s9 _ _ e8)
        refine ⟨_, _, .lst (SqL.of (s11 _ _ e7)) (.cons (.tup (SqT.of (s11 _ _ f1)) (.cons (.str _) (.cons (.bl _) (.cons (.bl _) .nil)))) (.cons (.tup (SqT.of (s11 _ _ f2)) (.cons (.str _) (.cons (.bl _) (.cons (.bl _) .nil)))) (.cons (.tup (SqT.of (s11 _ _ f3)) (.cons (.str _) (.cons (.bl _) (.cons (.bl _) .nil)))) .nil))), .lst (SqL.of e10) (.cons (.tup (SqT.of e8') (.cons (.str _) (.cons (.bl _) (.cons (.bl _) .nil)))) (.cons (.tup (SqT.of e8') (.cons (.str _) (.cons (.bl _) (.cons (.bl _) .nil)))) (.cons (.tup (SqT.of e8') (.cons (.str _) (.cons (.bl _) (.cons (.bl _) .nil)))) .nil))), by decide +kernel, by decide +kernel, ?_⟩
        rw [show PyData.eqv (.list [.tuple [.str "none", .bool true, .bool false], .tuple [.str "none", .bool true, .bool false], .tuple [.str "none", .bool true, .bool false]]) (.list [.tuple [.str "none", .bool true, .bool false], .tuple [.str "none", .bool true, .bool false], .tuple [.str "none", .bool true, .bool false]]) = true by decide +kernel]
        walk_at "rd"
        exact ⟨sH.trans (s1.trans (s6.trans (s7.trans s11))), _, _, _, _, _, rfl⟩
  · rintro σ H' ⟨sH, z1, z2, z3, z4, z5, rfl⟩
    walk_at "rd"
    exact h _
end
theorem all_ok {K : PySem.W.Frag} {mg : Str → Option Value} (T : Txt K mg) (S_check_text : Src K mg "check_text" s_check_text ["thing"]) (S_are_figures : Src K mg "are_figures" s_are_figures ["text"]) (S_show_whole : Src K mg "show_whole" s_show_whole ["number"]) (S_two_figures : Src K mg "two_figures" s_two_figures ["number"]) (S__law_cell_at : Src K mg "_law_cell_at" s__law_cell_at ["_law_script", "_law_k"]) (S__law_draws : Src K mg "_law_draws" s__law_draws ["_law_cell", "_law_many"]) (S__law_shown : Src K mg "_law_shown" s__law_shown ["_law_number"]) (S__law_whole_of : Src K mg "_law_whole_of" s__law_whole_of ["_law_text"]) (S_read_whole : Src K mg "read_whole" s_read_whole ["text"]) (S_show_cents : Src K mg "show_cents" s_show_cents ["cents"]) (S__law_made : Src K mg "_law_made" s__law_made ["_law_xs"]) (S_read_coins : Src K mg "read_coins" s_read_coins ["text"]) (S_show_rate : Src K mg "show_rate" s_show_rate ["rate"]) (S_read_cents : Src K mg "read_cents" s_read_cents ["text"]) (S_read_rate : Src K mg "read_rate" s_read_rate ["text"]) (S__law_read : Src K mg "_law_read" s__law_read ["_law_way", "_law_thing"]) (S__law_cents_of : Src K mg "_law_cents_of" s__law_cents_of ["_law_text"]) (S__law_due : Src K mg "_law_due" s__law_due ["_law_way", "_law_text"]) (S__law_right : Src K mg "_law_right" s__law_right ["_law_text"]) (S_law : Src K mg "law" s_law ["_law_script"]) {P : Program} {w : World} {base : Heap} : Def P w K mg base 50 "law" ["_law_script"] (sp_law K) := by
  have D_check_text := d_check_text (P := P) (w := w) (base := base) S_check_text T 
  have D_are_figures := d_are_figures (P := P) (w := w) (base := base) S_are_figures T 
  have D_show_whole := d_show_whole (P := P) (w := w) (base := base) S_show_whole T 
  have D_two_figures := d_two_figures (P := P) (w := w) (base := base) S_two_figures T 
  have D__law_cell_at := d__law_cell_at (P := P) (w := w) (base := base) S__law_cell_at T 
  have D__law_draws := d__law_draws (P := P) (w := w) (base := base) S__law_draws T 
  have D__law_shown := d__law_shown (P := P) (w := w) (base := base) S__law_shown T 
  have D__law_whole_of := d__law_whole_of (P := P) (w := w) (base := base) S__law_whole_of T 
  have D_read_whole := d_read_whole (P := P) (w := w) (base := base) S_read_whole T D_check_text D_are_figures
  have D_show_cents := d_show_cents (P := P) (w := w) (base := base) S_show_cents T D_show_whole D_two_figures
  have D__law_made := d__law_made (P := P) (w := w) (base := base) S__law_made T D__law_shown
  have D_read_coins := d_read_coins (P := P) (w := w) (base := base) S_read_coins T D_are_figures D_read_whole
  have D_show_rate := d_show_rate (P := P) (w := w) (base := base) S_show_rate T D_show_cents
  have D_read_cents := d_read_cents (P := P) (w := w) (base := base) S_read_cents T D_check_text D_read_coins
  have D_read_rate := d_read_rate (P := P) (w := w) (base := base) S_read_rate T D_read_cents
  have D__law_read := d__law_read (P := P) (w := w) (base := base) S__law_read T D_read_whole D_read_cents D_read_rate
  have D__law_cents_of := d__law_cents_of (P := P) (w := w) (base := base) S__law_cents_of T D__law_whole_of
  have D__law_due := d__law_due (P := P) (w := w) (base := base) S__law_due T D__law_whole_of D__law_cents_of
  have D__law_right := d__law_right (P := P) (w := w) (base := base) S__law_right T D__law_due D__law_read
  have D_law := d_law (P := P) (w := w) (base := base) S_law T D__law_draws D__law_cell_at D__law_right D__law_made D_show_cents D__law_shown D_read_cents D_read_rate D_show_rate D__law_read
  exact D_law
end My
open PySem PySem.W PyProof.Rows
set_option maxRecDepth 100000 in
set_option maxHeartbeats 0 in
theorem PySem.Challenge.cw_loanroll_k91_cents_and_numbers_holds : PySem.Challenge.rw_loanroll_k91_cents_and_numbers.Holds := by
  w_on; o_law; k_head; (case hw => w_witness2)
  k_fill
  refine L2.walk_def (l := PySem.Challenge.rw_loanroll_k91_cents_and_numbers) (lv := 50) (sp := My.sp_law) (x := "_law_script") (st := My.s_law) rfl rfl rfl ⟨rfl, by decide, by decide⟩ (fun w h Y => PySem.W.kIn_of Y) ?F (fun K H a ns hl hS => ⟨a, ns, rfl, hS, hl, fun _ => rfl⟩)
  case F =>
    intro w mg h KX G
    have n_abs : mg "abs" = none := PySem.W.mg_none_of KX G (by k_is)
    have n_all : mg "all" = none := PySem.W.mg_none_of KX G (by k_is)
    have n_bool : mg "bool" = none := PySem.W.mg_none_of KX G (by k_is)
    have n_int : mg "int" = none := PySem.W.mg_none_of KX G (by k_is)
    have n_isinstance : mg "isinstance" = none := PySem.W.mg_none_of KX G (by k_is)
    have n_len : mg "len" = none := PySem.W.mg_none_of KX G (by k_is)
    have n_range : mg "range" = none := PySem.W.mg_none_of KX G (by k_is)
    have n_reversed : mg "reversed" = none := PySem.W.mg_none_of KX G (by k_is)
    have n_str : mg "str" = none := PySem.W.mg_none_of KX G (by k_is)
    have a_LoanError := by
      refine' L2.nsHave (x := "LoanError") KX ?a
      (case a => k_is)
    have a_NoRow := by
      refine' L2.nsHave (x := "NoRow") KX ?a
      (case a => k_is)
    have a_NoText := by
      refine' L2.nsHave (x := "NoText") KX ?a
      (case a => k_is)
    have m_LoanError := L2.m_mk KX G a_LoanError
    have m_NoRow := L2.m_mk KX G a_NoRow
    have m_NoText := L2.m_mk KX G a_NoText
    have x_NoText := by
      refine' L2.x2_mk a_NoText ?_
      k_exc
    have e_NoText_NoText := by
      refine' L2.exm_mk a_NoText a_NoText ?_ ?_ ?_ ?_
      all_goals k_is
    have z_NoText := by
      refine' L2.x1_mk a_NoText ?_ ?_ ?_ ?_ ?_ ?_ ?_
      all_goals k_is
    have k_NoText_LoanError := by
      refine' L2.kit_mk (v := true) a_NoText a_LoanError ?_
      kit_is
    have k_NoText_NoRow := by
      refine' L2.kit_mk (v := false) a_NoText a_NoRow ?_
      kit_is
    have g_FIGURES := by
      refine' L2.gstr_mk (mg := mg) (x := "FIGURES") (i := "0123456789") KX G ?a
      (case a => k_is)
    have g_MOST_FIGURES := by
      refine' L2.gint_mk (mg := mg) (x := "MOST_FIGURES") (i := 30) KX G ?a
      (case a => k_is)
    have g_MOST_RATE := by
      refine' L2.gint_mk (mg := mg) (x := "MOST_RATE") (i := 1000000) KX G ?a
      (case a => k_is)
    have g_PART := by
      refine' L2.gint_mk (mg := mg) (x := "PART") (i := 1000000000000000000) KX G ?a
      (case a => k_is)
    have g_PART_FIGURES := by
      refine' L2.gint_mk (mg := mg) (x := "PART_FIGURES") (i := 18) KX G ?a
      (case a => k_is)
    have S_check_text := by
      refine' L2.src_mk (mg := mg) (x := "check_text") (st := My.s_check_text) (ps := ["thing"]) KX G ?a ?l ?c ?k ?b
      (case a => k_is); (case l => k_is); (case c => k_is); (case k => k_is)
      (case b => exact L2.us1 (fun _ => rfl))
    have S_are_figures := by
      refine' L2.src_mk (mg := mg) (x := "are_figures") (st := My.s_are_figures) (ps := ["text"]) KX G ?a ?l ?c ?k ?b
      (case a => k_is); (case l => k_is); (case c => k_is); (case k => k_is)
      (case b => exact L2.us1 (fun _ => rfl))
    have S_show_whole := by
      refine' L2.src_mk (mg := mg) (x := "show_whole") (st := My.s_show_whole) (ps := ["number"]) KX G ?a ?l ?c ?k ?b
      (case a => k_is); (case l => k_is); (case c => k_is); (case k => k_is)
      (case b => exact L2.us1 (fun _ => rfl))
    have S_two_figures := by
      refine' L2.src_mk (mg := mg) (x := "two_figures") (st := My.s_two_figures) (ps := ["number"]) KX G ?a ?l ?c ?k ?b
      (case a => k_is); (case l => k_is); (case c => k_is); (case k => k_is)
      (case b => exact L2.us1 (fun _ => rfl))
    have S__law_cell_at := by
      refine' L2.src_mk (mg := mg) (x := "_law_cell_at") (st := My.s__law_cell_at) (ps := ["_law_script", "_law_k"]) KX G ?a ?l ?c ?k ?b
      (case a => k_is); (case l => k_is); (case c => k_is); (case k => k_is)
      (case b => exact L2.us2 (fun _ _ => rfl))
    have S__law_draws := by
      refine' L2.src_mk (mg := mg) (x := "_law_draws") (st := My.s__law_draws) (ps := ["_law_cell", "_law_many"]) KX G ?a ?l ?c ?k ?b
      (case a => k_is); (case l => k_is); (case c => k_is); (case k => k_is)
      (case b => exact L2.us2 (fun _ _ => rfl))
    have S__law_shown := by
      refine' L2.src_mk (mg := mg) (x := "_law_shown") (st := My.s__law_shown) (ps := ["_law_number"]) KX G ?a ?l ?c ?k ?b
      (case a => k_is); (case l => k_is); (case c => k_is); (case k => k_is)
      (case b => exact L2.us1 (fun _ => rfl))
    have S__law_whole_of := by
      refine' L2.src_mk (mg := mg) (x := "_law_whole_of") (st := My.s__law_whole_of) (ps := ["_law_text"]) KX G ?a ?l ?c ?k ?b
      (case a => k_is); (case l => k_is); (case c => k_is); (case k => k_is)
      (case b => exact L2.us1 (fun _ => rfl))
    have S_read_whole := by
      refine' L2.src_mk (mg := mg) (x := "read_whole") (st := My.s_read_whole) (ps := ["text"]) KX G ?a ?l ?c ?k ?b
      (case a => k_is); (case l => k_is); (case c => k_is); (case k => k_is)
      (case b => exact L2.us1 (fun _ => rfl))
    have S_show_cents := by
      refine' L2.src_mk (mg := mg) (x := "show_cents") (st := My.s_show_cents) (ps := ["cents"]) KX G ?a ?l ?c ?k ?b
      (case a => k_is); (case l => k_is); (case c => k_is); (case k => k_is)
      (case b => exact L2.us1 (fun _ => rfl))
    have S__law_made := by
      refine' L2.src_mk (mg := mg) (x := "_law_made") (st := My.s__law_made) (ps := ["_law_xs"]) KX G ?a ?l ?c ?k ?b
      (case a => k_is); (case l => k_is); (case c => k_is); (case k => k_is)
      (case b => exact L2.us1 (fun _ => rfl))
    have S_read_coins := by
      refine' L2.src_mk (mg := mg) (x := "read_coins") (st := My.s_read_coins) (ps := ["text"]) KX G ?a ?l ?c ?k ?b
      (case a => k_is); (case l => k_is); (case c => k_is); (case k => k_is)
      (case b => exact L2.us1 (fun _ => rfl))
    have S_show_rate := by
      refine' L2.src_mk (mg := mg) (x := "show_rate") (st := My.s_show_rate) (ps := ["rate"]) KX G ?a ?l ?c ?k ?b
      (case a => k_is); (case l => k_is); (case c => k_is); (case k => k_is)
      (case b => exact L2.us1 (fun _ => rfl))
    have S_read_cents := by
      refine' L2.src_mk (mg := mg) (x := "read_cents") (st := My.s_read_cents) (ps := ["text"]) KX G ?a ?l ?c ?k ?b
      (case a => k_is); (case l => k_is); (case c => k_is); (case k => k_is)
      (case b => exact L2.us1 (fun _ => rfl))
    have S_read_rate := by
      refine' L2.src_mk (mg := mg) (x := "read_rate") (st := My.s_read_rate) (ps := ["text"]) KX G ?a ?l ?c ?k ?b
      (case a => k_is); (case l => k_is); (case c => k_is); (case k => k_is)
      (case b => exact L2.us1 (fun _ => rfl))
    have S__law_read := by
      refine' L2.src_mk (mg := mg) (x := "_law_read") (st := My.s__law_read) (ps := ["_law_way", "_law_thing"]) KX G ?a ?l ?c ?k ?b
      (case a => k_is); (case l => k_is); (case c => k_is); (case k => k_is)
      (case b => exact L2.us2 (fun _ _ => rfl))
    have S__law_cents_of := by
      refine' L2.src_mk (mg := mg) (x := "_law_cents_of") (st := My.s__law_cents_of) (ps := ["_law_text"]) KX G ?a ?l ?c ?k ?b
      (case a => k_is); (case l => k_is); (case c => k_is); (case k => k_is)
      (case b => exact L2.us1 (fun _ => rfl))
    have S__law_due := by
      refine' L2.src_mk (mg := mg) (x := "_law_due") (st := My.s__law_due) (ps := ["_law_way", "_law_text"]) KX G ?a ?l ?c ?k ?b
      (case a => k_is); (case l => k_is); (case c => k_is); (case k => k_is)
      (case b => exact L2.us2 (fun _ _ => rfl))
    have S__law_right := by
      refine' L2.src_mk (mg := mg) (x := "_law_right") (st := My.s__law_right) (ps := ["_law_text"]) KX G ?a ?l ?c ?k ?b
      (case a => k_is); (case l => k_is); (case c => k_is); (case k => k_is)
      (case b => exact L2.us1 (fun _ => rfl))
    have S_law := by
      refine' L2.src_mk (mg := mg) (x := "law") (st := My.s_law) (ps := ["_law_script"]) KX G ?a ?l ?c ?k ?b
      (case a => k_is); (case l => k_is); (case c => k_is); (case k => k_is)
      (case b => exact L2.us1 (fun _ => rfl))
    exact ⟨S_law, fun base => My.all_ok (⟨n_abs, n_all, n_bool, n_int, n_isinstance, n_len, n_range, n_reversed, n_str, m_LoanError, m_NoRow, m_NoText, x_NoText, e_NoText_NoText, z_NoText, k_NoText_LoanError, k_NoText_NoRow, g_FIGURES, g_MOST_FIGURES, g_MOST_RATE, g_PART, g_PART_FIGURES⟩ : My.Txt _ mg) S_check_text S_are_figures S_show_whole S_two_figures S__law_cell_at S__law_draws S__law_shown S__law_whole_of S_read_whole S_show_cents S__law_made S_read_coins S_show_rate S_read_cents S_read_rate S__law_read S__law_cents_of S__law_due S__law_right S_law⟩

