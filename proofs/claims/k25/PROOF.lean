import PyProof.Rows.All
import Wide.All
import OpenK.AllK
import Wide.FinOn
import Lean
import PyProof.EqAt
import PyProof.EqKinds
import PyProof.TupleCall
import PySem.Challenge.RW_loanroll_k25_charges_add
set_option Elab.async false
set_option linter.all false
set_option maxRecDepth 100000
set_option maxHeartbeats 2000000
/-! THE HAND LAYER, for ints, bools, texts, own classes, LISTS and tuples (index, slices, in, append, pop ..), calls, loops. Paste it whole ahead of your own text; what your proof does not reach may be deleted. -/
namespace L2
open PySem PySem.Spec PyProof.Rows

/-- a key: an int or a str -/
abbrev Key := Sum Int Str
def keyIs : Key → Value → Bool
  | .inl k, v => Value.isInt k v
  | .inr x, v => Value.isStrOf x v
def keyH (w : World) : Key → Int
  | .inl k => hashInt k
  | .inr x => hashStr w x
theorem keyIs_shape : ∀ {k : Key} {v : Value}, keyIs k v = true → (∃ i t, k = Sum.inl i ∧ v = Value.int i t) ∨ (∃ x t, k = Sum.inr x ∧ v = Value.str x t)
  | .inl i, v, h => by
    obtain ⟨t, e⟩ := Value.isInt_shape (k := i) (v := v) h
    exact .inl ⟨i, t, rfl, e⟩
  | .inr x, v, h => by
    obtain ⟨t, e⟩ := Value.isStrOf_shape (x := x) (v := v) h
    exact .inr ⟨x, t, rfl, e⟩
theorem key_ll (a b : Int) : decide ((Sum.inl a : Key) = Sum.inl b) = (a == b) := by
  by_cases e : a = b
  · subst e; simp
  · have h : ¬ (Sum.inl a : Key) = Sum.inl b := fun q => e (Sum.inl.inj q)
    rw [decide_eq_false h]
    exact (beq_eq_false_iff_ne.mpr e).symm
theorem key_rr (a b : Str) : decide ((Sum.inr a : Key) = Sum.inr b) = decide (a = b) := by
  by_cases e : a = b
  · subst e; simp
  · have h : ¬ (Sum.inr a : Key) = Sum.inr b := fun q => e (Sum.inr.inj q)
    rw [decide_eq_false h, decide_eq_false e]
theorem key_lr (a : Int) (b : Str) : decide ((Sum.inl a : Key) = Sum.inr b) = false := decide_eq_false (fun q => nomatch q)
theorem key_rl (a : Str) (b : Int) : decide ((Sum.inr a : Key) = Sum.inl b) = false := decide_eq_false (fun q => nomatch q)

def mixKind (prog : Program) (w : World) : PySem.KeyKind prog w Key where
  is := keyIs
  hash := keyH w
  inj := fun v a b ha hb => by
    rcases keyIs_shape ha with ⟨i, t, rfl, rfl⟩ | ⟨x, t, rfl, rfl⟩
    · rcases keyIs_shape hb with ⟨j, u, rfl, e⟩ | ⟨y, u, rfl, e⟩
      · injection e with e1 _; rw [e1]
      · exact nomatch e
    · rcases keyIs_shape hb with ⟨j, u, rfl, e⟩ | ⟨y, u, rfl, e⟩
      · exact nomatch e
      · injection e with e1 _; rw [e1]
  byValue := fun k v h => by
    rcases keyIs_shape h with ⟨i, t, rfl, rfl⟩ | ⟨x, t, rfl, rfl⟩ <;> rfl
  pyHash := fun hv h => by
    rcases keyIs_shape hv with ⟨i, t, rfl, rfl⟩ | ⟨x, t, rfl, rfl⟩
    · exact wpAny_pyHash_int h
    · exact wpAny_pyHash_str h
  eqBool := fun hu hv h => by
    rcases keyIs_shape hu with ⟨i, t, rfl, rfl⟩ | ⟨x, t, rfl, rfl⟩
    · rcases keyIs_shape hv with ⟨j, u, rfl, rfl⟩ | ⟨y, u, rfl, rfl⟩
      · rw [key_ll] at h; exact wpAny_eqBool_int h
      · rw [key_lr] at h; exact SeqAt.EqAt.int_str i t y u _ _ _ _ h
    · rcases keyIs_shape hv with ⟨j, u, rfl, rfl⟩ | ⟨y, u, rfl, rfl⟩
      · rw [key_rl] at h; exact SeqAt.EqAt.str_int x t j u _ _ _ _ h
      · rw [key_rr] at h; exact wpAny_eqBool_str h
  «strs» := fun k x t v h => by
    rcases keyIs_shape h with ⟨i, u, rfl, e⟩ | ⟨y, u, rfl, e⟩
    · exact nomatch e
    · injection e with e1 _
      subst e1
      cases v <;> rfl

end L2

namespace L2
open PySem PySem.Spec PyProof.Rows

/-- a value, without the heap -/
inductive V where
  | non | bl (b : Bool) | int (i : Int) | str (x : Str) | byt (b : Array UInt8) | flt (b : UInt64) | ref (a : Addr) | ty (n : String)
  deriving DecidableEq

def RelV : V → Value → Prop
  | .non, u => u = Value.none
  | .bl b, u => u = Value.bool b
  | .int i, u => ∃ t, u = Value.int i t
  | .str x, u => ∃ t, u = Value.str x t
  | .byt b, u => ∃ t, u = Value.bytes b t
  | .flt b, u => ∃ t, u = Value.float b t
  | .ref a, u => u = Value.ref a
  | .ty n, u => u = Value.type n

abbrev Vals : List V → List Value → Prop := Paired RelV
theorem Vals.length {xs : List V} {us : List Value} (r : Vals xs us) : xs.length = us.length := Paired.length r
theorem Vals.get : ∀ {xs : List V} {us : List Value} {i : Nat} {x : V}, Vals xs us → xs[i]? = some x → ∃ u, us[i]? = some u ∧ RelV x u
  | _, _, _, _, .nil, e => by simp at e
  | _, _, 0, _, .cons r _, e => by simp at e; subst e; exact ⟨_, rfl, r⟩
  | _, _, i + 1, x, .cons _ t, e => by
    obtain ⟨u, h1, h2⟩ := Vals.get (i := i) (x := x) t (by simpa using e)
    exact ⟨u, by simpa using h1, h2⟩
theorem Vals.set {x : V} {u : Value} (r : RelV x u) : ∀ {xs : List V} {us : List Value} (i : Nat), Vals xs us → Vals (xs.set i x) (us.set i u)
  | _, _, _, .nil => .nil
  | _, _, 0, .cons _ t => .cons r t
  | _, _, i + 1, .cons q t => .cons q (Vals.set r i t)
theorem Vals.append : ∀ {xs ys : List V} {us ws : List Value}, Vals xs us → Vals ys ws → Vals (xs ++ ys) (us ++ ws)
  | _, _, _, _, .nil, s => s
  | _, _, _, _, .cons r t, s => .cons r (Vals.append t s)
theorem Vals.take : ∀ {xs : List V} {us : List Value} (n : Nat), Vals xs us → Vals (xs.take n) (us.take n)
  | _, _, 0, _ => .nil
  | _, _, _ + 1, .nil => .nil
  | _, _, n + 1, .cons r t => .cons r (Vals.take n t)
theorem Vals.drop : ∀ {xs : List V} {us : List Value} (n : Nat), Vals xs us → Vals (xs.drop n) (us.drop n)
  | _, _, 0, r => r
  | _, _, _ + 1, .nil => .nil
  | _, _, n + 1, .cons _ t => Vals.drop n t
theorem Vals.none_of : ∀ {xs : List V} {us : List Value} {i : Nat}, Vals xs us → xs[i]? = none → us[i]? = none := fun {xs us i} r e => by
  have h1 := r.length
  have h2 : xs.length ≤ i := List.getElem?_eq_none_iff.mp e
  exact List.getElem?_eq_none_iff.mpr (by omega)

def RelO : Option V → Option Value → Prop
  | some v, some u => RelV v u
  | none, none => True
  | _, _ => False
def KV {κ : Type} : List (κ × V) → List (κ × Value) → Prop := Paired fun (p : κ × V) (q : κ × Value) => p.1 = q.1 ∧ RelV p.2 q.2

/-- a key of a dict (00_mix): an int or a text -/
def kV : Key → V
  | .inl i => .int i
  | .inr x => .str x

/-- what stands at a tracked address -/
inductive HO where
  /-- a list -/
  | lst (xs : List V)
  /-- a tuple (never changes) -/
  | tup (xs : List V)
  /-- a dict whose keys are ints and texts; one whose keys are tuples of ints and texts (the empty one is both) -/
  | dK (kvs : List (Key × V))
  /-- a set of ints: its members, its size -/
  | set (S : Int → Bool) (n : Nat)
  /-- an instance of the class at C, its dict at dx, its attributes -/
  | ins (C dx : Addr) (fs : List (Str × V))
  /-- the dict of the instance at x -/
  | own (x : Addr)
  /-- the dict of an exception -/
  | xd (fs : List (Str × V))
  /-- a bound method, f of x -/
  | met (f x : Addr)
  /-- a range object lo, lo + 1, .. below hi -/
  | rng (lo hi : Int)
  /-- a thing that is known to the object (the script; a dict while a loop walks it): read, never written while it is so -/
  | frz (o : Obj) (u : HO)
  /-- a code object's table -/
  | tbl (ps : Array Value)
  /-- any other thing, by what is true of its one object (a def of one's own: SetO a S n := HO.ext fun h => ..) -/
  | ext (φ : Heap → Prop)

abbrev Hp := Addr → Option HO
def upd (H : Hp) (a : Addr) (o : HO) : Hp := fun b => if b = a then some o else H b
theorem upd_same {H : Hp} {a : Addr} {o : HO} : upd H a o a = some o := by unfold upd; rw [if_pos rfl]
theorem upd_ne {H : Hp} {a b : Addr} {o : HO} (h : b ≠ a) : upd H a o b = H b := by unfold upd; rw [if_neg h]
theorem upd_upd {H : Hp} {a : Addr} {o u : HO} : upd (upd H a o) a u = upd H a u := by
  funext b; unfold upd; split <;> rfl
/-- two objects of different content stand apart -/
theorem ne_of {H : Hp} {a b : Addr} {o u : HO} (h : H a = some o) (h' : H b = some u) (d : o ≠ u) : a ≠ b := by
  intro e; subst e; rw [h] at h'; exact d (Option.some.inj h')
theorem ne_of_none {H : Hp} {a b : Addr} {o : HO} (h : H a = some o) (h' : H b = none) : a ≠ b := by
  intro e; subst e; rw [h] at h'; cases h'

section
variable (P : Program) (w : World)
def ObjOk (H : Hp) (h : Heap) (a : Addr) : HO → Prop
  | .lst xs => xs.length ≤ sizeLine ∧ ∃ (its : List Value) (n : Nat), Vals xs its ∧ h.get? a = some { cls := .type "list", data := .seq its.toArray n }
  | .tup xs => xs.length ≤ sizeLine ∧ ∃ its : List Value, Vals xs its ∧ IsTup h a its.toArray
  | .dK kvs => kvs.length ≤ sizeLine ∧ (a == sysModules) = false ∧ ∃ vs, KV kvs vs ∧ h.DictOf (mixKind P w) a vs
  | .set S n => h.SetOf (intKind P w) a S n
  | .ins C dx fs => H dx = some (.own a) ∧ fs.length ≤ 1000 ∧ dx ≠ a ∧ h.get? a = some (PySem.W.instObj C dx) ∧
      ∃ mA, h.Ns1 dx mA ∧ (∀ f, RelO (fs.lookup f) (mA f)) ∧ PySem.Within mA (fs.map (·.1))
  | .own _ => ∃ o, h.get? a = some o
  | .xd fs => ∃ mA, h.Ns1 a mA ∧ ∀ f, RelO (fs.lookup f) (mA f)
  | .rng lo hi => ∃ t u v, h.get? a = some { cls := .type "range", data := .fields #[.int lo t, .int hi u, .int 1 v] }
  | .frz o u => h.get? a = some o ∧ ObjOk H h a u
  | .tbl ps => h.get? a = some { cls := .none, data := .fields ps }
  | .met f x => h.get? a = some (PySem.W.methodObj (.ref f) (.ref x))
  | .ext φ => φ h ∧ (∃ o, h.get? a = some o) ∧ ∀ h1 h2 : Heap, φ h1 → (∀ o, h1.get? a = some o → h2.get? a = some o) → φ h2
/-- the abstract heap is held -/
def HOk (H : Hp) (h : Heap) : Prop := ∀ a o, H a = some o → ObjOk P w H h a o
end

section
variable {P : Program} {w : World} {H H' : Hp} {h h' : Heap} {a : Addr} {o : HO}
theorem ObjOk.lt (x : ObjOk P w H h a o) : a < h.objs.size := by
  cases o with
  | lst xs => obtain ⟨_, _, _, _, e⟩ := x; exact Heap.lt_size e
  | tup xs => obtain ⟨_, _, _, p⟩ := x; exact p.lt
  | dK kvs => obtain ⟨_, _, _, _, o, _, _, e, _⟩ := x; exact Heap.lt_size e
  | set S n => obtain ⟨o, _, _, _, e, _⟩ := x; exact Heap.lt_size e
  | ins C dx fs => obtain ⟨_, _, _, e, _⟩ := x; exact Heap.lt_size e
  | own y => obtain ⟨_, e⟩ := x; exact Heap.lt_size e
  | xd fs => obtain ⟨_, ⟨_, _, _, e, _⟩, _⟩ := x; exact Heap.lt_size e
  | rng lo hi => obtain ⟨_, _, _, e⟩ := x; exact Heap.lt_size e
  | frz ob u => obtain ⟨e, _⟩ := x; exact Heap.lt_size e
  | tbl ps => exact Heap.lt_size (show h.get? a = some _ from x)
  | met f y => exact Heap.lt_size (show h.get? a = some _ from x)
  | ext φ => obtain ⟨_, ⟨_, e⟩, _⟩ := x; exact Heap.lt_size e
/-- what an object's description leans on: its own object, its own dict, the tuples -/
theorem ObjOk.stay (x : ObjOk P w H h a o) (k : ∀ b u, (b = a ∨ H b = some (.own a)) → h.get? b = some u → h'.get? b = some u)
    (ho : ∀ b, H b = some (.own a) → H' b = some (.own a)) (ht : ∀ b xs, H b = some (.tup xs) → H' b = some (.tup xs)) : ObjOk P w H' h' a o := by
  induction o with
  | lst xs => obtain ⟨z, its, n, r, e⟩ := x; exact ⟨z, its, n, r, k _ _ (.inl rfl) e⟩
  | tup xs => obtain ⟨z, its, r, ob, e, c⟩ := x; exact ⟨z, its, r, ob, k _ _ (.inl rfl) e, c⟩
  | dK kvs => obtain ⟨z, y, vs, r, ob, es, ep, e, c⟩ := x; exact ⟨z, y, vs, r, ob, es, ep, k _ _ (.inl rfl) e, c⟩
  | set S n => obtain ⟨ob, es, ep, t, e, c⟩ := x; exact ⟨ob, es, ep, t, k _ _ (.inl rfl) e, c⟩
  | ins C dx fs =>
    obtain ⟨d, z, ne, e, mA, ⟨od, es, ep, e2, c⟩, r⟩ := x
    exact ⟨ho _ d, z, ne, k _ _ (.inl rfl) e, mA, ⟨od, es, ep, k _ _ (.inr d) e2, c⟩, r⟩
  | own y => obtain ⟨ob, e⟩ := x; exact ⟨ob, k _ _ (.inl rfl) e⟩
  | xd fs => obtain ⟨mA, ⟨od, es, ep, e, c⟩, r⟩ := x; exact ⟨mA, ⟨od, es, ep, k _ _ (.inl rfl) e, c⟩, r⟩
  | rng lo hi => obtain ⟨t, u, v, e⟩ := x; exact ⟨t, u, v, k _ _ (.inl rfl) e⟩
  | frz ob u ih => obtain ⟨e, q⟩ := x; exact ⟨k _ _ (.inl rfl) e, ih q⟩
  | tbl ps =>
    have e : h.get? a = some { cls := .none, data := .fields ps } := x
    show h'.get? a = some { cls := .none, data := .fields ps }
    exact k a _ (.inl rfl) e
  | met f y =>
    have e : h.get? a = some (PySem.W.methodObj (.ref f) (.ref y)) := x
    show h'.get? a = some (PySem.W.methodObj (.ref f) (.ref y))
    exact k a _ (.inl rfl) e
  | ext φ => obtain ⟨p, ⟨o, e⟩, st⟩ := x; exact ⟨st _ _ p fun o q => k _ _ (.inl rfl) q, ⟨o, k _ _ (.inl rfl) e⟩, st⟩
theorem HOk.lt (x : HOk P w H h) (e : H a = some o) : a < h.objs.size := (x a o e).lt
theorem HOk.fresh (x : HOk P w H h) (e : h.objs.size ≤ a) : H a = none := by
  cases q : H a with
  | none => rfl
  | some u => exact absurd (Nat.lt_of_lt_of_le (x.lt q) e) (Nat.lt_irrefl _)
/-- every object of the heap is kept -/
theorem HOk.kept (x : HOk P w H h) (k : ∀ b u, h.get? b = some u → h'.get? b = some u) : HOk P w H h' := fun a o e =>
  (x a o e).stay (fun b u _ q => k b u q) (fun _ q => q) fun _ _ q => q
/-- a new object is laid and tracked -/
theorem HOk.laid (x : HOk P w H h) (k : ∀ b u, h.get? b = some u → h'.get? b = some u) (hp : h.objs.size ≤ a) (new : ObjOk P w (upd H a o) h' a o) : HOk P w (upd H a o) h' := fun b u e => by
  have hn := x.fresh hp
  by_cases hb : b = a
  · subst hb; rw [upd_same] at e; cases e; exact new
  · rw [upd_ne hb] at e
    exact (x b u e).stay (fun c v _ q => k c v q) (fun c q => by rw [upd_ne (ne_of_none q hn)]; exact q) fun c xs q => by rw [upd_ne (ne_of_none q hn)]; exact q
end

/-- what may be read as u: it is u, or a known u -/
def Rd (H : Hp) (a : Addr) (u : HO) : Prop := H a = some u ∨ ∃ o, H a = some (.frz o u)
theorem Rd.of {H : Hp} {a : Addr} {u : HO} (h : H a = some u) : Rd H a u := .inl h
theorem Rd.ok {P : Program} {w : World} {H : Hp} {h : Heap} {a : Addr} {u : HO} (r : Rd H a u) (x : HOk P w H h) : ObjOk P w H h a u := by
  rcases r with r | ⟨o, r⟩
  · exact x a u r
  · obtain ⟨_, q⟩ := x a _ r
    exact q
/-- what may be written -/
def Mut : Option HO → Prop
  | some (.lst _) => True
  | some (.dK _) => True
  | some (.set _ _) => True
  | some (.ins _ _ _) => True
  | some (.ext _) => True
  | _ => False
section
variable {P : Program} {w : World} {H : Hp} {h h' : Heap} {x e : Addr} {o' : HO}
/-- the object at e is changed: x itself, or the dict of the instance x -/
theorem HOk.write (ok : HOk P w H h) (mu : Mut (H x)) (he : e = x ∨ H e = some (.own x)) (k : ∀ b u, b ≠ e → h.get? b = some u → h'.get? b = some u) (heo : ∃ u, h'.get? e = some u)
    (new : ObjOk P w (upd H x o') h' x o') : HOk P w (upd H x o') h' := fun b u q => by
  have nown : ∀ c y, H c = some (.own y) → c ≠ x := fun c y r z => by subst z; rw [r] at mu; exact mu
  have ntup : ∀ c xs, H c = some (.tup xs) → c ≠ x := fun c xs r z => by subst z; rw [r] at mu; exact mu
  by_cases hb : b = x
  · subst hb; rw [upd_same] at q; cases q; exact new
  · rw [upd_ne hb] at q
    by_cases hbe : b = e
    · have q' : H b = some (.own x) := by
        rcases he with z | z
        · exact absurd (hbe.trans z) hb
        · rw [hbe]; exact z
      rw [q] at q'; cases q'
      obtain ⟨v, hv⟩ := heo
      exact ⟨v, by rw [hbe]; exact hv⟩
    · refine (ok b u q).stay (fun c v hc r => k c v ?_ r) (fun c r => by rw [upd_ne (nown c b r)]; exact r) fun c xs r => by rw [upd_ne (ntup c xs r)]; exact r
      rcases hc with rfl | hc
      · exact hbe
      · rintro rfl
        rcases he with z | z
        · exact nown c b hc z
        · rw [hc] at z; cases z; exact hb rfl
end

/-! ### kept unless tracked; of the frames at fs (the callers') the slots may change (an exception that passes writes there); of the records at ex (iterators) nothing is said -/
structure Un (fs ex : List Addr) (H H' : Hp) (h h' : Heap) : Prop where
  keep : ∀ b o, h.get? b = some o → H b = none → b ∉ fs → b ∉ ex → h'.get? b = some o
  slot : ∀ b o, h.get? b = some o → H b = none → b ∈ fs → b ∉ ex → ∃ sl, h'.get? b = some { o with slots := sl }
  free : ∀ b o, h.get? b = some o → H b = none → b ∉ ex → H' b = none
  there : ∀ b o, h.get? b = some o → b ∉ ex → ∃ o', h'.get? b = some o'
  tups : ∀ b xs, H b = some (.tup xs) → H' b = some (.tup xs)
  frzs : ∀ b o u, H b = some (.frz o u) → H' b = some (.frz o u)
  tbls : ∀ b ps, H b = some (.tbl ps) → ∃ more, H' b = some (.tbl (ps ++ more))
section
variable {fs fs' ex ex' : List Addr} {H H1 H2 : Hp} {h h1 h2 h' : Heap} {a x e : Addr} {o : HO}
theorem Un.any (u : Un fs ex H H1 h h1) {b : Addr} {ob : Obj} (q : h.get? b = some ob) (n : H b = none) (hx : b ∉ ex) : ∃ sl, h1.get? b = some { ob with slots := sl } := by
  by_cases hb : b ∈ fs
  · exact u.slot b ob q n hb hx
  · exact ⟨ob.slots, u.keep b ob q n hb hx⟩
theorem Un.trans (a : Un fs ex H H1 h h1) (b : Un fs ex H1 H2 h1 h2) : Un fs ex H H2 h h2 where
  keep := fun c ob q n hc hx => b.keep c ob (a.keep c ob q n hc hx) (a.free c ob q n hx) hc hx
  slot := fun c ob q n hc hx => by
    obtain ⟨sl, e1⟩ := a.slot c ob q n hc hx
    obtain ⟨sl', e2⟩ := b.slot c _ e1 (a.free c ob q n hx) hc hx
    exact ⟨sl', e2⟩
  free := fun c ob q n hx => by
    obtain ⟨o', e1⟩ := a.there c ob q hx
    exact b.free c o' e1 (a.free c ob q n hx) hx
  there := fun c ob q hx => by
    obtain ⟨o', e1⟩ := a.there c ob q hx
    exact b.there c o' e1 hx
  tups := fun c xs q => b.tups c xs (a.tups c xs q)
  frzs := fun c ob xs q => b.frzs c ob xs (a.frzs c ob xs q)
  tbls := fun c ps q => by
    obtain ⟨m1, e1⟩ := a.tbls c ps q
    obtain ⟨m2, e2⟩ := b.tbls c _ e1
    exact ⟨m1 ++ m2, by rw [e2, Array.append_assoc]⟩
theorem Un.kept (k : ∀ b u, h.get? b = some u → h'.get? b = some u) : Un fs ex H H h h' :=
  ⟨fun b ob q _ _ _ => k b ob q, fun b ob q _ _ _ => ⟨ob.slots, k b ob q⟩, fun _ _ _ n _ => n, fun b ob q _ => ⟨ob, k b ob q⟩, fun _ _ q => q, fun _ _ _ q => q, fun _ ps q => ⟨#[], by rw [q]; simp⟩⟩
theorem Un.refl : Un fs ex H H h h := Un.kept fun _ _ q => q
theorem Un.laid (k : ∀ b u, h.get? b = some u → h'.get? b = some u) (hp : h.objs.size ≤ a) (hn : H a = none) : Un fs ex H (upd H a o) h h' where
  keep := fun b u q _ _ _ => k b u q
  slot := fun b u q _ _ _ => ⟨u.slots, k b u q⟩
  free := fun b u q n _ => by rw [upd_ne (Nat.ne_of_lt (Nat.lt_of_lt_of_le (Heap.lt_size q) hp))]; exact n
  there := fun b u q _ => ⟨u, k b u q⟩
  tups := fun b xs q => by rw [upd_ne (ne_of_none q hn)]; exact q
  frzs := fun b u xs q => by rw [upd_ne (ne_of_none q hn)]; exact q
  tbls := fun b ps q => ⟨#[], by rw [upd_ne (ne_of_none q hn), q]; simp⟩
theorem Un.write (mu : Mut (H x)) (he : e = x ∨ H e = some (.own x)) (k : ∀ b u, b ≠ e → h.get? b = some u → h'.get? b = some u) (heo : ∃ u, h'.get? e = some u) : Un fs ex H (upd H x o) h h' := by
  have hx : ∀ b, H b = none → b ≠ x := fun b n z => by subst z; rw [n] at mu; exact mu
  have hb : ∀ b, H b = none → b ≠ e := fun b n z => by
    subst z
    rcases he with r | r
    · exact hx b n r
    · rw [n] at r; cases r
  have hm : ∀ b u, H b = some u → ¬ Mut (some u) → b ≠ x := fun b u q nm z => by subst z; rw [q] at mu; exact nm mu
  refine ⟨fun b u q n _ _ => k b u (hb b n) q, fun b u q n _ _ => ⟨u.slots, k b u (hb b n) q⟩, fun b u q n _ => by rw [upd_ne (hx b n)]; exact n, fun b u q _ => ?_,
    fun b xs q => by rw [upd_ne (hm b _ q fun z => z)]; exact q, fun b u xs q => by rw [upd_ne (hm b _ q fun z => z)]; exact q, fun b ps q => ⟨#[], by rw [upd_ne (hm b _ q fun z => z), q]; simp⟩⟩
  by_cases hbe : b = e
  · subst hbe; exact heo
  · exact ⟨u, k b u hbe q⟩
theorem Un.mono (u : Un fs ex H H1 h h1) (hs : ∀ b ∈ fs, b ∈ fs') (hx : ∀ b ∈ ex, b ∈ ex') : Un fs' ex' H H1 h h1 :=
  ⟨fun b ob q n hb he => u.keep b ob q n (fun z => hb (hs b z)) fun z => he (hx b z), fun _ _ q n _ he => u.any q n fun z => he (hx _ z), fun b ob q n he => u.free b ob q n fun z => he (hx b z), fun b ob q he => u.there b ob q fun z => he (hx b z), u.tups, u.frzs, u.tbls⟩
end

/-! ### the heap without what is tracked -/
def trk (h : Heap) (H : Hp) : List Addr := (List.range h.objs.size).filter fun a => (H a).isSome
def hidT (h : Heap) (H : Hp) : Heap := PySem.W.hideAll h (trk h H)
theorem hidT_size (h : Heap) (H : Hp) : (hidT h H).objs.size = h.objs.size := PySem.W.hideAll_size _ _
theorem hidT_get {h : Heap} {H : Hp} {b : Addr} {o : Obj} (e : h.get? b = some o) (n : H b = none) : (hidT h H).get? b = some o :=
  PySem.W.hideAll_get _ e fun hm => by
    have q : (H b).isSome = true := (List.mem_filter.mp hm).2
    rw [n] at q; simp at q
theorem of_hidT {h : Heap} {H : Hp} {b : Addr} {o : Obj} (e : (hidT h H).get? b = some o) : h.get? b = some o ∧ H b = none := by
  have e' : h.get? b = some o := PySem.W.of_hideAll (trk h H) e
  refine ⟨e', ?_⟩
  cases q : H b with
  | none => rfl
  | some x =>
    have hm : b ∈ trk h H := List.mem_filter.mpr ⟨List.mem_range.mpr (Heap.lt_size e'), by simp [q]⟩
    have z : (hidT h H).get? b = none := PySem.W.hideAll_none (trk h H) hm
    rw [z] at e; cases e

/-! ### OpenK's ledger, filled with every new object but one -/
def allNews (g h : Heap) (L : Addr) : List (Addr × Obj) := (List.range h.objs.size).filterMap fun a => if a = L ∨ (g.get? a).isSome = true then none else (h.get? a).map fun o => (a, o)
def rest (g h : Heap) (L d : Addr) : List (Addr × Obj) := (allNews g h L).filter fun p => decide (p.1 ≠ d)
end L2

namespace L2
open PySem PySem.Spec PyProof.Rows

/-- the module's facts, over the base: the heap at the law's entry without what is tracked there -/
structure Mod (K : PySem.W.Frag) (mg : Str → Option Value) (base : Heap) : Prop where
  kin : K.In base
  glob : base.Ns mainGlobals mg
  blt : ∃ mb, base.Ns builtinsNs mb ∧ ∀ x : Str, x ≠ "__name__" → mb x = bootBuiltins x
  nolimit : base.NoLimit

/-- the context: a def's body (or a comprehension's block) running. base: fixed through the whole law; s₀, H₀: the entry; outer: the frames whose slots others may change (a def's callers); stack: all frames that run;
   ex: iterators that were made ahead of the entry and are walked here (a comprehension's); fn: the names whose cells were made at the entry (a def: all; a comprehension's block: its own); calm: not within an except suite; pn: pins that every state bears; xe: what is wanted of an exception that leaves the code -/
structure Cx where
  prog : Program
  w : World
  K : PySem.W.Frag
  mg : Str → Option Value
  base : Heap
  A : Around
  N : List Str
  s₀ : Shared
  H₀ : Hp
  env : Env
  outer : List Env
  stack : List Env
  ex : List Addr
  fn : Str → Bool
  calm : Bool
  pn : List (Addr × Obj)
  xe : Value → Shared → Prop
/-- the callers' frames -/
def frs (l : List Env) : List Addr := l.filterMap (·.frame)
abbrev Cx.fs (X : Cx) : List Addr := frs X.outer

def Vis (sc : Scope) (x : Str) : Prop := sc.names.lookup x = some .local ∨ sc.names.lookup x = some .cell ∨ sc.names.lookup x = some .free
def Loc (sc : Scope) (x : Str) : Prop := sc.names.lookup x = some .local ∨ sc.names.lookup x = some .cell
def Look (env : Env) (h : Heap) (m : Str → Option Value) (x : Str) (u : Value) : Prop :=
  (env.kindOf x = some .local ∧ m x = some u) ∨ ((env.kindOf x = some .cell ∨ env.kindOf x = some .free) ∧ ∃ c, env.cells.lookup x = some c ∧ h.IsCell c (some u))

structure Cx.Ok (X : Cx) : Prop where
  mod : Mod X.K X.mg X.base
  kind : X.env.scope.kind = .function
  glob : X.env.globals = mainGlobals
  blt : X.env.builtins = builtinsNs
  above : X.s₀.heap.objs.size ≤ X.env.locals
  inj : ∀ x y c, X.env.cells.lookup x = some c → X.env.cells.lookup y = some c → x = y
  has : ∀ x, (X.env.kindOf x = some .cell ∨ X.env.kindOf x = some .free) → ∃ c, X.env.cells.lookup x = some c
  cab : ∀ x c, X.fn x = true → X.env.cells.lookup x = some c → X.s₀.heap.objs.size ≤ c
  hd : X.calm = true → X.A.handled = none
  frames : X.A.frames = some X.stack
  stk : X.stack = X.outer ∨ (X.stack = X.env :: X.outer ∧ X.env.frame = some X.env.locals)
  exf : ∀ b ∈ X.ex, b ≠ X.env.locals ∧ ∀ x c, X.env.cells.lookup x = some c → c ≠ b
  bs : ∀ b o, X.base.get? b = some o → X.s₀.heap.get? b = some o ∧ X.H₀ b = none
  bsz : X.base.objs.size ≤ X.s₀.heap.objs.size
  noex : ∀ b o, X.base.get? b = some o → b ∉ X.ex
  exfs : ∀ b ∈ X.ex, b ∉ X.fs
  funs : X.s₀.heap.FunFrames X.base X.outer
  frf : ∀ b ∈ X.fs, X.H₀ b = none

structure Inv (X : Cx) (pins : List (Addr × Obj)) (σ : List (Option V)) (H : Hp) (s : Shared) : Prop where
  ok : X.Ok
  os : s.os = X.s₀.os
  bare : AllBare s.gens
  base : Un X.fs X.ex X.H₀ H X.s₀.heap s.heap
  loc : ∃ m, s.heap.Ns X.env.locals m ∧ ∀ (i : Nat) (x : Str) (v : V), X.N[i]? = some x → σ[i]? = some (some v) → Vis X.env.scope x → ∃ u, RelV v u ∧ Look X.env s.heap m x u
  cell : ∀ x c, X.env.cells.lookup x = some c → ∃ v, s.heap.IsCell c v
  free : H X.env.locals = none
  freeC : ∀ x c, X.env.cells.lookup x = some c → H c = none
  pin : ∀ p ∈ X.pn ++ pins, s.heap.get? p.1 = some p.2 ∧ H p.1 = none ∧ p.1 ≠ X.env.locals ∧ p.1 ∉ X.fs ∧ ∀ v, p.2.data ≠ .cell v
  hok : HOk X.prog X.w H s.heap
  len : σ.length = X.N.length

section
variable {X : Cx} {pins : List (Addr × Obj)} {σ : List (Option V)} {H H' : Hp} {s : Shared} {h' : Heap}

theorem Cx.Ok.nofr (ok : X.Ok) {b : Addr} {o : Obj} (e : X.base.get? b = some o) : b ∉ X.fs := fun hb => by
  have := (ok.funs.mem hb).1
  rw [e] at this; cases this
theorem Inv.bs (I : Inv X pins σ H s) : ∀ b o, X.base.get? b = some o → s.heap.get? b = some o ∧ H b = none := fun b o e =>
  ⟨I.base.keep b o (I.ok.bs b o e).1 (I.ok.bs b o e).2 (I.ok.nofr e) (I.ok.noex b o e), I.base.free b o (I.ok.bs b o e).1 (I.ok.bs b o e).2 (I.ok.noex b o e)⟩
theorem Inv.bk (I : Inv X pins σ H s) : ∀ b o, X.base.get? b = some o → s.heap.get? b = some o := fun b o e => (I.bs b o e).1
theorem Inv.mod (I : Inv X pins σ H s) : Mod X.K X.mg X.base := I.ok.mod
theorem Inv.kIn (I : Inv X pins σ H s) : X.K.In s.heap := I.ok.mod.kin.keeps I.bk
theorem Inv.nolimit (I : Inv X pins σ H s) : s.heap.NoLimit := I.ok.mod.nolimit.keeps I.bk
/-- the frame over the base: for OpenK's rules (K.In X.base is I.mod.kin) -/
theorem Inv.fr (I : Inv X pins σ H s) : ∃ m, Fr X.base X.env.locals s.heap m :=
  let ⟨m, hn, _⟩ := I.loc
  ⟨m, hn, I.bk, Nat.le_trans I.ok.bsz I.ok.above⟩
theorem Inv.lt (I : Inv X pins σ H s) : X.env.locals < s.heap.objs.size := let ⟨_, hn, _⟩ := I.loc; hn.lt
theorem Inv.sz (I : Inv X pins σ H s) : X.s₀.heap.objs.size ≤ s.heap.objs.size := Nat.le_trans I.ok.above (Nat.le_of_lt I.lt)
theorem Inv.nofs (I : Inv X pins σ H s) {a : Addr} (h : s.heap.objs.size ≤ a) : a ∉ X.fs := fun hb => by
  obtain ⟨_, o, ho, _⟩ := I.ok.funs.mem hb
  exact absurd (Nat.lt_of_lt_of_le (Heap.lt_size ho) (Nat.le_trans I.sz h)) (Nat.lt_irrefl _)
theorem Inv.cne (I : Inv X pins σ H s) : ∀ x c, X.env.cells.lookup x = some c → c ≠ X.env.locals := fun x c e z => by
  obtain ⟨v, o, ho, hd⟩ := I.cell x c e
  obtain ⟨m, ⟨o', es, ep, ho', hd', _⟩, _⟩ := I.loc
  rw [z, ho'] at ho; cases ho; rw [hd'] at hd; cases hd
theorem Inv.funs (I : Inv X pins σ H s) : s.heap.FunFrames X.base X.outer := by
  have all : ∀ (l : List Env), (∀ b ∈ frs l, b ∈ X.fs) → X.s₀.heap.FunFrames X.base l → s.heap.FunFrames X.base l := by
    intro l
    induction l with
    | nil => intro _ _; trivial
    | cons env r ih =>
      intro hs hl
      obtain ⟨hk, ⟨L, o, hf, hn, ho, hd⟩, hr⟩ := hl
      have hL : L ∈ X.fs := hs L (by unfold frs; rw [List.filterMap_cons, hf]; exact List.mem_cons_self)
      obtain ⟨sl, e⟩ := I.base.slot L o ho (I.ok.frf L hL) hL fun z => I.ok.exfs L z hL
      exact ⟨hk, ⟨L, _, hf, hn, e, hd⟩, ih (fun b hb => hs b (by unfold frs; rw [List.filterMap_cons, hf]; exact List.mem_cons_of_mem _ hb)) hr⟩
  exact all X.outer (fun _ hb => hb) I.ok.funs

/-- the frames that run, for a call -/
theorem Inv.stack (I : Inv X pins σ H s) : s.heap.FunFrames X.base X.stack := by
  rcases I.ok.stk with e | ⟨e, hf⟩
  · rw [e]; exact I.funs
  · rw [e]
    obtain ⟨m, hn, _⟩ := I.loc
    refine .cons (by rw [I.ok.kind]; decide) hf hn ?_ I.funs
    exact Heap.get?_none_of_le (Nat.le_trans I.ok.bsz I.ok.above)
theorem Inv.stkSub (I : Inv X pins σ H s) : ∀ b ∈ frs X.stack, b ∈ X.env.locals :: X.fs := fun b hb => by
  rcases I.ok.stk with e | ⟨e, hf⟩
  · rw [e] at hb; exact List.mem_cons_of_mem _ hb
  · rw [e] at hb
    unfold frs at hb
    rw [List.filterMap_cons, hf] at hb
    exact hb
theorem Inv.stkFree (I : Inv X pins σ H s) : ∀ b ∈ frs X.stack, H b = none := fun b hb => by
  rcases List.mem_cons.mp (I.stkSub b hb) with e | hb
  · rw [e]; exact I.free
  · obtain ⟨_, o, ho, _⟩ := I.ok.funs.mem hb
    exact I.base.free b o ho (I.ok.frf b hb) fun z => I.ok.exfs b z hb

/-- THE STEP: the untracked objects but the frame and the records at ch are kept (the callers' frames up to slots), the frame's map is kept, the new abstract heap is held -/
theorem Inv.step {g' : Array GenState} {t' : Nat} {d' : Drawn} {ch : List Addr} (I : Inv X pins σ H s)
    (hch : ∀ b ∈ ch, (b ∈ X.ex ∨ X.s₀.heap.objs.size ≤ b) ∧ b ≠ X.env.locals ∧ (∀ x c, X.env.cells.lookup x = some c → c ≠ b) ∧ ∀ p ∈ X.pn ++ pins, p.1 ≠ b)
    (keep : ∀ b o, b ≠ X.env.locals → b ∉ X.fs → b ∉ ch → s.heap.get? b = some o → H b = none → h'.get? b = some o)
    (slot : ∀ b o, b ≠ X.env.locals → b ∈ X.fs → b ∉ ch → s.heap.get? b = some o → H b = none → ∃ sl, h'.get? b = some { o with slots := sl }) (free : ∀ b o, b ∉ ch → s.heap.get? b = some o → H b = none → H' b = none)
    (there : ∀ b o, b ∉ ch → s.heap.get? b = some o → ∃ o', h'.get? b = some o')
    (tups : ∀ b xs, H b = some (.tup xs) → H' b = some (.tup xs)) (frzs : ∀ b o u, H b = some (.frz o u) → H' b = some (.frz o u)) (tbls : ∀ b ps, H b = some (.tbl ps) → ∃ more, H' b = some (.tbl (ps ++ more)))
    (ns : ∀ m, s.heap.Ns X.env.locals m → h'.Ns X.env.locals m) (hok : HOk X.prog X.w H' h') (hg : AllBare g') :
    Inv X pins σ H' { s with heap := h', gens := g', drawn := d', toks := t' } := by
  have neL : ∀ b o, X.s₀.heap.get? b = some o → b ≠ X.env.locals := fun b o e => Nat.ne_of_lt (Nat.lt_of_lt_of_le (Heap.lt_size e) I.ok.above)
  have neC : ∀ b o, X.s₀.heap.get? b = some o → b ∉ X.ex → b ∉ ch := fun b o e hx hb => by
    rcases (hch b hb).1 with z | z
    · exact hx z
    · exact absurd (Nat.lt_of_lt_of_le (Heap.lt_size e) z) (Nat.lt_irrefl _)
  have cellK : ∀ x c, X.env.cells.lookup x = some c → ∀ v, s.heap.IsCell c v → h'.IsCell c v := fun x c e v ⟨o, ho, hd⟩ => by
    have nch : c ∉ ch := fun z => (hch c z).2.2.1 x c e rfl
    by_cases hc : c ∈ X.fs
    · obtain ⟨sl, q⟩ := slot c o (I.cne x c e) hc nch ho (I.freeC x c e)
      exact ⟨_, q, hd⟩
    · exact ⟨o, keep c o (I.cne x c e) hc nch ho (I.freeC x c e), hd⟩
  refine ⟨I.ok, I.os, hg, ⟨fun b o e n hb hx => ?_, fun b o e n hb hx => ?_, fun b o e n hx => ?_, fun b o e hx => ?_, fun b xs e => tups b xs (I.base.tups b xs e), fun b o xs e => frzs b o xs (I.base.frzs b o xs e), fun b ps e => ?_⟩, ?_, fun x c e => ?_, ?_, fun x c e => ?_, fun p hp => ?_, hok, I.len⟩
  · exact keep b o (neL b o e) hb (neC b o e hx) (I.base.keep b o e n hb hx) (I.base.free b o e n hx)
  · obtain ⟨sl, e1⟩ := I.base.slot b o e n hb hx
    obtain ⟨sl', e2⟩ := slot b _ (neL b o e) hb (neC b o e hx) e1 (I.base.free b o e n hx)
    exact ⟨sl', e2⟩
  · obtain ⟨o', e1⟩ := I.base.there b o e hx
    exact free b o' (neC b o e hx) e1 (I.base.free b o e n hx)
  · obtain ⟨o', e1⟩ := I.base.there b o e hx
    exact there b o' (neC b o e hx) e1
  · obtain ⟨m1, e1⟩ := I.base.tbls b ps e
    obtain ⟨m2, e2⟩ := tbls b _ e1
    exact ⟨m1 ++ m2, by rw [e2, Array.append_assoc]⟩
  · obtain ⟨m, hn, hl⟩ := I.loc
    refine ⟨m, ns m hn, fun i x v e1 e2 e3 => ?_⟩
    obtain ⟨u, r, l⟩ := hl i x v e1 e2 e3
    refine ⟨u, r, ?_⟩
    rcases l with l | ⟨k, c, e, z⟩
    · exact .inl l
    · exact .inr ⟨k, c, e, cellK x c e _ z⟩
  · obtain ⟨v, z⟩ := I.cell x c e
    exact ⟨v, cellK x c e v z⟩
  · obtain ⟨m, ⟨o, _, _, ho, _⟩, _⟩ := I.loc
    exact free _ o (fun z => (hch _ z).2.1 rfl) ho I.free
  · obtain ⟨v, o, ho, hd⟩ := I.cell x c e
    exact free c o (fun z => (hch c z).2.2.1 x c e rfl) ho (I.freeC x c e)
  · obtain ⟨e, n, ne, nf, d⟩ := I.pin p hp
    have nch : p.1 ∉ ch := fun z => (hch p.1 z).2.2.2 p hp rfl
    exact ⟨keep p.1 p.2 ne nf nch e n, free p.1 p.2 nch e n, ne, nf, d⟩
/-- .. where the frame's own object is kept too -/
theorem Inv.un {t' : Nat} (I : Inv X pins σ H s) (u : Un X.fs [] H H' s.heap h') (hok : HOk X.prog X.w H' h') : Inv X pins σ H' { s with heap := h', toks := t' } := by
  obtain ⟨m, ⟨o, es, ep, ho, r⟩, _⟩ := id I.loc
  obtain ⟨sl, hL⟩ := u.any ho I.free (by simp)
  exact I.step (g' := s.gens) (d' := s.drawn) (ch := []) (fun _ z => nomatch z) (fun b o _ hb _ e n => u.keep b o e n hb (by simp)) (fun b o _ hb _ e n => u.slot b o e n hb (by simp)) (fun b o _ e n => u.free b o e n (by simp)) (fun b o _ e => u.there b o e (by simp)) u.tups u.frzs u.tbls (fun m' hm => by
    obtain ⟨o', es', ep', ho', r'⟩ := hm
    rw [ho] at ho'; cases ho'
    exact ⟨_, es', ep', hL, r'⟩) hok I.bare
/-- behind a call (or a comprehension's block): the slots of this frame may have changed too, the records at ch may have turned -/
theorem Inv.call {g' : Array GenState} {t' : Nat} {d' : Drawn} {ch : List Addr} (I : Inv X pins σ H s) (u : Un (frs X.stack) ch H H' s.heap h') (hok : HOk X.prog X.w H' h') (hg : AllBare g')
    (hch : ∀ b ∈ ch, (b ∈ X.ex ∨ X.s₀.heap.objs.size ≤ b) ∧ b ≠ X.env.locals ∧ (∀ x c, X.env.cells.lookup x = some c → c ≠ b) ∧ ∀ p ∈ X.pn ++ pins, p.1 ≠ b) :
    Inv X pins σ H' { s with heap := h', gens := g', drawn := d', toks := t' } := by
  obtain ⟨m, ⟨o, es, ep, ho, r⟩, _⟩ := id I.loc
  obtain ⟨sl, hL⟩ := u.any ho I.free fun z => (hch _ z).2.1 rfl
  exact I.step (ch := ch) hch (fun b o hL hb hc e n => u.keep b o e n (fun z => (List.mem_cons.mp (I.stkSub b z)).elim hL hb) hc) (fun b o _ _ hc e n => u.any e n hc) (fun b o hc e n => u.free b o e n hc) (fun b o hc e => u.there b o e hc) u.tups u.frzs u.tbls (fun m' hm => by
    obtain ⟨o', es', ep', ho', r'⟩ := hm
    rw [ho] at ho'; cases ho'
    exact ⟨_, es', ep', hL, r'⟩) hok hg
/-- an untracked record of ours (an iterator) has turned -/
theorem Inv.turned {t' : Nat} {it : Addr} (I : Inv X pins σ H s) (k : ∀ b o, b ≠ it → s.heap.get? b = some o → h'.get? b = some o) (hn : H it = none) (hL : it ≠ X.env.locals)
    (h1 : it ∈ X.ex ∨ X.s₀.heap.objs.size ≤ it) (h2 : ∀ x c, X.env.cells.lookup x = some c → c ≠ it) (h3 : ∀ p ∈ X.pn ++ pins, p.1 ≠ it) : Inv X pins σ H { s with heap := h', toks := t' } := by
  have nit : ∀ b u, H b = some u → b ≠ it := fun b u e z => by rw [z, hn] at e; cases e
  refine I.step (g' := s.gens) (d' := s.drawn) (ch := [it]) (fun b hb => ?_) (fun b o _ _ hc e _ => k b o (fun z => hc (by simp [z])) e) (fun b o _ _ hc e _ => ⟨o.slots, k b o (fun z => hc (by simp [z])) e⟩) (fun _ _ _ _ n => n)
    (fun b o hc e => ⟨o, k b o (fun z => hc (by simp [z])) e⟩) (fun _ _ e => e) (fun _ _ _ e => e) (fun b ps e => ⟨#[], by rw [e]; simp⟩) (fun m hm => ?_) (fun b u e => ?_) I.bare
  · have e : b = it := by simpa using hb
    subst e
    exact ⟨h1, hL, h2, h3⟩
  · obtain ⟨o, es, ep, ho, r⟩ := hm
    exact ⟨o, es, ep, k _ o (Ne.symm hL) ho, r⟩
  · refine (I.hok b u e).stay (fun c v hc q => k c v ?_ q) (fun _ q => q) fun _ _ q => q
    rcases hc with z | z
    · rw [z]; exact nit b u e
    · exact nit c _ z
theorem Inv.tok (I : Inv X pins σ H s) (t : Nat) : Inv X pins σ H { s with toks := t } := I.un (h' := s.heap) (t' := t) Un.refl I.hok
/-- all objects kept -/
theorem Inv.kept {t' : Nat} (I : Inv X pins σ H s) (k : ∀ b u, s.heap.get? b = some u → h'.get? b = some u) : Inv X pins σ H { s with heap := h', toks := t' } := I.un (Un.kept k) (I.hok.kept k)
/-- a new object laid and tracked -/
theorem Inv.laid {a : Addr} {o : HO} {t' : Nat} (I : Inv X pins σ H s) (k : ∀ b u, s.heap.get? b = some u → h'.get? b = some u) (hp : s.heap.objs.size ≤ a) (new : ObjOk X.prog X.w (upd H a o) h' a o) :
    Inv X pins σ (upd H a o) { s with heap := h', toks := t' } := I.un (Un.laid k hp (I.hok.fresh hp)) (I.hok.laid k hp new)
/-- an object written -/
theorem Inv.write {x e : Addr} {o : HO} {t' : Nat} (I : Inv X pins σ H s) (mu : Mut (H x)) (he : e = x ∨ H e = some (.own x)) (k : ∀ b u, b ≠ e → s.heap.get? b = some u → h'.get? b = some u) (heo : ∃ u, h'.get? e = some u)
    (new : ObjOk X.prog X.w (upd H x o) h' x o) : Inv X pins σ (upd H x o) { s with heap := h', toks := t' } := I.un (Un.write mu he k heo) (I.hok.write mu he k heo new)
theorem Inv.pins_of {pins' : List (Addr × Obj)} (I : Inv X pins σ H s) (h : ∀ p ∈ pins', s.heap.get? p.1 = some p.2 ∧ H p.1 = none ∧ p.1 ≠ X.env.locals ∧ p.1 ∉ X.fs ∧ ∀ v, p.2.data ≠ .cell v) : Inv X pins' σ H s :=
  ⟨I.ok, I.os, I.bare, I.base, I.loc, I.cell, I.free, I.freeC, fun p hp => (List.mem_append.mp hp).elim (fun z => I.pin p (List.mem_append_left _ z)) (h p), I.hok, I.len⟩

theorem nodup_ix {N : List Str} (hN : N.Nodup) {i j : Nat} {x : Str} (a : N[i]? = some x) (b : N[j]? = some x) : i = j := by
  obtain ⟨h1, e1⟩ := List.getElem?_eq_some_iff.mp a
  obtain ⟨h2, e2⟩ := List.getElem?_eq_some_iff.mp b
  exact (List.getElem_inj hN).mp (e1.trans e2.symm)

/-- a name is stored; what changed -/
theorem store_ok2 {M : Model} {A : Around} {E : Value → Shared → Prop} {i : Nat} {x : Str} {v : V} {u : Value} {Q : Unit → Shared → Prop} (I : Inv X pins σ H s) (hN : X.N.Nodup) (hi : X.N[i]? = some x) (hx : Loc X.env.scope x) (r : RelV v u)
    (h : ∀ s', Inv X pins (σ.set i (some v)) H s' → (∃ a, Heap.SameBut a s.heap s'.heap ∧ (a = X.env.locals ∨ X.env.cells.lookup x = some a)) → Q () s') (hf : X.fn x = true ∨ X.env.scope.names.lookup x = some .local := by first | exact .inl rfl | exact .inr rfl | assumption) : wpAny M A (storeName X.env x u) Q E s := by
  obtain ⟨m, hn, hl⟩ := id I.loc
  have hcls : (X.env.scope.kind == .class || (X.env.scope.kind == .module && X.env.locals != X.env.globals)) = false := by rw [I.ok.kind]; rfl
  have hiσ : i < σ.length := by rw [I.len]; exact (List.getElem?_eq_some_iff.mp hi).1
  have cne := I.cne
  have tracked : ∀ {a : Addr} {h' : Heap}, (∃ o, s.heap.get? a = some o ∧ H a = none) → Heap.SameBut a s.heap h' → HOk X.prog X.w H h' := fun {a h'} ha hs b ob e => by
    obtain ⟨_, _, hfree⟩ := ha
    refine (I.hok b ob e).stay (fun c w' hc q => (hs.2 c ?_).trans q) (fun _ q => q) fun _ _ q => q
    rintro rfl
    rcases hc with rfl | hc
    · rw [hfree] at e; cases e
    · rw [hfree] at hc; cases hc
  rcases hx with hk | hk
  · refine wpAny_storeName_local hk hn (fun h' hn' hs => ?_) hcls
    obtain ⟨oL, _, _, hoL, _⟩ := id hn
    refine h _ ⟨I.ok, I.os, I.bare, ⟨fun b o e n hb hx => ?_, fun b o e n hb hx => ?_, I.base.free, fun b o e hx => ?_, I.base.tups, I.base.frzs, I.base.tbls⟩, ⟨_, hn', fun j y v' e1 e2 e3 => ?_⟩, fun y c e => ?_, I.free, I.freeC, fun p hp => ?_, tracked ⟨oL, hoL, I.free⟩ hs, by simpa using I.len⟩ ⟨_, hs, .inl rfl⟩
    · exact (hs.2 b (Nat.ne_of_lt (Nat.lt_of_lt_of_le (Heap.lt_size e) I.ok.above))).trans (I.base.keep b o e n hb hx)
    · obtain ⟨sl, e1⟩ := I.base.slot b o e n hb hx
      exact ⟨sl, (hs.2 b (Nat.ne_of_lt (Nat.lt_of_lt_of_le (Heap.lt_size e) I.ok.above))).trans e1⟩
    · obtain ⟨o', e1⟩ := I.base.there b o e hx
      exact ⟨o', (hs.2 b (Nat.ne_of_lt (Nat.lt_of_lt_of_le (Heap.lt_size e) I.ok.above))).trans e1⟩
    · by_cases hj : j = i
      · subst hj
        rw [hi] at e1; cases e1
        rw [List.getElem?_set_self hiσ] at e2
        cases e2
        exact ⟨u, r, .inl ⟨hk, by simp⟩⟩
      · rw [List.getElem?_set_ne (Ne.symm hj)] at e2
        obtain ⟨u', r', q⟩ := hl j y v' e1 e2 e3
        refine ⟨u', r', ?_⟩
        rcases q with ⟨k, e⟩ | ⟨k, c, e, z⟩
        · refine .inl ⟨k, ?_⟩
          have : y ≠ x := fun e => hj (nodup_ix hN e1 (e ▸ hi))
          simp [this, e]
        · exact .inr ⟨k, c, e, z.sameBut hs (cne y c e)⟩
    · obtain ⟨w', z⟩ := I.cell y c e
      exact ⟨w', z.sameBut hs (cne y c e)⟩
    · obtain ⟨e, n, ne, nf, d⟩ := I.pin p hp
      exact ⟨(hs.2 p.1 ne).trans e, n, ne, nf, d⟩
  · have hfn : X.fn x = true := by
      rcases hf with z | z
      · exact z
      · rw [z] at hk; cases hk
    obtain ⟨c, hc⟩ := I.ok.has x (.inl hk)
    obtain ⟨w', z⟩ := I.cell x c hc
    refine wpAny_storeName_cell I.ok.kind hk hc z (fun h' hc' hs => ?_)
    obtain ⟨oc, hoc, hocd⟩ := id z
    refine h { s with heap := h' } ⟨I.ok, I.os, I.bare, ⟨fun b o e n hb hx => ?_, fun b o e n hb hx => ?_, I.base.free, fun b o e hx => ?_, I.base.tups, I.base.frzs, I.base.tbls⟩, ⟨m, hn.sameBut hs (Ne.symm (cne x c hc)), fun j y v' e1 e2 e3 => ?_⟩, fun y c' e => ?_, I.free, I.freeC, fun p hp => ?_, tracked ⟨oc, hoc, I.freeC x c hc⟩ hs, by simpa using I.len⟩ ⟨c, hs, .inr hc⟩
    · exact (hs.2 b (Nat.ne_of_lt (Nat.lt_of_lt_of_le (Heap.lt_size e) (I.ok.cab x c hfn hc)))).trans (I.base.keep b o e n hb hx)
    · obtain ⟨sl, e1⟩ := I.base.slot b o e n hb hx
      exact ⟨sl, (hs.2 b (Nat.ne_of_lt (Nat.lt_of_lt_of_le (Heap.lt_size e) (I.ok.cab x c hfn hc)))).trans e1⟩
    · obtain ⟨o', e1⟩ := I.base.there b o e hx
      exact ⟨o', (hs.2 b (Nat.ne_of_lt (Nat.lt_of_lt_of_le (Heap.lt_size e) (I.ok.cab x c hfn hc)))).trans e1⟩
    · by_cases hj : j = i
      · subst hj
        rw [hi] at e1; cases e1
        rw [List.getElem?_set_self hiσ] at e2
        cases e2
        exact ⟨u, r, .inr ⟨.inl hk, c, hc, hc'⟩⟩
      · rw [List.getElem?_set_ne (Ne.symm hj)] at e2
        obtain ⟨u', r', q⟩ := hl j y v' e1 e2 e3
        refine ⟨u', r', ?_⟩
        rcases q with q | ⟨k, c', e, z'⟩
        · exact .inl q
        · refine .inr ⟨k, c', e, z'.sameBut hs ?_⟩
          rintro rfl
          exact hj (nodup_ix hN e1 (I.ok.inj _ _ _ e hc ▸ hi))
    · by_cases hcc : c' = c
      · subst hcc; exact ⟨_, hc'⟩
      · obtain ⟨w2, z2⟩ := I.cell y c' e
        exact ⟨w2, z2.sameBut hs hcc⟩
    · obtain ⟨e, n, ne, nf, d⟩ := I.pin p hp
      refine ⟨(hs.2 p.1 ?_).trans e, n, ne, nf, d⟩
      intro q
      rw [q, hoc] at e
      have q' : oc = p.2 := Option.some.inj e
      exact d w' (by rw [← q']; exact hocd)
theorem store_ok {M : Model} {A : Around} {E : Value → Shared → Prop} {i : Nat} {x : Str} {v : V} {u : Value} {Q : Unit → Shared → Prop} (I : Inv X pins σ H s) (hN : X.N.Nodup) (hi : X.N[i]? = some x) (hx : Loc X.env.scope x) (r : RelV v u)
    (h : ∀ s', Inv X pins (σ.set i (some v)) H s' → Q () s') (hf : X.fn x = true ∨ X.env.scope.names.lookup x = some .local := by first | exact .inl rfl | exact .inr rfl | assumption) : wpAny M A (storeName X.env x u) Q E s :=
  store_ok2 I hN hi hx r (fun s' I' _ => h s' I') hf
/-- behind a call or a block, the state as it is -/
theorem Inv.call' {s' : Shared} {ch : List Addr} (I : Inv X pins σ H s) (ho : s'.os = s.os) (u : Un (frs X.stack) ch H H' s.heap s'.heap) (hok : HOk X.prog X.w H' s'.heap) (hg : AllBare s'.gens)
    (hch : ∀ b ∈ ch, (b ∈ X.ex ∨ X.s₀.heap.objs.size ≤ b) ∧ b ≠ X.env.locals ∧ (∀ x c, X.env.cells.lookup x = some c → c ≠ b) ∧ ∀ p ∈ X.pn ++ pins, p.1 ≠ b) : Inv X pins σ H' s' := by
  obtain ⟨h', g', d', t', o'⟩ := s'
  have e : o' = s.os := ho
  subst e
  exact I.call (g' := g') (t' := t') (d' := d') u hok hg hch
end

/-! ### the judgements -/
/-- an exception: its class, its own dict's address (where it has one), the abstract heap behind it -/
abbrev XK := Value → Option Addr → Hp → Prop
abbrev St := List (Option V)
abbrev VK := V → Hp → Prop
/-- an expression's reading; a test's; an argument list's -/
abbrev TE := St → Hp → VK → Prop
abbrev TT := St → Hp → (Bool → Hp → Prop) → Prop
abbrev TA := St → Hp → (List V → Hp → Prop) → Prop
/-- what is wanted behind a statement -/
structure Ends where
  nx : St → Hp → Prop
  rt : VK
  bk : St → Hp → Prop := fun _ _ => False
  ct : St → Hp → Prop := fun _ _ => False
abbrev TS := Ends → St → Hp → Prop

def EP (X : Cx) (pins : List (Addr × Obj)) (σ : St) (Q : VK) (u : Value) (s' : Shared) : Prop := ∃ v H', Inv X pins σ H' s' ∧ RelV v u ∧ Q v H'
def TP (X : Cx) (pins : List (Addr × Obj)) (σ : St) (Q : Bool → Hp → Prop) (b : Bool) (s' : Shared) : Prop := ∃ H', Inv X pins σ H' s' ∧ Q b H'
def AP (X : Cx) (pins : List (Addr × Obj)) (σ : St) (Q : List V → Hp → Prop) (us : List Value) (s' : Shared) : Prop := ∃ vs H', Inv X pins σ H' s' ∧ Vals vs us ∧ Q vs H'
def SP (X : Cx) (pins : List (Addr × Obj)) (D : Ends) (f : Flow) (s' : Shared) : Prop :=
  match f with
  | .next => ∃ σ' H', Inv X pins σ' H' s' ∧ D.nx σ' H'
  | .brk => ∃ σ' H', Inv X pins σ' H' s' ∧ D.bk σ' H'
  | .cont => ∃ σ' H', Inv X pins σ' H' s' ∧ D.ct σ' H'
  | .ret u => ∃ v σ' H', Inv X pins σ' H' s' ∧ RelV v u ∧ D.rt v H'

def PE (X : Cx) (e : Expr) (t : TE) : Prop :=
  ∀ (pins : List (Addr × Obj)) (s : Shared) (σ : St) (H : Hp) (Q : VK), Inv X pins σ H s → t σ H Q → wpAny (model X.prog X.w) X.A (eval e X.env) (EP X pins σ Q) X.xe s
def PT (X : Cx) (e : Expr) (t : TT) : Prop :=
  ∀ (pins : List (Addr × Obj)) (s : Shared) (σ : St) (H : Hp) (Q : Bool → Hp → Prop), Inv X pins σ H s → t σ H Q → wpAny (model X.prog X.w) X.A (isTrue e X.env (eval e X.env)) (TP X pins σ Q) X.xe s
/-- a test whatever its 'whole' is (and, or) -/
def PW (X : Cx) (e : Expr) (t : TT) : Prop :=
  ∀ (whole : Sem Value) (pins : List (Addr × Obj)) (s : Shared) (σ : St) (H : Hp) (Q : Bool → Hp → Prop), Inv X pins σ H s → t σ H Q → wpAny (model X.prog X.w) X.A (isTrue e X.env whole) (TP X pins σ Q) X.xe s
theorem PW.pt {X : Cx} {e : Expr} {t : TT} (h : PW X e t) : PT X e t := h _
/-- an argument list (no star), from the left -/
def PA (X : Cx) (es : List Expr) (t : TA) : Prop :=
  ∀ (pos : Pos) (pins : List (Addr × Obj)) (s : Shared) (σ : St) (H : Hp) (Q : List V → Hp → Prop), Inv X pins σ H s → t σ H Q → wpAny (model X.prog X.w) X.A (spliced (backTo pos (starEach es X.env))) (AP X pins σ Q) X.xe s
def PS (X : Cx) (st : Stmt) (t : TS) : Prop :=
  ∀ (pins : List (Addr × Obj)) (s : Shared) (σ : St) (H : Hp) (D : Ends), Inv X pins σ H s → t D σ H → wpAny (model X.prog X.w) X.A (exec st X.env) (SP X pins D) X.xe s
def PSs (X : Cx) (st : List Stmt) (t : TS) : Prop :=
  ∀ (pins : List (Addr × Obj)) (s : Shared) (σ : St) (H : Hp) (D : Ends), Inv X pins σ H s → t D σ H → wpAny (model X.prog X.w) X.A (execs st X.env) (SP X pins D) X.xe s
/-- weaken the end -/
theorem thn {α : Type} {t : Sem α} {Q Q' : α → Shared → Prop} {M : Model} {A : Around} {E : Value → Shared → Prop} {s : Shared} (h : wpAny M A t Q E s) (hQ : ∀ a s, Q a s → Q' a s) : wpAny M A t Q' E s := wpAny_mono h hQ fun _ _ x => x
end L2

namespace L2
open PySem PySem.Spec PyProof.Rows
section
variable {X : Cx}

/-! ### names and constants -/
def tVar (i : Nat) : TE := fun σ H Q => ∃ v, σ[i]? = some (some v) ∧ Q v H
def tC (v : V) : TE := fun _ H Q => Q v H
theorem pe_var {i : Nat} {x : Str} {pos : Pos} (hN : X.N[i]? = some x) (hv : Vis X.env.scope x) (hd : (x == ("__debug__" : Str)) = false := by decide) (hcd : (x == ("__classdict__" : Str)) = false := by decide) : PE X (.Name x pos) (tVar i) := by
  intro pins s σ H Q I h
  obtain ⟨v, e, h⟩ := h
  obtain ⟨m, hn, hl⟩ := I.loc
  obtain ⟨u, r, l⟩ := hl i x v hN e hv
  have fin : EP X pins σ Q u s := ⟨v, H, I, r, h⟩
  rcases l with ⟨hk, hm⟩ | ⟨hk, c, hc, hcell⟩
  · exact wpAny_Name (wpAny_loadName_local I.ok.kind hk hn hm fin) hd
  · rcases hk with hk | hk
    · exact wpAny_Name (wpAny_loadName_cell I.ok.kind hk hc hcell fin) hd
    · exact wpAny_Name (wpAny_loadName_free I.ok.kind hk hc hcell fin hcd) hd
theorem pe_int {i j pos} : PE X (.Constant (.int i) j pos) (tC (.int i)) := fun _ _ _ H _ I h => wpAny_Constant_int ⟨.int i, H, I.tok _, ⟨_, rfl⟩, h⟩
theorem pe_bl {b j pos} : PE X (.Constant (.bool b) j pos) (tC (.bl b)) := fun _ _ _ H _ I h => Constant_bool ⟨.bl b, H, I, rfl, h⟩
/-- a global name of the def -/
def Gl (X : Cx) (x : Str) : Prop := X.env.kindOf x = some .globalImplicit
theorem ld_glob {E : Value → Shared → Prop} {pins : List (Addr × Obj)} {s : Shared} {σ : St} {H : Hp} {x : Str} {u : Value} {pos : Pos} {Q : Value → Shared → Prop} (I : Inv X pins σ H s) (hg : Gl X x) (hm : X.mg x = some u) (h : Q u s)
    (hd : (x == ("__debug__" : Str)) = false := by decide) : wpAny (model X.prog X.w) X.A (eval (.Name x pos) X.env) Q E s :=
  Calls.Name_function_global I.ok.kind hg (Calls.loadGlobal_global (by rw [I.ok.glob]; exact I.mod.glob.keeps I.bk) hm h) hd
theorem ld_blt {E : Value → Shared → Prop} {pins : List (Addr × Obj)} {s : Shared} {σ : St} {H : Hp} {x : Str} {u : Value} {pos : Pos} {Q : Value → Shared → Prop} (I : Inv X pins σ H s) (hg : Gl X x) (hm : X.mg x = none) (hv : bootBuiltins x = some u) (h : Q u s)
    (hn : x ≠ "__name__" := by decide) (hd : (x == ("__debug__" : Str)) = false := by decide) : wpAny (model X.prog X.w) X.A (eval (.Name x pos) X.env) Q E s := by
  obtain ⟨mb, h1, h2⟩ := I.mod.blt
  exact Calls.Name_function_global I.ok.kind hg (Calls.loadGlobal_builtin (by rw [I.ok.glob]; exact I.mod.glob.keeps I.bk) hm (by rw [I.ok.blt]; exact h1.keeps I.bk) ((h2 x hn).trans hv) h) hd
/-- a module's constant, a class, a function, as a value -/
theorem pe_glob {x : Str} {v : V} {u : Value} {pos : Pos} (hg : Gl X x) (hm : X.mg x = some u) (r : RelV v u) (hd : (x == ("__debug__" : Str)) = false := by decide) : PE X (.Name x pos) (tC v) :=
  fun _ _ _ H _ I h => ld_glob I hg hm ⟨v, H, I, r, h⟩ hd
theorem pe_bltn {x : Str} {v : V} {u : Value} {pos : Pos} (hg : Gl X x) (hm : X.mg x = none) (hv : bootBuiltins x = some u) (r : RelV v u) (hn : x ≠ "__name__" := by decide) (hd : (x == ("__debug__" : Str)) = false := by decide) : PE X (.Name x pos) (tC v) :=
  fun _ _ _ H _ I h => ld_blt I hg hm hv ⟨v, H, I, r, h⟩ hn hd

/-! ### arithmetic -/
/-- two ints -/
def t2I (ta tb : TE) (k : Int → Int → Hp → Prop) : St → Hp → Prop := fun σ H => ta σ H fun x H1 => tb σ H1 fun y H2 => ∃ i j, x = .int i ∧ y = .int j ∧ k i j H2
def tAdd (ta tb : TE) : TE := fun σ H Q => t2I ta tb (fun i j H2 => Q (.int (i + j)) H2) σ H
def tSub (ta tb : TE) : TE := fun σ H Q => t2I ta tb (fun i j H2 => Q (.int (i - j)) H2) σ H
/-- the left factor below 2^64 -/
def tMul (ta tb : TE) : TE := fun σ H Q => t2I ta tb (fun i j H2 => (-(2 ^ 64) < i ∧ i < 2 ^ 64) ∧ Q (.int (i * j)) H2) σ H
variable {a b : Expr} {ta tb : TE} {pos : Pos}
/-! ### comparisons -/
def PC (X : Cx) (op : CmpOp) (a b : Expr) (t : TE) : Prop :=
  ∀ (pins : List (Addr × Obj)) (s : Shared) (σ : St) (H : Hp) (Q : VK), Inv X pins σ H s → t σ H Q →
    wpAny (model X.prog X.w) X.A (eval a X.env) (fun v s₁ => wpAny (model X.prog X.w) X.A (eval b X.env) (fun u s₂ => wpAny (model X.prog X.w) X.A (compareOp op v u) (EP X pins σ Q) X.xe s₂) X.xe s₁) X.xe s
def tCmp (p : Int → Int → Bool) (ta tb : TE) : TE := fun σ H Q => t2I ta tb (fun i j H2 => Q (.bl (p i j)) H2) σ H
abbrev tLt : TE → TE → TE := tCmp fun i j => decide (i < j)
abbrev tLe : TE → TE → TE := tCmp fun i j => decide (i ≤ j)
abbrev tGt : TE → TE → TE := tCmp fun i j => decide (j < i)
abbrev tGe : TE → TE → TE := tCmp fun i j => decide (j ≤ i)
abbrev tEqI : TE → TE → TE := tCmp fun i j => decide (i = j)
abbrev tNeI : TE → TE → TE := tCmp fun i j => !decide (i = j)
/-- is None -/
def tIsN (ta : TE) : TE := fun σ H Q => ta σ H fun x H1 => Q (.bl (decide (x = .non))) H1
def tNotN (ta : TE) : TE := fun σ H Q => ta σ H fun x H1 => Q (.bl (!decide (x = .non))) H1
/-- a comparison as a value, as a test -/
def tB (t : TE) : TT := fun σ H Q => t σ H fun x H1 => ∃ c, x = .bl c ∧ Q c H1
/-- an expression whose value is a bool, as a test -/
theorem pt_val {e : Expr} {t : TE} (h : PE X e t) (he : ∀ whole, isTrue e X.env whole = (do let v ← whole; standAt e.pos; holding [v] (truthy v)) := by intro _; rfl) : PT X e (tB t) := by
  intro pins s σ H Q I hw
  refine isTrue_plain (thn (h pins s σ H _ I hw) fun v s1 ⟨x, H1, I1, r1, q1⟩ => ?_) (he _)
  obtain ⟨d, rfl, q⟩ := q1
  cases r1
  exact wpAny_truthy_bool ⟨H1, I1, q⟩

/-! ### and, or, not -/
variable {tA tB' : TT} {rest : List Expr}
def tAnd (t u : TT) : TT := fun σ H Q => t σ H fun c H1 => if c = true then u σ H1 Q else Q false H1
def tOr (t u : TT) : TT := fun σ H Q => t σ H fun c H1 => if c = true then Q true H1 else u σ H1 Q
def tNot (t : TT) : TT := fun σ H Q => t σ H fun c H1 => Q (!c) H1
theorem pw_and1 (ha : PT X a tA) : PW X (.BoolOp .And [a] pos) tA := by
  intro wh pins s σ H Q I h
  refine isTrue_and (thn (ha pins s σ H Q I h) fun c s1 e => ?_)
  cases c with
  | true => exact isTrue_and_nil e
  | false => exact e
theorem pw_or1 (ha : PT X a tA) : PW X (.BoolOp .Or [a] pos) tA := by
  intro wh pins s σ H Q I h
  refine isTrue_or (thn (ha pins s σ H Q I h) fun c s1 e => ?_)
  cases c with
  | false => exact isTrue_or_nil e
  | true => exact e
theorem pw_and (ha : PT X a tA) (hb : PW X (.BoolOp .And (b :: rest) pos) tB') : PW X (.BoolOp .And (a :: b :: rest) pos) (tAnd tA tB') := by
  intro wh pins s σ H Q I h
  refine isTrue_and (thn (ha pins s σ H _ I h) fun c s1 ⟨H1, I1, q1⟩ => ?_)
  cases c with
  | true => exact hb wh pins s1 σ H1 Q I1 q1
  | false => exact ⟨H1, I1, q1⟩
theorem pw_or (ha : PT X a tA) (hb : PW X (.BoolOp .Or (b :: rest) pos) tB') : PW X (.BoolOp .Or (a :: b :: rest) pos) (tOr tA tB') := by
  intro wh pins s σ H Q I h
  refine isTrue_or (thn (ha pins s σ H _ I h) fun c s1 ⟨H1, I1, q1⟩ => ?_)
  cases c with
  | true => exact ⟨H1, I1, q1⟩
  | false => exact hb wh pins s1 σ H1 Q I1 q1
theorem pt_not (ha : PT X a tA) : PT X (.UnaryOp .Not a pos) (tNot tA) := by
  intro pins s σ H Q I h
  exact isTrue_not (ha pins s σ H (fun c H1 => Q (!c) H1) I h)
/-- .. as values (bools) -/
def tAndV (ta tb : TE) : TE := fun σ H Q => ta σ H fun x H1 => ∃ c, x = .bl c ∧ if c = true then tb σ H1 Q else Q (.bl false) H1
def tOrV (ta tb : TE) : TE := fun σ H Q => ta σ H fun x H1 => ∃ c, x = .bl c ∧ if c = true then Q (.bl true) H1 else tb σ H1 Q
def tNotV (ta : TE) : TE := fun σ H Q => ta σ H fun x H1 => ∃ c, x = .bl c ∧ Q (.bl (!c)) H1
theorem pe_one {op} {t : TE} (h : PE X a t) : PE X (.BoolOp op [a] pos) t := fun pins s σ H Q I hw => BoolOp_one (h pins s σ H Q I hw)
theorem pe_and (ha : PE X a ta) (hb : PE X (.BoolOp .And (b :: rest) pos) tb) : PE X (.BoolOp .And (a :: b :: rest) pos) (tAndV ta tb) := by
  intro pins s σ H Q I h
  refine BoolOp_and (thn (ha pins s σ H _ I h) fun v s1 ⟨x, H1, I1, r1, q1⟩ => ?_)
  obtain ⟨c, rfl, q1⟩ := q1
  cases r1
  refine wpAny_truthy_bool ?_
  cases c with
  | true => exact hb pins s1 σ H1 Q I1 q1
  | false => exact ⟨.bl false, H1, I1, rfl, q1⟩
theorem pe_or (ha : PE X a ta) (hb : PE X (.BoolOp .Or (b :: rest) pos) tb) : PE X (.BoolOp .Or (a :: b :: rest) pos) (tOrV ta tb) := by
  intro pins s σ H Q I h
  refine BoolOp_or (thn (ha pins s σ H _ I h) fun v s1 ⟨x, H1, I1, r1, q1⟩ => ?_)
  obtain ⟨c, rfl, q1⟩ := q1
  cases r1
  refine wpAny_truthy_bool ?_
  cases c with
  | false => exact hb pins s1 σ H1 Q I1 q1
  | true => exact ⟨.bl true, H1, I1, rfl, q1⟩
theorem pe_not (ha : PE X a ta) : PE X (.UnaryOp .Not a pos) (tNotV ta) := by
  intro pins s σ H Q I h
  refine UnaryOp_ (thn (ha pins s σ H _ I h) fun v s1 ⟨x, H1, I1, r1, q1⟩ => ?_)
  obtain ⟨c, rfl, q1⟩ := q1
  cases r1
  exact not_of (wpAny_truthy_bool ⟨.bl (!c), H1, I1, rfl, q1⟩)
/-- a if t else b -/
def tIf (t : TT) (ta tb : TE) : TE := fun σ H Q => t σ H fun c H1 => if c = true then ta σ H1 Q else tb σ H1 Q
theorem pe_ifExp {c : Expr} (hc : PT X c tA) (ha : PE X a ta) (hb : PE X b tb) : PE X (.IfExp c a b pos) (tIf tA ta tb) := by
  intro pins s σ H Q I h
  refine wpAny_IfExp (thn (hc pins s σ H _ I h) fun d s1 ⟨H1, I1, q1⟩ => ?_)
  cases d with
  | true => exact ha pins s1 σ H1 Q I1 q1
  | false => exact hb pins s1 σ H1 Q I1 q1
end
end L2

namespace L2
open PySem PySem.Spec PyProof.Rows

/-! ### a list, a tuple that is read: tracked, frozen, or an object of the module -/
def SqL (K : PySem.W.Frag) (H : Hp) (a : Addr) (xs : List V) : Prop :=
  Rd H a (.lst xs) ∨
    ∃ (o : Obj) (its : Array Value) (n : Nat), K.lookup a = some o ∧ o.cls = .type "list" ∧ o.dict = none ∧ o.data = .seq its n ∧ its.size ≤ sizeLine ∧ Vals xs its.toList
def SqT (K : PySem.W.Frag) (H : Hp) (a : Addr) (xs : List V) : Prop :=
  Rd H a (.tup xs) ∨
    ∃ (o : Obj) (its : Array Value) (n : Nat), K.lookup a = some o ∧ o.cls = .type "tuple" ∧ o.data = .seq its n ∧ its.size ≤ sizeLine ∧ Vals xs its.toList
def absV : Value → Option V
  | .none => some .non
  | .bool b => some (.bl b)
  | .int i _ => some (.int i)
  | .str x _ => some (.str x)
  | .bytes b _ => some (.byt b)
  | .float b _ => some (.flt b)
  | .ref a => some (.ref a)
  | .type n => some (.ty n)
  | _ => none
theorem RelV.abs {x : V} {u : Value} (r : RelV x u) : absV u = some x := by
  cases x with
  | non => cases r; rfl
  | bl _ => cases r; rfl
  | int _ => obtain ⟨t, rfl⟩ := r; rfl
  | str _ => obtain ⟨t, rfl⟩ := r; rfl
  | byt _ => obtain ⟨t, rfl⟩ := r; rfl
  | flt _ => obtain ⟨t, rfl⟩ := r; rfl
  | ref _ => cases r; rfl
  | ty _ => cases r; rfl
theorem RelV.inj {x y : V} {u : Value} (r : RelV x u) (q : RelV y u) : x = y := Option.some.inj (r.abs.symm.trans q.abs)
theorem Vals.inj : ∀ {xs ys : List V} {us : List Value}, Vals xs us → Vals ys us → xs = ys
  | _, _, _, .nil, .nil => rfl
  | _, _, _, .cons r t, .cons r' t' => by rw [r.inj r', Vals.inj t t']
section
variable {X : Cx} {pins : List (Addr × Obj)} {σ : St} {H : Hp} {s : Shared} {a : Addr} {xs ys : List V}
theorem SqL.of {K : PySem.W.Frag} (h : H a = some (.lst xs)) : SqL K H a xs := .inl (.inl h)
theorem SqT.of {K : PySem.W.Frag} (h : H a = some (.tup xs)) : SqT K H a xs := .inl (.inl h)
theorem Inv.list (I : Inv X pins σ H s) (h : SqL X.K H a xs) : ∃ its : List Value, Vals xs its ∧ PlainL s.heap a its.toArray ∧ xs.length ≤ sizeLine := by
  rcases h with h | ⟨o, its, n, hk, hc, hd, hs, hz, r⟩
  · obtain ⟨z, its, n, r, e⟩ := h.ok I.hok
    exact ⟨its, r, ⟨_, n, e, rfl, rfl, rfl⟩, z⟩
  · refine ⟨its.toList, r, ⟨o, n, I.kIn a o hk, hc, hd, by simpa using hs⟩, ?_⟩
    have e := r.length
    simp only [Array.length_toList] at e
    omega
theorem Inv.tuple (I : Inv X pins σ H s) (h : SqT X.K H a xs) : ∃ its : List Value, Vals xs its ∧ IsTup s.heap a its.toArray ∧ xs.length ≤ sizeLine := by
  rcases h with h | ⟨o, its, n, hk, hc, hs, hz, r⟩
  · obtain ⟨z, its, r, p⟩ := h.ok I.hok
    exact ⟨its, r, p, z⟩
  · refine ⟨its.toList, r, ⟨o, I.kIn a o hk, hc, n, by simpa using hs⟩, ?_⟩
    have e := r.length
    simp only [Array.length_toList] at e
    omega
theorem Inv.list_inj (I : Inv X pins σ H s) (h : SqL X.K H a xs) (h' : SqL X.K H a ys) : xs = ys := by
  obtain ⟨its, r, ⟨o, n, e, _, _, d⟩, _⟩ := I.list h
  obtain ⟨its', r', ⟨o', n', e', _, _, d'⟩, _⟩ := I.list h'
  rw [e] at e'; cases e'
  rw [d] at d'
  injection d' with d1 _
  have : its = its' := by simpa using congrArg Array.toList d1
  subst this
  exact r.inj r'
end

/-! ### another wish about exceptions -/
abbrev Cx.wish (X : Cx) (E : Value → Shared → Prop) : Cx := { X with xe := E }
/-- no exception leaves -/
abbrev Cx.nox (X : Cx) : Cx := X.wish fun _ _ => False
theorem Cx.Ok.wish {X : Cx} (ok : X.Ok) (E : Value → Shared → Prop) : (X.wish E).Ok :=
  ⟨ok.mod, ok.kind, ok.glob, ok.blt, ok.above, ok.inj, ok.has, ok.cab, ok.hd, ok.frames, ok.stk, ok.exf, ok.bs, ok.bsz, ok.noex, ok.exfs, ok.funs, ok.frf⟩
theorem Cx.Ok.unwish {X : Cx} {E : Value → Shared → Prop} (ok : (X.wish E).Ok) : X.Ok :=
  ⟨ok.mod, ok.kind, ok.glob, ok.blt, ok.above, ok.inj, ok.has, ok.cab, ok.hd, ok.frames, ok.stk, ok.exf, ok.bs, ok.bsz, ok.noex, ok.exfs, ok.funs, ok.frf⟩
section
variable {X : Cx} {pins : List (Addr × Obj)} {σ : St} {H : Hp} {s : Shared} {E : Value → Shared → Prop}
theorem Inv.wish (I : Inv X pins σ H s) (E : Value → Shared → Prop) : Inv (X.wish E) pins σ H s := ⟨I.ok.wish E, I.os, I.bare, I.base, I.loc, I.cell, I.free, I.freeC, I.pin, I.hok, I.len⟩
theorem Inv.unwish (I : Inv (X.wish E) pins σ H s) : Inv X pins σ H s := ⟨I.ok.unwish, I.os, I.bare, I.base, I.loc, I.cell, I.free, I.freeC, I.pin, I.hok, I.len⟩
theorem SP.unwish {D : Ends} {f : Flow} {s' : Shared} (h : SP (X.wish E) pins D f s') : SP X pins D f s' := by
  cases f with
  | next => obtain ⟨σ', H', I, q⟩ := h; exact ⟨σ', H', I.unwish, q⟩
  | brk => obtain ⟨σ', H', I, q⟩ := h; exact ⟨σ', H', I.unwish, q⟩
  | cont => obtain ⟨σ', H', I, q⟩ := h; exact ⟨σ', H', I.unwish, q⟩
  | ret u => obtain ⟨v, σ', H', I, r, q⟩ := h; exact ⟨v, σ', H', I.unwish, r, q⟩
theorem PE.nox {e : Expr} {t : TE} (h : PE X.nox e t) : PE X e t := fun pins s σ H Q I hw =>
  wpAny_mono (h pins s σ H Q (I.wish _) hw) (fun _ _ ⟨v, H', I', r, q⟩ => ⟨v, H', I'.unwish, r, q⟩) fun _ _ z => False.elim z
theorem PT.nox {e : Expr} {t : TT} (h : PT X.nox e t) : PT X e t := fun pins s σ H Q I hw =>
  wpAny_mono (h pins s σ H Q (I.wish _) hw) (fun _ _ ⟨H', I', q⟩ => ⟨H', I'.unwish, q⟩) fun _ _ z => False.elim z
theorem PSs.nox {st : List Stmt} {t : TS} (h : PSs X.nox st t) : PSs X st t := fun pins s σ H D I hw =>
  wpAny_mono (h pins s σ H D (I.wish _) hw) (fun _ _ q => q.unwish) fun _ _ z => False.elim z
end

/-! ### blocks and small statements -/
section
variable {X : Cx} {st : Stmt} {rest : List Stmt} {t u : TS} {e : Expr} {te : TE} {pos : Pos}
def tNext : TS := fun D σ H => D.nx σ H
def tSeq (t u : TS) : TS := fun D σ H => t { D with nx := u D } σ H
theorem pss_nil : PSs X [] tNext := fun _ _ σ H _ I h => wpAny_execs_nil ⟨σ, H, I, h⟩
theorem pss_cons (h1 : PS X st t) (h2 : PSs X rest u) : PSs X (st :: rest) (tSeq t u) := by
  intro pins s σ H D I h
  refine wpAny_execs_cons (thn (h1 pins s σ H { D with nx := u D } I h) fun f s1 q => ?_)
  cases f with
  | next =>
    obtain ⟨σ', H', I', q⟩ := q
    exact h2 pins s1 σ' H' D I' q
  | ret v => exact q
  | brk => exact q
  | cont => exact q
theorem pss_one (h1 : PS X st t) : PSs X [st] t := by
  intro pins s σ H D I h
  refine wpAny_execs_cons (thn (h1 pins s σ H D I h) fun f s1 q => ?_)
  cases f with
  | next => exact wpAny_execs_nil q
  | ret v => exact q
  | brk => exact q
  | cont => exact q
def tBreak : TS := fun D σ H => D.bk σ H
def tCont : TS := fun D σ H => D.ct σ H
/-- in a def's body nothing is shown -/
theorem Inv.quiet {pins : List (Addr × Obj)} {σ : St} {H : Hp} {s : Shared} (I : Inv X pins σ H s) : interactive X.env = false := by simp [interactive, I.ok.kind]
/-- an expression whose value is dropped -/
def tDrop (te : TE) : TS := fun D σ H => te σ H fun _ H1 => D.nx σ H1
theorem ps_expr (he : PE X e te) (hs : swapsWith e none pos.line X.env = pure false := by rfl) : PS X (.Expr e pos) (tDrop te) := by
  intro pins s σ H D I h
  exact wpAny_Expr_any (thn (he pins s σ H _ I h) fun v s1 ⟨x, H1, I1, r1, q1⟩ => ⟨σ, H1, I1, q1⟩) I.quiet hs
def tRet (te : TE) : TS := fun D σ H => te σ H D.rt
theorem ps_ret (he : PE X e te) : PS X (.Return (some e) pos) (tRet te) := by
  intro pins s σ H D I h
  exact wpAny_Return_some (thn (he pins s σ H _ I h) fun v s1 ⟨x, H1, I1, r1, q1⟩ => ⟨x, σ, H1, I1, r1, q1⟩)
def tRetN : TS := fun D _ H => D.rt .non H
def tIfS (c : TT) (t u : TS) : TS := fun D σ H => c σ H fun b H1 => if b = true then t D σ H1 else u D σ H1
theorem ps_if {c : Expr} {a b : List Stmt} {tc : TT} (hc : PT X c tc) (ha : PSs X a t) (hb : PSs X b u) : PS X (.If c a b pos) (tIfS tc t u) := by
  intro pins s σ H D I h
  refine wpAny_If (thn (hc pins s σ H _ I h) fun d s1 ⟨H1, I1, q1⟩ => ?_)
  cases d with
  | true => exact ha pins s1 σ H1 D I1 q1
  | false => exact hb pins s1 σ H1 D I1 q1
/-- code that the proof never comes to -/
def tNever : TS := fun _ _ _ => False
end

/-! ### targets -/
abbrev TG := V → St → Hp → (St → Hp → Prop) → Prop
abbrev TGs := List V → St → Hp → (St → Hp → Prop) → Prop
def PG (X : Cx) (target : Expr) (t : TG) : Prop :=
  ∀ (pins : List (Addr × Obj)) (s : Shared) (σ : St) (H : Hp) (v : V) (u : Value) (Q : St → Hp → Prop), Inv X pins σ H s → RelV v u → t v σ H Q →
    wpAny (model X.prog X.w) X.A (assign target X.env u) (fun _ s' => ∃ σ' H', Inv X pins σ' H' s' ∧ Q σ' H') X.xe s
/-- several targets, one after another -/
def PGs (X : Cx) (ts : List Expr) (t : TGs) : Prop :=
  ∀ (pins : List (Addr × Obj)) (s : Shared) (σ : St) (H : Hp) (vs : List V) (us : List Value) (Q : St → Hp → Prop), Inv X pins σ H s → Vals vs us → t vs σ H Q →
    wpAny (model X.prog X.w) X.A (assignInOrder ((assignEach ts X.env).map (·.2)) us) (fun _ s' => ∃ σ' H', Inv X pins σ' H' s' ∧ Q σ' H') X.xe s
/-- o[i] = v, by values -/
abbrev TSet := V → V → V → Hp → (Hp → Prop) → Prop
def PSet (X : Cx) (t : TSet) : Prop :=
  ∀ (pins : List (Addr × Obj)) (s : Shared) (σ : St) (H : Hp) (o i v : V) (ov iv u : Value) (Q : Hp → Prop), Inv X pins σ H s → RelV o ov → RelV i iv → RelV v u → t o i v H Q →
    wpAny (model X.prog X.w) X.A (setItem ov iv u) (fun _ s' => ∃ H', Inv X pins σ H' s' ∧ Q H') X.xe s
/-- a op= b, by values -/
abbrev TIp := V → V → Hp → VK → Prop
def PIp (X : Cx) (op : Operator) (t : TIp) : Prop :=
  ∀ (pins : List (Addr × Obj)) (s : Shared) (σ : St) (H : Hp) (x y : V) (v u : Value) (Q : VK), Inv X pins σ H s → RelV x v → RelV y u → t x y H Q →
    wpAny (model X.prog X.w) X.A (inplaceOp op v u) (EP X pins σ Q) X.xe s
section
variable {X : Cx} {pos : Pos}
def gName (i : Nat) : TG := fun v σ H Q => Q (σ.set i (some v)) H
theorem pg_name {i : Nat} {x : Str} (hN : X.N.Nodup) (hi : X.N[i]? = some x) (hx : Loc X.env.scope x) (hf : X.fn x = true ∨ X.env.scope.names.lookup x = some .local := by first | exact .inl rfl | exact .inr rfl | assumption) : PG X (.Name x pos) (gName i) := by
  intro pins s σ H v u Q I r h
  exact wpAny_assign_Name (store_ok I hN hi hx r (fun s' I' => ⟨_, H, I', h⟩) hf)
def gNil : TGs := fun vs σ H Q => vs = [] ∧ Q σ H
def gCons (t : TG) (u : TGs) : TGs := fun vs σ H Q => ∃ v r, vs = v :: r ∧ t v σ H fun σ' H' => u r σ' H' Q
theorem pgs_nil : PGs X [] gNil := by
  intro pins s σ H vs us Q I r h
  obtain ⟨e, h⟩ := h
  subst e
  cases r
  exact assignInOrder_nil ⟨σ, H, I, h⟩
theorem pgs_cons {e : Expr} {es : List Expr} {t : TG} {u : TGs} (h1 : PG X e t) (h2 : PGs X es u)
    (hs : (assignEach (e :: es) X.env).map (·.2) = assign e X.env :: (assignEach es X.env).map (·.2) := by rfl) : PGs X (e :: es) (gCons t u) := by
  intro pins s σ H vs us Q I r h
  obtain ⟨v, vr, e1, h⟩ := h
  subst e1
  cases r with
  | cons r rr =>
    rw [hs]
    refine assignInOrder_cons (thn (h1 pins s σ H _ _ _ I r h) fun _ s1 ⟨σ1, H1, I1, q1⟩ => ?_)
    exact h2 pins s1 σ1 H1 _ _ Q I1 rr q1
/-- (a, b, ..) = a tuple of that length -/
def gTup (K : PySem.W.Frag) (n : Nat) (t : TGs) : TG := fun v σ H Q => ∃ a xs, v = .ref a ∧ SqT K H a xs ∧ xs.length = n ∧ t xs σ H Q
theorem pg_tup {es : List Expr} {k : Nat} {t : TGs} {n : Nat} (hc : X.calm = true) (h : PGs X es t)
    (hn : (assignEach es X.env).length = n := by rfl) (hst : (assignEach es X.env).findIdx? (·.1) = none := by rfl) : PG X (.Tuple es k pos) (gTup X.K n t) := by
  intro pins s σ H v u Q I r hw
  obtain ⟨a, xs, e1, hq, hl, hw⟩ := hw
  subst e1
  cases r
  obtain ⟨its, rv, ht, hz⟩ := I.tuple hq
  refine assign_Tuple_tuple (I.ok.hd hc) ht (by simp [hn, ← hl, rv.length]) hst fun h' hx => ?_
  have I1 : Inv X pins σ H { s with heap := h' } := I.kept (t' := s.toks) fun b o e => hx b o (Nat.ne_of_lt (Heap.lt_size e)) e
  exact h pins _ σ H xs _ Q I1 (by simpa using rv) hw
/-- o[i] = .. -/
def gSub (to ti : TE) (t : TSet) : TG := fun v σ H Q => to σ H fun o H1 => ti σ H1 fun i H2 => t o i v H2 fun H3 => Q σ H3
/-- target = value -/
def tAsg (te : TE) (g : TG) : TS := fun D σ H => te σ H fun x H1 => g x σ H1 D.nx
theorem ps_asg {tg e : Expr} {te : TE} {g : TG} (he : PE X e te) (hg : PG X tg g) (hs : swapsWithSole [tg] e pos.line X.env = pure false := by rfl) (hw : swappedStores [tg] e X.env = pure none := by rfl)
    (h1 : (assignEach [tg] X.env).map (·.2) = [assign tg X.env] := by rfl) : PS X (.Assign [tg] e pos) (tAsg te g) := by
  intro pins s σ H D I h
  refine wpAny_Assign_stores (thn (he pins s σ H _ I h) fun v s1 ⟨x, H1, I1, r1, q1⟩ => ?_) hs hw
  rw [h1]
  exact thn (hg pins s1 σ H1 x v _ I1 r1 q1) fun _ s2 q => q
/-- name = value -/
theorem ps_set {i : Nat} {x : Str} {e : Expr} {te : TE} {pos' : Pos} (hN : X.N.Nodup) (hi : X.N[i]? = some x) (hx : Loc X.env.scope x) (he : PE X e te) (hs : swapsWith e (some (.Name x pos')) pos.line X.env = pure false := by rfl) (hf : X.fn x = true ∨ X.env.scope.names.lookup x = some .local := by first | exact .inl rfl | exact .inr rfl | assumption) :
    PS X (.Assign [.Name x pos'] e pos) (tAsg te (gName i)) := by
  intro pins s σ H D I h
  refine wpAny_Assign_Name (thn (he pins s σ H _ I h) fun v s1 ⟨y, H1, I1, r1, q1⟩ => ?_) hs
  exact store_ok I1 hN hi hx r1 (fun s2 I2 => ⟨_, H1, I2, q1⟩) hf
/-- a, b = x, y with plain local names: stored from the right; the pair itself is not tracked (the opening rows as in PyProof/Rows/TupAssign.lean:23) -/
def tPar (i j : Nat) (ta : TA) : TS := fun D σ H => ta σ H fun vs H1 => ∃ v w, vs = [v, w] ∧ D.nx ((σ.set i (some v)).set j (some w)) H1
/-- name op= e -/
def tAug (i : Nat) (te : TE) (ti : TIp) : TS := fun D σ H => ∃ x, σ[i]? = some (some x) ∧ te σ H fun y H1 => ti x y H1 fun z H2 => D.nx (σ.set i (some z)) H2
/-- o[i] op= e -/
def tAugS (to ti te : TE) (tget : V → V → Hp → VK → Prop) (tip : TIp) (tset : TSet) : TS := fun D σ H => to σ H fun o H1 => ti σ H1 fun i H2 => tget o i H2 fun x H3 => te σ H3 fun y H4 => tip x y H4 fun z H5 => tset o i z H5 fun H6 => D.nx σ H6
/-- o[i], by values -/
def PGet (X : Cx) (t : V → V → Hp → VK → Prop) : Prop :=
  ∀ (pins : List (Addr × Obj)) (s : Shared) (σ : St) (H : Hp) (o i : V) (ov iv : Value) (Q : VK), Inv X pins σ H s → RelV o ov → RelV i iv → t o i H Q →
    wpAny (model X.prog X.w) X.A (getItem ov iv) (EP X pins σ Q) X.xe s
/-- ints -/
def ipI (f : Int → Int → Int) : TIp := fun x y H Q => ∃ i j, x = .int i ∧ y = .int j ∧ Q (.int (f i j)) H
end

/-! ### while -/
section
variable {X : Cx} {pos : Pos}
/-- the invariant W with its measure -/
def tWhile (c : TT) (tb : TS) : TS := fun D σ H => ∃ W : Nat → St → Hp → Prop, (∃ m, W m σ H) ∧ ∀ m σ H, W m σ H →
  c σ H fun b H1 => if b = true then ∃ N : St → Hp → Prop, (∀ σ' H', N σ' H' → ∃ m', m' < m ∧ W m' σ' H') ∧ tb { D with nx := N, ct := N, bk := D.nx } σ H1 else D.nx σ H1
theorem ps_while {c : Expr} {body : List Stmt} {tc : TT} {tb : TS} (hp : PassesOwn (model X.prog X.w) X.A X.env X.xe) (hc : PT X c tc) (hb : PSs X body tb) : PS X (.While c body [] pos) (tWhile tc tb) := by
  intro pins s σ H D I h
  obtain ⟨W, ⟨m0, w0⟩, turn⟩ := h
  refine wpAny_While (codeAny_whileLoop (fun n s' => ∃ σ' H', Inv X pins σ' H' s' ∧ W n σ' H') ?_ m0 ⟨σ, H, I, w0⟩)
  rintro n s1 ⟨σ1, H1, I1, w1⟩
  refine wpAny_passesOwn hp (thn (hc pins s1 σ1 H1 _ I1 (turn n σ1 H1 w1)) fun b s2 ⟨H2, I2, q2⟩ => ?_)
  cases b with
  | true =>
    obtain ⟨N, hN, q2⟩ := q2
    rw [if_pos rfl]
    refine wpAny_passesOwn hp (thn (hb pins s2 σ1 H2 _ I2 q2) fun f s3 q3 => ?_)
    cases f with
    | next =>
      obtain ⟨σ3, H3, I3, n3⟩ := q3
      obtain ⟨m', hm, w3⟩ := hN σ3 H3 n3
      exact ⟨m', hm, σ3, H3, I3, w3⟩
    | cont =>
      obtain ⟨σ3, H3, I3, n3⟩ := q3
      obtain ⟨m', hm, w3⟩ := hN σ3 H3 n3
      exact ⟨m', hm, σ3, H3, I3, w3⟩
    | brk => exact q3
    | ret v => exact q3
  | false =>
    rw [if_neg Bool.false_ne_true]
    exact wpAny_execs_nil ⟨σ1, H2, I2, q2⟩
end

/-! ### what a loop or a comprehension walks -/
/-- at turn i: it yields x (the heap may grow), or it stops -/
structure It where
  go : Nat → Hp → Prop
  yld : Nat → Hp → V → Hp → Prop
  stop : Nat → Hp → Prop
/-- the iterator's own objects may turn: they are not the frame's, not pinned, younger than the entry (or a comprehension's own) -/
def FpOk (X : Cx) (pins : List (Addr × Obj)) (H : Hp) (b : Addr) : Prop :=
  H b = none ∧ b ≠ X.env.locals ∧ b ∉ X.fs ∧ (b ∈ X.ex ∨ X.s₀.heap.objs.size ≤ b) ∧ (∀ x c, X.env.cells.lookup x = some c → c ≠ b) ∧ ∀ p ∈ X.pn ++ pins, p.1 ≠ b
theorem Inv.fpOk {X : Cx} {pins : List (Addr × Obj)} {σ : St} {H H' : Hp} {s : Shared} {b : Addr} (I : Inv X pins σ H s) (hb : s.heap.objs.size ≤ b) (hn : H' b = none) : FpOk X pins H' b := by
  refine ⟨hn, Nat.ne_of_gt (Nat.lt_of_lt_of_le I.lt hb), I.nofs hb, .inr (Nat.le_trans I.sz hb), fun x c e z => ?_, fun p hp z => ?_⟩
  · obtain ⟨v, q⟩ := I.cell x c e
    exact absurd (Nat.lt_of_lt_of_le q.lt (by rw [z]; exact hb)) (Nat.lt_irrefl _)
  · exact absurd (Nat.lt_of_lt_of_le (Heap.lt_size (I.pin p hp).1) (by rw [z]; exact hb)) (Nat.lt_irrefl _)
structure Turn (P : Program) (w : World) (K : PySem.W.Frag) (tg : Expr) (J : It) (fp : List Addr) (it : Addr) (tn : Nat → Heap → Prop) : Prop where
  mem : it ∈ fp
  obj : ∀ i h, tn i h → ∀ b ∈ fp, ∃ o, h.get? b = some o ∧ ∀ v, o.data ≠ .cell v
  keep : ∀ i h h', tn i h → (∀ b ∈ fp, ∀ o, h.get? b = some o → h'.get? b = some o) → tn i h'
  item : ∀ (X : Cx), X.prog = P → X.w = w → X.K = K → X.calm = true → ∀ (i : Nat) (pins : List (Addr × Obj)) (s : Shared) (σ : St) (H : Hp) (E : Value → Shared → Prop), Inv X pins σ H s → (∀ b ∈ fp, FpOk X pins H b) → tn i s.heap → J.go i H →
    wpAny (model P w) X.A (pyNext (.ref it)) (fun r s1 => ∃ u, r = some u ∧
      wpAny (model P w) X.A (letOwnedTupleGo tg (.ref it) u) (fun _ s2 => ∃ x H', Inv X pins σ H' s2 ∧ RelV x u ∧ J.yld i H x H' ∧ tn (i + 1) s2.heap ∧ ∀ b ∈ fp, H' b = none) E s1) E s
  done : ∀ (X : Cx), X.prog = P → X.w = w → X.K = K → X.calm = true → ∀ (i : Nat) (pins : List (Addr × Obj)) (s : Shared) (σ : St) (H : Hp) (E : Value → Shared → Prop), Inv X pins σ H s → (∀ b ∈ fp, FpOk X pins H b) → tn i s.heap → J.stop i H →
    wpAny (model P w) X.A (pyNext (.ref it)) (fun r s1 => r = none ∧ Inv X pins σ H s1) E s
  self : ∀ (A : Around) (i : Nat) (s : Shared) (Q : Value → Shared → Prop) (E : Value → Shared → Prop), tn i s.heap → Q (.ref it) s → wpAny (model P w) A (pyIter (.ref it)) Q E s
abbrev TI := St → Hp → (It → Hp → Prop) → Prop
/-- an iterator has come -/
def PIE (X : Cx) (pins : List (Addr × Obj)) (σ : St) (tg : Expr) (R : It → Hp → Prop) (itv : Value) (s2 : Shared) : Prop :=
  ∃ (it : Addr) (fp : List Addr) (tn : Nat → Heap → Prop) (J : It) (H' : Hp), itv = .ref it ∧ Inv X pins σ H' s2 ∧ Turn X.prog X.w X.K tg J fp it tn ∧ tn 0 s2.heap ∧ (∀ b ∈ fp, FpOk X pins H' b) ∧ R J H'
def PI (X : Cx) (tg iter : Expr) (wi : TI) : Prop :=
  ∀ (pins : List (Addr × Obj)) (s : Shared) (σ : St) (H : Hp) (R : It → Hp → Prop), Inv X pins σ H s → wi σ H R →
    wpAny (model X.prog X.w) X.A (eval iter X.env) (fun v s1 => wpAny (model X.prog X.w) X.A (pyIter v) (PIE X pins σ tg R) X.xe s1) X.xe s

/-- the step ahead of the store is nothing for an iterator that keeps no tuple -/
theorem go_of {M : Model} {A : Around} {E : Value → Shared → Prop} {s : Shared} {tg : Expr} {it : Addr} {u : Value} {o : Obj} {n : String} {vs : Array Value} {Q : Unit → Shared → Prop} (ho : s.heap.get? it = some o) (hc : o.cls = .type n) (hd : o.data = .fields vs)
    (hn : ["enumerate", "zip", "dict_itemiterator", "dict_reverseitemiterator", "odict_iterator", "itertools.zip_longest", "itertools.pairwise"].contains n = false) (hQ : Q () s) : wpAny M A (letOwnedTupleGo tg (.ref it) u) Q E s := by
  unfold letOwnedTupleGo
  cases tg <;> first
    | exact wpAny_pure hQ
    | (cases u <;> first
        | exact wpAny_pure hQ
        | (refine wpAny_bind (wpAny_load ho ?_)
           rw [hc, hd]
           show wpAny M A (if (["enumerate", "zip", "dict_itemiterator", "dict_reverseitemiterator", "odict_iterator", "itertools.zip_longest", "itertools.pairwise"].contains n && vs[0]? == some (rawInt _)) = true then _ else _) Q E s
           rw [if_neg (by intro h; rw [hn, Bool.false_and] at h; cases h)]
           exact wpAny_pure hQ))

/-- the list at a, as it stands at each turn (a loop may append to it) -/
def Itl (K : PySem.W.Frag) (a : Addr) : It :=
  ⟨fun i H => ∃ xs x, SqL K H a xs ∧ xs[i]? = some x, fun i H x H' => H' = H ∧ ∀ xs, SqL K H a xs → xs[i]? = some x, fun i H => ∃ xs, SqL K H a xs ∧ xs.length ≤ i⟩
def Itt (K : PySem.W.Frag) (a : Addr) : It :=
  ⟨fun i H => ∃ xs x, SqT K H a xs ∧ xs[i]? = some x, fun i H x H' => H' = H ∧ ∀ xs, SqT K H a xs → xs[i]? = some x, fun i H => ∃ xs, SqT K H a xs ∧ xs.length ≤ i⟩
/-- lo, lo + 1, .. (n of them) -/
def Itr (lo : Int) (n : Nat) : It := ⟨fun i _ => i < n, fun i H x H' => H' = H ∧ x = .int (lo + i), fun i _ => n ≤ i⟩
theorem turn_list {P : Program} {w : World} {K : PySem.W.Frag} {tg : Expr} (a it : Addr) : Turn P w K tg (Itl K a) [it] it (fun i h => h.IsListIter it a i) where
  mem := by simp
  obj := fun i h st b hb => by
    have e : b = it := by simpa using hb
    subst e
    obtain ⟨o, e, c, d⟩ := st
    exact ⟨o, e, fun v z => by rw [d] at z; cases z⟩
  keep := fun i h h' st k => st.at fun o e => k it (by simp) o e
  item := by
    intro X hP hw hK hc i pins s σ H E I hf st hg
    subst hP hw hK
    obtain ⟨xs, x, hq, hx⟩ := hg
    obtain ⟨its, rv, p, hz⟩ := I.list hq
    obtain ⟨u, hu, ru⟩ := rv.get hx
    obtain ⟨f0, f1, f2, f3, f4, f5⟩ := hf it (by simp)
    refine wpAny_pyNext_list_item st p.isList (x := u) (by simpa using hu) fun h' st' sb => ?_
    have I1 : Inv X pins σ H { s with heap := h' } := I.turned (t' := s.toks) (fun b o hb e => (sb.2 b hb).trans e) f0 f1 f3 f4 f5
    obtain ⟨o, e, c, d⟩ := id st'
    exact ⟨u, rfl, go_of (s := { s with heap := h' }) e c d (by decide) ⟨x, H, I1, ru, ⟨rfl, fun ys hy => by rw [I.list_inj hy hq]; exact hx⟩, st', fun b hb => (hf b hb).1⟩⟩
  done := by
    intro X hP hw hK hc i pins s σ H E I hf st hg
    subst hP hw hK
    obtain ⟨xs, hq, hx⟩ := hg
    obtain ⟨its, rv, p, hz⟩ := I.list hq
    obtain ⟨f0, f1, f2, f3, f4, f5⟩ := hf it (by simp)
    have hl := rv.length
    exact wpAny_pyNext_list_end (I.ok.hd hc) st p.isList (by simp; omega) fun h' eb => ⟨rfl, I.turned (t' := s.toks) (fun b o hb e => eb b o hb e) f0 f1 f3 f4 f5⟩
  self := fun _ _ _ _ _ st h => wpAny_pyIter_listiter st h
theorem turn_range {P : Program} {w : World} {K : PySem.W.Frag} {tg : Expr} (it : Addr) (lo : Int) (n : Nat) : Turn P w K tg (Itr lo n) [it] it (fun i h => IsRangeIter h it (lo + (i : Nat) * 1) ((n : Int) - (i : Nat)) 1) where
  mem := by simp
  obj := fun i h st b hb => by
    have e : b = it := by simpa using hb
    subst e
    exact ⟨_, st, fun v z => by
      have z' : Data.fields _ = Data.cell v := z
      cases z'⟩
  keep := fun i h h' st k => k it (by simp) _ st
  item := by
    intro X hP hw hK hc i pins s σ H E I hf st hg
    subst hP hw hK
    obtain ⟨f0, f1, f2, f3, f4, f5⟩ := hf it (by simp)
    have W := Walks.range (prog := X.prog) (w := X.w) (I.ok.hd hc) it lo 1 n
    refine W.item i s _ _ hg st fun v h' tk hv st' kk => ?_
    obtain ⟨t, rfl⟩ := hv
    have I1 : Inv X pins σ H { s with heap := h', toks := tk } := I.turned (fun b o hb e => kk b o (by simpa using hb) e) f0 f1 f3 f4 f5
    refine ⟨_, rfl, go_of (s := { s with heap := h', toks := tk }) (n := "range_iterator") st' rfl rfl (by decide) ⟨.int (lo + i), H, I1, ⟨t, ?_⟩, ⟨rfl, rfl⟩, st', fun b hb => (hf b hb).1⟩⟩
    rw [Int.mul_one]
  done := by
    intro X hP hw hK hc i pins s σ H E I hf st hg
    subst hP hw hK
    obtain ⟨f0, f1, f2, f3, f4, f5⟩ := hf it (by simp)
    exact wpAny_pyNext_range_end (I.ok.hd hc) st (by have : n ≤ i := hg; omega) fun h' eb => ⟨rfl, I.turned (t' := s.toks) (fun b o hb e => eb b o hb e) f0 f1 f3 f4 f5⟩
  self := fun _ _ _ _ _ st h => wpAny_pyIter_rangeiter st h
end L2

namespace L2
open PySem PySem.Spec PyProof.Rows
section
variable {X : Cx} {tg : Expr}
def iList (K : PySem.W.Frag) (tl : TE) : TI := fun σ H R => tl σ H fun x H1 => ∃ a, x = .ref a ∧ (∃ xs, SqL K H1 a xs) ∧ R (Itl K a) H1
def iTup (K : PySem.W.Frag) (tl : TE) : TI := fun σ H R => tl σ H fun x H1 => ∃ a, x = .ref a ∧ (∃ xs, SqT K H1 a xs) ∧ R (Itt K a) H1
theorem pi_list {l : Expr} {tl : TE} (hl : PE X l tl) : PI X tg l (iList X.K tl) := by
  intro pins s σ H R I h
  refine thn (hl pins s σ H _ I h) fun v s1 ⟨x, H1, I1, r1, q1⟩ => ?_
  obtain ⟨a, e, ⟨xs, hq⟩, q⟩ := q1
  subst e
  cases r1
  obtain ⟨its, rv, p, hz⟩ := I1.list hq
  refine wpAny_pyIter_list p.isList ?_
  refine ⟨s1.heap.objs.size, [s1.heap.objs.size], _, _, H1, rfl, I1.kept (t' := s1.toks) fun b o e => Heap.get?_push_of_some _ e, turn_list a _, ⟨_, Heap.get?_push_size _ rfl, rfl, rfl⟩, fun b hb => ?_, q⟩
  have e : b = s1.heap.objs.size := by simpa using hb
  subst e
  exact I1.fpOk (Nat.le_refl _) (I1.hok.fresh (Nat.le_refl _))
/-- a range object just made, walked -/
theorem range_it {pins : List (Addr × Obj)} {σ : St} {H : Hp} {s : Shared} {R : It → Hp → Prop} {E : Value → Shared → Prop} {lo hi : Int} {t u v : Tok} {tk : Nat} (I : Inv X pins σ H s) (h1 : -(2 ^ 62) ≤ lo) (h2 : lo < 2 ^ 62) (h3 : -(2 ^ 62) ≤ hi) (h4 : hi < 2 ^ 62)
    (q : R (Itr lo (hi - lo).toNat) H) : wpAny (model X.prog X.w) X.A (pyIter (.ref s.heap.objs.size)) (PIE X pins σ tg R) E { s with heap := s.heap.push { cls := .type "range", data := .fields #[.int lo t, .int hi u, .int 1 v] }, toks := tk } := by
  refine wpAny_pyIter_range (IsRange.new ..) (small_one h1 h2 h3 h4) ?_
  have I1 : Inv X pins σ H { s with heap := s.heap.push { cls := .type "range", data := .fields #[.int lo t, .int hi u, .int 1 v] }, toks := tk } := I.kept fun b o e => Heap.get?_push_of_some _ e
  refine ⟨(s.heap.push { cls := .type "range", data := .fields #[.int lo t, .int hi u, .int 1 v] }).objs.size, [(s.heap.push { cls := .type "range", data := .fields #[.int lo t, .int hi u, .int 1 v] }).objs.size], _, _, H, rfl,
    I1.kept (t' := tk) fun b o e => Heap.get?_push_of_some _ e, turn_range _ lo (hi - lo).toNat, ?_, fun b hb => ?_, q⟩
  · have e1 : lo + ((0 : Nat) : Int) * 1 = lo := by simp
    have e2 : (((hi - lo).toNat : Nat) : Int) - ((0 : Nat) : Int) = Builtin.Range.rangeSize lo hi 1 := by rw [rangeSize_one]; split <;> omega
    show IsRangeIter _ _ (lo + ((0 : Nat) : Int) * 1) ((((hi - lo).toNat : Nat) : Int) - ((0 : Nat) : Int)) 1
    rw [e1, e2]
    exact Heap.get?_push_size _ rfl
  · have e : b = (s.heap.push { cls := .type "range", data := .fields #[.int lo t, .int hi u, .int 1 v] }).objs.size := by simpa using hb
    subst e
    exact I1.fpOk (Nat.le_refl _) (I1.hok.fresh (Nat.le_refl _))
def iRng1 (ta : TA) : TI := fun σ H R => ta σ H fun vs H1 => ∃ j : Int, vs = [.int j] ∧ -(2 ^ 62) ≤ j ∧ j < 2 ^ 62 ∧ R (Itr 0 j.toNat) H1
def iRng2 (ta : TA) : TI := fun σ H R => ta σ H fun vs H1 => ∃ i j : Int, vs = [.int i, .int j] ∧ (-(2 ^ 62) ≤ i ∧ i < 2 ^ 62 ∧ -(2 ^ 62) ≤ j ∧ j < 2 ^ 62) ∧ R (Itr i (j - i).toNat) H1
theorem pi_range2 {a b : Expr} {ta : TA} {p pos : Pos} (hg : Gl X "range") (hm : X.mg "range" = none) (ha : PA X [a, b] ta) (hs : starEach [a, b] X.env = [(false, eval a X.env), (false, eval b X.env)] := by rfl) (hs2 : starEach [b] X.env = [(false, eval b X.env)] := by rfl) :
    PI X tg (.Call (.Name "range" p) [a, b] [] pos) (iRng2 ta) := by
  intro pins s σ H R I h
  refine Call_ (ld_blt I hg hm boot_range (PyProof.Rows.callWith_type1 (thn (ha pos pins s σ H _ I h) fun us s1 ⟨vs, H1, I1, r1, q1⟩ => ?_) (by rw [hs, hs2]) (by rw [hs2]; rfl)))
  obtain ⟨i, j, e, ⟨q1, q2, q3, q4⟩, q⟩ := q1
  subst e
  cases r1 with
  | cons r rr =>
    cases rr with
    | cons r' rr =>
      cases rr
      obtain ⟨t, rfl⟩ := r
      obtain ⟨t', rfl⟩ := r'
      exact call_range_2 (range_it I1 q1 q2 q3 q4 q)

/-! ### for -/
/-- W: the invariant by the turn and a measure; N: what the body is to reach -/
def tFor (wi : TI) (g : TG) (tb : TS) : TS := fun D σ H => wi σ H fun J H1 => ∃ W : Nat → Nat → St → Hp → Prop, (∃ m, W 0 m σ H1) ∧ ∀ i m σ H, W i m σ H →
  (J.stop i H ∧ D.nx σ H) ∨ (J.go i H ∧ ∃ N : St → Hp → Prop, (∀ σ' H', N σ' H' → ∃ m', m' < m ∧ W (i + 1) m' σ' H') ∧ ∀ x H', J.yld i H x H' → g x σ H' fun σ2 H2 => tb { D with nx := N, ct := N, bk := D.nx } σ2 H2)
/-- the records at fp as they stand -/
def pinsAt (fp : List Addr) (h : Heap) : List (Addr × Obj) := fp.filterMap fun b => (h.get? b).map fun o => (b, o)
theorem mem_pinsAt {fp : List Addr} {h : Heap} {b : Addr} {o : Obj} (hb : b ∈ fp) (e : h.get? b = some o) : (b, o) ∈ pinsAt fp h := List.mem_filterMap.mpr ⟨b, hb, by rw [e]; rfl⟩
theorem of_pinsAt {fp : List Addr} {h : Heap} {p : Addr × Obj} (hp : p ∈ pinsAt fp h) : p.1 ∈ fp ∧ h.get? p.1 = some p.2 := by
  obtain ⟨b, hb, e⟩ := List.mem_filterMap.mp hp
  cases q : h.get? b with
  | none => rw [q] at e; cases e
  | some o =>
    rw [q] at e
    have e' : (b, o) = p := Option.some.inj e
    subst e'
    exact ⟨hb, q⟩
theorem Inv.pinned {pins : List (Addr × Obj)} {σ : St} {H : Hp} {s : Shared} {fp : List Addr} (I : Inv X pins σ H s) (hf : ∀ b ∈ fp, FpOk X pins H b) (ho : ∀ b ∈ fp, ∃ o, s.heap.get? b = some o ∧ ∀ v, o.data ≠ .cell v) : Inv X (pins ++ pinsAt fp s.heap) σ H s :=
  I.pins_of fun p hp => (List.mem_append.mp hp).elim (fun z => I.pin p (List.mem_append_right _ z)) fun z => by
    obtain ⟨hb, e⟩ := of_pinsAt z
    obtain ⟨f0, f1, f2, _⟩ := hf p.1 hb
    obtain ⟨o, e', d⟩ := ho p.1 hb
    rw [e] at e'; cases e'
    exact ⟨e, f0, f1, f2, d⟩
theorem Inv.unpinned {pins pl : List (Addr × Obj)} {σ : St} {H : Hp} {s : Shared} (I : Inv X (pins ++ pl) σ H s) : Inv X pins σ H s := I.pins_of fun p hp => I.pin p (List.mem_append_right _ (List.mem_append_left _ hp))
theorem ps_for {iter : Expr} {body : List Stmt} {wi : TI} {g : TG} {tb : TS} {pos : Pos} (hp : PassesOwn (model X.prog X.w) X.A X.env X.xe) (hc : X.calm = true) (hi : PI X tg iter wi) (hg : PG X tg g) (hb : PSs X body tb)
    (hs : ∀ x, foldedSetIterable iter X.env x = pure x := by intro _; rfl) : PS X (.For tg iter body [] pos) (tFor wi g tb) := by
  intro pins s σ H D I h
  refine wpAny_For (thn (hi pins s σ H _ I h) fun v s1 h1 => thn h1 fun itv s2 h2 => ?_) hs
  obtain ⟨it, fp, tn, J, H2, e, I2, T, st2, f2, W, ⟨m0, w0⟩, turn⟩ := h2
  subst e
  -- what stays true of the iterator's objects through the loop
  have stat : ∀ {H' : Hp}, (∀ b ∈ fp, H' b = none) → ∀ b ∈ fp, FpOk X pins H' b := fun hn b hb => ⟨hn b hb, (f2 b hb).2⟩
  refine codeAny_forLoop_any (fun n s' => ∃ i σ' H', Inv X pins σ' H' s' ∧ tn i s'.heap ∧ (∀ b ∈ fp, H' b = none) ∧ W i n σ' H') ?_ m0 ⟨0, σ, H2, I2, st2, fun b hb => (f2 b hb).1, w0⟩
  rintro n s3 ⟨i, σ3, H3, I3, st3, fr3, w3⟩
  rcases turn i n σ3 H3 w3 with ⟨stop, qn⟩ | ⟨go, N, hN, step⟩
  · refine wpAny_passesOwn hp (thn (T.done X rfl rfl rfl hc i pins s3 σ3 H3 X.xe I3 (stat fr3) st3 stop) fun r s4 ⟨hr, I4⟩ => ?_)
    subst hr
    exact wpAny_execs_nil ⟨σ3, H3, I4, qn⟩
  · refine wpAny_passesOwn hp (thn (T.item X rfl rfl rfl hc i pins s3 σ3 H3 X.xe I3 (stat fr3) st3 go) fun r s4 ⟨u, hr, h4⟩ => ?_)
    subst hr
    refine wpAny_passesOwn hp (thn h4 fun _ s5 ⟨x, H5, I5, r5, y5, st5, fr5⟩ => ?_)
    have I5' := I5.pinned (stat fr5) (T.obj _ _ st5)
    refine wpAny_passesOwn hp (thn (hg _ s5 σ3 H5 x u _ I5' r5 (step x H5 y5)) fun _ s6 ⟨σ6, H6, I6, q6⟩ => ?_)
    refine wpAny_passesOwn hp (thn (hb _ s6 σ6 H6 _ I6 q6) fun f s7 q7 => ?_)
    have again : ∀ {σ7 : St} {H7 : Hp}, Inv X (pins ++ pinsAt fp s5.heap) σ7 H7 s7 → N σ7 H7 → ∃ m, m < n ∧ ∃ i σ' H', Inv X pins σ' H' s7 ∧ tn i s7.heap ∧ (∀ b ∈ fp, H' b = none) ∧ W i m σ' H' := fun {σ7 H7} I7 n7 => by
      obtain ⟨m', hm, w7⟩ := hN σ7 H7 n7
      refine ⟨m', hm, i + 1, σ7, H7, I7.unpinned, T.keep _ _ _ st5 fun b hb o e => (I7.pin (b, o) (List.mem_append_right _ (List.mem_append_right _ (mem_pinsAt hb e)))).1, fun b hb => ?_, w7⟩
      obtain ⟨o, e, d⟩ := T.obj _ _ st5 b hb
      exact (I7.pin (b, o) (List.mem_append_right _ (List.mem_append_right _ (mem_pinsAt hb e)))).2.1
    cases f with
    | next => obtain ⟨σ7, H7, I7, n7⟩ := q7; exact again I7 n7
    | cont => obtain ⟨σ7, H7, I7, n7⟩ := q7; exact again I7 n7
    | brk => obtain ⟨σ7, H7, I7, q7⟩ := q7; exact ⟨σ7, H7, I7.unpinned, q7⟩
    | ret v => obtain ⟨x7, σ7, H7, I7, r7, q7⟩ := q7; exact ⟨x7, σ7, H7, I7.unpinned, r7, q7⟩
end

/-! ### the forms one uses -/
/-- over a list that the body leaves as it is -/
theorem for_list {K : PySem.W.Frag} {a : Addr} {xs : List V} {g : TG} {tb : TS} {D : Ends} {σ : St} {H : Hp} (Pv : Nat → St → Hp → Prop) (h0 : Pv 0 σ H) (hl : ∀ i σ H, i ≤ xs.length → Pv i σ H → SqL K H a xs)
    (hs : ∀ i x σ H, xs[i]? = some x → Pv i σ H → g x σ H fun σ2 H2 => tb { D with nx := Pv (i + 1), ct := Pv (i + 1), bk := D.nx } σ2 H2) (hd : ∀ σ H, Pv xs.length σ H → D.nx σ H) :
    ∃ W : Nat → Nat → St → Hp → Prop, (∃ m, W 0 m σ H) ∧ ∀ i m σ H, W i m σ H →
      ((Itl K a).stop i H ∧ D.nx σ H) ∨ ((Itl K a).go i H ∧ ∃ N : St → Hp → Prop, (∀ σ' H', N σ' H' → ∃ m', m' < m ∧ W (i + 1) m' σ' H') ∧ ∀ x H', (Itl K a).yld i H x H' → g x σ H' fun σ2 H2 => tb { D with nx := N, ct := N, bk := D.nx } σ2 H2) := by
  refine ⟨fun i m σ H => m = xs.length - i ∧ i ≤ xs.length ∧ Pv i σ H, ⟨xs.length, by simp, Nat.zero_le _, h0⟩, ?_⟩
  rintro i m σ H ⟨rfl, hi, p⟩
  have q := hl i σ H hi p
  by_cases hlt : i < xs.length
  · refine .inr ⟨⟨xs, xs[i], q, by simp [hlt]⟩, Pv (i + 1), fun σ' H' p' => ⟨xs.length - (i + 1), by omega, rfl, hlt, p'⟩, fun x H' y => ?_⟩
    obtain ⟨e, y⟩ := y
    subst e
    exact hs i x σ _ (y xs q) p
  · have e : i = xs.length := by omega
    subst e
    exact .inl ⟨⟨xs, q, Nat.le_refl _⟩, hd σ H p⟩
theorem for_range {lo : Int} {n : Nat} {g : TG} {tb : TS} {D : Ends} {σ : St} {H : Hp} (Pv : Nat → St → Hp → Prop) (h0 : Pv 0 σ H)
    (hs : ∀ i σ H, i < n → Pv i σ H → g (.int (lo + i)) σ H fun σ2 H2 => tb { D with nx := Pv (i + 1), ct := Pv (i + 1), bk := D.nx } σ2 H2) (hd : ∀ σ H, Pv n σ H → D.nx σ H) :
    ∃ W : Nat → Nat → St → Hp → Prop, (∃ m, W 0 m σ H) ∧ ∀ i m σ H, W i m σ H →
      ((Itr lo n).stop i H ∧ D.nx σ H) ∨ ((Itr lo n).go i H ∧ ∃ N : St → Hp → Prop, (∀ σ' H', N σ' H' → ∃ m', m' < m ∧ W (i + 1) m' σ' H') ∧ ∀ x H', (Itr lo n).yld i H x H' → g x σ H' fun σ2 H2 => tb { D with nx := N, ct := N, bk := D.nx } σ2 H2) := by
  refine ⟨fun i m σ H => m = n - i ∧ i ≤ n ∧ Pv i σ H, ⟨n, by simp, Nat.zero_le _, h0⟩, ?_⟩
  rintro i m σ H ⟨rfl, hi, p⟩
  by_cases hlt : i < n
  · refine .inr ⟨hlt, Pv (i + 1), fun σ' H' p' => ⟨n - (i + 1), by omega, rfl, hlt, p'⟩, fun x H' y => ?_⟩
    obtain ⟨e, y⟩ := y
    subst e y
    exact hs i σ _ hlt p
  · have e : i = n := by omega
    subst e
    exact .inl ⟨Nat.le_refl _, hd σ H p⟩
end L2

namespace L2
open PySem PySem.Spec PyProof.Rows

abbrev R2 := V → V → Hp → VK → Prop
/-- a two-place operation on values: f is binaryOp op, inplaceOp op or compareOp op -/
def OpR (X : Cx) (f : Value → Value → Sem Value) (r : R2) : Prop :=
  ∀ (pins : List (Addr × Obj)) (s : Shared) (σ : St) (H : Hp) (x y : V) (v u : Value) (Q : VK), Inv X pins σ H s → RelV x v → RelV y u → r x y H Q →
    wpAny (model X.prog X.w) X.A (f v u) (EP X pins σ Q) X.xe s
/-- a one-place operation -/
def UnR (X : Cx) (f : Value → Sem Value) (r : V → Hp → VK → Prop) : Prop :=
  ∀ (pins : List (Addr × Obj)) (s : Shared) (σ : St) (H : Hp) (x : V) (v : Value) (Q : VK), Inv X pins σ H s → RelV x v → r x H Q →
    wpAny (model X.prog X.w) X.A (f v) (EP X pins σ Q) X.xe s
/-- a call of a value that is known (a builtin, a type) with values -/
def CallR (X : Cx) (f : Value) (r : List V → Hp → VK → Prop) : Prop :=
  ∀ (pins : List (Addr × Obj)) (s : Shared) (σ : St) (H : Hp) (xs : List V) (us : List Value) (Q : VK), Inv X pins σ H s → Vals xs us → r xs H Q →
    wpAny (model X.prog X.w) X.A (call f us) (EP X pins σ Q) X.xe s
/-- a value's truth -/
def TruR (X : Cx) (r : V → Hp → (Bool → Hp → Prop) → Prop) : Prop :=
  ∀ (pins : List (Addr × Obj)) (s : Shared) (σ : St) (H : Hp) (x : V) (v : Value) (Q : Bool → Hp → Prop), Inv X pins σ H s → RelV x v → r x H Q →
    wpAny (model X.prog X.w) X.A (truthy v) (TP X pins σ Q) X.xe s

def tOp (r : R2) (ta tb : TE) : TE := fun σ H Q => ta σ H fun x H1 => tb σ H1 fun y H2 => r x y H2 Q
def tUn (r : V → Hp → VK → Prop) (ta : TE) : TE := fun σ H Q => ta σ H fun x H1 => r x H1 Q
/-- ints in, under C, and a value out -/
def rI (C : Int → Int → Prop) (g : Int → Int → V) : R2 := fun x y H Q => ∃ i j, x = .int i ∧ y = .int j ∧ C i j ∧ Q (g i j) H
def rI0 (g : Int → Int → V) : R2 := fun x y H Q => ∃ i j, x = .int i ∧ y = .int j ∧ Q (g i j) H
def rU (g : Int → V) : V → Hp → VK → Prop := fun x H Q => ∃ i, x = .int i ∧ Q (g i) H

section
variable {X : Cx} {a b c : Expr} {ta tb tc : TE} {pos : Pos}

theorem binT (ha : PE X a ta) (hb : PE X b tb) {pins : List (Addr × Obj)} {s : Shared} {σ : St} {H : Hp} {R : V → V → Hp → Prop} (I : Inv X pins σ H s)
    (h : ta σ H fun x H1 => tb σ H1 fun y H2 => R x y H2) {Q : Value → Shared → Prop} {f : Value → Value → Sem Value}
    (hf : ∀ v u s2 x y H2, Inv X pins σ H2 s2 → RelV x v → RelV y u → R x y H2 → wpAny (model X.prog X.w) X.A (f v u) Q X.xe s2) :
    wpAny (model X.prog X.w) X.A (eval a X.env) (fun v s₁ => wpAny (model X.prog X.w) X.A (eval b X.env) (fun u s₂ => wpAny (model X.prog X.w) X.A (f v u) Q X.xe s₂) X.xe s₁) X.xe s := by
  refine thn (ha pins s σ H _ I h) fun v s1 ⟨x, H1, I1, r1, q1⟩ => ?_
  refine thn (hb pins s1 σ H1 _ I1 q1) fun u s2 ⟨y, H2, I2, r2, q2⟩ => ?_
  exact hf v u s2 x y H2 I2 r1 r2 q2

theorem pe_op {op : Operator} {r : R2} (ho : OpR X (binaryOp op) r) (ha : PE X a ta) (hb : PE X b tb) : PE X (.BinOp a op b pos) (tOp r ta tb) := by
  intro pins s σ H Q I h
  exact wpAny_BinOp (binT ha hb I h fun v u s2 x y H2 I2 rx ry q => ho pins s2 σ H2 x y v u Q I2 rx ry q)
theorem pe_un {op : UnaryOp} {r : V → Hp → VK → Prop} (ho : UnR X (unaryOp op) r) (ha : PE X a ta) : PE X (.UnaryOp op a pos) (tUn r ta) := by
  intro pins s σ H Q I h
  exact UnaryOp_ (thn (ha pins s σ H _ I h) fun v s1 ⟨x, H1, I1, r1, q1⟩ => ho pins s1 σ H1 x v Q I1 r1 q1)
/-! ### ints -/
theorem opI {f : Value → Value → Sem Value} {C : Int → Int → Prop} {g : Int → Int → Int}
    (rule : ∀ (i j : Int) (t u : Tok) (s : Shared) (Q : Value → Shared → Prop) (E : Value → Shared → Prop), C i j → Q (.int (g i j) s.toks) { s with toks := s.toks + 1 } → wpAny (model X.prog X.w) X.A (f (.int i t) (.int j u)) Q E s) :
    OpR X f (rI C fun i j => .int (g i j)) := by
  intro pins s σ H x y v u Q I rx ry h
  obtain ⟨i, j, rfl, rfl, hc, q⟩ := h
  obtain ⟨t, rfl⟩ := rx
  obtain ⟨t', rfl⟩ := ry
  exact rule i j t t' s _ _ hc ⟨.int (g i j), H, I.tok _, ⟨_, rfl⟩, q⟩
theorem opI0 {f : Value → Value → Sem Value} {g : Int → Int → Int}
    (rule : ∀ (i j : Int) (t u : Tok) (s : Shared) (Q : Value → Shared → Prop) (E : Value → Shared → Prop), Q (.int (g i j) s.toks) { s with toks := s.toks + 1 } → wpAny (model X.prog X.w) X.A (f (.int i t) (.int j u)) Q E s) :
    OpR X f (rI0 fun i j => .int (g i j)) := by
  intro pins s σ H x y v u Q I rx ry h
  obtain ⟨i, j, rfl, rfl, q⟩ := h
  obtain ⟨t, rfl⟩ := rx
  obtain ⟨t', rfl⟩ := ry
  exact rule i j t t' s _ _ ⟨.int (g i j), H, I.tok _, ⟨_, rfl⟩, q⟩
theorem opB0 {f : Value → Value → Sem Value} {g : Int → Int → Bool}
    (rule : ∀ (i j : Int) (t u : Tok) (s : Shared) (Q : Value → Shared → Prop) (E : Value → Shared → Prop), Q (.bool (g i j)) s → wpAny (model X.prog X.w) X.A (f (.int i t) (.int j u)) Q E s) :
    OpR X f (rI0 fun i j => .bl (g i j)) := by
  intro pins s σ H x y v u Q I rx ry h
  obtain ⟨i, j, rfl, rfl, q⟩ := h
  obtain ⟨t, rfl⟩ := rx
  obtain ⟨t', rfl⟩ := ry
  exact rule i j t t' s _ _ ⟨.bl (g i j), H, I, rfl, q⟩

def CDiv (i j : Int) : Prop := 0 < j ∧ j < 1073741824
def CDivN (i j : Int) : Prop := j ≠ 0 ∧ j.natAbs < 1073741824
def CPow (i j : Int) : Prop := 0 ≤ j ∧ j ≤ 1000000 ∧ i.natAbs < 2 ^ 64
def CMul (i j : Int) : Prop := (-(2 ^ 64) < i ∧ i < 2 ^ 64) ∨ (-(2 ^ 64) < j ∧ j < 2 ^ 64)
theorem CMul.ok {i j : Int} (h : CMul i j) : IntMulOk i j := by
  rcases h with ⟨h1, h2⟩ | ⟨h1, h2⟩
  · exact .of_left (intBits_le_64 h1 h2)
  · exact .of_right (intBits_le_64 h1 h2)
theorem op_add : OpR X (binaryOp .Add) (rI0 fun i j => .int (i + j)) := opI0 fun _ _ _ _ _ _ _ q => add_int q
theorem op_sub : OpR X (binaryOp .Sub) (rI0 fun i j => .int (i - j)) := opI0 fun _ _ _ _ _ _ _ q => sub_int q
theorem op_mul : OpR X (binaryOp .Mult) (rI CMul fun i j => .int (i * j)) := opI fun _ _ _ _ _ _ _ hc q => mul_int q hc.ok
/-- // by a positive divisor -/
theorem op_fdiv : OpR X (binaryOp .FloorDiv) (rI CDiv fun i j => .int (i / j)) := opI fun i j _ _ _ _ _ hc q => by
  have h1 : (0 : Int) < j := hc.1
  have h2 : j < 1073741824 := hc.2
  exact floordiv_int (by omega) (by rw [Int.fdiv_eq_ediv_of_nonneg i (by omega)]; exact q) (.inl (PyProof.noPylong_small (by omega)))
/-- % by a positive divisor of any size -/
theorem op_mod : OpR X (binaryOp .Mod) (rI (fun _ j => 0 < j) fun i j => .int (i % j)) := opI fun i j _ _ _ _ _ hc q => by
  have h1 : (0 : Int) < j := hc
  exact mod_int' (by omega) (by rw [Int.fmod_eq_emod_of_nonneg i (by omega)]; exact q)
theorem op_pow : OpR X (binaryOp .Pow) (rI CPow fun i j => .int (i ^ j.toNat)) := opI fun _ _ _ _ _ _ _ hc q => pow_int_small hc.1 hc.2.1 hc.2.2 q
theorem unI {f : Value → Sem Value} {g : Int → Int}
    (rule : ∀ (i : Int) (t : Tok) (s : Shared) (Q : Value → Shared → Prop) (E : Value → Shared → Prop), Q (.int (g i) s.toks) { s with toks := s.toks + 1 } → wpAny (model X.prog X.w) X.A (f (.int i t)) Q E s) :
    UnR X f (rU fun i => .int (g i)) := by
  intro pins s σ H x v Q I rx h
  obtain ⟨i, rfl, q⟩ := h
  obtain ⟨t, rfl⟩ := rx
  exact rule i t s _ _ ⟨.int (g i), H, I.tok _, ⟨_, rfl⟩, q⟩
theorem un_neg : UnR X (unaryOp .USub) (rU fun i => .int (-i)) := unI fun _ _ _ _ _ q => neg_int q
end

/-! ### comparisons -/
/-- the scalars that == tells apart as data does -/
def scal : V → V → Bool
  | .non, .non => true | .non, .int _ => true | .int _, .non => true | .non, .bl _ => true | .bl _, .non => true | .non, .str _ => true | .str _, .non => true
  | .int _, .int _ => true | .bl _, .bl _ => true | .str _, .str _ => true | .byt _, .byt _ => true
  | .int _, .str _ => true | .str _, .int _ => true | .bl _, .str _ => true | .str _, .bl _ => true
  | _, _ => false
def rEq : R2 := fun x y H Q => scal x y = true ∧ Q (.bl (decide (x = y))) H
def rNe : R2 := fun x y H Q => scal x y = true ∧ Q (.bl (!decide (x = y))) H

theorem dec_int {i j : Int} : decide (V.int i = V.int j) = (i == j) := by
  rw [Bool.eq_iff_iff]
  simp
theorem dec_bl {i j : Bool} : decide (V.bl i = V.bl j) = (i == j) := by
  rw [Bool.eq_iff_iff]
  simp
theorem dec_str {i j : Str} : decide (V.str i = V.str j) = (i == j) := by
  rw [Bool.eq_iff_iff]
  simp
theorem dec_byt {i j : Array UInt8} : decide (V.byt i = V.byt j) = (i.toList == j.toList) := by
  rw [Bool.eq_iff_iff]
  cases i
  cases j
  simp

section
variable {X : Cx} {a b c : Expr} {ta tb tc : TE} {pos : Pos}
theorem fin_bl {pins : List (Addr × Obj)} {σ : St} {H : Hp} {s : Shared} {Q : VK} {k k' : Bool} (I : Inv X pins σ H s) (q : Q (.bl k) H) (e : k = k') : EP X pins σ Q (.bool k') s := by
  subst e
  exact ⟨.bl k, H, I, rfl, q⟩
theorem op_eq : OpR X (compareOp .Eq) rEq := by
  intro pins s σ H x y v u Q I rx ry h
  obtain ⟨hs, q⟩ := h
  cases x with
  | non =>
    cases rx
    cases y with
    | non => cases ry; exact PySem.EqNone.eq_none_none (fin_bl I q (by simp))
    | bl j => cases ry; exact PySem.EqNone.eq_none_bool (fin_bl I q (by simp))
    | int j => obtain ⟨t', rfl⟩ := ry; exact PySem.EqNone.eq_none_int (fin_bl I q (by simp))
    | str j => obtain ⟨t', rfl⟩ := ry; exact PySem.EqNone.eq_none_str (fin_bl I q (by simp))
    | _ => exact absurd (show false = true from hs) Bool.false_ne_true
  | bl i =>
    cases rx
    cases y with
    | non => cases ry; exact PySem.EqNone.eq_bool_none (fin_bl I q (by simp))
    | bl j => cases ry; exact eq_bool (fin_bl I q dec_bl)
    | str j => obtain ⟨t', rfl⟩ := ry; exact PySem.EqMixed.eq_bool_str (fin_bl I q (by simp))
    | _ => exact absurd (show false = true from hs) Bool.false_ne_true
  | int i =>
    obtain ⟨t, rfl⟩ := rx
    cases y with
    | non => cases ry; exact PySem.EqNone.eq_int_none (fin_bl I q (by simp))
    | int j => obtain ⟨t', rfl⟩ := ry; exact eq_int (fin_bl I q dec_int)
    | str j => obtain ⟨t', rfl⟩ := ry; exact PySem.EqMixed.eq_int_str (fin_bl I q (by simp))
    | _ => exact absurd (show false = true from hs) Bool.false_ne_true
  | str i =>
    obtain ⟨t, rfl⟩ := rx
    cases y with
    | non => cases ry; exact PySem.EqNone.eq_str_none (fin_bl I q (by simp))
    | bl j => cases ry; exact PySem.EqMixed.eq_str_bool (fin_bl I q (by simp))
    | int j => obtain ⟨t', rfl⟩ := ry; exact PySem.EqMixed.eq_str_int (fin_bl I q (by simp))
    | str j => obtain ⟨t', rfl⟩ := ry; exact eq_str (fin_bl I q dec_str)
    | _ => exact absurd (show false = true from hs) Bool.false_ne_true
  | byt i =>
    obtain ⟨t, rfl⟩ := rx
    cases y with
    | byt j => obtain ⟨t', rfl⟩ := ry; exact PySem.W.eq_bytes (fin_bl I q dec_byt)
    | _ => exact absurd (show false = true from hs) Bool.false_ne_true
  | _ => cases y <;> exact absurd (show false = true from hs) Bool.false_ne_true
theorem op_ne : OpR X (compareOp .NotEq) rNe := by
  intro pins s σ H x y v u Q I rx ry h
  obtain ⟨hs, q⟩ := h
  cases x with
  | non =>
    cases rx
    cases y with
    | non => cases ry; exact PySem.EqNone.ne_none_none (fin_bl I q (by simp))
    | bl j => cases ry; exact PySem.EqNone.ne_none_bool (fin_bl I q (by simp))
    | int j => obtain ⟨t', rfl⟩ := ry; exact PySem.EqNone.ne_none_int (fin_bl I q (by simp))
    | str j => obtain ⟨t', rfl⟩ := ry; exact PySem.EqNone.ne_none_str (fin_bl I q (by simp))
    | _ => exact absurd (show false = true from hs) Bool.false_ne_true
  | bl i =>
    cases rx
    cases y with
    | non => cases ry; exact PySem.EqNone.ne_bool_none (fin_bl I q (by simp))
    | bl j => cases ry; exact ne_bool (fin_bl I q (congrArg not dec_bl))
    | str j => obtain ⟨t', rfl⟩ := ry; exact PySem.EqMixed.ne_bool_str (fin_bl I q (by simp))
    | _ => exact absurd (show false = true from hs) Bool.false_ne_true
  | int i =>
    obtain ⟨t, rfl⟩ := rx
    cases y with
    | non => cases ry; exact PySem.EqNone.ne_int_none (fin_bl I q (by simp))
    | int j => obtain ⟨t', rfl⟩ := ry; exact ne_int (fin_bl I q (congrArg not dec_int))
    | str j => obtain ⟨t', rfl⟩ := ry; exact PySem.EqMixed.ne_int_str (fin_bl I q (by simp))
    | _ => exact absurd (show false = true from hs) Bool.false_ne_true
  | str i =>
    obtain ⟨t, rfl⟩ := rx
    cases y with
    | non => cases ry; exact PySem.EqNone.ne_str_none (fin_bl I q (by simp))
    | bl j => cases ry; exact PySem.EqMixed.ne_str_bool (fin_bl I q (by simp))
    | int j => obtain ⟨t', rfl⟩ := ry; exact PySem.EqMixed.ne_str_int (fin_bl I q (by simp))
    | str j => obtain ⟨t', rfl⟩ := ry; exact ne_str (fin_bl I q (congrArg not dec_str))
    | _ => exact absurd (show false = true from hs) Bool.false_ne_true
  | byt i =>
    obtain ⟨t, rfl⟩ := rx
    cases y with
    | byt j => obtain ⟨t', rfl⟩ := ry; exact PySem.W.ne_bytes (fin_bl I q (congrArg not dec_byt))
    | _ => exact absurd (show false = true from hs) Bool.false_ne_true
  | _ => cases y <;> exact absurd (show false = true from hs) Bool.false_ne_true

theorem op_lt : OpR X (compareOp .Lt) (rI0 fun i j => .bl (decide (i < j))) := opB0 fun _ _ _ _ _ _ _ q => lt_int q
theorem op_le : OpR X (compareOp .LtE) (rI0 fun i j => .bl (decide (i ≤ j))) := opB0 fun _ _ _ _ _ _ _ q => le_int q
theorem op_gt : OpR X (compareOp .Gt) (rI0 fun i j => .bl (decide (j < i))) := opB0 fun _ _ _ _ _ _ _ q => gt_int q
theorem op_ge : OpR X (compareOp .GtE) (rI0 fun i j => .bl (decide (j ≤ i))) := opB0 fun _ _ _ _ _ _ _ q => ge_int q
/-- is, is not of two objects that are tracked lists or instances -/
def isObj : HO → Bool
  | .lst _ => true
  | .ins _ _ _ => true
  | _ => false
/-- two rules for one operation: by cases -/
theorem OpR.or {f : Value → Value → Sem Value} {r r' : R2} (h : OpR X f r) (h' : OpR X f r') : OpR X f (fun x y H Q => r x y H Q ∨ r' x y H Q) := by
  intro pins s σ H x y v u Q I rx ry q
  rcases q with q | q
  · exact h pins s σ H x y v u Q I rx ry q
  · exact h' pins s σ H x y v u Q I rx ry q

theorem nomark (b : Expr) {op : CmpOp} (h : op ≠ .In := by decide) (h2 : op ≠ .NotIn := by decide) : behindInMarks op b = false := by
  have e1 : (op == CmpOp.In) = false := by cases op <;> first | rfl | exact absurd rfl h
  have e2 : (op == CmpOp.NotIn) = false := by cases op <;> first | rfl | exact absurd rfl h2
  cases b <;> simp [behindInMarks, e1, e2]
/-- a comparison as a value; hm: nomark b, or (for in, not in) by with_unfolding_all rfl -/
theorem pe_cmpR {op : CmpOp} {r : R2} (ho : OpR X (compareOp op) r) (ha : PE X a ta) (hb : PE X b tb) (hm : behindInMarks op b = false) : PE X (.Compare a [op] [b] pos) (tOp r ta tb) := by
  intro pins s σ H Q I h
  exact wpAny_Compare1 (binT ha hb I h fun v u s2 x y H2 I2 rx ry q => ho pins s2 σ H2 x y v u Q I2 rx ry q) hm
/-- a reading of a value as a test -/
def tTest (t : TE) : TT := fun σ H Q => t σ H fun x H' => ∃ k, x = .bl k ∧ Q k H'
theorem pt_cmpR {op : CmpOp} {r : R2} (ho : OpR X (compareOp op) r) (ha : PE X a ta) (hb : PE X b tb) (hm : behindInMarks op b = false) : PT X (.Compare a [op] [b] pos) (tTest (tOp r ta tb)) := by
  intro pins s σ H Q I h
  refine wpAny_isTrue_Compare1 (thn (ha pins s σ H _ I h) fun v s1 ⟨x, H1, I1, r1, q1⟩ => thn (hb pins s1 σ H1 _ I1 q1) fun u s2 ⟨y, H2, I2, r2, q2⟩ =>
    thn (ho pins s2 σ H2 x y v u _ I2 r1 r2 q2) fun c s3 ⟨z, H3, I3, r3, k, e, q3⟩ => ?_) hm
  subst e
  cases r3
  exact wpAny_truthy_bool ⟨H3, I3, q3⟩
/-- a op1 b op2 c -/
def tChain (r r' : R2) (ta tb tc : TE) : TE := fun σ H Q => ta σ H fun x H1 => tb σ H1 fun y H2 => r x y H2 fun z H3 => ∃ k, z = .bl k ∧
  (if k = true then tc σ H3 fun w' H4 => r' y w' H4 Q else Q (.bl false) H3)
theorem pt_chain {op op' : CmpOp} {r r' : R2} (ho : OpR X (compareOp op) r) (ho' : OpR X (compareOp op') r') (ha : PE X a ta) (hb : PE X b tb) (hc : PE X c tc)
    (hm : lastMarks [op, op'] [b, c] = false := by with_unfolding_all rfl) : PT X (.Compare a [op, op'] [b, c] pos) (tTest (tChain r r' ta tb tc)) := by
  intro pins s σ H Q I h
  refine isTrue_chain (thn (ha pins s σ H _ I h) fun v s1 ⟨x, H1, I1, r1, q1⟩ => test_link (thn (hb pins s1 σ H1 _ I1 q1) fun u s2 ⟨y, H2, I2, r2, q2⟩ =>
    thn (ho pins s2 σ H2 x y v u _ I2 r1 r2 q2) fun d s3 ⟨z, H3, I3, r3, k, e, q3⟩ => ?_)) hm
  subst e
  cases r3
  refine wpAny_truthy_bool ?_
  cases k with
  | false =>
    obtain ⟨k', e', q'⟩ := q3
    cases e'
    exact ite_ff ⟨H3, I3, q'⟩
  | true =>
    refine ite_tt (test_last (thn (hc pins s3 σ H3 _ I3 q3) fun w' s4 ⟨z', H4, I4, r4, q4⟩ => thn (ho' pins s4 σ H4 y z' u w' _ I4 r2 r4 q4) fun d' s5 ⟨z2, H5, I5, r5, k2, e2, q5⟩ => ?_))
    subst e2
    cases r5
    exact wpAny_truthy_bool ⟨H5, I5, q5⟩

/-! ### truth -/
/-- a value's truth by the abstract heap -/
def TruV (K : PySem.W.Frag) (x : V) (H : Hp) (k : Bool) : Prop :=
  match x with
  | .non => k = false
  | .bl b => k = b
  | .int i => k = (i != 0)
  | .str y => y.length ≤ sizeLine ∧ k = ((y.length : Int) != 0)
  | .byt y => y.size ≤ sizeLine ∧ k = ((y.size : Int) != 0)
  | .ref p => (∃ xs, SqL K H p xs ∧ k = !xs.isEmpty) ∨ (∃ xs, SqT K H p xs ∧ k = !xs.isEmpty) ∨ ∃ kvs, H p = some (.dK kvs) ∧ k = !kvs.isEmpty
  | _ => False
theorem line63 : (sizeLine : Nat) < 2 ^ 63 := by rw [sizeLine_eq]; decide
def PlainIxT (b : Expr) : Prop := ∀ o i, subscripted b false o i = operate [o, i] (getItem o i)
/-! ### scalar builtins, by CallR -/
theorem vals1 {x : V} {us : List Value} (r : Vals [x] us) : ∃ u, us = [u] ∧ RelV x u := by
  cases r with
  | cons r1 r2 => cases r2; exact ⟨_, rfl, r1⟩
theorem vals2 {x y : V} {us : List Value} (r : Vals [x, y] us) : ∃ u w', us = [u, w'] ∧ RelV x u ∧ RelV y w' := by
  cases r with
  | cons r1 r2 =>
    cases r2 with
    | cons r3 r4 => cases r4; exact ⟨_, _, rfl, r1, r3⟩
theorem call_max2 (hc : X.calm = true) : CallR X (.builtin "max") (fun xs H Q => ∃ i j, xs = [.int i, .int j] ∧ Q (.int (if j > i then j else i)) H) := by
  intro pins s σ H xs us Q I r h
  obtain ⟨i, j, rfl, q⟩ := h
  obtain ⟨u, w', rfl, ⟨t, rfl⟩, ⟨t', rfl⟩⟩ := vals2 r
  refine max_two_ints (I.ok.hd hc) fun h' tk k => ⟨_, H, I.kept k, ?_, q⟩
  by_cases hj : j > i
  · rw [if_pos hj, if_pos hj]; exact ⟨_, rfl⟩
  · rw [if_neg hj, if_neg hj]; exact ⟨_, rfl⟩
theorem call_min2 (hc : X.calm = true) : CallR X (.builtin "min") (fun xs H Q => ∃ i j, xs = [.int i, .int j] ∧ Q (.int (if j < i then j else i)) H) := by
  intro pins s σ H xs us Q I r h
  obtain ⟨i, j, rfl, q⟩ := h
  obtain ⟨u, w', rfl, ⟨t, rfl⟩, ⟨t', rfl⟩⟩ := vals2 r
  refine min_two_ints (I.ok.hd hc) fun h' tk k => ⟨_, H, I.kept k, ?_, q⟩
  by_cases hj : j < i
  · rw [if_pos hj, if_pos hj]; exact ⟨_, rfl⟩
  · rw [if_neg hj, if_neg hj]; exact ⟨_, rfl⟩
theorem call_int1 : CallR X (.type "int") (fun xs H Q => (∃ i, xs = [.int i] ∧ Q (.int i) H) ∨ ∃ k, xs = [.bl k] ∧ Q (.int (if k then 1 else 0)) H) := by
  intro pins s σ H xs us Q I r h
  rcases h with ⟨i, rfl, q⟩ | ⟨k, rfl, q⟩
  · obtain ⟨u, rfl, t, rfl⟩ := vals1 r
    exact call_int_int ⟨.int i, H, I, ⟨_, rfl⟩, q⟩
  · obtain ⟨u, rfl, r1⟩ := vals1 r
    cases r1
    exact call_int_bool ⟨.int (if k then 1 else 0), H, I.tok _, ⟨_, rfl⟩, q⟩
/-- len of a str, a bytes, a list, a tuple -/
def LenV (K : PySem.W.Frag) (x : V) (H : Hp) (n : Nat) : Prop :=
  match x with
  | .str y => y.length ≤ sizeLine ∧ n = y.length
  | .byt y => y.size ≤ sizeLine ∧ n = y.size
  | .ref p => (∃ xs, SqL K H p xs ∧ n = xs.length) ∨ ∃ xs, SqT K H p xs ∧ n = xs.length
  | _ => False
end
end L2

namespace L2
open PySem PySem.Spec PyProof.Rows

/-! ### an instance, its attributes a map -/
structure ObjM (h : Heap) (x dx C : Addr) (mA : Str → Option Value) : Prop where
  obj : h.get? x = some (PySem.W.instObj C dx)
  ns : h.Ns1 dx mA
  ne : dx ≠ x

theorem lookIn_ns {h : Heap} {dx : Addr} {mA : Str → Option Value} (n : h.Ns1 dx mA) : ∃ od, h.get? dx = some od ∧ ∀ name, PySem.W.lookIn name od = some (mA name) := by
  obtain ⟨o, es, ep, ho, hd, hk, _, hm⟩ := n
  refine ⟨o, ho, fun name => ?_⟩
  have e := hm name
  unfold nsFind findBy at e
  rw [← Array.find?_toList] at e
  unfold PySem.W.lookIn
  rw [hd]
  dsimp only
  split
  · rename_i y q
    rw [q] at e
    exact congrArg some e
  · rename_i q
    rw [q] at e
    have a : es.toList.any (·.refKey) = false := by
      rw [List.any_eq_false]
      intro y hy
      obtain ⟨z, t, hkey⟩ := hk y (Array.mem_toList_iff.mp hy)
      simp [DictEntry.refKey, hkey]
    have a' : ¬ es.toList.any (·.refKey) = true := by rw [a]; exact Bool.false_ne_true
    rw [if_neg a']
    exact congrArg some e

theorem ObjM.look {h : Heap} {x dx C : Addr} {mA : Str → Option Value} (I : ObjM h x dx C mA) : ∃ od, PySem.W.InstAt h x (PySem.W.instObj C dx) C (some od) ∧ ∀ name, PySem.W.lookIn name od = some (mA name) :=
  let ⟨od, ho, hl⟩ := lookIn_ns I.ns
  ⟨od, ⟨I.obj, rfl, rfl, ho⟩, hl⟩

section
variable {prog : Program} {w : World} {A : Around} {E : Value → Shared → Prop} {s : Shared} {K : PySem.W.Frag} {x dx C f : Addr} {mA : Str → Option Value} {name : Str} {v : Value}

theorem get_meth {pl : Sem Bool} {Q : Value × List Value → Shared → Prop} (X : K.In s.heap) (I : ObjM s.heap x dx C mA) (hg : PySem.W.plainGet K C name = true)
    (hf : PySem.W.findIn K (.ref C) name = some (some (.ref f))) (ht : PySem.W.isFn K (.ref f) = true) (hv : mA name = none) (h : Q (.ref f, [.ref x]) s) :
    wpAny (model prog w) A (getMethod (.ref x) name pl) Q E s := by
  obtain ⟨od, J, hl⟩ := I.look
  exact PySem.W.method_fn X J (PySem.W.plainGet_of hg).1 (PySem.W.plainGet_of hg).2 hf (beq_iff_eq.mp ht) (by show (PySem.W.lookIn name od).map (·.isSome) = some false; rw [hl, hv]; rfl) h

/-- C() where there is no __init__ but object's -/
theorem make_map0 {R : Result → Shared → Prop} (X : K.In s.heap) (hm : PySem.W.makesIn K C = true)
    (hi : PySem.W.findIn K (.ref C) "__init__" = some (some (.builtin "object.__init__")))
    (hb : ∀ self, PySem.W.Looks (model prog w) s.heap (bindSpecial (.builtin "object.__init__") self) (.builtin "object.__init__", [self]))
    (h : codeAny (model prog w) (A.under (.builtin "type.__call__" ⟨[.ref C], []⟩)) (.call (.builtin "object.__init__") ⟨[.ref (s.heap.objs.size + 1)], []⟩) (PySem.W.InitBack (s.heap.objs.size + 1) R)
      { s with heap := (s.heap.push PySem.W.emptyDict).push (PySem.W.instObj C s.heap.objs.size) }) :
    codeAny (model prog w) A (.call (.ref C) ⟨[], []⟩) R s := by
  obtain ⟨hh, g, d, t, os⟩ := s
  exact PySem.W.make_core (PySem.W.makes_of X hm) (PySem.W.looks_findIn X hi) hb (.inr ⟨rfl, rfl⟩) h
end

/-! ### the attributes as a list of pairs -/
def putF (f : Str) (v : V) : List (Str × V) → List (Str × V)
  | [] => [(f, v)]
  | (g, x) :: r => if g = f then (g, v) :: r else (g, x) :: putF f v r
theorem RelO.none_of {o : Option Value} (r : RelO none o) : o = none := by
  cases o with
  | none => rfl
  | some u => exact (show False from r).elim
section
variable {P : Program} {w : World} {H H' : Hp} {h h' : Heap} {a C dx : Addr} {fs fs' : List (Str × V)}
theorem ins_get (hok : HOk P w H h) (e : H a = some (.ins C dx fs)) : ∃ mA, ObjM h a dx C mA ∧ (∀ f, RelO (fs.lookup f) (mA f)) ∧ PySem.Within mA (fs.map (·.1)) ∧ fs.length ≤ 1000 ∧ H dx = some (.own a) := by
  obtain ⟨d, z, ne, ob, mA, n, r, q⟩ := (show ObjOk P w H h a (.ins C dx fs) from hok a _ e)
  exact ⟨mA, ⟨ob, n, ne⟩, r, q, z, d⟩
end

/-! ### what of the text a class must have -/
structure Cls (K : PySem.W.Frag) (C : Addr) : Prop where
  pg : PySem.W.plainGet K C Str.empty = true
  hd : PySem.W.hasDictIn K C = true
  po : PySem.W.plainOver K C = true
  sa : PySem.W.findIn K (.ref C) "__setattr__" = some (some (.builtin "object.__setattr__"))
theorem Cls.get {K : PySem.W.Frag} {C : Addr} (c : Cls K C) (f : Str) : PySem.W.plainGet K C f = true := c.pg
/-- no class of it has the name -/
def NoAttr (K : PySem.W.Frag) (C : Addr) (f : Str) : Prop := PySem.W.findIn K (.ref C) f = some none
/-- a constant of the class -/
structure Con (K : PySem.W.Frag) (C : Addr) (f : Str) (v : V) (u : Value) : Prop where
  at_ : PySem.W.findIn K (.ref C) f = some (some u)
  rel : RelV v u
  get : PySem.W.specialIn K u "__get__" = some none
  cp : PySem.W.copiedNames.contains f = false
/-- a method: a plain def of the class or of one above it -/
structure Meth (K : PySem.W.Frag) (C : Addr) (m : Str) (f : Addr) : Prop where
  at_ : PySem.W.findIn K (.ref C) m = some (some (.ref f))
  fn : PySem.W.isFn K (.ref f) = true
  kp : PySem.W.keepIn K (.ref f) = true

section
variable {X : Cx} {pins : List (Addr × Obj)} {σ : St} {H : Hp} {s : Shared} {a C dx : Addr} {fs : List (Str × V)} {f : Str} {v : V} {A : Around} {E : Value → Shared → Prop}

theorem getmeth_ok {m : Str} {g : Addr} {pl : Sem Bool} {Q : Value × List Value → Shared → Prop} (I : Inv X pins σ H s) (e : H a = some (.ins C dx fs)) (c : Cls X.K C) (k : Meth X.K C m g) (l : fs.lookup m = none)
    (h : Q (.ref g, [.ref a]) s) : wpAny (model X.prog X.w) A (getMethod (.ref a) m pl) Q E s := by
  obtain ⟨mA, O, r, _, _, _⟩ := ins_get I.hok e
  have hn : mA m = none := RelO.none_of (by rw [← l]; exact r m)
  exact get_meth I.kIn O (c.get m) k.at_ k.fn hn h

/-- a new instance, tracked, without attributes -/
theorem Inv.made (I : Inv X pins σ H s) : Inv X pins σ (upd (upd H s.heap.objs.size (.own (s.heap.objs.size + 1))) (s.heap.objs.size + 1) (.ins C s.heap.objs.size []))
    { s with heap := (s.heap.push PySem.W.emptyDict).push (PySem.W.instObj C s.heap.objs.size) } := by
  have e1 : (s.heap.push PySem.W.emptyDict).get? s.heap.objs.size = some PySem.W.emptyDict := Heap.get?_push_size s.heap rfl
  have e2 : ((s.heap.push PySem.W.emptyDict).push (PySem.W.instObj C s.heap.objs.size)).get? (s.heap.objs.size + 1) = some (PySem.W.instObj C s.heap.objs.size) := by
    have := Heap.get?_push_size (s.heap.push PySem.W.emptyDict) (o := PySem.W.instObj C s.heap.objs.size) rfl
    rwa [Heap.size_push] at this
  have e3 : (s.heap.push PySem.W.emptyDict).Ns s.heap.objs.size (fun _ => none) := ⟨PySem.W.emptyDict, #[], _, e1, rfl, (fun e he => absurd he (by simp)), fun _ => rfl⟩
  have I1 := I.laid (a := s.heap.objs.size) (o := .own (s.heap.objs.size + 1)) (h' := s.heap.push PySem.W.emptyDict) (t' := s.toks) (fun b u q => Heap.get?_push_of_some _ q) (Nat.le_refl _) ⟨_, e1⟩
  refine I1.laid (a := s.heap.objs.size + 1) (o := .ins C s.heap.objs.size []) (t' := s.toks) (fun b u q => Heap.get?_push_of_some _ q) (Nat.le_of_eq (Heap.size_push _ _)) ?_
  have ne : s.heap.objs.size ≠ s.heap.objs.size + 1 := Nat.ne_of_lt (Nat.lt_succ_self _)
  refine ⟨by rw [upd_ne ne, upd_same], Nat.zero_le _, ne, e2, fun _ => none, (Heap.Ns1.of_empty e3).at fun o q => Heap.get?_push_of_some _ q, fun _ => True.intro, fun y hy => absurd rfl hy⟩

end

/-! ### readings and rules -/
/-- e.f, an attribute of the instance -/
def tFld (K : PySem.W.Frag) (ta : TE) (f : Str) : TE := fun σ H Q => ta σ H fun x H1 => ∃ a C dx fs v, x = .ref a ∧ H1 a = some (.ins C dx fs) ∧ Cls K C ∧ NoAttr K C f ∧ fs.lookup f = some v ∧ Q v H1
/-- e.f, a constant of the class -/
def tCon (K : PySem.W.Frag) (ta : TE) (f : Str) : TE := fun σ H Q => ta σ H fun x H1 => ∃ a C dx fs v u, x = .ref a ∧ H1 a = some (.ins C dx fs) ∧ Cls K C ∧ Con K C f v u ∧ fs.lookup f = none ∧ Q v H1
/-- e.f = value -/
def sFld (K : PySem.W.Frag) (ta tv : TE) (f : Str) : TS := fun D σ H => tv σ H fun y H1 => ta σ H1 fun x H2 => ∃ a C dx fs, x = .ref a ∧ H2 a = some (.ins C dx fs) ∧ Cls K C ∧ NoAttr K C f ∧ fs.length < 1000 ∧
  D.nx σ (upd H2 a (.ins C dx (putF f y fs)))
/-- an augmented operator on two values -/
def InOp (X : Cx) (op : Operator) (rd : V → V → Hp → VK → Prop) : Prop :=
  ∀ (pins : List (Addr × Obj)) (s : Shared) (σ : St) (H : Hp) (x y : V) (u v : Value) (Q : VK), Inv X pins σ H s → RelV x u → RelV y v → rd x y H Q → wpAny (model X.prog X.w) X.A (inplaceOp op u v) (EP X pins σ Q) X.xe s
/-- e.f op= value -/
def sFldAug (K : PySem.W.Frag) (ta tv : TE) (rd : V → V → Hp → VK → Prop) (f : Str) : TS := fun D σ H => ta σ H fun x H1 => ∃ a C dx fs v, x = .ref a ∧ H1 a = some (.ins C dx fs) ∧ Cls K C ∧ NoAttr K C f ∧ fs.lookup f = some v ∧
  tv σ H1 fun y H2 => rd v y H2 fun z H3 => ∃ dx' fs', H3 a = some (.ins C dx' fs') ∧ fs'.length < 1000 ∧ D.nx σ (upd H3 a (.ins C dx' (putF f z fs')))

section
variable {X : Cx} {o e value : Expr} {f : Str} {pos pos' tpos : Pos} {ta tv : TE}
def rAdd : V → V → Hp → VK → Prop := fun x y H Q => ∃ i j, x = .int i ∧ y = .int j ∧ Q (.int (i + j)) H
def rSub : V → V → Hp → VK → Prop := fun x y H Q => ∃ i j, x = .int i ∧ y = .int j ∧ Q (.int (i - j)) H
end

/-! ### isinstance -/
section
variable {X : Cx} {pins : List (Addr × Obj)} {σ : St} {H : Hp} {s : Shared} {A : Around} {E : Value → Shared → Prop} {Q : Value → Shared → Prop} {c : Value} {b : Bool}
/-- the type of a value, as the fragment's deciders take it; for an instance its class -/
inductive TyOf (K : PySem.W.Frag) (H : Hp) : V → Value → Prop where
  | non : TyOf K H .non (.type "NoneType")
  | bl (x : Bool) : TyOf K H (.bl x) (.type "bool")
  | int (i : Int) : TyOf K H (.int i) (.type "int")
  | str (x : Str) : TyOf K H (.str x) (.type "str")
  | flt (x : UInt64) : TyOf K H (.flt x) (.type "float")
  | lst {a : Addr} {xs : List V} (e : H a = some (.lst xs)) : TyOf K H (.ref a) (.type "list")
  | frz {a : Addr} {o : Obj} {xs : List V} (e : H a = some (.frz o (.lst xs))) : TyOf K H (.ref a) (.type "list")
  | tup {a : Addr} {xs : List V} (e : H a = some (.tup xs)) : TyOf K H (.ref a) (.type "tuple")
  | dK {a : Addr} {kvs : List (Key × V)} (e : H a = some (.dK kvs)) : TyOf K H (.ref a) (.type "dict")
  | ins {a C dx : Addr} {fs : List (Str × V)} (e : H a = some (.ins C dx fs)) (cl : Cls K C) (ha : PySem.W.findIn K (.ref C) "__class__" = some (some (.builtin "object.__class__")))
      (hn : PySem.W.specialIn K (.builtin "object.__class__") "__get__" = some (some (.builtin "getset_descriptor.__get__"))) (htk : PySem.W.takesIn K (.builtin "object.__class__") = some true)
      (hm : PySem.W.mroIn K C (.type "object") = some true) : TyOf K H (.ref a) (.ref C)
/-- isinstance(x, c) for one class c, a built-in or an own one: kitOne's answer -/
theorem isinst_ok {x : V} {u t : Value} (I : Inv X pins σ H s) (rx : RelV x u) (ty : TyOf X.K H x t) (e : PySem.W.kitOne X.K t c = some b) (h : ∀ tk, Q (.bool b) { s with toks := tk }) :
    wpAny (model X.prog X.w) A (call (.builtin "isinstance") [u, c]) Q E s := by
  cases ty with
  | non => cases (show u = Value.none from rx); exact PySem.W.kia_one PySem.W.kitx_none I.kIn True.intro e (fun z => nomatch z) h
  | bl y => cases (show u = Value.bool y from rx); exact PySem.W.kia_one PySem.W.kitx_bool I.kIn True.intro e (fun z => nomatch z) h
  | int i => obtain ⟨t, q⟩ := (show ∃ t, u = Value.int i t from rx); cases q; exact PySem.W.kia_one PySem.W.kitx_int I.kIn True.intro e (fun z => nomatch z) h
  | str y => obtain ⟨t, q⟩ := (show ∃ t, u = Value.str y t from rx); cases q; exact PySem.W.kia_one PySem.W.kitx_str I.kIn True.intro e (fun z => nomatch z) h
  | flt y => obtain ⟨t, q⟩ := (show ∃ t, u = Value.float y t from rx); cases q; exact PySem.W.kia_one PySem.W.kitx_float I.kIn True.intro e (fun z => nomatch z) h
  | @lst a xs ea =>
    cases (show u = Value.ref a from rx)
    obtain ⟨_, _, n, _, h1⟩ := (show ObjOk X.prog X.w H s.heap a (.lst xs) from I.hok a _ ea)
    exact PySem.W.kia_one PySem.W.kitx_list I.kIn ⟨_, h1, rfl⟩ e (fun z => nomatch z) h
  | @frz a ob xs ea =>
    cases (show u = Value.ref a from rx)
    obtain ⟨_, _, _, n, _, h1⟩ := (show ObjOk X.prog X.w H s.heap a (.frz ob (.lst xs)) from I.hok a _ ea)
    exact PySem.W.kia_one PySem.W.kitx_list I.kIn ⟨_, h1, rfl⟩ e (fun z => nomatch z) h
  | @tup a xs ea =>
    cases (show u = Value.ref a from rx)
    obtain ⟨_, _, _, p⟩ := (show ObjOk X.prog X.w H s.heap a (.tup xs) from I.hok a _ ea)
    obtain ⟨o, h1, h2, _⟩ := p
    exact PySem.W.kia_one PySem.W.kitx_tuple I.kIn ⟨o, h1, h2⟩ e (fun z => nomatch z) h
  | @dK a kvs ea =>
    cases (show u = Value.ref a from rx)
    obtain ⟨_, _, vs, _, p⟩ := (show ObjOk X.prog X.w H s.heap a (.dK kvs) from I.hok a _ ea)
    obtain ⟨o, es, ep, h1, h2, _⟩ := p
    exact PySem.W.kia_one PySem.W.kitx_dict I.kIn ⟨o, h1, h2.1⟩ e (fun z => nomatch z) h
  | @ins a C dx fs ea cl ha hn htk hm =>
    cases (show u = Value.ref a from rx)
    obtain ⟨mA, O, _⟩ := ins_get I.hok ea
    obtain ⟨od, J, _⟩ := O.look
    exact PySem.W.kia_one (PySem.W.kitx_own (cl.get _) cl.hd ha hn htk hm) I.kIn J e (fun z => nomatch z) h
end
end L2

namespace L2
open PySem PySem.Spec PyProof.Rows

/-! ### room -/
structure Room (k : Nat) (A : Around) : Prop where
  hd : A.handled = none
  dp : A.depth + 3 * k + 5 < recursionLimit
  un : A.units + 16 * k + 200 < cLine
theorem Room.mono {j k : Nat} {A : Around} (r : Room k A) (h : j ≤ k) : Room j A := ⟨r.hd, by have := r.dp; omega, by have := r.un; omega⟩
theorem Room.deeper {k : Nat} {A : Around} (r : Room (k + 1) A) (env : Env) : Room k (A.deeper env) :=
  ⟨r.hd, by have := r.dp; show A.depth + 1 + 3 * k + 5 < _; omega, by have := r.un; show A.units + 3 + 16 * k + 200 < _; omega⟩
theorem Room.in1 {k : Nat} {A : Around} (r : Room (k + 1) A) : Room k A.in1 :=
  ⟨r.hd, by have := r.dp; show A.depth + 3 * k + 5 < _; omega, by have := r.un; show A.units + 1 + 16 * k + 200 < _; omega⟩
theorem Room.depth {k : Nat} {A : Around} (r : Room k A) : A.depth < recursionLimit := by have := r.dp; omega
theorem Room.units {k : Nat} {A : Around} (r : Room k A) : A.units + 64 < cLine := by have := r.un; omega
/-! ### argument lists and displays -/
def tNil : TA := fun _ H Q => Q [] H
def tCons (ta : TE) (tr : TA) : TA := fun σ H Q => ta σ H fun x H1 => tr σ H1 fun xs H2 => Q (x :: xs) H2
section
variable {X : Cx} {e : Expr} {es : List Expr} {te : TE} {t : TA} {pos : Pos}
theorem pa_nil : PA X [] tNil := fun _ _ _ _ H Q I h => Calls.spliced_nil ⟨[], H, I, .nil, h⟩
theorem pa_cons (ha : PE X e te) (hr : PA X es t) (hs : starEach (e :: es) X.env = (false, eval e X.env) :: starEach es X.env := by rfl) : PA X (e :: es) (tCons te t) := by
  intro pos pins s σ H Q I h
  rw [hs]
  show wpAny _ _ (spliced ((false, eval e X.env) :: backTo pos (starEach es X.env))) _ _ s
  refine Calls.spliced_cons (thn (ha pins s σ H _ I h) fun u s1 ⟨x, H1, I1, r1, q1⟩ => ?_)
  exact thn (hr pos pins s1 σ H1 _ I1 q1) fun us s2 ⟨xs, H2, I2, r2, q2⟩ => ⟨x :: xs, H2, I2, .cons r1 r2, q2⟩

/-- a tuple, a list of written items -/
def tTup (t : TA) : TE := fun σ H Q => t σ H fun xs H1 => xs.length ≤ sizeLine ∧ ∀ p, H1 p = none → Q (.ref p) (upd H1 p (.tup xs))
def tLst (t : TA) : TE := fun σ H Q => t σ H fun xs H1 => xs.length ≤ sizeLine ∧ ∀ p, H1 p = none → Q (.ref p) (upd H1 p (.lst xs))
theorem pe_tup {x1} (h : PA X es t) : PE X (.Tuple es x1 pos) (tTup t) := by
  intro pins s σ H Q I hq
  refine wpAny_Tuple_spliced (thn (h pos pins s σ H _ I hq) fun us s1 ⟨xs, H1, I1, r, z, q⟩ => ⟨by rw [← r.length]; exact z, ?_⟩)
  have hf : H1 s1.heap.objs.size = none := I1.hok.fresh (Nat.le_refl _)
  refine ⟨.ref s1.heap.objs.size, upd H1 s1.heap.objs.size (.tup xs), I1.laid (t' := s1.toks) (fun b u e => Heap.get?_push_of_some _ e) (Nat.le_refl _) ?_, rfl, q _ hf⟩
  exact ⟨z, us, r, ⟨_, Heap.get?_push_size _ rfl, rfl, _, rfl⟩⟩
theorem pe_lst (h : PA X es t) : PE X (.List es pos) (tLst t) := by
  intro pins s σ H Q I hq
  refine wpAny_List_spliced (thn (h pos pins s σ H _ I hq) fun us s1 ⟨xs, H1, I1, r, z, q⟩ => ⟨by rw [← r.length]; exact z, ?_⟩)
  have hf : H1 s1.heap.objs.size = none := I1.hok.fresh (Nat.le_refl _)
  refine ⟨.ref s1.heap.objs.size, upd H1 s1.heap.objs.size (.lst xs), I1.laid (t' := s1.toks) (fun b u e => Heap.get?_push_of_some _ e) (Nat.le_refl _) ?_, rfl, q _ hf⟩
  exact ⟨z, us, 0, r, Heap.get?_push_size _ rfl⟩
end

/-! ### what a def promises -/
/-- a def's promise: the bound arguments in the parameters' order, the heap, the wanted end, the wanted exception -/
abbrev Sp := List V → Hp → VK → XK → Prop
/-- how an exception lies behind a call (file 08 gives it): the callers' frames, abstract heap and state ahead of the call, the wish, the exception, the state -/
abbrev CXT := List Env → Hp → Shared → XK → Value → Shared → Prop

/-- the state at a call -/
structure Env0 (P : Program) (w : World) (K : PySem.W.Frag) (mg : Str → Option Value) (base : Heap) (A : Around) (outer : List Env) (s : Shared) (H : Hp) : Prop where
  frames : A.frames = some outer
  mod : Mod K mg base
  bs : ∀ b o, base.get? b = some o → s.heap.get? b = some o ∧ H b = none
  bsz : base.objs.size ≤ s.heap.objs.size
  funs : s.heap.FunFrames base outer
  frf : ∀ b ∈ frs outer, H b = none
  hok : HOk P w H s.heap
  bare : AllBare s.gens
/-- a call's end -/
def CE (outer : List Env) (P : Program) (w : World) (H : Hp) (s : Shared) (Q : VK) (u : Value) (s' : Shared) : Prop :=
  ∃ v H', s'.os = s.os ∧ AllBare s'.gens ∧ Un (frs outer) [] H H' s.heap s'.heap ∧ HOk P w H' s'.heap ∧ RelV v u ∧ Q v H'
def CR (CX : CXT) (outer : List Env) (P : Program) (w : World) (H : Hp) (s : Shared) (Q : VK) (E : XK) (r : Result) (s' : Shared) : Prop :=
  match r with
  | .ok (.ret u) => CE outer P w H s Q u s'
  | .ok _ => False
  | .error e => CX outer H s E e s'
structure FnOk (P : Program) (w : World) (K : PySem.W.Frag) (mg : Str → Option Value) (base : Heap) (CX : CXT) (k : Nat) (f : Addr) (fd : FuncData) (ps : List Str) (sp : Sp) : Prop where
  len : ∀ vs H Q E, sp vs H Q E → vs.length = ps.length
  run : ∀ (A : Around) (outer : List Env) (s : Shared) (H : Hp) (args : Args) (us : List Value) (vs : List V) (Q : VK) (E : XK), Room k A → Env0 P w K mg base A outer s H → BindsTo s fd args (ps.zip us) → Vals vs us → sp vs H Q E →
    codeAny (model P w) A (.call (.ref f) args) (CR CX outer P w H s Q E) s
theorem FnOk.mono {P : Program} {w : World} {K : PySem.W.Frag} {mg : Str → Option Value} {base : Heap} {CX : CXT} {j k : Nat} {f : Addr} {fd : FuncData} {ps : List Str} {sp : Sp} (F : FnOk P w K mg base CX j f fd ps sp) (h : j ≤ k) :
    FnOk P w K mg base CX k f fd ps sp := ⟨F.len, fun A outer s H args us vs Q E hr => F.run A outer s H args us vs Q E (hr.mono h)⟩
/-- a weaker promise -/
theorem FnOk.imp {P : Program} {w : World} {K : PySem.W.Frag} {mg : Str → Option Value} {base : Heap} {CX : CXT} {k : Nat} {f : Addr} {fd : FuncData} {ps : List Str} {sp sp' : Sp} (F : FnOk P w K mg base CX k f fd ps sp)
    (h : ∀ vs H Q E, sp' vs H Q E → sp vs H Q E) : FnOk P w K mg base CX k f fd ps sp' :=
  ⟨fun vs H Q E q => F.len vs H Q E (h _ _ _ _ q), fun A outer s H args us vs Q E hr he hb hv hs => F.run A outer s H args us vs Q E hr he hb hv (h _ _ _ _ hs)⟩

theorem Env0.in1 {P : Program} {w : World} {K : PySem.W.Frag} {mg : Str → Option Value} {base : Heap} {A : Around} {outer : List Env} {s : Shared} {H : Hp} (e : Env0 P w K mg base A outer s H) :
    Env0 P w K mg base A.in1 outer s H := ⟨e.frames, e.mod, e.bs, e.bsz, e.funs, e.frf, e.hok, e.bare⟩

section
variable {X : Cx} {pins : List (Addr × Obj)} {σ : St} {H : Hp} {s s' : Shared}
/-- from a body: what a callee wants -/
theorem Inv.env0 (I : Inv X pins σ H s) : Env0 X.prog X.w X.K X.mg X.base X.A X.stack s H :=
  ⟨I.ok.frames, I.ok.mod, I.bs, Nat.le_trans I.ok.bsz I.sz, I.stack, I.stkFree, I.hok, I.bare⟩
/-- behind a call -/
theorem Inv.after {Q : VK} {u : Value} (I : Inv X pins σ H s) (h : CE X.stack X.prog X.w H s Q u s') : EP X pins σ Q u s' := by
  obtain ⟨v, H', os, bare, un, hok, r, q⟩ := h
  obtain ⟨hh, g, d, t, os'⟩ := s'
  obtain rfl : os' = s.os := os
  exact ⟨v, H', I.call (h' := hh) (g' := g) (d' := d) (t' := t) (ch := []) un hok bare (fun b z => absurd z (by simp)), r, q⟩
end

/-! ### calls -/
/-- f(..): the written arguments, then the defaults dvs; E: what is wanted of an exception -/
def tCall (sp : Sp) (dvs : List V) (E : XK) (t : TA) : TE := fun σ H Q => t σ H fun vs H1 => sp (vs ++ dvs) H1 Q E
/-- o.m(..) of an instance of the class at C -/
def tMeth (C : Addr) (m : Str) (sp : Sp) (dvs : List V) (E : XK) (ta : TE) (t : TA) : TE := fun σ H Q => ta σ H fun x H1 => ∃ a dx fs, x = .ref a ∧ H1 a = some (.ins C dx fs) ∧ fs.lookup m = none ∧
  t σ H1 fun vs H2 => sp (x :: (vs ++ dvs)) H2 Q E
/-- C(..): a new instance and its dict, then __init__ -/
def tMake (C : Addr) (sp : Sp) (dvs : List V) (E : XK) (t : TA) : TE := fun σ H Q => t σ H fun vs H1 => ∀ x dx, H1 x = none → H1 dx = none → dx ≠ x →
  sp (.ref x :: (vs ++ dvs)) (upd (upd H1 dx (.own x)) x (.ins C dx [])) (fun v H2 => v = .non ∧ Q (.ref x) H2) E

/-- how the parameters are bound: us the positional arguments, kw the keywords' values by name, ds the defaults that fill up -/
def Binds (K : PySem.W.Frag) (fd : FuncData) (ps : List Str) (ds : List Value) : Prop :=
  ∀ (s : Shared) (us : List Value), K.In s.heap → (us ++ ds).length = ps.length → BindsTo s fd ⟨us, []⟩ (ps.zip (us ++ ds))
/-- every parameter is given -/
theorem Binds.all {K : PySem.W.Frag} {fd : FuncData} {ps : List Str} (h : ∀ us : List Value, us.length = ps.length → bindArgs fd ⟨us, []⟩ = pure (ps.zip us)) : Binds K fd ps [] := fun s us _ hl => by
  rw [List.append_nil] at hl ⊢
  exact .of_eq (h us hl)

/-- an exception of a callee reaches what this body wants of exceptions -/
def Passes (CX : CXT) (X : Cx) (E : XK) : Prop := ∀ (pins : List (Addr × Obj)) (σ : St) (H : Hp) (s : Shared) (e : Value) (s' : Shared), Inv X pins σ H s → CX X.stack H s E e s' → X.xe e s'

section
variable {X : Cx} {CX : CXT} {k : Nat} {f C : Addr} {fd : FuncData} {ps : List Str} {sp : Sp} {dvs : List V} {ds : List Value} {E : XK} {x m : Str} {p pos apos : Pos} {e o : Expr} {es : List Expr} {ta : TE} {t : TA}

/-- the callee runs -/
theorem run_fn {pins : List (Addr × Obj)} {σ : St} {H : Hp} {s : Shared} {Q : VK} {us : List Value} {vs : List V} (F : FnOk X.prog X.w X.K X.mg X.base CX k f fd ps sp) (hr : Room k X.A) (hb : Binds X.K fd ps ds) (hd : Vals dvs ds) (hx : Passes CX X E)
    (I : Inv X pins σ H s) (r : Vals vs us) (h : sp (vs ++ dvs) H Q E) : wpAny (model X.prog X.w) X.A (call (.ref f) us) (EP X pins σ Q) X.xe s := by
  have r2 : Vals (vs ++ dvs) (us ++ ds) := r.append hd
  have hl : (us ++ ds).length = ps.length := by rw [← r2.length]; exact F.len _ _ _ _ h
  refine wpAny_call (codeAny_mono (F.run X.A X.stack s H ⟨us, []⟩ (us ++ ds) (vs ++ dvs) Q E hr I.env0 (hb s us I.kIn hl) r2 h) fun r s' hq => ?_)
  cases r with
  | error e => exact hx pins σ H s e s' I hq
  | ok fl =>
    cases fl with
    | ret u => exact I.after hq
    | next => exact False.elim hq
    | brk => exact False.elim hq
    | cont => exact False.elim hq

theorem pe_call (F : FnOk X.prog X.w X.K X.mg X.base CX k f fd ps sp) (hr : Room k X.A) (hg : Gl X x) (hm : X.mg x = some (.ref f)) (hk : PySem.W.keepIn X.K (.ref f) = true) (hb : Binds X.K fd ps ds) (hd : Vals dvs ds) (hx : Passes CX X E)
    (ha : PA X (e :: es) t) (hdb : (x == ("__debug__" : Str)) = false := by decide) (he : starEach (e :: es) X.env = (false, eval e X.env) :: starEach es X.env := by rfl) (hpl : (backTo pos (starEach es X.env)).any (·.1) = false := by rfl) :
    PE X (.Call (.Name x p) (e :: es) [] pos) (tCall sp dvs E t) := by
  intro pins s σ H Q I h
  refine wpAny_Call_Name_kw (ld_glob I hg hm ?_ hdb)
  refine PySem.W.callWith_K (h₀ := X.base) I.ok.mod.kin hk (thn (ha pos pins s σ H _ I h) fun us s1 ⟨vs, H1, I1, r, q⟩ => ⟨I1.kIn, ?_⟩) he hpl
  exact run_fn F hr hb hd hx I1 r q
/-- what a class must have to be made -/
structure Mk (K : PySem.W.Frag) (C f : Addr) : Prop where
  makes : PySem.W.makesIn K C = true
  init : PySem.W.findIn K (.ref C) "__init__" = some (some (.ref f))
  fn : PySem.W.isFn K (.ref f) = true
  kp : PySem.W.keepIn K (.ref C) = true

end

/-! ### keywords -/
/-- the values of the keywords, from the left -/
def PK (X : Cx) (kws : List Keyword) (t : TA) : Prop :=
  ∀ (pos : Pos) (pins : List (Addr × Obj)) (s : Shared) (σ : St) (H : Hp) (Q : List V → Hp → Prop), Inv X pins σ H s → t σ H Q → wpAny (model X.prog X.w) X.A (evalAll ((backToKw pos (keywordEach kws X.env)).map (·.2))) (AP X pins σ Q) X.xe s
section
variable {X : Cx} {CX : CXT} {k : Nat} {f C : Addr} {fd : FuncData} {ps ks : List Str} {sp : Sp} {E : XK} {x m : Str} {p pos apos kpos : Pos} {e o : Expr} {es : List Expr} {kws : List Keyword} {te ta : TE} {t tk : TA} {nm : Option Str}
/-- how a call with keywords binds: g puts the positional values us and the keywords' values ws (names ks) in the parameters' order, defaults among them -/
structure KBinds (K : PySem.W.Frag) (fd : FuncData) (ps ks : List Str) (g : List Value → List Value → List Value) (gV : List V → List V → List V) : Prop where
  to : ∀ (s : Shared) (us ws : List Value), K.In s.heap → (g us ws).length = ps.length → BindsTo s fd ⟨us, ks.zip ws⟩ (ps.zip (g us ws))
  rel : ∀ {vs : List V} {us : List Value} {zs : List V} {ws : List Value}, Vals vs us → Vals zs ws → Vals (gV vs zs) (g us ws)
def tCallK (sp : Sp) (gV : List V → List V → List V) (E : XK) (t tk : TA) : TE := fun σ H Q => t σ H fun vs H1 => tk σ H1 fun zs H2 => sp (gV vs zs) H2 Q E
variable {g : List Value → List Value → List Value} {gV : List V → List V → List V}
end

/-! ### a def's body keeps its promise -/
/-- names: the parameters first -/
structure FnScope (N P : List Str) (sc : Scope) : Prop where
  kind : sc.kind = .function
  co : sc.isCoroutine = false
  gen : sc.isGenerator = false
  nd : N.Nodup
  pre : N.take P.length = P
  par : ∀ x ∈ P, sc.names.lookup x = some .local ∨ sc.names.lookup x = some .cell
  nofree : ∀ y ∈ sc.names, y.2 ≠ .free

theorem bindL_out {kindOf : Str → Option NameKind} {x : Str} : ∀ {binds : List (Str × Value)} {m : Str → Option Value}, (∀ v, (x, v) ∉ binds) → bindL kindOf binds m x = m x
  | [], _, _ => rfl
  | (n, v) :: r, m, h => by
    unfold bindL
    rw [bindL_out fun w hw => h w (List.mem_cons_of_mem _ hw)]
    split
    · have : x ≠ n := by rintro rfl; exact h v List.mem_cons_self
      simp [this]
    · rfl
theorem bindC_out {kindOf : Str → Option NameKind} {x : Str} : ∀ {binds : List (Str × Value)} {m : Str → Option Value}, (∀ v, (x, v) ∉ binds) → bindC kindOf binds m x = m x
  | [], _, _ => rfl
  | (n, v) :: r, m, h => by
    unfold bindC
    rw [bindC_out fun w hw => h w (List.mem_cons_of_mem _ hw)]
    split
    · rfl
    · have : x ≠ n := by rintro rfl; exact h v List.mem_cons_self
      simp [this]
theorem bindL_get {kindOf : Str → Option NameKind} {x : Str} {v : Value} : ∀ {P : List Str} {vs : List Value} {i : Nat} {m : Str → Option Value}, P.Nodup → P[i]? = some x → vs[i]? = some v → kindOf x = some .local →
    bindL kindOf (P.zip vs) m x = some v
  | [], _, _, _, _, h, _, _ => by simp at h
  | _ :: _, [], _, _, _, _, h, _ => by simp at h
  | p :: P, w :: vs, 0, m, nd, h1, h2, hk => by
    simp at h1 h2; subst h1; subst h2
    show bindL kindOf ((p, w) :: P.zip vs) m p = _
    unfold bindL
    rw [bindL_out fun v hv => (List.nodup_cons.mp nd).1 (List.of_mem_zip hv).1, if_pos hk]
    simp
  | p :: P, w :: vs, i + 1, m, nd, h1, h2, hk => by
    show bindL kindOf ((p, w) :: P.zip vs) m x = _
    unfold bindL
    exact bindL_get (i := i) (List.nodup_cons.mp nd).2 (by simpa using h1) (by simpa using h2) hk
theorem bindC_get {kindOf : Str → Option NameKind} {x : Str} {v : Value} : ∀ {P : List Str} {vs : List Value} {i : Nat} {m : Str → Option Value}, P.Nodup → P[i]? = some x → vs[i]? = some v → kindOf x ≠ some .local →
    bindC kindOf (P.zip vs) m x = some v
  | [], _, _, _, _, h, _, _ => by simp at h
  | _ :: _, [], _, _, _, _, h, _ => by simp at h
  | p :: P, w :: vs, 0, m, nd, h1, h2, hk => by
    simp at h1 h2; subst h1; subst h2
    show bindC kindOf ((p, w) :: P.zip vs) m p = _
    unfold bindC
    rw [bindC_out fun v hv => (List.nodup_cons.mp nd).1 (List.of_mem_zip hv).1, if_neg hk]
    simp
  | p :: P, w :: vs, i + 1, m, nd, h1, h2, hk => by
    show bindC kindOf ((p, w) :: P.zip vs) m x = _
    unfold bindC
    exact bindC_get (i := i) (List.nodup_cons.mp nd).2 (by simpa using h1) (by simpa using h2) hk

/-- the names' values at the entry -/
def start (N : List Str) (vs : List V) : St := vs.map some ++ List.replicate (N.length - vs.length) none

/-- the context of a def's body, at its entry; an exception leaves the frame, then lies as CX says -/
def cxOf (CX : CXT) (P : Program) (w : World) (K : PySem.W.Frag) (mg : Str → Option Value) (base : Heap) (N : List Str) (qual : Str) (scope : Scope) (f : Addr) (cd : Value) (A : Around) (outer : List Env) (s : Shared) (H : Hp) (E : XK) : Cx where
  prog := P
  w := w
  K := K
  mg := mg
  base := base
  A := A.deeper (envOfC qual scope s.heap.objs.size f cd)
  N := N
  s₀ := s
  H₀ := H
  env := envOfC qual scope s.heap.objs.size f cd
  outer := outer
  stack := envOfC qual scope s.heap.objs.size f cd :: outer
  ex := []
  calm := true
  fn := fun _ => true
  pn := []
  xe := fun e s' => wpAny (model P w) (A.deeper (envOfC qual scope s.heap.objs.size f cd)) (leaving (envOfC qual scope s.heap.objs.size f cd) e) (fun _ s'' => CX outer H s E e s'') (fun e' s'' => CX outer H s E e' s'') s'

theorem cell_has {sc : Scope} {n : Nat} {x : Str} (h : sc.names.lookup x = some .cell) : ∃ c, (cellsFrom n sc.names []).lookup x = some c := by
  have q := PySem.W.cellsFrom_some sc.names n [] (.inl h)
  exact Option.isSome_iff_exists.mp q

theorem inv_start {CX : CXT} {P : Program} {w : World} {K : PySem.W.Frag} {mg : Str → Option Value} {base : Heap} {N ps : List Str} {qual : Str} {scope : Scope} {f : Addr} {cd : Value} {A : Around} {outer : List Env} {s s1 : Shared} {H : Hp} {E : XK} {us : List Value} {vs : List V}
    (S : FnScope N ps scope) (hd : A.handled = none) (e0 : Env0 P w K mg base A outer s H) (hl : vs.length = ps.length) (r : Vals vs us)
    (x : InCallC s s.heap.objs.size (bindL (envOfC qual scope s.heap.objs.size f cd).kindOf (ps.zip us) fun _ => none) (cellsFrom (s.heap.objs.size + 1) scope.names []) (bindC (envOfC qual scope s.heap.objs.size f cd).kindOf (ps.zip us) fun _ => none) s1) :
    Inv (cxOf CX P w K mg base N qual scope f cd A outer s H E) [] (start N vs) H s1 := by
  have hpl : ps.length ≤ N.length := by have := congrArg List.length S.pre; rw [List.length_take] at this; omega
  obtain ⟨h1, tk, rfl, hk⟩ := x.done
  have noA : ∀ b : Addr, b ∉ (cxOf CX P w K mg base N qual scope f cd A outer s H E).ex := fun b z => absurd (show b ∈ ([] : List Addr) from z) (by simp)
  refine ⟨⟨e0.mod, S.kind, rfl, rfl, Nat.le_refl _, fun y z c h1 h2 => ?_, fun y hy => ?_, fun y c _ h => ?_, fun _ => hd, Around.frames_deeper e0.frames, .inr ⟨rfl, rfl⟩, fun b z => absurd z (noA b), e0.bs, e0.bsz, fun b _ _ => noA b, fun b z => absurd z (noA b), e0.funs, e0.frf⟩,
    rfl, e0.bare, Un.kept hk, ⟨_, x.toInCall.ns, fun i y v h1 h2 h3 => ?_⟩, fun y c h => ⟨_, x.cell y c h⟩, e0.hok.fresh (Nat.le_refl _), fun y c h => ?_, fun p hp => absurd (show p ∈ ([] : List (Addr × Obj)) from hp) (by simp), e0.hok.kept hk, ?_⟩
  · exact name_of_addr x.apart (PySem.mem_of_lookup h1) (PySem.mem_of_lookup h2)
  · have hy : scope.names.lookup y = some .cell ∨ scope.names.lookup y = some .free := hy
    rcases hy with hy | hy
    · exact cell_has hy
    · exact absurd rfl (S.nofree _ (PySem.mem_of_lookup hy))
  · exact Nat.le_of_lt (x.above y c (PySem.mem_of_lookup h))
  · have hi : i < vs.length := by
      unfold start at h2
      by_cases hi : i < vs.length
      · exact hi
      · rw [List.getElem?_append_right (by simpa using hi)] at h2
        rw [List.getElem?_replicate] at h2
        split at h2 <;> cases h2
    have ha : vs[i]? = some v := by
      unfold start at h2
      rw [List.getElem?_append_left (by simpa using hi), List.getElem?_map] at h2
      cases e : vs[i]? with
      | none => rw [e] at h2; cases h2
      | some a => rw [e] at h2; cases h2; rfl
    obtain ⟨u, hu, rv⟩ := r.get ha
    have hp : ps[i]? = some y := by
      rw [← S.pre, List.getElem?_take_of_lt (by omega)]; exact h1
    have ndP : ps.Nodup := by rw [← S.pre]; exact S.nd.sublist (List.take_sublist _ _)
    refine ⟨u, rv, ?_⟩
    rcases S.par y (List.mem_of_getElem? hp) with k | k
    · exact .inl ⟨k, bindL_get ndP hp hu k⟩
    · obtain ⟨c, e⟩ := cell_has (n := s.heap.objs.size + 1) k
      refine .inr ⟨.inl k, c, e, ?_⟩
      have q := x.cell y c e
      rw [bindC_get ndP hp hu (by show scope.names.lookup y ≠ _; rw [k]; decide)] at q
      exact q
  · exact e0.hok.fresh (Nat.le_of_lt (x.above y c (PySem.mem_of_lookup h)))
  · unfold start
    show _ = N.length
    rw [List.length_append, List.length_map, List.length_replicate]
    omega

/-- THE RULE: a def (or a method) of the text, by its body. The body's reading t is chosen for each entry; it is run at the parameters' values -/
theorem fn_of {CX : CXT} {P : Program} {w : World} {K : PySem.W.Frag} {mg : Str → Option Value} {base : Heap} {k : Nat} {f : Addr} {name qual : Str} {params : Arguments} {body : List Stmt} {scope : Scope} {dV kV doc pm cdv ct oc : Value} {an od : Option Addr}
    {osl : Array (Option Value)} {N ps : List Str} {sp : Sp} (lk : K.lookup f = some ⟨oc, od, .func (PySem.W.fnOf name qual params body scope dV kV doc pm an cdv ct), osl⟩) (hcd : PySem.W.codeIn K cdv qual = true) (S : FnScope N ps scope)
    (len : ∀ vs H Q E, sp vs H Q E → vs.length = ps.length)
    (hbody : ∀ (A : Around) (outer : List Env) (s : Shared) (H : Hp) (vs : List V) (Q : VK) (E : XK), Room k (A.deeper (envOfC qual scope s.heap.objs.size f cdv)) → sp vs H Q E →
      ∃ t, PSs (cxOf CX P w K mg base N qual scope f cdv A outer s H E) body t ∧ t { nx := fun _ H' => Q .non H', rt := Q } (start N vs) H) :
    FnOk P w K mg base CX (k + 1) f (PySem.W.fnOf name qual params body scope dV kV doc pm an cdv ct) ps sp := by
  refine ⟨len, fun A outer s H args us vs Q E hr e0 hb r hsp => ?_⟩
  have hl := len _ _ _ _ hsp
  have KX : K.In s.heap := e0.mod.kin.keeps fun b o e => (e0.bs b o e).1
  have lim : s.heap.NoLimit := e0.mod.nolimit.keeps fun b o e => (e0.bs b o e).1
  have hkind : ∀ y ∈ ps.zip us, scope.names.lookup y.1 = some .local ∨ (scope.names.lookup y.1 = some .cell ∧ ((cellsFrom (s.heap.objs.size + 1) scope.names []).lookup y.1).isSome = true) := fun ⟨n, v⟩ hy => by
    rcases S.par n (List.of_mem_zip hy).1 with q | q
    · exact .inl q
    · exact .inr ⟨q, PySem.W.cellsFrom_some _ _ _ (.inl q)⟩
  refine codeAny_call_function hr.depth (KX _ _ lk) rfl S.co S.gen rfl (PySem.W.codeRec_of KX hcd) (hb _ _ _ _ ?_)
  refine wpAny_newFunctionEnv_cells S.kind hkind fun env he s1 x => ?_
  subst he
  refine ⟨lim.keeps x.toInCall.keep, codeAny_func ?_⟩
  obtain ⟨t, ht, hq⟩ := hbody A outer s H vs Q E (hr.deeper _) hsp
  have I : Inv (cxOf CX P w K mg base N qual scope f cdv A outer s H E) [] (start N vs) H s1 := inv_start S hr.hd e0 hl r x
  refine wpAny_mono (ht [] s1 (start N vs) H _ I hq) (fun fl s' hs => ?_) fun e s' hs => hs
  have fin : ∀ {σ' : St} {H' : Hp} {v : V} {u : Value}, Inv (cxOf CX P w K mg base N qual scope f cdv A outer s H E) [] σ' H' s' → RelV v u → Q v H' → CE outer P w H s Q u s' :=
    fun {σ' H' v u} J rv q => ⟨v, H', J.os, J.bare, J.base, J.hok, rv, q⟩
  cases fl with
  | ret u =>
    obtain ⟨v, σ', H', J, rv, q⟩ := hs
    exact fin J rv q
  | next =>
    obtain ⟨σ', H', J, q⟩ := hs
    exact fin (v := V.non) (u := Value.none) J rfl q
  | brk =>
    obtain ⟨_, _, _, q⟩ := hs
    exact False.elim q
  | cont =>
    obtain ⟨_, _, _, q⟩ := hs
    exact False.elim q
end L2

namespace L2
open PySem PySem.Spec PyProof.Rows
section
variable {X : Cx} {x : Str} {p pos : Pos} {e : Expr} {es : List Expr} {t : TA} {id T : String} {r : List V → Hp → VK → Prop}

def tCB (r : List V → Hp → VK → Prop) (t : TA) : TE := fun σ H Q => t σ H fun vs H1 => r vs H1 Q
/-- f(e, ..), f a built-in function -/
theorem pe_callB (hc : CallR X (.builtin id) r) (hg : Gl X x) (hm : X.mg x = none) (hv : bootBuiltins x = some (.builtin id)) (ha : PA X (e :: es) t) (hn : x ≠ "__name__" := by decide) (hdb : (x == ("__debug__" : Str)) = false := by decide)
    (he : starEach (e :: es) X.env = (false, eval e X.env) :: starEach es X.env := by rfl) (hpl : (backTo pos (starEach es X.env)).any (·.1) = false := by rfl) : PE X (.Call (.Name x p) (e :: es) [] pos) (tCB r t) := by
  intro pins s σ H Q I h
  refine wpAny_Call_Name_kw (ld_blt I hg hm hv ?_ hn hdb)
  exact PyProof.Rows.callWith_builtin1 (thn (ha pos pins s σ H _ I h) fun us s1 ⟨vs, H1, I1, r1, q1⟩ => hc pins s1 σ H1 vs us Q I1 r1 q1) he hpl
/-- T(e, ..), T a built-in type -/
theorem pe_callTy (hc : CallR X (.type T) r) (hg : Gl X x) (hm : X.mg x = none) (hv : bootBuiltins x = some (.type T)) (ha : PA X (e :: es) t) (hn : x ≠ "__name__" := by decide) (hdb : (x == ("__debug__" : Str)) = false := by decide)
    (he : starEach (e :: es) X.env = (false, eval e X.env) :: starEach es X.env := by rfl) (hpl : (backTo pos (starEach es X.env)).any (·.1) = false := by rfl) : PE X (.Call (.Name x p) (e :: es) [] pos) (tCB r t) := by
  intro pins s σ H Q I h
  refine wpAny_Call_Name_kw (ld_blt I hg hm hv ?_ hn hdb)
  exact PyProof.Rows.callWith_type1 (thn (ha pos pins s σ H _ I h) fun us s1 ⟨vs, H1, I1, r1, q1⟩ => hc pins s1 σ H1 vs us Q I1 r1 q1) he hpl
end
end L2

namespace HT
open PySem PyProof.Rows

/-- t < u of tuples of ints -/
def lexLt : List Int → List Int → Bool
  | [], [] => false
  | [], _ :: _ => true
  | _ :: _, [] => false
  | x :: xs, y :: ys => if x = y then lexLt xs ys else decide (x < y)
section
open PySem.SeqAt
open PySem.AutoSeq1 (wpAny_loadPart')
open PySem.MeetsSeq PySem.MeetsSeq2 PySem.MeetsSeq3

end

section
variable {prog : Program} {w : World} {A : Around} {E : Value → Shared → Prop} {s : Shared}

/-! ### t[a:b], not the whole -/
/-- a slice's bound as a place among n (d where it is left out) -/
def sIx (n d : Nat) : Option Int → Nat
  | none => d
  | some v => if v < 0 then (v + (n : Int)).toNat else min v.toNat n
theorem sIx_nat (n d k : Nat) : sIx n d (some (k : Int)) = min k n := by
  show (if (k : Int) < 0 then ((k : Int) + (n : Int)).toNat else min (k : Int).toNat n) = min k n
  rw [if_neg (by omega), Int.toNat_natCast]
end
end HT

namespace L2
open PySem PySem.Spec PyProof.Rows

/-! ### the parts of a slice -/
abbrev TO := St → Hp → (Option Int → Hp → Prop) → Prop
/-- a slice's part (left out, or an int) -/
def PO (X : Cx) (e : Option Expr) (t : TO) : Prop :=
  ∀ (pins : List (Addr × Obj)) (s : Shared) (σ : St) (H : Hp) (Q : Option Int → Hp → Prop), Inv X pins σ H s → t σ H Q →
    wpAny (model X.prog X.w) X.A (evalPart e X.env) (fun u s' => ∃ o H', Inv X pins σ H' s' ∧ IsPart u o ∧ Q o H') X.xe s
def tNoPart : TO := fun _ H Q => Q none H
def tPart (t : TE) : TO := fun σ H Q => t σ H fun x H1 => ∃ i, x = .int i ∧ Q (some i) H1

section
variable {X : Cx} {e : Expr} {te : TE} {lo hi : Option Expr} {tl th : TO} {pos p2 : Pos}

theorem po_none : PO X none tNoPart := by
  intro pins s σ H Q I h
  rw [evalPart_none]
  exact wpAny_pure ⟨none, H, I, .none, h⟩
theorem po_some (h : PE X e te) : PO X (some e) (tPart te) := by
  intro pins s σ H Q I hw
  rw [evalPart_some]
  refine thn (h pins s σ H _ I hw) fun u s1 ⟨x, H1, I1, r1, q1⟩ => ?_
  obtain ⟨i, rfl, q⟩ := q1
  obtain ⟨t, rfl⟩ := r1
  exact ⟨some i, H1, I1, .int i t, q⟩

/-- what a slice of a value is, by values: the slice object stands at sl -/
def SlR (X : Cx) (r : V → Option Int → Option Int → Hp → VK → Prop) : Prop :=
  ∀ (pins : List (Addr × Obj)) (s : Shared) (σ : St) (H : Hp) (x : V) (v vl vu : Value) (lo hi : Option Int) (sl : Addr) (Q : VK), Inv X pins σ H s → RelV x v → s.heap.IsSliceOf sl vl vu .none → IsPart vl lo → IsPart vu hi → r x lo hi H Q →
    ∃ T id, typeLookup (.type T) "__getitem__" = pure (some (.builtin id)) ∧ s.TypeIs v T ∧ wpAny (model X.prog X.w) X.A (getItem v (.ref sl)) (EP X pins σ Q) X.xe s
theorem SlR.or {r r' : V → Option Int → Option Int → Hp → VK → Prop} (h : SlR X r) (h' : SlR X r') : SlR X (fun x lo hi H Q => r x lo hi H Q ∨ r' x lo hi H Q) := by
  intro pins s σ H x v vl vu lo hi sl Q I rx hs pl pu q
  rcases q with q | q
  · exact h pins s σ H x v vl vu lo hi sl Q I rx hs pl pu q
  · exact h' pins s σ H x v vl vu lo hi sl Q I rx hs pl pu q
def tSl (r : V → Option Int → Option Int → Hp → VK → Prop) (te : TE) (tl th : TO) : TE := fun σ H Q => te σ H fun x H1 => tl σ H1 fun l H2 => th σ H2 fun u H3 => r x l u H3 Q
/-- a[lo:hi], any a -/
theorem pe_slice {r : V → Option Int → Option Int → Hp → VK → Prop} (hr : SlR X r) (he : PE X e te) (hl : PO X lo tl) (hu : PO X hi th) : PE X (.Subscript e (.Slice lo hi none p2) pos) (tSl r te tl th) := by
  intro pins s σ H Q I h
  refine Subscript_ (thn (he pins s σ H _ I h) fun v s1 ⟨x, H1, I1, r1, q1⟩ => ?_)
  refine wpAny_Slice (thn (hl pins s1 σ H1 _ I1 q1) fun vl s2 ⟨l, H2, I2, pl, q2⟩ => thn (hu pins s2 σ H2 _ I2 q2) fun vu s3 ⟨u, H3, I3, pu, q3⟩ => ?_)
  rw [evalPart_none]
  refine wpAny_pure ?_
  have I4 : Inv X pins σ H3 { s3 with heap := s3.heap.push { cls := .type "slice", data := .fields #[vl, vu, .none] } } := I3.kept (t' := s3.toks) fun b ob q => Heap.get?_push_of_some _ q
  obtain ⟨T, id, hT, ht, hg⟩ := hr pins { s3 with heap := s3.heap.push { cls := .type "slice", data := .fields #[vl, vu, .none] } } σ H3 x v vl vu l u s3.heap.objs.size Q I4 r1 (Heap.IsSliceOf.new ..) pl pu q3
  show wpAny (model X.prog X.w) X.A (subscriptTail e (.Slice lo hi none p2) v (.ref s3.heap.objs.size)) (EP X pins σ Q) X.xe { s3 with heap := s3.heap.push { cls := .type "slice", data := .fields #[vl, vu, .none] } }
  exact tail_any (ops := [.ref s3.heap.objs.size, v]) ht hT hg (by with_unfolding_all rfl)

/-- the items of xs[lo:hi] -/
def cutV (xs : List V) (lo hi : Option Int) : List V := (xs.drop (HT.sIx xs.length 0 lo)).take (HT.sIx xs.length xs.length hi - HT.sIx xs.length 0 lo)
theorem cutV_length (xs : List V) (lo hi : Option Int) : (cutV xs lo hi).length ≤ xs.length := by
  unfold cutV
  rw [List.length_take, List.length_drop]
  omega
/-- t[lo:hi], not the whole of it (the whole would be t itself) -/
def rSlT (K : PySem.W.Frag) : V → Option Int → Option Int → Hp → VK → Prop := fun x lo hi H Q => ∃ a xs, x = .ref a ∧ SqT K H a xs ∧
  ¬ (HT.sIx xs.length 0 lo = 0 ∧ HT.sIx xs.length xs.length hi = xs.length) ∧ ∀ p, H p = none → Q (.ref p) (upd H p (.tup (cutV xs lo hi)))
/-! ### t < u, t + u -/
def rLtT (K : PySem.W.Frag) : R2 := fun x y H Q => ∃ a b ns ms, x = .ref a ∧ y = .ref b ∧ SqT K H a (ns.map V.int) ∧ SqT K H b (ms.map V.int) ∧ Q (.bl (HT.lexLt ns ms)) H
/-- t + u, t not empty: u empty gives t itself -/
def rCatT (K : PySem.W.Frag) : R2 := fun x y H Q => ∃ a b xs ys, x = .ref a ∧ y = .ref b ∧ SqT K H a xs ∧ SqT K H b ys ∧ xs ≠ [] ∧ xs.length + ys.length ≤ sizeLine ∧
  (ys = [] → Q (.ref a) H) ∧ (ys ≠ [] → ∀ p, H p = none → Q (.ref p) (upd H p (.tup (xs ++ ys))))
end
end L2

namespace L2
open PySem PySem.Spec PyProof.Rows

/-! ### places -/
/-- the place that an index of any sign means -/
def ixN (n : Nat) (i : Int) : Option Nat := if 0 ≤ i then (if i < n then some i.toNat else none) else if -(n : Int) ≤ i then some (i + n).toNat else none
def atI {α : Type} (xs : List α) (i : Int) : Option α := (ixN xs.length i).bind fun j => xs[j]?
theorem ixN_seq {n : Nat} {i : Int} {j : Nat} (h : ixN n i = some j) : seqIndex? i n = some j ∧ j < n ∧ -(n : Int) ≤ i ∧ i < n := by
  unfold ixN at h
  by_cases h0 : 0 ≤ i
  · rw [if_pos h0] at h
    by_cases h1 : i < n
    · rw [if_pos h1] at h
      have e : i.toNat = j := Option.some.inj h
      exact ⟨by rw [seqIndex_of h0 h1, e], by omega, by omega, h1⟩
    · rw [if_neg h1] at h; cases h
  · rw [if_neg h0] at h
    by_cases h1 : -(n : Int) ≤ i
    · rw [if_pos h1] at h
      have e : (i + n).toNat = j := Option.some.inj h
      exact ⟨by rw [seqIndex_neg (by omega) h1, e], by omega, h1, by omega⟩
    · rw [if_neg h1] at h; cases h
theorem atI_get {α : Type} {xs : List α} {i : Int} {v : α} (h : atI xs i = some v) : ∃ j, seqIndex? i xs.length = some j ∧ xs[j]? = some v ∧ j < xs.length ∧ -(xs.length : Int) ≤ i ∧ i < xs.length := by
  unfold atI at h
  cases e : ixN xs.length i with
  | none => rw [e] at h; cases h
  | some j =>
    rw [e] at h
    obtain ⟨h1, h2, h3, h4⟩ := ixN_seq e
    exact ⟨j, h1, h, h2, h3, h4⟩
theorem atI_nat {α : Type} {xs : List α} {j : Nat} {v : α} (h : xs[j]? = some v) : atI xs (j : Int) = some v := by
  have hj : j < xs.length := (List.getElem?_eq_some_iff.mp h).1
  have e : ixN xs.length (j : Int) = some j := by
    unfold ixN
    rw [if_pos (by omega), if_pos (by omega)]; simp
  unfold atI; rw [e]; exact h
/-! ### what may be subscripted -/
/-- what stands as an index of a plain subscript -/
def PlainIx (b : Expr) : Prop := ∀ o i, subscripted b false o i = operate [o, i] (getItem o i)
/-- a subscript by values -/
def IxR (X : Cx) (r : R2) : Prop :=
  ∀ (value slice : Expr) (pins : List (Addr × Obj)) (s : Shared) (σ : St) (H : Hp) (x y : V) (v u : Value) (Q : VK), Inv X pins σ H s → RelV x v → RelV y u → r x y H Q →
    subscripted slice false v u = operate [v, u] (getItem v u) → wpAny (model X.prog X.w) X.A (subscriptTail value slice v u) (EP X pins σ Q) X.xe s
/-- a call of a builtin's method by values: the receiver, the arguments -/
def MtR (X : Cx) (id : String) (r : V → List V → Hp → VK → Prop) : Prop :=
  ∀ (pins : List (Addr × Obj)) (s : Shared) (σ : St) (H : Hp) (x : V) (xs : List V) (v : Value) (us : List Value) (Q : VK), Inv X pins σ H s → RelV x v → Vals xs us → r x xs H Q →
    wpAny (model X.prog X.w) X.A (call (.builtin id) (v :: us)) (EP X pins σ Q) X.xe s
section
variable {X : Cx} {a b : Expr} {ta tb : TE} {pos : Pos}
theorem IxR.or {r r' : R2} (h : IxR X r) (h' : IxR X r') : IxR X (fun x y H Q => r x y H Q ∨ r' x y H Q) := by
  intro value slice pins s σ H x y v u Q I rx ry q hs
  rcases q with q | q
  · exact h value slice pins s σ H x y v u Q I rx ry q hs
  · exact h' value slice pins s σ H x y v u Q I rx ry q hs
theorem MtR.or {id : String} {r r' : V → List V → Hp → VK → Prop} (h : MtR X id r) (h' : MtR X id r') : MtR X id (fun x xs H Q => r x xs H Q ∨ r' x xs H Q) := by
  intro pins s σ H x xs v us Q I rx rs q
  rcases q with q | q
  · exact h pins s σ H x xs v us Q I rx rs q
  · exact h' pins s σ H x xs v us Q I rx rs q
/-- a[b] -/
theorem pe_ix {r : R2} (hr : IxR X r) (ha : PE X a ta) (hb : PE X b tb) (hs : PlainIx b) : PE X (.Subscript a b pos) (tOp r ta tb) := by
  intro pins s σ H Q I h
  exact Subscript_ (binT ha hb I h fun v u s2 x y H2 I2 rx ry q => hr a b pins s2 σ H2 x y v u Q I2 rx ry q (hs _ _))

def rIxL (K : PySem.W.Frag) : R2 := fun x y H Q => ∃ p xs i v, x = .ref p ∧ y = .int i ∧ SqL K H p xs ∧ atI xs i = some v ∧ Q v H
def rIxT (K : PySem.W.Frag) : R2 := fun x y H Q => ∃ p xs i v, x = .ref p ∧ y = .int i ∧ SqT K H p xs ∧ atI xs i = some v ∧ Q v H
def rIxS : R2 := fun x y H Q => ∃ z i c, x = .str z ∧ y = .int i ∧ z.length ≤ sizeLine ∧ atI z.cps.toList i = some c ∧ Q (.str ⟨#[c]⟩) H
theorem ix_list : IxR X (rIxL X.K) := by
  intro value slice pins s σ H x y v u Q I rx ry h hs
  obtain ⟨p, xs, i, z, rfl, rfl, hq, he, q⟩ := h
  cases rx
  obtain ⟨t, rfl⟩ := ry
  obtain ⟨its, r, pl, hz⟩ := I.list hq
  obtain ⟨j, h1, h2, h3, h4, h5⟩ := atI_get he
  obtain ⟨w, ew, rw'⟩ := r.get h2
  have hl := r.length
  have hn := line63
  have fin : EP X pins σ Q w s := ⟨z, H, I, rw', q⟩
  by_cases h0 : 0 ≤ i
  · have hj : i.toNat = j := by
      rw [seqIndex_of h0 h5] at h1
      exact Option.some.inj h1
    exact item_listR pl.isList h0 (by omega) (by rw [hj]; simpa using ew) fin hs
  · have hj : (i + (its.toArray.size : Int)).toNat = j := by
      rw [seqIndex_neg (by omega) h4] at h1
      rw [List.size_toArray, ← hl]
      exact Option.some.inj h1
    exact subscriptTail_builtinR (x := w) pl.isList.typeIs slot_list_getitem.lookup
      (wpAny_getItem_list_neg (Q := fun r s' => r = w ∧ EP X pins σ Q r s') pl.isList (by omega) (by rw [List.size_toArray] <;> omega) (by omega) (by rw [hj]; simpa using ew) ⟨rfl, fin⟩) hs
theorem ix_tup : IxR X (rIxT X.K) := by
  intro value slice pins s σ H x y v u Q I rx ry h hs
  obtain ⟨p, xs, i, z, rfl, rfl, hq, he, q⟩ := h
  cases rx
  obtain ⟨t, rfl⟩ := ry
  obtain ⟨its, r, pl, hz⟩ := I.tuple hq
  obtain ⟨j, h1, h2, h3, h4, h5⟩ := atI_get he
  obtain ⟨w, ew, rw'⟩ := r.get h2
  have hl := r.length
  have hn := line63
  have fin : EP X pins σ Q w s := ⟨z, H, I, rw', q⟩
  exact subscriptTail_builtinR (x := w) pl.typeIs slot_tuple_getitem.lookup
    (getItem_tuple (j := j) (Q := fun r s' => r = w ∧ EP X pins σ Q r s') pl (by omega) (by omega) (by rw [List.size_toArray, ← hl]; exact h1) (by simpa using ew) ⟨rfl, fin⟩) hs
/-- list, tuple or str -/
def rIx (K : PySem.W.Frag) : R2 := fun x y H Q => rIxL K x y H Q ∨ rIxT K x y H Q ∨ rIxS x y H Q
theorem Inv.lst {pins : List (Addr × Obj)} {σ : St} {H : Hp} {s : Shared} {p : Addr} {xs : List V} (I : Inv X pins σ H s) (h : H p = some (.lst xs)) :
    ∃ (its : List Value) (n : Nat), Vals xs its ∧ s.heap.get? p = some { cls := .type "list", data := .seq its.toArray n } ∧ xs.length ≤ sizeLine := by
  obtain ⟨z, its, n, r, e⟩ := I.hok p _ h
  exact ⟨its, n, r, e, z⟩
def rSetL : V → V → V → Hp → (Hp → Prop) → Prop := fun o i v H Q => ∃ p xs k j, o = .ref p ∧ i = .int k ∧ H p = some (.lst xs) ∧ ixN xs.length k = some j ∧ Q (upd H p (.lst (xs.set j v)))
/-! ### slices -/
theorem slice_bounds (lo hi : Option Int) (n : Nat) : (sliceBounds lo hi none n).1 = ((HT.sIx n 0 lo : Nat) : Int) ∧ (sliceBounds lo hi none n).2.1 = ((HT.sIx n n hi : Nat) : Int) ∧ (sliceBounds lo hi none n).2.2 = 1 := by
  refine ⟨?_, ?_, rfl⟩
  · cases lo with
    | none => simp [sliceBounds, HT.sIx]
    | some i =>
      simp only [sliceBounds, HT.sIx, Option.getD_none, show (1 : Int) > 0 by decide, if_true]
      by_cases h : i < 0
      · simp only [h, if_true] <;> omega
      · simp only [h, if_false] <;> omega
  · cases hi with
    | none => simp [sliceBounds, HT.sIx]
    | some i =>
      simp only [sliceBounds, HT.sIx, Option.getD_none, show (1 : Int) > 0 by decide, if_true]
      by_cases h : i < 0
      · simp only [h, if_true] <;> omega
      · simp only [h, if_false] <;> omega
theorem slicePick_cut (its : List Value) (lo hi : Option Int) : slicePick its.toArray lo hi none = ((its.drop (HT.sIx its.length 0 lo)).take (HT.sIx its.length its.length hi - HT.sIx its.length 0 lo)).toArray := by
  obtain ⟨h1, h2, h3⟩ := slice_bounds lo hi its.toArray.size
  unfold slicePick
  rw [h1, h2, h3]
  simp only [sliceRange_one, pick_run, List.size_toArray] <;> rfl
/-- xs[lo:hi] of a list: a new list -/
def rSlL (K : PySem.W.Frag) : V → Option Int → Option Int → Hp → VK → Prop := fun x lo hi H Q => ∃ a xs, x = .ref a ∧ SqL K H a xs ∧ ∀ p, H p = none → Q (.ref p) (upd H p (.lst (cutV xs lo hi)))
theorem sl_list : SlR X (rSlL X.K) := by
  intro pins s σ H x v vl vu lo hi sl Q I rx hs pl pu h
  obtain ⟨a, xs, rfl, hx, q⟩ := h
  cases rx
  obtain ⟨its, r, ht, hz⟩ := I.list hx
  have hlen := r.length
  refine ⟨"list", _, slot_list_getitem.lookup, ht.isList.typeIs, ?_⟩
  refine wpAny_getItem_list_slice ht.isList hs pl pu .none (by simp) ?_ (by rw [List.size_toArray] <;> omega)
  rw [slicePick_cut, ← hlen]
  refine ⟨.ref s.heap.objs.size, _, I.laid (t' := s.toks) (o := .lst (cutV xs lo hi)) (fun b ob q => Heap.get?_push_of_some _ q) (Nat.le_refl _) ?_, rfl, q _ (I.hok.fresh (Nat.le_refl _))⟩
  exact ⟨Nat.le_trans (cutV_length xs lo hi) hz, _, 0, (r.drop (HT.sIx xs.length 0 lo)).take (HT.sIx xs.length xs.length hi - HT.sIx xs.length 0 lo), Heap.get?_push_size _ rfl⟩

/-! ### in, not in: flat items -/
def flatV : V → Bool
  | .non => true
  | .bl _ => true
  | .int _ => true
  | .str _ => true
  | _ => false
/-- == of flat values -/
def eqV : V → V → Bool
  | .non, .non => true
  | .bl a, .bl b => a == b
  | .bl a, .int b => (if a then 1 else 0) == b
  | .int a, .bl b => a == (if b then 1 else 0)
  | .int a, .int b => a == b
  | .str a, .str b => a == b
  | _, _ => false
/-- the items' answers, read off the values (a value's own answer does not lean on its token) -/
def eqU (x : V) (u : Value) : Bool := match u with
  | .none => eqV .non x
  | .bool b => eqV (.bl b) x
  | .int i _ => eqV (.int i) x
  | .str z _ => eqV (.str z) x
  | _ => false
def inV (x : V) (xs : List V) : Bool := xs.any fun y => eqV y x
/-- x in a list or tuple of flat items -/
def rIn (K : PySem.W.Frag) (neg : Bool) : R2 := fun x y H Q => ∃ p xs, y = .ref p ∧ (SqL K H p xs ∨ SqT K H p xs) ∧ flatV x = true ∧ xs.all flatV = true ∧ Q (.bl (if neg then !inV x xs else inV x xs)) H
/-! ### len, list(x), tuple(x) of any list or tuple that is read -/
theorem call_len_seq : CallR X (.builtin "len") (fun xs H Q => ∃ p ys, xs = [.ref p] ∧ (SqL X.K H p ys ∨ SqT X.K H p ys) ∧ Q (.int ys.length) H) := by
  intro pins s σ H xs us Q I r h
  obtain ⟨p, ys, rfl, hq, q⟩ := h
  obtain ⟨u, rfl, rx⟩ := vals1 r
  cases rx
  have hn := line63
  rcases hq with hq | hq
  · obtain ⟨its, r', pl, hz⟩ := I.list hq
    have hlen := r'.length
    exact Calls.call_len_list pl.isList (by simp only [List.size_toArray] <;> omega) ⟨.int ys.length, H, I.tok _, ⟨s.toks + 1, by rw [List.size_toArray, hlen]⟩, q⟩
  · obtain ⟨its, r', pl, hz⟩ := I.tuple hq
    have hlen := r'.length
    exact len_tuple pl (by simp only [List.size_toArray] <;> omega) ⟨.int ys.length, H, I.tok _, ⟨s.toks + 1, by rw [List.size_toArray, hlen]⟩, q⟩
theorem CallR.or {f : Value} {r r' : List V → Hp → VK → Prop} (h : CallR X f r) (h' : CallR X f r') : CallR X f (fun xs H Q => r xs H Q ∨ r' xs H Q) := by
  intro pins s σ H xs us Q I rs q
  rcases q with q | q
  · exact h pins s σ H xs us Q I rs q
  · exact h' pins s σ H xs us Q I rs q
theorem call_list_of : CallR X (.type "list") (fun xs H Q => ∃ p ys, xs = [.ref p] ∧ (SqL X.K H p ys ∨ SqT X.K H p ys) ∧ ∀ l, H l = none → Q (.ref l) (upd H l (.lst ys))) := by
  intro pins s σ H xs us Q I r h
  obtain ⟨p, ys, rfl, hq, q⟩ := h
  obtain ⟨u, rfl, rx⟩ := vals1 r
  cases rx
  have fin : ∀ (its : List Value), Vals ys its → ys.length ≤ sizeLine → ∀ (h' : Heap) (c' : Nat), (∀ b o', s.heap.get? b = some o' → h'.get? b = some o') →
      h'.get? s.heap.objs.size = some { cls := .type "list", dict := none, data := .seq its.toArray c', slots := #[] } → EP X pins σ Q (.ref s.heap.objs.size) { s with heap := h' } := fun its r' hz h' c' kp e =>
    ⟨.ref s.heap.objs.size, _, I.laid (t' := s.toks) kp (Nat.le_refl _) (show ObjOk X.prog X.w _ h' _ (.lst ys) from ⟨hz, its, c', r', e⟩), rfl, q _ (I.hok.fresh (Nat.le_refl _))⟩
  rcases hq with hq | hq
  · obtain ⟨its, r', pl, hz⟩ := I.list hq
    have hlen := r'.length
    obtain ⟨o, ho, hc, n, hd⟩ := pl.isList
    exact call_list_seq p (.inl rfl) ho hc hd (fun h' c' kp e => fin its r' hz h' c' kp e) (by simp only [List.size_toArray] <;> omega)
  · obtain ⟨its, r', pl, hz⟩ := I.tuple hq
    have hlen := r'.length
    obtain ⟨o, ho, hc, n, hd⟩ := pl
    exact call_list_seq p (.inr rfl) ho hc hd (fun h' c' kp e => fin its r' hz h' c' kp e) (by simp only [List.size_toArray] <;> omega)
/-! ### the call of a builtin's method: o.m(..) -/
/-- the value is of that builtin type -/
def tyV (K : PySem.W.Frag) (T : String) (x : V) (H : Hp) : Prop := match x with
  | .str _ => T = "str"
  | .int _ => T = "int"
  | .ref p => (T = "list" ∧ ∃ xs, SqL K H p xs) ∨ (T = "tuple" ∧ ∃ o, K.lookup p = some o ∧ o.cls = .type "tuple" ∧ o.dict = none) ∨
      (T = "dict" ∧ ∃ kvs, H p = some (.dK kvs)) ∨ (T = "set" ∧ ∃ S n, H p = some (.set S n))
  | _ => False
theorem tyV_is {pins : List (Addr × Obj)} {σ : St} {H : Hp} {s : Shared} {T : String} {x : V} {v : Value} (I : Inv X pins σ H s) (r : RelV x v) (ty : tyV X.K T x H) :
    s.TypeIs v T ∧ ∀ a, v = .ref a → ∃ ob, s.heap.get? a = some ob ∧ ob.dict = none := by
  cases x with
  | str z =>
    obtain ⟨t, rfl⟩ := r
    cases (show T = "str" from ty)
    exact ⟨typeIs_str s z t, fun _ e => nomatch e⟩
  | int i =>
    obtain ⟨t, rfl⟩ := r
    cases (show T = "int" from ty)
    exact ⟨typeIs_int s i t, fun _ e => nomatch e⟩
  | ref p =>
    cases r
    rcases ty with ⟨rfl, xs, hq⟩ | ⟨rfl, o, hk, hc, hd⟩ | ⟨rfl, hk⟩ | ⟨rfl, S, n, hk⟩
    · obtain ⟨its, _, pl, _⟩ := I.list hq
      refine ⟨pl.isList.typeIs, fun a e => ?_⟩
      cases e
      obtain ⟨o, n, e, c, hd, _⟩ := pl
      exact ⟨o, e, hd⟩
    · refine ⟨⟨o, I.kIn p o hk, hc⟩, fun a e => ?_⟩
      cases e
      exact ⟨o, I.kIn _ o hk, hd⟩
    · have z : ∃ o, s.heap.get? p = some o ∧ o.ExactDict := by
        obtain ⟨kvs, hk⟩ := hk
        obtain ⟨_, _, _, _, o, _, _, e, ex, _⟩ := I.hok p _ hk
        exact ⟨o, e, ex⟩
      obtain ⟨o, e, ex⟩ := z
      refine ⟨⟨o, e, ex.1⟩, fun a e2 => ?_⟩
      cases e2
      exact ⟨o, e, ex.2.1⟩
    · obtain ⟨o, _, _, _, e, ex, _⟩ := I.hok p _ hk
      refine ⟨⟨o, e, ex.1⟩, fun a e2 => ?_⟩
      cases e2
      exact ⟨o, e, ex.2.1⟩
  | _ => exact False.elim ty
def tBM0 (K : PySem.W.Frag) (T : String) (r : V → List V → Hp → VK → Prop) (to : TE) : TE := fun σ H Q => to σ H fun x H1 => tyV K T x H1 ∧ r x [] H1 Q
def tBM (K : PySem.W.Frag) (T : String) (r : V → List V → Hp → VK → Prop) (to : TE) (t : TA) : TE := fun σ H Q => to σ H fun x H1 => tyV K T x H1 ∧ t σ H1 fun xs H2 => r x xs H2 Q
variable {o e : Expr} {es : List Expr} {to : TE} {t : TA} {name : Str} {apos cpos : Pos} {T id : String} {r : V → List V → Hp → VK → Prop}
theorem pe_bm (pa : PlainAttrs T) (slot : Slot T name id) (hty : typeOf (.builtin id) = pure (.type "method_descriptor")) (hm : MtR X id r) (ho : PE X o to) (ha : PA X (e :: es) t)
    (hbase : attributeBase o name X.env (eval o X.env) = eval o X.env := by rfl)
    (hfew : ((backTo cpos (starEach (e :: es) X.env)).all (fun x => !x.1) && (backToKw cpos (keywordEach [] X.env)).all (fun x => x.1.isSome)
      && decide ((e :: es).length + ([] : List Keyword).length + (if ([] : List Keyword).isEmpty then 0 else 1) < 30)) = true := by rfl)
    (hline : (apos.endLine == cpos.line) = true := by rfl) (hs : starEach (e :: es) X.env = (false, eval e X.env) :: starEach es X.env := by rfl) (hplain : (backTo cpos (starEach es X.env)).any (·.1) = false := by rfl) :
    PE X (.Call (.Attribute o name apos) (e :: es) [] cpos) (tBM X.K T r to t) := by
  intro pins s σ H Q I h
  refine wpAny_Call_method_late hbase hfew hline rfl (thn (ho pins s σ H _ I h) fun v s1 ⟨x, H1, I1, r1, ty, q1⟩ => ?_)
  obtain ⟨h1, h2⟩ := tyV_is I1 r1 ty
  refine ⟨T, id, pa, slot, hty, h1, h2, ?_⟩
  have hA := ha cpos pins s1 σ H1 _ I1 q1
  rw [hs] at hA ⊢
  refine Calls.callWith_builtin (by show (false || (backTo cpos (starEach es X.env)).any (·.1)) = false; rw [hplain] <;> rfl) (Calls.evalArgs_plain ?_)
  exact thn hA fun us s2 ⟨vs, H2, I2, r2, q2⟩ => hm pins s2 σ H2 x vs v us Q I2 r1 r2 q2
/- xs.append(e), list.index on a module's tuple .. are MtR facts of 06m -/
end
end L2

namespace L2
open PySem PySem.Spec PyProof.Rows

def MtM (X : Cx) (id : String) (r : V → List V → Hp → VK → Prop) : Prop :=
  ∀ (pins : List (Addr × Obj)) (s : Shared) (σ : St) (H : Hp) (x : V) (xs : List V) (v : Value) (us : List Value) (Q : VK), Inv X pins σ H s → RelV x v → Vals xs us → r x xs H Q →
    wpAny (model X.prog X.w) X.A (call (.builtin id) (v :: us)) (EP X pins σ Q) X.xe s

/-! ### lists of values -/
theorem Vals.one : ∀ {x : V} {us : List Value}, Vals [x] us → ∃ u, us = [u] ∧ RelV x u
  | _, _, .cons r .nil => ⟨_, rfl, r⟩
theorem Vals.two : ∀ {x y : V} {us : List Value}, Vals [x, y] us → ∃ u v, us = [u, v] ∧ RelV x u ∧ RelV y v
  | _, _, _, .cons r (.cons q .nil) => ⟨_, _, rfl, r, q⟩
theorem Vals.zero : ∀ {us : List Value}, Vals [] us → us = []
  | _, .nil => rfl
theorem Vals.dropLast {xs : List V} {us : List Value} (h : Vals xs us) : Vals xs.dropLast us.dropLast := by
  induction h with
  | nil => exact .nil
  | cons r t ih =>
    cases t with
    | nil => exact .nil
    | cons q t' => exact .cons r ih
theorem Vals.eraseIdx : ∀ {xs : List V} {us : List Value} (i : Nat), Vals xs us → Vals (xs.eraseIdx i) (us.eraseIdx i)
  | _, _, _, .nil => .nil
  | _, _, 0, .cons _ t => t
  | _, _, i + 1, .cons r t => .cons r (Vals.eraseIdx i t)
theorem Vals.reverse {xs : List V} {us : List Value} (h : Vals xs us) : Vals xs.reverse us.reverse := by
  induction h with
  | nil => exact .nil
  | cons r t ih => rw [List.reverse_cons, List.reverse_cons]; exact Vals.append ih (.cons r .nil)
section
variable {X : Cx} {pins : List (Addr × Obj)} {σ : St} {H : Hp} {s : Shared} {l b : Addr} {xs ys zs : List V}

/-! ### the two steps: a tracked list is rewritten, a new list is laid -/
theorem Inv.lset {its its' : List Value} {n : Nat} {f : Array Value → Array Value} {t' : Nat} (I : Inv X pins σ H s) (hH : H l = some (.lst xs))
    (e : s.heap.get? l = some { cls := .type "list", data := .seq its.toArray n }) (hf : f its.toArray = its'.toArray) (hv : Vals ys its') (hz : ys.length ≤ sizeLine) :
    Inv X pins σ (upd H l (.lst ys)) { s with heap := s.heap.update l (Obj.mapSeq f), toks := t' } := by
  have q := PySem.IsL.update e f
  rw [hf] at q
  refine I.write (x := l) (e := l) (by rw [hH]; exact trivial) (.inl rfl) (fun b' u hb hu => (Heap.get?_update_other s.heap (Obj.mapSeq f) (Ne.symm hb)).trans hu) ⟨_, q⟩ ?_
  exact ⟨hz, its', _, hv, q⟩
theorem Inv.lnew {its : List Value} {t' : Nat} (I : Inv X pins σ H s) (hv : Vals ys its) (hz : ys.length ≤ sizeLine) :
    Inv X pins σ (upd H s.heap.objs.size (.lst ys)) { s with heap := s.heap.push { cls := .type "list", data := .seq its.toArray }, toks := t' } :=
  I.laid (fun _ _ q => Heap.get?_push_of_some _ q) (Nat.le_refl _) ⟨hz, its, 0, hv, Heap.get?_push_size _ rfl⟩
theorem Inv.fresh (I : Inv X pins σ H s) : H s.heap.objs.size = none := I.hok.fresh (Nat.le_refl _)
theorem Inv.lstM (I : Inv X pins σ H s) (hH : H l = some (.lst xs)) : xs.length ≤ sizeLine ∧ ∃ (its : List Value) (n : Nat), Vals xs its ∧ xs.length = its.length ∧ s.heap.get? l = some { cls := .type "list", data := .seq its.toArray n } := by
  obtain ⟨z, its, n, r, e⟩ := I.hok l _ hH
  exact ⟨z, its, n, r, r.length, e⟩

theorem notLongL {n : Nat} (h : n ≤ sizeLine) : Builtin.List.listTooLong n = false := by
  unfold Builtin.List.listTooLong
  exact decide_eq_false (by omega)
end

section
variable {X : Cx}

/-! ### methods -/
def rAppend : V → List V → Hp → VK → Prop := fun x vs H Q => ∃ l xs y, x = .ref l ∧ vs = [y] ∧ H l = some (.lst xs) ∧ xs.length < sizeLine ∧ Q .non (upd H l (.lst (xs ++ [y])))
theorem mt_append : MtM X "list.append" rAppend := by
  intro pins s σ H x vs v us Q I rx rv h
  obtain ⟨l, xs, y, rfl, rfl, hH, hz, q⟩ := h
  cases rx
  obtain ⟨u, rfl, ru⟩ := rv.one
  obtain ⟨z, its, n, r, hl, e⟩ := I.lstM hH
  refine call_meets F.slot_list_append ⟨_, e, rfl⟩ F.entry_list_append (F.args_list_append_2 _ _) (PySem.list_append l its.toArray n u (by rw [List.size_toArray]; omega)) ⟨e, ?_⟩
  refine ⟨.non, _, I.lset (its' := its ++ [u]) hH e (by simp) (r.append (.cons ru .nil)) ?_, rfl, q⟩
  rw [List.length_append, List.length_singleton]
  omega

def rExtend : V → List V → Hp → VK → Prop := fun x vs H Q => ∃ l b xs zs, x = .ref l ∧ vs = [.ref b] ∧ H l = some (.lst xs) ∧ H b = some (.lst zs) ∧ xs.length + zs.length ≤ sizeLine ∧ Q .non (upd H l (.lst (xs ++ zs)))
theorem mt_extend : MtM X "list.extend" rExtend := by
  intro pins s σ H x vs v us Q I rx rv h
  obtain ⟨l, b, xs, zs, rfl, rfl, hH, hB, hz, q⟩ := h
  cases rx
  obtain ⟨u, rfl, ru⟩ := rv.one
  cases ru
  obtain ⟨z, its, n, r, hl, e⟩ := I.lstM hH
  obtain ⟨z2, its2, n2, r2, hl2, e2⟩ := I.lstM hB
  have hsz : its.toArray.size + its2.toArray.size ≤ sizeLine := by rw [List.size_toArray, List.size_toArray]; omega
  have hlong : ¬ (!its.toArray.isEmpty && Builtin.List.listTooLong (its.toArray.size + its2.toArray.size)) = true := by
    rw [notLongL hsz, Bool.and_false]
    exact Bool.false_ne_true
  refine call_meets F.slot_list_extend ⟨_, e, rfl⟩ F.entry_list_extend (F.args_list_extend_2 _ _)
    (AutoSeq1.list_extend_list_list_0 l its.toArray n b its2.toArray n2 hlong (by rw [List.size_toArray]; omega) (by omega)) ⟨e, e2, ?_⟩
  refine ⟨.non, _, I.lset (its' := its ++ its2) hH e (by simp) (r.append r2) ?_, rfl, q⟩
  rw [List.length_append]
  omega

def rPop : V → List V → Hp → VK → Prop := fun x vs H Q => ∃ l xs y, x = .ref l ∧ vs = [] ∧ H l = some (.lst xs) ∧ xs[xs.length - 1]? = some y ∧ Q y (upd H l (.lst xs.dropLast))
def rPopAt : V → List V → Hp → VK → Prop := fun x vs H Q => ∃ l xs i k y, x = .ref l ∧ vs = [.int i] ∧ H l = some (.lst xs) ∧ -(2 ^ 63) ≤ i ∧ i < 2 ^ 63 ∧ seqIndex? i xs.length = some k ∧ xs[k]? = some y ∧ Q y (upd H l (.lst (xs.eraseIdx k)))
def rReverse : V → List V → Hp → VK → Prop := fun x vs H Q => ∃ l xs, x = .ref l ∧ vs = [] ∧ H l = some (.lst xs) ∧ Q .non (upd H l (.lst xs.reverse))
def rClear : V → List V → Hp → VK → Prop := fun x vs H Q => ∃ l xs, x = .ref l ∧ vs = [] ∧ H l = some (.lst xs) ∧ Q .non (upd H l (.lst []))
/-! ### list + list, list += list, list * int -/
def rCat : R2 := fun x y H Q => ∃ l b xs zs, x = .ref l ∧ y = .ref b ∧ H l = some (.lst xs) ∧ H b = some (.lst zs) ∧ xs.length + zs.length ≤ sizeLine ∧ ∀ p, H p = none → Q (.ref p) (upd H p (.lst (xs ++ zs)))
theorem op_cat : OpR X (binaryOp .Add) rCat := by
  intro pins s σ H x y v u Q I rx ry h
  obtain ⟨l, b, xs, zs, rfl, rfl, hH, hB, hz, q⟩ := h
  cases rx
  cases ry
  obtain ⟨z, its, n, r, hl, e⟩ := I.lstM hH
  obtain ⟨z2, its2, n2, r2, hl2, e2⟩ := I.lstM hB
  refine PySem.P.add_list e e2 ?_ (by rw [List.size_toArray, List.size_toArray]; omega)
  have ea : its.toArray ++ its2.toArray = (its ++ its2).toArray := by simp
  rw [ea]
  exact ⟨.ref _, _, I.lnew (t' := s.toks) (r.append r2) (by rw [List.length_append]; omega), rfl, q _ I.fresh⟩
/-- a list times an int (a negative one is nothing) -/
def rRep : R2 := fun x y H Q => ∃ l k xs, x = .ref l ∧ y = .int k ∧ H l = some (.lst xs) ∧ -(2 ^ 63) ≤ k ∧ k < 2 ^ 63 ∧ xs.length * k.toNat ≤ sizeLine ∧
  ∀ p, H p = none → Q (.ref p) (upd H p (.lst (List.replicate k.toNat xs).flatten))
end

/-! ### xs[a:b] = ys -/
section
variable {prog : Program} {w : World} {A : Around} {E : Value → Shared → Prop} {s : Shared}
set_option maxRecDepth 100000 in
end

section
variable {X : Cx}
end
end L2

namespace Att
open PySem PySem.W PySem.Calls PyProof.Rows

/-! ### the script -/
theorem ints_of_wellAll {P : Params} {h : Heap} : ∀ (ns : List Int) (vs : List Value), WellAll P h vs (ns.map WData.int) → IntsAre vs ns := by
  intro ns
  induction ns with
  | nil =>
    intro vs w
    rw [List.map_nil] at w
    cases w
    exact .nil
  | cons n ns ih =>
    intro vs w
    rw [List.map_cons] at w
    cases w with
    | cons a b =>
      cases a
      exact .cons _ _ (ih _ b)

theorem script_of {l : OpenLaw} {n : Nat} (hn : l.most = some n) {P : Params} {h : Heap} {args : List WData} {vals : List Value}
    (hpre : l.row.toRowW.claim.pre args = true) (hwl : WellAll P h vals args) :
    ∃ a vs ns, vals = [Value.ref a] ∧ args = [WData.list (ns.map WData.int)] ∧ h.get? a = some { cls := .type "list", data := .seq vs.toArray } ∧ IntsAre vs ns ∧ ns.length ≤ n := by
  have hsh : WShape.hasAll [] args [.list .int] = true := (pre_splitW hpre).1
  have hc : l.pre.holds [] { args := args } = true := (pre_splitW hpre).2
  obtain ⟨d, r, rfl, h1, h2⟩ := hasAllW_cons hsh
  obtain rfl := hasAllW_nil h2
  obtain ⟨xs, rfl, h3⟩ := hasW_list h1
  obtain ⟨ns, rfl⟩ := items_int h3
  have hlen : ns.length ≤ n := by
    unfold OpenLaw.pre at hc
    have h4 : (WTm.not (.lt (.lit (.int (n : Int))) (.len (.arg 0)))).holds [] { args := [.list (ns.map .int)] } = true := by
      have h4 := (holds_andW hc).1
      rw [hn] at h4
      exact h4
    have h5 := condW_of h4 (w_not (w_lt w_lit (w_len_list (w_arg rfl))))
    rw [List.length_map] at h5
    refine Nat.le_of_not_lt fun q => ?_
    have q' : (n : Int) < ((ns.length : Nat) : Int) := by omega
    first
      | (rw [decide_eq_true q'] at h5; exact absurd h5 (by decide))
      | (simp at h5; omega)
  cases hwl with
  | cons w1 w2 =>
    cases w2
    cases w1 with
    | list ho hall => exact ⟨_, _, ns, rfl, rfl, ho, ints_of_wellAll ns _ hall, hlen⟩

theorem post_true (l : OpenLaw) (args : List WData) : l.row.toRowW.claim.post args (.bool true) args = true :=
  postW_of (r := l.row.toRowW) (X := (true == true))
    (show WShape.has [] (.bool true) .bool = true by first | rfl | decide | simp [WShape.has, WShape.arms, WShape.armsAll])
    (show (WTm.eq .res (.lit (.bool true))).value [] { args := args, res := some (.bool true), after := args } = some (.bool (true == true)) from w_eq_bool (w_res rfl) w_lit) rfl

/-- the same from a codeAny of the CALL (for a layer whose function contracts speak of calls) -/
theorem attach_call {l : OpenLaw} {n : Nat} {q : Program} {loose : List Str} {XP : (Str → Option Value) → Heap → Prop} {YP : World → Heap → Prop} {d : DefRec}
    (hn : l.most = some n) (hdf : d.params.defaults = [])
    (call : ∀ (w : World) (s₀ s₁ : Shared) (mg mb : Str → Option Value) (fa : Addr) (o : Obj) (pm cd doc : Value) (a : Addr) (vs : List Value) (ns : List Int),
      Ground q loose [] XP w s₀ mg mb s₁.heap → YP w s₁.heap →
      s₁.heap.get? fa = some o → o.data = .func (docDef d.name d.params d.body d.scope pm cd doc) → s₁.heap.CodeRec cd d.name → mg d.name = some (.ref fa) →
      s₁.heap.get? a = some { cls := .type "list", data := .seq vs.toArray } → IntsAre vs ns → ns.length ≤ n → s₁.gens = #[] →
      codeAny (model l.prog w) callerA (.call (.ref fa) ⟨[.ref a], []⟩) (fun r s' => r = .ok (.ret (.bool true)) ∧ OldK s₁.heap s'.heap ∧ s'.os = s₁.os ∧ AllBare s'.gens) s₁) :
    WalkO q loose XP YP l.row.toRowW d [] (fun f vs => PySem.call f vs) := by
  intro w s₀ s₁ mg mb G Y fa o pm cd doc dV kV ho hd hcd hD hmg hg args vals as hpre hlay hrd hwl hlo
  obtain rfl : dV = .none := Dflts.none hD hdf
  obtain rfl : kV = .none := Dflts.noKw hD
  obtain ⟨a, vs, ns, rfl, rfl, hobj, hints, hlen⟩ := script_of hn hpre hwl
  refine enter_call (codeAny_mono (call w s₀ s₁ mg mb fa o pm cd doc a vs ns G Y ho (fd_plain hd) hcd hmg hobj hints hlen hg) fun r s' hq => ?_)
  obtain ⟨rfl, h2, h3, h4⟩ := hq
  exact ⟨.inl ⟨.bool true, .bool true, [], rfl, fun _ => rfl, .bool true, post_true l _, fun _ => ⟨List.Pairwise.nil, fun _ hm => (nomatch hm)⟩⟩, h2, h3, h4⟩

/-! ### rules over ANY heap (no ledger) from facts about the written part K: the library's own take a ledger (News) for what they write -/
section
variable {prog : Program} {w : World} {A : Around} {E : Value → Shared → Prop} {s : Shared} {K : Frag}

/-! the whole heap as the ledger: makes every rule that writes through a ledger a rule over any heap -/
def noObjs (h : Heap) : Heap := { h with objs := #[] }
def ledger (h : Heap) (L d : Addr) : List (Addr × Obj) := (List.range h.objs.size).filterMap fun a => if a = L ∨ a = d then none else (h.get? a).map fun o => (a, o)
end
end Att

namespace L2
open PySem PySem.Spec PyProof.Rows

theorem vals_ints : ∀ {vs : List Value} {ns : List Int}, IntsAre vs ns → Vals (ns.map V.int) vs
  | _, _, .nil => .nil
  | _, _, .cons n t h => .cons ⟨t, rfl⟩ (vals_ints h)

/-- nothing is tracked but the script, known to the object (or it is an object of the module) -/
def Only (H : Hp) : Prop := ∀ b, H b = none ∨ ∃ o xs, H b = some (.frz o (.lst xs))

/-- THE HEAD: the law's promise, at the heap behind the top. F, the promise of the law's def, may use that base is part of the heap (so K.In base, base.Ns mainGlobals mg stand in Mod) -/
theorem law_call {P : Program} {w : World} {K : PySem.W.Frag} {mg mb : Str → Option Value} {CX : CXT} {k : Nat} {fa a : Addr} {fd : FuncData} {x : Str} {sp : Sp} {s₁ : Shared} {vs : List Value} {ns : List Int}
    (KX : K.In s₁.heap) (hns : s₁.heap.Ns mainGlobals mg) (hb : s₁.heap.Ns builtinsNs mb) (hbb : ∀ x : Str, x ≠ "__name__" → mb x = bootBuiltins x) (hlim : s₁.heap.NoLimit) (hg : s₁.gens = #[])
    (ha : s₁.heap.get? a = some { cls := .type "list", data := .seq vs.toArray }) (hi : IntsAre vs ns) (hl : ns.length ≤ sizeLine) (hr : Room k callerA)
    (F : ∀ base : Heap, K.In base → base.Ns mainGlobals mg → FnOk P w K mg base CX k fa fd [x] sp) (hbind : ∀ (s : Shared) (u : Value), BindsTo s fd ⟨[u], []⟩ [(x, u)])
    (hsp : ∀ H : Hp, Only H → SqL K H a (ns.map V.int) → sp [.ref a] H (fun v _ => v = .bl true) fun _ _ _ => False)
    (hCX : ∀ H e s', CX [] H s₁ (fun _ _ _ => False) e s' → False) :
    codeAny (model P w) callerA (.call (.ref fa) ⟨[.ref a], []⟩) (fun r s' => r = .ok (.ret (.bool true)) ∧ OldK s₁.heap s'.heap ∧ s'.os = s₁.os ∧ AllBare s'.gens) s₁ := by
  have rv := vals_ints hi
  have lenV := hi.length
  -- from an abstract heap in which nothing but the script may be tracked
  have core : ∀ H : Hp, Only H → SqL K H a (ns.map V.int) → HOk P w H s₁.heap → (∀ b, H b ≠ none → b = a) → (H a ≠ none → K.lookup a = none) →
      codeAny (model P w) callerA (.call (.ref fa) ⟨[.ref a], []⟩) (fun r s' => r = .ok (.ret (.bool true)) ∧ OldK s₁.heap s'.heap ∧ s'.os = s₁.os ∧ AllBare s'.gens) s₁ := by
    intro H hO hS hok hA hK
    have base_of : ∀ {b : Addr} {o : Obj}, s₁.heap.get? b = some o → H b = none → (hidT s₁.heap H).get? b = some o := fun e n => hidT_get e n
    have noA : ∀ {b : Addr} {o : Obj} {es : Array DictEntry} {ep : Nat}, s₁.heap.get? b = some o → o.data = .dict es ep → H b = none := fun {b o es ep} e d => by
      cases q : H b with
      | none => rfl
      | some u =>
        have e' : b = a := hA b (by rw [q]; simp)
        subst e'
        rw [ha] at e; cases e
        have d' : Data.seq vs.toArray _ = Data.dict es ep := d
        cases d'
    have nsK : ∀ {b : Addr} {m : Str → Option Value}, s₁.heap.Ns b m → (hidT s₁.heap H).Ns b m := fun {b m} ⟨o, es, ep, e, d, r⟩ => ⟨o, es, ep, base_of e (noA e d), d, r⟩
    have hKb : K.In (hidT s₁.heap H) := fun b o e => base_of (KX b o e) (by
      cases q : H b with
      | none => rfl
      | some u =>
        have e' : b = a := hA b (by rw [q]; simp)
        subst e'
        rw [hK (by rw [q]; simp)] at e; cases e)
    have hM : Mod K mg (hidT s₁.heap H) := ⟨hKb, nsK hns, ⟨mb, nsK hb, hbb⟩, let ⟨mc, h1, h2⟩ := hlim; ⟨mc, nsK h1, h2⟩⟩
    have e0 : Env0 P w K mg (hidT s₁.heap H) callerA [] s₁ H := ⟨rfl, hM, fun b o e => of_hidT e, Nat.le_of_eq (hidT_size _ _), trivial, fun b hb => absurd (show b ∈ ([] : List Addr) from hb) (by simp), hok, .of_eq hg⟩
    refine codeAny_mono ((F _ hKb (nsK hns)).run callerA [] s₁ H ⟨[.ref a], []⟩ [.ref a] [.ref a] _ _ hr e0 (hbind s₁ (.ref a)) (.cons rfl .nil) (hsp H hO hS)) fun r s' h => ?_
    cases r with
    | error e => exact (hCX H e s' h).elim
    | ok fl =>
      cases fl with
      | next => exact False.elim h
      | brk => exact False.elim h
      | cont => exact False.elim h
      | ret u =>
        obtain ⟨v, H', os, bare, un, hok', r', q⟩ := h
        have q' : v = .bl true := q
        subst q'
        obtain rfl : u = Value.bool true := r'
        refine ⟨rfl, OldK.of_keep fun b o e => ?_, os, bare⟩
        cases q : H b with
        | none => exact un.keep b o e q (by intro z; exact absurd (show b ∈ ([] : List Addr) from z) (by simp)) (by simp)
        | some u =>
          rcases hO b with z | ⟨ob, xs, z⟩
          · rw [q] at z; cases z
          · have z2 := un.frzs b ob _ z
            obtain ⟨e1, _⟩ := hok b _ z
            obtain ⟨e2, _⟩ := hok' b _ z2
            rw [e] at e1; cases e1
            exact e2
  cases hk : K.lookup a with
  | some o =>
    -- the script is one of the module's own objects
    have e := KX a o hk
    rw [ha] at e
    cases e
    refine core (fun _ => none) (fun _ => .inl rfl) (.inr ⟨_, vs.toArray, _, hk, rfl, rfl, rfl, by rw [List.size_toArray, lenV]; exact hl, by simpa using rv⟩) (fun b u z => by have z' : (none : Option HO) = some u := z; cases z') (fun b z => absurd rfl z) fun z => absurd rfl z
  | none =>
    refine core (fun b => if b = a then some (.frz { cls := .type "list", data := .seq vs.toArray } (.lst (ns.map V.int))) else none) (fun b => ?_) (.inl (.inr ⟨{ cls := .type "list", data := .seq vs.toArray }, if_pos rfl⟩)) (fun b u z => ?_) (fun b z => ?_) fun _ => hk
    · by_cases hb : b = a
      · exact .inr ⟨_, _, if_pos hb⟩
      · exact .inl (if_neg hb)
    · by_cases hb : b = a
      · have z' := (if_pos hb).symm.trans z
        cases z'
        subst hb
        exact ⟨ha, by rw [List.length_map]; exact hl, vs, _, rv, ha⟩
      · have z' := (if_neg hb).symm.trans z
        cases z'
    · by_cases hb : b = a
      · exact hb
      · exact absurd (if_neg hb) z
end L2

namespace L2
open PySem PySem.Spec PyProof.Rows

abbrev KOf {K : PySem.W.Frag} {h : Heap} (_ : K.In h) : PySem.W.Frag := K

/-- the goal that k_head leaves (case hc), from the law's promise. F gives the function object fd (K's own) once, then the promise over every base -/
theorem walk_of {l : PySem.W.OpenLaw} {n k : Nat} {q : Program} {loose : List Str} {XP : (Str → Option Value) → Heap → Prop} {YP : World → Heap → Prop} {d : DefRec} {K : Params → PySem.W.Frag} {CX : World → CXT} {sp : World → Sp} {x : Str}
    (hn : l.most = some n) (hn2 : n ≤ sizeLine) (hdf : d.params.defaults = []) (hr : Room k callerA)
    (hY : ∀ (w : World) (h : Heap), YP w h → (K w.params).In h)
    (F : ∀ (w : World) (mg : Str → Option Value) (fa : Addr) (h : Heap), (K w.params).In h → h.Ns mainGlobals mg → mg d.name = some (.ref fa) →
      ∃ fd : FuncData, (∀ (s : Shared) (u : Value), BindsTo s fd ⟨[u], []⟩ [(x, u)]) ∧
        ∀ base : Heap, (K w.params).In base → base.Ns mainGlobals mg → FnOk l.prog w (K w.params) mg base (CX w) k fa fd [x] (sp w))
    (hsp : ∀ (w : World) (H : Hp) (a : Addr) (ns : List Int), ns.length ≤ n → Only H → SqL (K w.params) H a (ns.map V.int) → sp w [.ref a] H (fun v _ => v = .bl true) fun _ _ _ => False)
    (hCX : ∀ (w : World) (H : Hp) (s : Shared) (e : Value) (s' : Shared), CX w [] H s (fun _ _ _ => False) e s' → False) :
    PySem.W.WalkO q loose XP YP l.row.toRowW d [] (fun f vs => PySem.call f vs) := by
  refine Att.attach_call hn hdf fun w s₀ s₁ mg mb fa o pm cd doc a vs ns G Y ho hd hcd hmg hobj hints hlen hg => ?_
  have KX := hY w _ Y
  obtain ⟨fd, hb, hF⟩ := F w mg fa _ KX G.T.g hmg
  exact law_call KX G.T.g G.T.b G.T.builtins G.T.nolimit hg hobj hints (Nat.le_trans hlen hn2) hr hF hb (fun H hO hS => hsp w H a ns hlen hO hS) fun H e s' => hCX w H s₁ e s'
end L2



/-! SHORT WORDS over the layer: a def of the text, its body, what a loop and a test want. -/
namespace L2
open PySem PySem.Spec PyProof.Rows

/-! ### the text by places -/
/-- the j-th statement of a class's body -/
def inClass (s : Stmt) (j : Nat) : Stmt := match s with
  | .ClassDef _ _ _ body _ _ _ _ _ _ _ => body.getD j (.Pass ⟨0, 0, 0, 0⟩)
  | _ => .Pass ⟨0, 0, 0, 0⟩
def defArgs (s : Stmt) : Arguments := match s with
  | .FunctionDef _ a _ _ _ _ _ _ _ _ => a
  | _ => { posonlyargs := [], args := [], vararg := none, kwonlyargs := [], kw_defaults := [], kwarg := none, defaults := [] }
def defBody (s : Stmt) : List Stmt := match s with
  | .FunctionDef _ _ b _ _ _ _ _ _ _ => b
  | _ => []
def defScope (s : Stmt) : Scope := match s with
  | .FunctionDef _ _ _ _ _ _ sc _ _ _ => sc
  | _ => { kind := .function, names := [], isGenerator := false, isCoroutine := false }

/-! ### no exception leaves a def -/
abbrev CX0 : CXT := fun _ _ _ _ _ _ => False
abbrev E0 : XK := fun _ _ _ => False
theorem pass0 {X : Cx} : Passes CX0 X E0 := fun _ _ _ _ _ _ _ h => h.elim

/-! ### a def (or method) of the text as it stands behind the top -/
structure Fun (K : PySem.W.Frag) (x qual : Str) (st : Stmt) (f : Addr) (fd : FuncData) : Prop where
  ex : ∃ (oc : Value) (od : Option Addr) (kV doc pm : Value) (an : Option Addr) (cdv ct : Value) (osl : Array (Option Value)),
    fd = PySem.W.fnOf x qual (defArgs st) (defBody st) (defScope st) .none kV doc pm an cdv ct ∧ K.lookup f = some ⟨oc, od, .func fd, osl⟩ ∧ PySem.W.codeIn K cdv qual = true
  kp : PySem.W.keepIn K (.ref f) = true
section
variable {P : Program} {w : World} {K : PySem.W.Frag} {mg : Str → Option Value} {base : Heap}
/-- THE RULE for a def: its body as a term of rules, and the reading of that term -/
theorem Fun.ok {x qual : Str} {st : Stmt} {f : Addr} {fd : FuncData} {N ps : List Str} {k : Nat} {sp : Sp} (F : Fun K x qual st f fd) (S : FnScope N ps (defScope st)) (len : ∀ vs H Q E, sp vs H Q E → vs.length = ps.length)
    (hbody : ∀ (cdv : Value) (A : Around) (outer : List Env) (s : Shared) (H : Hp) (vs : List V) (Q : VK) (E : XK), Room k (A.deeper (envOfC qual (defScope st) s.heap.objs.size f cdv)) → sp vs H Q E →
      ∃ t, PSs (cxOf CX0 P w K mg base N qual (defScope st) f cdv A outer s H E).nox (defBody st) t ∧ t { nx := fun _ H' => Q .non H', rt := Q } (start N vs) H) : FnOk P w K mg base CX0 (k + 1) f fd ps sp := by
  obtain ⟨oc, od, kV, doc, pm, an, cdv, ct, osl, rfl, lk, hcd⟩ := F.ex
  refine fn_of lk hcd S len fun A outer s H vs Q E hr hsp => ?_
  obtain ⟨t, h, q⟩ := hbody cdv A outer s H vs Q E hr hsp
  exact ⟨t, h.nox, q⟩
/-- how its arguments bind (no defaults): h is «fun _ _ _ _ _ _ us hl => match us, hl with | [_, _], _ => rfl», one _ a parameter -/
theorem Fun.binds {x qual : Str} {st : Stmt} {f : Addr} {fd : FuncData} {ps : List Str} (F : Fun K x qual st f fd)
    (h : ∀ (kV doc pm : Value) (an : Option Addr) (cdv ct : Value) (us : List Value), us.length = ps.length → bindArgs (PySem.W.fnOf x qual (defArgs st) (defBody st) (defScope st) .none kV doc pm an cdv ct) ⟨us, []⟩ = pure (ps.zip us)) : Binds K fd ps [] := by
  obtain ⟨oc, od, kV, doc, pm, an, cdv, ct, osl, rfl, lk, hcd⟩ := F.ex
  exact .all (h kV doc pm an cdv ct)
theorem fun_mk {x qual : Str} {st : Stmt} {f : Addr} {oc : Value} {od an : Option Addr} {osl : Array (Option Value)} {kV doc pm cdv ct : Value} (l : K.lookup f = some ⟨oc, od, .func (PySem.W.fnOf x qual (defArgs st) (defBody st) (defScope st) .none kV doc pm an cdv ct), osl⟩)
    (c : PySem.W.codeIn K cdv qual = true) (k : PySem.W.keepIn K (.ref f) = true) : Fun K x qual st f (PySem.W.fnOf x qual (defArgs st) (defBody st) (defScope st) .none kV doc pm an cdv ct) := ⟨⟨oc, od, kV, doc, pm, an, cdv, ct, osl, rfl, l, c⟩, k⟩
end
/-! ### expressions in short: the name that stands in the i-th slot -/
section
variable {X : Cx}
theorem pv (i : Nat) {x : Str} {pos : Pos} (hN : X.N[i]? = some x := by rfl) (hv : Vis X.env.scope x := by first | exact Or.inl rfl | exact Or.inr (Or.inl rfl) | exact Or.inr (Or.inr rfl)) (hd : (x == ("__debug__" : Str)) = false := by decide)
    (hcd : (x == ("__classdict__" : Str)) = false := by decide) : PE X (.Name x pos) (tVar i) := pe_var hN hv hd hcd
end

/-! ### tests -/
theorem iteF {A B : Prop} (h : B) : if false = true then A else B := by
  rw [if_neg Bool.false_ne_true]
  exact h
theorem iteT {A B : Prop} (h : A) : if true = true then A else B := by
  rw [if_pos rfl]
  exact h
/-! ### heaps -/
/-- all that was tracked is as it was -/
def Same (H H' : Hp) : Prop := ∀ b o, H b = some o → H' b = some o
theorem Same.refl (H : Hp) : Same H H := fun _ _ h => h
theorem Same.trans {H H1 H2 : Hp} (a : Same H H1) (b : Same H1 H2) : Same H H2 := fun c o h => b c o (a c o h)
theorem Same.free {H H' : Hp} (e : Same H H') {l : Addr} (h : H' l = Option.none) : H l = Option.none := by
  cases q : H l with
  | none => rfl
  | some o =>
    rw [e l o q] at h
    cases h
theorem Same.seq {K : PySem.W.Frag} {H H' : Hp} {a : Addr} {xs : List V} (e : Same H H') (h : SqL K H a xs) : SqL K H' a xs := by
  rcases h with (h | ⟨o, h⟩) | h
  · exact .inl (.inl (e _ _ h))
  · exact .inl (.inr ⟨o, e _ _ h⟩)
  · exact .inr h

end L2
namespace L2
open PySem PySem.Spec PyProof.Rows

/-! ### what a call made and dropped may be forgotten -/
theorem ObjOk.swap {P : Program} {w : World} {H H' : Hp} {h h' : Heap} {a : Addr} {o : HO} (x : ObjOk P w H h a o) (y : ObjOk P w H' h' a o) : ObjOk P w H h' a o := by
  induction o with
  | ins C dx fs => exact ⟨x.1, y.2⟩
  | frz ob u ih => exact ⟨y.1, ih x.2 y.2⟩
  | _ => exact y
theorem HOk.forget {P : Program} {w : World} {H H' : Hp} {h h' : Heap} (a : HOk P w H h) (b : HOk P w H' h') (s : Same H H') : HOk P w H h' := fun x o e => (a x o e).swap (b x o (s x o e))
theorem Un.forget {fs ex : List Addr} {H H' : Hp} {h h' : Heap} (u : Un fs ex H H' h h') : Un fs ex H H h h' :=
  ⟨u.keep, u.slot, fun _ _ _ n _ => n, u.there, fun _ _ q => q, fun _ _ _ q => q, fun b ps q => ⟨#[], by rw [q]; simp⟩⟩
theorem FnOk.forget {P : Program} {w : World} {K : PySem.W.Frag} {mg : Str → Option Value} {base : Heap} {CX : CXT} {k : Nat} {f : Addr} {fd : FuncData} {ps : List Str} {sp sp' : Sp} (F : FnOk P w K mg base CX k f fd ps sp)
    (h : ∀ vs H Q E, sp' vs H Q E → sp vs H (fun v H' => Same H H' ∧ Q v H) E) : FnOk P w K mg base CX k f fd ps sp' where
  len := fun vs H Q E q => F.len _ _ _ _ (h _ _ _ _ q)
  run := fun A outer s H args us vs Q E hr e0 hb hv hs => by
    refine codeAny_mono (F.run A outer s H args us vs _ E hr e0 hb hv (h _ _ _ _ hs)) fun r s' q => ?_
    cases r with
    | error e => exact q
    | ok fl =>
      cases fl with
      | ret u =>
        obtain ⟨v, H', os, bare, un, hok, rv, sm, qv⟩ := q
        exact ⟨v, H, os, bare, un.forget, e0.hok.forget hok sm, rv, qv⟩
      | next => exact q
      | brk => exact q
      | cont => exact q

/-! ### a def of the text, a def that keeps a promise -/
structure Src (K : PySem.W.Frag) (mg : Str → Option Value) (x : Str) (st : Stmt) (ps : List Str) : Prop where
  ex : ∃ (f : Addr) (fd : FuncData), Fun K x x st f fd ∧ mg x = some (.ref f) ∧ ∀ us : List Value, us.length = ps.length → bindArgs fd ⟨us, []⟩ = pure (ps.zip us)
structure Def (P : Program) (w : World) (K : PySem.W.Frag) (mg : Str → Option Value) (base : Heap) (k : Nat) (x : Str) (ps : List Str) (sp : Sp) : Prop where
  ex : ∃ (f : Addr) (fd : FuncData), FnOk P w K mg base CX0 k f fd ps sp ∧ mg x = some (.ref f) ∧ PySem.W.keepIn K (.ref f) = true ∧ (∀ us : List Value, us.length = ps.length → bindArgs fd ⟨us, []⟩ = pure (ps.zip us)) ∧
    ∃ o, K.lookup f = some o ∧ o.data = .func fd
section
variable {P : Program} {w : World} {K : PySem.W.Frag} {mg : Str → Option Value} {base : Heap} {x : Str} {st : Stmt} {N ps : List Str} {k : Nat} {sp : Sp}
theorem Src.ok (S : Src K mg x st ps) (sc : FnScope N ps (defScope st)) (len : ∀ vs H Q E, sp vs H Q E → vs.length = ps.length)
    (hbody : ∀ (f : Addr) (cdv : Value) (A : Around) (outer : List Env) (s : Shared) (H : Hp) (vs : List V) (Q : VK) (E : XK), Room k (A.deeper (envOfC x (defScope st) s.heap.objs.size f cdv)) → sp vs H Q E →
      ∃ t, PSs (cxOf CX0 P w K mg base N x (defScope st) f cdv A outer s H E).nox (defBody st) t ∧ t { nx := fun _ H' => Q .non H', rt := Q } (start N vs) H) : Def P w K mg base (k + 1) x ps sp := by
  obtain ⟨f, fd, F, hm, hb⟩ := S.ex
  refine ⟨f, fd, F.ok sc len (fun cdv => hbody f cdv), hm, F.kp, hb, ?_⟩
  obtain ⟨oc, od, kV, doc, pm, an, cdv, ct, osl, e, lk, hcd⟩ := F.ex
  exact ⟨_, lk, rfl⟩
/-- .. what it made is dropped -/
theorem Src.okF (S : Src K mg x st ps) (sc : FnScope N ps (defScope st)) (len : ∀ vs H Q E, sp vs H Q E → vs.length = ps.length)
    (hbody : ∀ (f : Addr) (cdv : Value) (A : Around) (outer : List Env) (s : Shared) (H : Hp) (vs : List V) (Q : VK) (E : XK), Room k (A.deeper (envOfC x (defScope st) s.heap.objs.size f cdv)) → sp vs H Q E →
      ∃ t, PSs (cxOf CX0 P w K mg base N x (defScope st) f cdv A outer s H E).nox (defBody st) t ∧ t { nx := fun _ H' => Same H H' ∧ Q .non H, rt := fun v H' => Same H H' ∧ Q v H } (start N vs) H) : Def P w K mg base (k + 1) x ps sp := by
  obtain ⟨f, fd, F, hm, hb⟩ := S.ex
  have G : FnOk P w K mg base CX0 (k + 1) f fd ps (fun vs H R E => ∃ Q, sp vs H Q E ∧ R = fun v H' => Same H H' ∧ Q v H) :=
    F.ok sc (fun vs H R E ⟨Q, h, _⟩ => len vs H Q E h) fun cdv A outer s H vs R E hr ⟨Q, h, e⟩ => by
      subst e
      exact hbody f cdv A outer s H vs Q E hr h
  refine ⟨f, fd, G.forget fun vs H Q E h => ⟨Q, h, rfl⟩, hm, F.kp, hb, ?_⟩
  obtain ⟨oc, od, kV, doc, pm, an, cdv, ct, osl, e, lk, hcd⟩ := F.ex
  exact ⟨_, lk, rfl⟩
theorem src_mk {h : Heap} {f : Addr} {oc : Value} {od an : Option Addr} {osl : Array (Option Value)} {kV doc pm cdv ct : Value} (X : K.In h) (G : h.Ns mainGlobals mg) (a : PySem.W.nsIn K mainGlobals x = some (some (.ref f)))
    (l : K.lookup f = some ⟨oc, od, .func (PySem.W.fnOf x x (defArgs st) (defBody st) (defScope st) .none kV doc pm an cdv ct), osl⟩) (c : PySem.W.codeIn K cdv x = true) (k : PySem.W.keepIn K (.ref f) = true)
    (hb : ∀ us : List Value, us.length = ps.length → bindArgs (PySem.W.fnOf x x (defArgs st) (defBody st) (defScope st) .none kV doc pm an cdv ct) ⟨us, []⟩ = pure (ps.zip us)) : Src K mg x st ps :=
  ⟨f, _, fun_mk l c k, PySem.W.mg_of X G a, hb⟩
theorem gint_mk {h : Heap} {i : Int} {t : Tok} (X : K.In h) (G : h.Ns mainGlobals mg) (a : PySem.W.nsIn K mainGlobals x = some (some (.int i t))) : ∃ t, mg x = some (.int i t) := ⟨t, PySem.W.mg_of X G a⟩
theorem gtup_mk {h : Heap} {p : Addr} {od : Option Addr} {its : Array Value} {n : Nat} {sl : Array (Option Value)} {xs : List V} (X : K.In h) (G : h.Ns mainGlobals mg) (a : PySem.W.nsIn K mainGlobals x = some (some (.ref p)))
    (l : K.lookup p = some ⟨.type "tuple", od, .seq its n, sl⟩) (r : Vals xs its.toList) (z : its.size ≤ sizeLine) : ∃ a, mg x = some (.ref a) ∧ ∀ H, SqT K H a xs :=
  ⟨p, PySem.W.mg_of X G a, fun H => .inr ⟨_, its, n, l, rfl, rfl, z, r⟩⟩
end
/-- the goal that k_head leaves, from the law's promise -/
theorem walk_def {l : PySem.W.OpenLaw} {lv : Nat} {q : Program} {loose : List Str} {XP : (Str → Option Value) → Heap → Prop} {YP : World → Heap → Prop} {d : DefRec} {K : Params → PySem.W.Frag} {sp : PySem.W.Frag → Sp} {x : Str} {st : Stmt}
    (hn : l.most = some 63) (hdf : d.params.defaults = []) (hnm : d.name = "law") (hr : Room lv callerA)
    (hY : ∀ (w : World) (h : Heap), YP w h → (K w.params).In h)
    (F : ∀ (w : World) (mg : Str → Option Value) (h : Heap), (K w.params).In h → h.Ns mainGlobals mg →
      Src (K w.params) mg "law" st [x] ∧ ∀ base : Heap, Def l.prog w (K w.params) mg base lv "law" [x] (sp (K w.params)))
    (hsp : ∀ (K : PySem.W.Frag) (H : Hp) (a : Addr) (ns : List Int), ns.length ≤ 63 → SqL K H a (ns.map V.int) → sp K [.ref a] H (fun v _ => v = .bl true) fun _ _ _ => False) :
    PySem.W.WalkO q loose XP YP l.row.toRowW d [] (fun f vs => PySem.call f vs) := by
  refine L2.walk_of (n := 63) (k := lv) (x := x) (CX := fun _ => CX0) (sp := fun w => sp (K w.params)) hn (by decide) hdf hr hY ?_ (fun w H a ns h1 h2 h3 => hsp (K w.params) H a ns h1 h3) fun _ _ _ _ _ z => z
  intro w mg fa h KX G hmg
  obtain ⟨S, D⟩ := F w mg h KX G
  obtain ⟨f, fd, Fn, hm, hb⟩ := S.ex
  obtain ⟨oc, od, kV, doc, pm, an, cdv, ct, osl, e, lk, hcd⟩ := Fn.ex
  refine ⟨fd, fun s u => .of_eq (hb [u] rfl), fun base _ _ => ?_⟩
  obtain ⟨f', fd', ok, hm', _, _, o, lk', ho⟩ := (D base).ex
  rw [hnm, hm] at hmg
  rw [hm] at hm'
  cases hmg
  cases hm'
  rw [lk] at lk'
  cases lk'
  cases ho
  exact ok

/-! ### rules of ours -/
section
variable {X : Cx} {x : Str} {p pos : Pos} {e : Expr} {es : List Expr} {t : TA} {j k : Nat} {ps : List Str} {sp : Sp}
theorem pe_fn (D : Def X.prog X.w X.K X.mg X.base j x ps sp) (hr : Room k X.A) (ha : PA X (e :: es) t) (hg : Gl X x := by rfl) (hj : j ≤ k := by decide) (hdb : (x == ("__debug__" : Str)) = false := by decide)
    (he : starEach (e :: es) X.env = (false, eval e X.env) :: starEach es X.env := by rfl) (hpl : (backTo pos (starEach es X.env)).any (·.1) = false := by rfl) :
    PE X (.Call (.Name x p) (e :: es) [] pos) (tCall sp [] E0 t) := by
  obtain ⟨f, fd, F, hm, hk, hb, _⟩ := D.ex
  exact pe_call F (hr.mono hj) hg hm hk (.all hb) .nil pass0 ha hdb he hpl
theorem pe_gint {i : Int} (h : ∃ t, X.mg x = some (.int i t)) (hg : Gl X x := by rfl) (hd : (x == ("__debug__" : Str)) = false := by decide) : PE X (.Name x pos) (tC (.int i)) := by
  obtain ⟨t, h⟩ := h
  exact pe_glob hg h ⟨t, rfl⟩ hd
def tGT (K : PySem.W.Frag) (xs : List V) : TE := fun _ H Q => ∀ a, (∀ H, SqT K H a xs) → Q (.ref a) H
theorem pe_gtup {xs : List V} (h : ∃ a, X.mg x = some (.ref a) ∧ ∀ H, SqT X.K H a xs) (hg : Gl X x := by rfl) (hd : (x == ("__debug__" : Str)) = false := by decide) : PE X (.Name x pos) (tGT X.K xs) := by
  obtain ⟨a, h, hs⟩ := h
  intro pins s σ H Q I hq
  exact pe_glob (v := .ref a) hg h rfl hd pins s σ H Q I (hq a hs)
theorem call_isinst : CallR X (.builtin "isinstance") (fun xs H Q => ∃ x t n b, xs = [x, .ty n] ∧ TyOf X.K H x t ∧ PySem.W.kitOne X.K t (.type n) = some b ∧ Q (.bl b) H) := by
  intro pins s σ H xs us Q I r h
  obtain ⟨x, t, n, b, rfl, ty, e, q⟩ := h
  obtain ⟨u, w', rfl, rx, rn⟩ := vals2 r
  cases rn
  exact isinst_ok I rx ty e fun tk => ⟨.bl b, H, I.tok tk, rfl, q⟩
end
/-! ### tests -/
theorem ifI {a b : Int} {A B : Prop} (h1 : a = b → A) (h2 : ¬ a = b → B) : if decide (V.int a = V.int b) = true then A else B := by
  by_cases h : a = b
  · rw [if_pos (by rw [h]; simp)]; exact h1 h
  · rw [if_neg (by simpa using h)]; exact h2 h
theorem ifNI {a b : Int} {A B : Prop} (h1 : ¬ a = b → A) (h2 : a = b → B) : if (!decide (V.int a = V.int b)) = true then A else B := by
  by_cases h : a = b
  · rw [if_neg (by rw [h]; simp)]; exact h2 h
  · rw [if_pos (by simpa using h)]; exact h1 h
theorem ifD {p A B : Prop} [Decidable p] (h1 : p → A) (h2 : ¬ p → B) : if decide p = true then A else B := by
  by_cases h : p
  · rw [if_pos (by simpa using h)]; exact h1 h
  · rw [if_neg (by simpa using h)]; exact h2 h
theorem ifB {c : Bool} {A B : Prop} (h1 : c = true → A) (h2 : c = false → B) : if c = true then A else B := by
  cases c with
  | true => rw [if_pos rfl]; exact h1 rfl
  | false => rw [if_neg Bool.false_ne_true]; exact h2 rfl
theorem dI {a b : Int} : decide (V.int a = V.int b) = decide (a = b) := by
  by_cases h : a = b <;> simp [h]
/-- an item of a list of ints at a bounded place -/
theorem at_ints {ns : List Int} {k : Int} (h0 : 0 ≤ k) (h : k < (ns.length : Int)) : atI (ns.map V.int) k = some (.int (ns.getD k.toNat 0)) := by
  have hk : k.toNat < ns.length := by omega
  have q : atI (ns.map V.int) ((k.toNat : Nat) : Int) = some (.int (ns.getD k.toNat 0)) := atI_nat (by rw [List.getElem?_map, List.getElem?_eq_getElem hk, List.getD_eq_getElem?_getD, List.getElem?_eq_getElem hk] <;> rfl)
  rw [show ((k.toNat : Nat) : Int) = k by omega] at q
  exact q
theorem kit_ii {K : PySem.W.Frag} : PySem.W.kitOne K (.type "int") (.type "int") = some true := by rfl
theorem kit_ib {K : PySem.W.Frag} : PySem.W.kitOne K (.type "int") (.type "bool") = some false := by rfl
/-! ### a statement whose end is told by a word of one's own -/
def tCut (t : TS) : TS := fun D σ H => ∃ Mid : St → Hp → Prop, t { D with nx := Mid } σ H ∧ ∀ σ' H', Mid σ' H' → D.nx σ' H'
theorem ps_cut {X : Cx} {st : Stmt} {t : TS} (h : PS X st t) : PS X st (tCut t) := by
  intro pins s σ H D I ⟨Mid, hq, hm⟩
  refine thn (h pins s σ H _ I hq) fun f s' q => ?_
  cases f with
  | next =>
    obtain ⟨σ', H', I', q⟩ := q
    exact ⟨σ', H', I', hm σ' H' q⟩
  | ret v => exact q
  | brk => exact q
  | cont => exact q
end L2
namespace L2
open PySem PySem.Spec PyProof.Rows
/-! ### list comprehensions with one clause -/
theorem noE {α : Type} {M : Model} {A : Around} {s : Shared} {t : Sem α} {Q : α → Shared → Prop} {E : Value → Shared → Prop} (h : wpAny M A t Q (fun _ _ => False) s) : wpAny M A t Q E s := wpAny_mono h (fun _ _ q => q) fun _ _ z => z.elim
section
variable {prog : Program} {w : World} {A : Around} {R : Result → Shared → Prop} {s : Shared}
/-- a turn: the item, then (where the test holds) the element, put to the list -/
theorem comp_loop {elt target iter : Expr} {scope : Scope} {pos : Pos} {it acc : Value} {env : Env} (I : Nat → Shared → Prop)
    (turn : ∀ n s, I n s → wpAny (model prog w) A (pyNext it) (fun r s₁ => match r with
      | none => R (.ok .next) s₁
      | some v => wpAny (model prog w) A (letOwnedTupleGo target it v) (fun _ s₂ => wpAny (model prog w) A (assign target env v) (fun _ s₃ => wpAny (model prog w) A (eval elt env) (fun y s₄ =>
          wpAny (model prog w) A (call (.builtin "list.append") [acc, y]) (fun _ s₅ => ∃ m, m < n ∧ I m s₅) (fun _ _ => False) s₄) (fun _ _ => False) s₃) (fun _ _ => False) s₂) (fun _ _ => False) s₁) (fun _ _ => False) s)
    (n : Nat) (h : I n s) : codeAny (model prog w) A (.compLoop (.ListComp elt [⟨target, iter, [], 0⟩] scope pos) 0 it acc env) R s := by
  refine codeAny_loop rfl I (fun n s hI => ?_) n h
  show wpAny _ _ (Sem.onRaise (compTurn (.ListComp elt [⟨target, iter, [], 0⟩] scope pos) 0 it acc env) _) _ _ s
  refine wpAny_noted (noE ?_)
  rw [compTurn_list1]
  refine wpAny_bind (wpAny_standAt (wpAny_bind (wpAny_mono (turn n s hI) (fun r s₁ h₁ => ?_) fun _ _ z => z)))
  cases r with
  | none => exact wpAny_pure h₁
  | some v =>
    refine wpAny_bind (wpAny_mono h₁ (fun _ s₂ h₂ => ?_) fun _ _ z => z)
    refine wpAny_bind (wpAny_mono h₂ (fun _ s₃ h₃ => ?_) fun _ _ z => z)
    refine wpAny_bind (wpAny_bind (wpAny_mono h₃ (fun y s₄ h₄ => ?_) fun _ _ z => z))
    refine wpAny_bind (wpAny_mono h₄ (fun _ s₅ h₅ => ?_) fun _ _ z => z)
    exact wpAny_pure (wpAny_pure ⟨rfl, h₅⟩)
theorem comp_loop_if {elt target iter c : Expr} {scope : Scope} {pos : Pos} {it acc : Value} {env : Env} (I : Nat → Shared → Prop)
    (turn : ∀ n s, I n s → wpAny (model prog w) A (pyNext it) (fun r s₁ => match r with
      | none => R (.ok .next) s₁
      | some v => wpAny (model prog w) A (letOwnedTupleGo target it v) (fun _ s₂ => wpAny (model prog w) A (assign target env v) (fun _ s₃ => wpAny (model prog w) A (isTrue c env (eval c env)) (fun b s₄ =>
          if b = true then wpAny (model prog w) A (eval elt env) (fun y s₅ =>
            wpAny (model prog w) A (call (.builtin "list.append") [acc, y]) (fun _ s₆ => ∃ m, m < n ∧ I m s₆) (fun _ _ => False) s₅) (fun _ _ => False) s₄
          else ∃ m, m < n ∧ I m s₄) (fun _ _ => False) s₃) (fun _ _ => False) s₂) (fun _ _ => False) s₁) (fun _ _ => False) s)
    (n : Nat) (h : I n s) : codeAny (model prog w) A (.compLoop (.ListComp elt [⟨target, iter, [c], 0⟩] scope pos) 0 it acc env) R s := by
  refine codeAny_loop rfl I (fun n s hI => ?_) n h
  show wpAny _ _ (Sem.onRaise (compTurn (.ListComp elt [⟨target, iter, [c], 0⟩] scope pos) 0 it acc env) _) _ _ s
  refine wpAny_noted (noE ?_)
  rw [compTurn_list]
  refine wpAny_bind (wpAny_standAt (wpAny_bind (wpAny_mono (turn n s hI) (fun r s₁ h₁ => ?_) fun _ _ z => z)))
  cases r with
  | none => exact wpAny_pure h₁
  | some v =>
    refine wpAny_bind (wpAny_mono h₁ (fun _ s₂ h₂ => ?_) fun _ _ z => z)
    refine wpAny_bind (wpAny_mono h₂ (fun _ s₃ h₃ => ?_) fun _ _ z => z)
    simp only [List.forIn_cons, List.forIn_nil, if_true, bind_assoc, pure_bind]
    refine wpAny_bind (wpAny_mono h₃ (fun b s₄ h₄ => ?_) fun _ _ z => z)
    cases b with
    | true =>
      simp only [if_true] at h₄ ⊢
      refine wpAny_bind (wpAny_mono h₄ (fun y s₅ h₅ => ?_) fun _ _ z => z)
      refine wpAny_bind (wpAny_mono h₅ (fun _ s₆ h₆ => ?_) fun _ _ z => z)
      exact wpAny_pure ⟨rfl, h₆⟩
    | false =>
      simp only [Bool.false_eq_true, if_false] at h₄ ⊢
      exact wpAny_pure ⟨rfl, h₄⟩
end
/-- the cells that the block takes over -/
def closOf (sc : Scope) (env : Env) : List (Str × Addr) := (sc.names.filterMap fun p => if p.2 == .free then (env.cells.lookup p.1).map fun c => (p.1, c) else none).reverse
/-- the block's run: its frame's dict, the state and heap ahead of it, pins, iterators -/
structure Blk where
  C : Addr
  s : Shared
  H : Hp
  pn : List (Addr × Obj)
  ex : List Addr
def Cx.block (X : Cx) (sc : Scope) (x : Str) (ix : List Nat) (b : Blk) : Cx where
  prog := X.prog
  w := X.w
  K := X.K
  mg := X.mg
  base := X.base
  A := X.A
  N := x :: ix.map fun i => X.N.getD i x
  s₀ := b.s
  H₀ := b.H
  env := compEnvC sc (closOf sc X.env) b.C X.env
  outer := X.stack
  stack := X.stack
  ex := b.ex
  fn := fun _ => false
  calm := X.calm
  pn := b.pn
  xe := fun _ _ => False
def capts (σ : St) (ix : List Nat) : St := ix.map fun i => σ.getD i none
def CapOk (X : Cx) (sc : Scope) (x : Str) (i : Nat) : Prop :=
  (X.env.kindOf (X.N.getD i x) = some .cell ∨ X.env.kindOf (X.N.getD i x) = some .free) ∧ ((relabel sc X.env).names.lookup (X.N.getD i x) = some .cell ∨ (relabel sc X.env).names.lookup (X.N.getD i x) = some .free) ∧
    (closOf sc X.env).lookup (X.N.getD i x) = X.env.cells.lookup (X.N.getD i x)
def CapsOk (X : Cx) (sc : Scope) (x : Str) : List Nat → Prop
  | [] => True
  | i :: r => CapOk X sc x i ∧ CapsOk X sc x r
theorem CapsOk.get {X : Cx} {sc : Scope} {x : Str} : ∀ {ix : List Nat}, CapsOk X sc x ix → ∀ i ∈ ix, CapOk X sc x i
  | [], _, _, h => nomatch h
  | _ :: _, h, _, hi => (List.mem_cons.mp hi).elim (fun e => e ▸ h.1) fun z => CapsOk.get h.2 _ z
def SubOk (cells : List (Str × Addr)) : List (Str × Addr) → Prop
  | [] => True
  | p :: r => cells.lookup p.1 = some p.2 ∧ SubOk cells r
theorem SubOk.get {cells : List (Str × Addr)} : ∀ {cl : List (Str × Addr)}, SubOk cells cl → ∀ y c, cl.lookup y = some c → cells.lookup y = some c
  | [], _, _, _, h => by simp at h
  | p :: r, h, y, c, e => by
    rw [List.lookup_cons] at e
    cases q : y == p.1 with
    | true =>
      rw [q] at e
      have e1 : p.2 = c := Option.some.inj e
      rw [eq_of_beq q, ← e1]
      exact h.1
    | false =>
      rw [q] at e
      exact SubOk.get h.2 y c e
def HasOk (cl : List (Str × Addr)) : List (Str × NameKind) → Prop
  | [] => True
  | p :: r => (p.2 = .cell ∨ p.2 = .free → ∃ c, cl.lookup p.1 = some c) ∧ HasOk cl r
theorem HasOk.get {cl : List (Str × Addr)} : ∀ {ns : List (Str × NameKind)}, HasOk cl ns → ∀ p ∈ ns, p.2 = .cell ∨ p.2 = .free → ∃ c, cl.lookup p.1 = some c
  | [], _, _, h => nomatch h
  | _ :: _, h, _, hp => (List.mem_cons.mp hp).elim (fun e => e ▸ h.1) fun z => HasOk.get h.2 _ z
structure CompOk (X : Cx) (sc : Scope) (x : Str) (ix : List Nat) : Prop where
  clos : closureFor sc X.env = pure (closOf sc X.env)
  cell : ∀ y ∈ sc.names, y.2 ≠ .cell
  kind : sc.kind = .function
  names : ∀ y ∈ sc.names, y.2 = .local → sc.names.lookup y.1 = some .local
  var : sc.names.lookup x = some .local
  nd : (x :: ix.map fun i => X.N.getD i x).Nodup
  cap : CapsOk X sc x ix
  sub : SubOk X.env.cells (closOf sc X.env)
  has : HasOk (closOf sc X.env) (relabel sc X.env).names
section
variable {X : Cx} {pins : List (Addr × Obj)} {σ : St} {H : Hp} {s : Shared} {sc : Scope} {x : Str} {ix : List Nat} {fp : List Addr}
theorem block_ok (I : Inv X pins σ H s) (O : CompOk X sc x ix) (hf : ∀ b ∈ fp, FpOk X pins H b) (hx : ∀ b ∈ fp, ∃ o, s.heap.get? b = some o) : (X.block sc x ix ⟨s.heap.objs.size, s, H, X.pn ++ pins, fp⟩).Ok where
  mod := I.ok.mod
  kind := O.kind
  glob := I.ok.glob
  blt := I.ok.blt
  above := Nat.le_refl _
  inj := fun y z c h1 h2 => I.ok.inj y z c (O.sub.get y c h1) (O.sub.get z c h2)
  has := fun y h => by
    have h' : (relabel sc X.env).names.lookup y = some .cell ∨ (relabel sc X.env).names.lookup y = some .free := h
    rcases h' with h' | h'
    · exact O.has.get _ (PySem.mem_of_lookup h') (.inl rfl)
    · exact O.has.get _ (PySem.mem_of_lookup h') (.inr rfl)
  cab := fun _ _ h => absurd (show false = true from h) Bool.false_ne_true
  hd := I.ok.hd
  frames := I.ok.frames
  stk := .inl rfl
  exf := fun b hb => by
    obtain ⟨o, e⟩ := hx b hb
    exact ⟨Nat.ne_of_lt (Heap.lt_size e), fun y c h => (hf b hb).2.2.2.2.1 y c (O.sub.get y c h)⟩
  bs := I.bs
  bsz := Nat.le_trans I.ok.bsz I.sz
  noex := fun b o e hb => by
    rcases (hf b hb).2.2.2.1 with z | z
    · exact I.ok.noex b o e z
    · exact absurd (Nat.lt_of_lt_of_le (Heap.lt_size e) (Nat.le_trans I.ok.bsz z)) (Nat.lt_irrefl _)
  exfs := fun b hb z => (List.mem_cons.mp (I.stkSub b z)).elim (hf b hb).2.1 (hf b hb).2.2.1
  funs := I.stack
  frf := I.stkFree
theorem block_inv {h₁ : Heap} {m : Str → Option Value} {tk : Nat} (I : Inv X pins σ H s) (O : CompOk X sc x ix) (hf : ∀ b ∈ fp, FpOk X pins H b) (hx : ∀ b ∈ fp, ∃ o, s.heap.get? b = some o)
    (hn : h₁.Ns s.heap.objs.size m) (keep : ∀ b o, s.heap.get? b = some o → h₁.get? b = some o) :
    Inv (X.block sc x ix ⟨s.heap.objs.size, s, H, X.pn ++ pins, fp⟩) [] (none :: capts σ ix) H { s with heap := h₁, toks := tk } := by
  refine ⟨block_ok I O hf hx, rfl, I.bare, Un.kept keep, ⟨m, hn, fun i y v e1 e2 _ => ?_⟩, fun y c h => ?_, I.hok.fresh (Nat.le_refl _), fun y c h => I.freeC y c (O.sub.get y c h), fun p hp => ?_, I.hok.kept keep, ?_⟩
  · cases i with
    | zero => cases e2
    | succ j =>
      have e1' : (ix.map fun i => X.N.getD i x)[j]? = some y := e1
      have e2' : (capts σ ix)[j]? = some (some v) := e2
      unfold capts at e2'
      rw [List.getElem?_map] at e1' e2'
      cases q : ix[j]? with
      | none => rw [q] at e1'; cases e1'
      | some i =>
        rw [q] at e1' e2'
        have e3 : X.N.getD i x = y := Option.some.inj e1'
        have e4 : σ.getD i none = some v := Option.some.inj e2'
        obtain ⟨c1, c2, c3⟩ := O.cap.get i (List.mem_of_getElem? q)
        rw [e3] at c1 c2 c3
        have e5 : σ[i]? = some (some v) := by
          rw [List.getD_eq_getElem?_getD] at e4
          cases z : σ[i]? with
          | none => rw [z] at e4; cases e4
          | some a => rw [z] at e4; exact congrArg some e4
        have hl : i < X.N.length := by
          rw [← I.len]
          exact (List.getElem?_eq_some_iff.mp e5).1
        have e6 : X.N[i]? = some y := by
          rw [List.getD_eq_getElem?_getD, List.getElem?_eq_getElem hl] at e3
          rw [List.getElem?_eq_getElem hl]
          exact congrArg some e3
        obtain ⟨m0, _, l0⟩ := I.loc
        have vis : Vis X.env.scope y := by
          rcases c1 with z | z
          · exact .inr (.inl z)
          · exact .inr (.inr z)
        obtain ⟨u, ru, lu⟩ := l0 i y v e6 e5 vis
        refine ⟨u, ru, ?_⟩
        rcases lu with ⟨k, _⟩ | ⟨_, c, hc, o, ho, hd⟩
        · rcases c1 with z | z
          · rw [z] at k; cases k
          · rw [z] at k; cases k
        · exact .inr ⟨c2, c, c3.trans hc, o, keep c o ho, hd⟩
  · obtain ⟨v, o, ho, hd⟩ := I.cell y c (O.sub.get y c h)
    exact ⟨v, o, keep c o ho, hd⟩
  · have hp' : p ∈ X.pn ++ pins := by
      rcases List.mem_append.mp hp with z | z
      · exact z
      · cases z
    obtain ⟨e, n, ne, nf, d⟩ := I.pin p hp'
    exact ⟨keep _ _ e, n, Nat.ne_of_lt (Heap.lt_size e), fun z => (List.mem_cons.mp (I.stkSub _ z)).elim ne nf, d⟩
  · show (none :: capts σ ix).length = (x :: ix.map fun i => X.N.getD i x).length
    simp [capts]
/-- back from the block -/
theorem block_back {pins' : List (Addr × Obj)} {σ' : St} {H' : Hp} {s' : Shared} (I : Inv X pins σ H s) (hf : ∀ b ∈ fp, FpOk X pins H b) (J : Inv (X.block sc x ix ⟨s.heap.objs.size, s, H, X.pn ++ pins, fp⟩) pins' σ' H' s') : Inv X pins σ H' s' :=
  I.call' J.os J.base J.hok J.bare fun b hb => ⟨(hf b hb).2.2.2.1, (hf b hb).2.1, (hf b hb).2.2.2.2.1, (hf b hb).2.2.2.2.2⟩
theorem Inv.addpin {b : Addr} {o : Obj} (I : Inv X pins σ H s) (e : s.heap.get? b = some o) (hn : H b = none) (hL : b ≠ X.env.locals) (hf : b ∉ X.fs) (hd : ∀ v, o.data ≠ .cell v) : Inv X (pins ++ [(b, o)]) σ H s :=
  I.pins_of fun p hp => (List.mem_append.mp hp).elim (fun z => I.pin p (List.mem_append_right _ z)) fun z => by
    have e' : p = (b, o) := by simpa using z
    subst e'
    exact ⟨e, hn, hL, hf, hd⟩
end
/-- what the block does, turn by turn: W by the turn, a measure, the list so far -/
def Turns (ix : List Nat) (te : TE) (σ : St) (J : It) (l : Addr) (R : Hp → Prop) (W : Nat → Nat → List V → Hp → Prop) : Prop :=
  ∀ i m xs H', W i m xs H' → H' l = some (.lst xs) ∧ ((J.stop i H' ∧ R H') ∨ (J.go i H' ∧ xs.length < sizeLine ∧ ∀ x H2, J.yld i H' x H2 →
    te (some x :: capts σ ix) H2 fun v H3 => H3 l = some (.lst xs) ∧ ∃ m', m' < m ∧ W (i + 1) m' (xs ++ [v]) (upd H3 l (.lst (xs ++ [v])))))
def tComp (ix : List Nat) (wi : TI) (te : TE) : TE := fun σ H Q => wi σ H fun J H1 => ∀ l, H1 l = none → ∃ W : Nat → Nat → List V → Hp → Prop, (∃ m, W 0 m [] (upd H1 l (.lst []))) ∧ Turns ix te σ J l (Q (.ref l)) W
section
variable {X : Cx} {pins : List (Addr × Obj)} {σ : St} {H : Hp} {s : Shared} {sc : Scope} {x : Str} {ix : List Nat} {fp : List Addr} {elt iter : Expr} {te : TE} {wi : TI} {px pos : Pos}
theorem comp_core {it : Addr} {tn : Nat → Heap → Prop} {J : It} {use : Option (Value → Sem Unit)} {Q : Value → Shared → Prop} {E : Value → Shared → Prop} (O : CompOk X sc x ix) (hel : ∀ b, PE (X.block sc x ix b) elt te) (hc : X.calm = true)
    (I : Inv X pins σ H s) (T : Turn X.prog X.w X.K (.Name x px) J fp it tn) (st : tn 0 s.heap) (hf : ∀ b ∈ fp, FpOk X pins H b) (R : Addr → Hp → Prop)
    (h : ∀ l, H l = none → ∃ W : Nat → Nat → List V → Hp → Prop, (∃ m, W 0 m [] (upd H l (.lst []))) ∧ Turns ix te σ J l (R l) W)
    (fin : ∀ l C m s' H', Inv X pins σ H' s' → s'.heap.Ns C m → FpOk X pins H' C → R l H' → compPost (model X.prog X.w) X.A E use Q (.ref l) C (.ok .next) s') :
    wpAny (model X.prog X.w) X.A (newList []) (fun acc s₃ => wpAny (model X.prog X.w) X.A (newFunctionEnv sc X.env.globals (closOf sc X.env) [] X.env.qual none .none (some X.env)) (fun cenv s₄ =>
      codeAny (model X.prog X.w) X.A (.compStart (.ListComp elt [⟨.Name x px, iter, [], 0⟩] sc pos) 0 (.ref it) acc { cenv with scope := relabel sc X.env }) (compPost (model X.prog X.w) X.A E use Q acc cenv.locals) s₄) E s₃) E s := by
  refine wpAny_newObj_type (wpAny_newFunctionEnv O.cell (by intro y hy; simp at hy) (fun h₁ hns hsb => ?_) O.kind)
  dsimp only at hns hsb ⊢
  have hl0 : H s.heap.objs.size = none := I.hok.fresh (Nat.le_refl _)
  obtain ⟨W, ⟨m0, w0⟩, tr⟩ := h s.heap.objs.size hl0
  have I3 : Inv X pins σ (upd H s.heap.objs.size (.lst [])) { s with heap := s.heap.push { cls := .type "list", dict := none, data := .seq ([] : List Value).toArray } } :=
    I.laid (t' := s.toks) (fun b o e => Heap.get?_push_of_some _ e) (Nat.le_refl _) ⟨Nat.zero_le _, [], 0, .nil, Heap.get?_push_size _ rfl⟩
  have ofp : ∀ b ∈ fp, ∃ o, s.heap.get? b = some o := fun b hb => by
    obtain ⟨o, e, _⟩ := T.obj 0 _ st b hb
    exact ⟨o, e⟩
  generalize e3 : s.heap.push { cls := .type "list", dict := none, data := .seq ([] : List Value).toArray } = G at I3 hns hsb ⊢
  have ofp3 : ∀ b ∈ fp, ∃ o, G.get? b = some o := fun b hb => by
    obtain ⟨o, e⟩ := ofp b hb
    exact ⟨o, by rw [← e3]; exact Heap.get?_push_of_some _ e⟩
  have nl : ∀ b ∈ fp, b ≠ s.heap.objs.size := fun b hb => by
    obtain ⟨o, e⟩ := ofp b hb
    exact Nat.ne_of_lt (Heap.lt_size e)
  have hf3 : ∀ b ∈ fp, FpOk X pins (upd H s.heap.objs.size (.lst [])) b := fun b hb => ⟨by rw [upd_ne (nl b hb)]; exact (hf b hb).1, (hf b hb).2⟩
  have keep3 : ∀ b o, G.get? b = some o → h₁.get? b = some o := fun b o e => hsb.extBut b o (Nat.ne_of_lt (Heap.lt_size e)) (Heap.get?_push_of_some _ e)
  have stk : tn 0 h₁ := T.keep _ _ _ st fun b hb o e => keep3 b o (by rw [← e3]; exact Heap.get?_push_of_some _ e)
  have J0 := block_inv (tk := s.toks + ([] : List (Str × Value)).length) I3 O hf3 ofp3 hns keep3
  -- what stays true of the iterator
  have stat : ∀ {H' : Hp}, (∀ b ∈ fp, H' b = none) → ∀ b ∈ fp, FpOk (X.block sc x ix ⟨G.objs.size, { s with heap := G }, upd H s.heap.objs.size (.lst []), X.pn ++ pins, fp⟩) [] H' b := fun hn b hb => by
    obtain ⟨o, e⟩ := ofp3 b hb
    refine ⟨hn b hb, Nat.ne_of_lt (Heap.lt_size e), fun z => (List.mem_cons.mp (I3.stkSub _ z)).elim (hf b hb).2.1 (hf b hb).2.2.1, .inl hb, fun y c q => (hf b hb).2.2.2.2.1 y c (O.sub.get y c q), fun p hp => ?_⟩
    have hp' : p ∈ X.pn ++ pins := by
      rcases List.mem_append.mp hp with z | z
      · exact z
      · cases z
    exact (hf b hb).2.2.2.2.2 p hp'
  have loop : ∀ s4 : Shared, s4 = { s with heap := h₁, toks := s.toks + ([] : List (Str × Value)).length } →
      codeAny (model X.prog X.w) X.A (.compLoop (.ListComp elt [⟨.Name x px, iter, [], 0⟩] sc pos) 0 (.ref it) (.ref s.heap.objs.size) (compEnvC sc (closOf sc X.env) G.objs.size X.env))
        (compPost (model X.prog X.w) X.A E use Q (.ref s.heap.objs.size) G.objs.size) s4 := by
    rintro s4 rfl
    refine comp_loop (fun n s' => ∃ i xs H' z, Inv (X.block sc x ix ⟨G.objs.size, { s with heap := G }, upd H s.heap.objs.size (.lst []), X.pn ++ pins, fp⟩) [] (z :: capts σ ix) H' s' ∧ tn i s'.heap ∧ (∀ b ∈ fp, H' b = none) ∧ W i n xs H') ?_ m0
      ⟨0, [], _, none, J0, stk, fun b hb => (hf3 b hb).1, w0⟩
    rintro n s5 ⟨i, xs, H5, z, I5, st5, fr5, w5⟩
    obtain ⟨hl5, h5⟩ := tr i n xs H5 w5
    rcases h5 with ⟨stop, r5⟩ | ⟨go, hz, step⟩
    · refine thn (T.done (X.block sc x ix ⟨G.objs.size, { s with heap := G }, upd H s.heap.objs.size (.lst []), X.pn ++ pins, fp⟩) rfl rfl rfl hc i [] s5 _ H5 _ I5 (stat fr5) st5 stop) fun r s6 ⟨hr, I6⟩ => ?_
      subst hr
      obtain ⟨m6, hn6, _⟩ := I6.loc
      refine fin _ _ m6 s6 H5 (block_back I3 hf3 I6) hn6 ?_ r5
      exact I3.fpOk (Nat.le_refl _) I6.free
    · refine thn (T.item (X.block sc x ix ⟨G.objs.size, { s with heap := G }, upd H s.heap.objs.size (.lst []), X.pn ++ pins, fp⟩) rfl rfl rfl hc i [] s5 _ H5 _ I5 (stat fr5) st5 go) fun r s6 ⟨u, hr, h6⟩ => ?_
      subst hr
      refine thn h6 fun _ s7 ⟨y, H7, I7, r7, y7, st7, fr7⟩ => ?_
      have I7' := I7.pinned (stat fr7) (T.obj _ _ st7)
      have lx : (relabel sc X.env).names.lookup x = some .local := lookup_relabel_local O.var
      refine thn ((pg_name (i := 0) O.nd rfl (Or.inl lx) (Or.inr lx) : PG (X.block sc x ix ⟨G.objs.size, { s with heap := G }, upd H s.heap.objs.size (.lst []), X.pn ++ pins, fp⟩) (.Name x px) (gName 0)) _ s7 _ H7 y u (fun σ' H' => σ' = some y :: capts σ ix ∧ H' = H7) I7' r7 ⟨rfl, rfl⟩) fun _ s8 ⟨σ8, H8, I8, e8, e8'⟩ => ?_
      subst e8 e8'
      refine thn (hel _ _ s8 _ H8 _ I8 (step y H8 y7)) fun v9 s9 ⟨v, H9, I9, r9, hl9, m', hm, w9⟩ => ?_
      refine thn (mt_append _ s9 _ H9 (.ref s.heap.objs.size) [v] (.ref s.heap.objs.size) [v9] (fun _ H' => H' = upd H9 s.heap.objs.size (.lst (xs ++ [v]))) I9 rfl (.cons r9 .nil) ⟨_, xs, v, rfl, rfl, hl9, hz, rfl⟩) fun _ s10 ⟨_, H10, I10, _, e10⟩ => ?_
      subst e10
      refine ⟨m', hm, i + 1, xs ++ [v], _, some y, I10.unpinned, T.keep _ _ _ st7 fun b hb o e => (I10.pin (b, o) (List.mem_append_right _ (List.mem_append_right _ (mem_pinsAt hb e)))).1, fun b hb => ?_, w9⟩
      obtain ⟨o, e, d⟩ := T.obj _ _ st7 b hb
      exact (I10.pin (b, o) (List.mem_append_right _ (List.mem_append_right _ (mem_pinsAt hb e)))).2.1
  exact codeAny_compStart_list (loop _ rfl) (T.self _ 0 _ _ _ stk (loop _ rfl))
/-- [elt for x in iter] -/
theorem pe_comp (O : CompOk X sc x ix) (hi : PI X (.Name x px) iter wi) (hel : ∀ b, PE (X.block sc x ix b) elt te) (hc : X.calm = true := by rfl) (hs : ∀ v, foldedSetIterable iter X.env v = pure v := by intro _; rfl) :
    PE X (.ListComp elt [⟨.Name x px, iter, [], 0⟩] sc pos) (tComp ix wi te) := by
  intro pins s σ H Q I h
  rw [eval_ListComp]
  refine wpAny_comprehension_free (use := none) rfl hs O.clos O.kind O.names (thn (hi pins s σ H _ I h) fun xv s1 h1 => thn h1 fun itv s2 h2 => ?_)
  obtain ⟨it, fp, tn, J, H2, e, I2, T, st2, f2, hq⟩ := h2
  subst e
  refine comp_core O hel hc I2 T st2 f2 (fun l H' => Q (.ref l) H') hq ?_
  intro l C m s' H' I' hn hf r
  refine ⟨m, hn, fun h' hb => ⟨.ref l, H', ?_, rfl, r⟩⟩
  exact I'.turned (t' := s'.toks) (fun b o hne e => hb.extBut b o hne e) hf.1 hf.2.1 hf.2.2.2.1 hf.2.2.2.2.1 hf.2.2.2.2.2
/-- y = [elt for x in iter], y a plain local -/
theorem ps_setc {y : Str} {i : Nat} {py spos : Pos} (hN : X.N.Nodup) (hiy : X.N[i]? = some y) (hy : X.env.scope.names.lookup y = some .local) (O : CompOk X sc x ix) (hi : PI X (.Name x px) iter wi) (hel : ∀ b, PE (X.block sc x ix b) elt te)
    (hc : X.calm = true := by rfl) (hs : ∀ v, foldedSetIterable iter X.env v = pure v := by intro _; rfl) (hsw : swapsWith (.ListComp elt [⟨.Name x px, iter, [], 0⟩] sc pos) (some (.Name y py)) spos.line X.env = pure true := by rfl) :
    PS X (.Assign [.Name y py] (.ListComp elt [⟨.Name x px, iter, [], 0⟩] sc pos) spos) (tAsg (tComp ix wi te) (gName i)) := by
  intro pins s σ H D I h
  rw [exec_Assign_Name_used _ _ _ _ hsw]
  refine wpAny_bind (wpAny_standAt (wpAny_bind ?_))
  show wpAny _ X.A (do let _ ← comprehension (.ListComp elt [⟨.Name x px, iter, [], 0⟩] sc pos) sc X.env _ (newList []) false (eval iter X.env) (some (assign (.Name y py) X.env))) _ _ s
  refine wpAny_bind (wpAny_mono (wpAny_comprehension_free (use := some (assign (.Name y py) X.env)) (Q := fun _ s' => SP X pins D .next s') rfl hs O.clos O.kind O.names
    (thn (hi pins s σ H _ I h) fun xv s1 h1 => thn h1 fun itv s2 h2 => ?_)) (fun _ s' hq => wpAny_pure (wpAny_pure hq)) fun _ _ e => e)
  obtain ⟨it, fp, tn, J, H2, e, I2, T, st2, f2, hq⟩ := h2
  subst e
  refine comp_core O hel hc I2 T st2 f2 (fun l H' => D.nx (σ.set i (some (.ref l))) H') hq ?_
  intro l C m s' H' I' hn hf r
  obtain ⟨o, es, ep, ho, hd, hr⟩ := id hn
  have Ip := I'.addpin ho hf.1 hf.2.1 hf.2.2.1 (by intro v z; rw [hd] at z; cases z)
  refine thn ((pg_name (i := i) hN hiy (Or.inl hy) (Or.inr hy) : PG X (.Name y py) (gName i)) _ s' σ H' (.ref l) (.ref l) (fun σ' H'' => σ' = σ.set i (some (.ref l)) ∧ H'' = H') Ip rfl ⟨rfl, rfl⟩) fun _ s'' ⟨σ'', H'', I'', e1, e2⟩ => ?_
  subst e1 e2
  have pc := (I''.pin (C, o) (List.mem_append_right _ (List.mem_append_right _ List.mem_cons_self))).1
  refine ⟨m, ⟨o, es, ep, pc, hd, hr⟩, fun h' hb => ⟨_, _, ?_, r⟩⟩
  exact I''.unpinned.turned (t' := s''.toks) (fun b o hne e => hb.extBut b o hne e) hf.1 hf.2.1 hf.2.2.2.1 hf.2.2.2.2.1 hf.2.2.2.2.2
end
def TurnsIf (ix : List Nat) (tt : TT) (te : TE) (σ : St) (J : It) (l : Addr) (R : Hp → Prop) (W : Nat → Nat → List V → Hp → Prop) : Prop :=
  ∀ i m xs H', W i m xs H' → H' l = some (.lst xs) ∧ ((J.stop i H' ∧ R H') ∨ (J.go i H' ∧ xs.length < sizeLine ∧ ∀ x H2, J.yld i H' x H2 →
    tt (some x :: capts σ ix) H2 fun b H3 => if b = true then te (some x :: capts σ ix) H3 fun v H4 => H4 l = some (.lst xs) ∧ ∃ m', m' < m ∧ W (i + 1) m' (xs ++ [v]) (upd H4 l (.lst (xs ++ [v]))) else ∃ m', m' < m ∧ W (i + 1) m' xs H3))
def tCompIf (ix : List Nat) (wi : TI) (tt : TT) (te : TE) : TE := fun σ H Q => wi σ H fun J H1 => ∀ l, H1 l = none → ∃ W : Nat → Nat → List V → Hp → Prop, (∃ m, W 0 m [] (upd H1 l (.lst []))) ∧ TurnsIf ix tt te σ J l (Q (.ref l)) W
section
variable {X : Cx} {pins : List (Addr × Obj)} {σ : St} {H : Hp} {s : Shared} {sc : Scope} {x : Str} {ix : List Nat} {fp : List Addr} {elt iter c : Expr} {te : TE} {tt : TT} {wi : TI} {px pos : Pos}
theorem comp_coreIf {it : Addr} {tn : Nat → Heap → Prop} {J : It} {use : Option (Value → Sem Unit)} {Q : Value → Shared → Prop} {E : Value → Shared → Prop} (O : CompOk X sc x ix) (htt : ∀ b, PT (X.block sc x ix b) c tt) (hel : ∀ b, PE (X.block sc x ix b) elt te) (hc : X.calm = true)
    (I : Inv X pins σ H s) (T : Turn X.prog X.w X.K (.Name x px) J fp it tn) (st : tn 0 s.heap) (hf : ∀ b ∈ fp, FpOk X pins H b) (R : Addr → Hp → Prop)
    (h : ∀ l, H l = none → ∃ W : Nat → Nat → List V → Hp → Prop, (∃ m, W 0 m [] (upd H l (.lst []))) ∧ TurnsIf ix tt te σ J l (R l) W)
    (fin : ∀ l C m s' H', Inv X pins σ H' s' → s'.heap.Ns C m → FpOk X pins H' C → R l H' → compPost (model X.prog X.w) X.A E use Q (.ref l) C (.ok .next) s') :
    wpAny (model X.prog X.w) X.A (newList []) (fun acc s₃ => wpAny (model X.prog X.w) X.A (newFunctionEnv sc X.env.globals (closOf sc X.env) [] X.env.qual none .none (some X.env)) (fun cenv s₄ =>
      codeAny (model X.prog X.w) X.A (.compStart (.ListComp elt [⟨.Name x px, iter, [c], 0⟩] sc pos) 0 (.ref it) acc { cenv with scope := relabel sc X.env }) (compPost (model X.prog X.w) X.A E use Q acc cenv.locals) s₄) E s₃) E s := by
  refine wpAny_newObj_type (wpAny_newFunctionEnv O.cell (by intro y hy; simp at hy) (fun h₁ hns hsb => ?_) O.kind)
  dsimp only at hns hsb ⊢
  have hl0 : H s.heap.objs.size = none := I.hok.fresh (Nat.le_refl _)
  obtain ⟨W, ⟨m0, w0⟩, tr⟩ := h s.heap.objs.size hl0
  have I3 : Inv X pins σ (upd H s.heap.objs.size (.lst [])) { s with heap := s.heap.push { cls := .type "list", dict := none, data := .seq ([] : List Value).toArray } } :=
    I.laid (t' := s.toks) (fun b o e => Heap.get?_push_of_some _ e) (Nat.le_refl _) ⟨Nat.zero_le _, [], 0, .nil, Heap.get?_push_size _ rfl⟩
  have ofp : ∀ b ∈ fp, ∃ o, s.heap.get? b = some o := fun b hb => by
    obtain ⟨o, e, _⟩ := T.obj 0 _ st b hb
    exact ⟨o, e⟩
  generalize e3 : s.heap.push { cls := .type "list", dict := none, data := .seq ([] : List Value).toArray } = G at I3 hns hsb ⊢
  have ofp3 : ∀ b ∈ fp, ∃ o, G.get? b = some o := fun b hb => by
    obtain ⟨o, e⟩ := ofp b hb
    exact ⟨o, by rw [← e3]; exact Heap.get?_push_of_some _ e⟩
  have nl : ∀ b ∈ fp, b ≠ s.heap.objs.size := fun b hb => by
    obtain ⟨o, e⟩ := ofp b hb
    exact Nat.ne_of_lt (Heap.lt_size e)
  have hf3 : ∀ b ∈ fp, FpOk X pins (upd H s.heap.objs.size (.lst [])) b := fun b hb => ⟨by rw [upd_ne (nl b hb)]; exact (hf b hb).1, (hf b hb).2⟩
  have keep3 : ∀ b o, G.get? b = some o → h₁.get? b = some o := fun b o e => hsb.extBut b o (Nat.ne_of_lt (Heap.lt_size e)) (Heap.get?_push_of_some _ e)
  have stk : tn 0 h₁ := T.keep _ _ _ st fun b hb o e => keep3 b o (by rw [← e3]; exact Heap.get?_push_of_some _ e)
  have J0 := block_inv (tk := s.toks + ([] : List (Str × Value)).length) I3 O hf3 ofp3 hns keep3
  -- what stays true of the iterator
  have stat : ∀ {H' : Hp}, (∀ b ∈ fp, H' b = none) → ∀ b ∈ fp, FpOk (X.block sc x ix ⟨G.objs.size, { s with heap := G }, upd H s.heap.objs.size (.lst []), X.pn ++ pins, fp⟩) [] H' b := fun hn b hb => by
    obtain ⟨o, e⟩ := ofp3 b hb
    refine ⟨hn b hb, Nat.ne_of_lt (Heap.lt_size e), fun z => (List.mem_cons.mp (I3.stkSub _ z)).elim (hf b hb).2.1 (hf b hb).2.2.1, .inl hb, fun y c q => (hf b hb).2.2.2.2.1 y c (O.sub.get y c q), fun p hp => ?_⟩
    have hp' : p ∈ X.pn ++ pins := by
      rcases List.mem_append.mp hp with z | z
      · exact z
      · cases z
    exact (hf b hb).2.2.2.2.2 p hp'
  have loop : ∀ s4 : Shared, s4 = { s with heap := h₁, toks := s.toks + ([] : List (Str × Value)).length } →
      codeAny (model X.prog X.w) X.A (.compLoop (.ListComp elt [⟨.Name x px, iter, [c], 0⟩] sc pos) 0 (.ref it) (.ref s.heap.objs.size) (compEnvC sc (closOf sc X.env) G.objs.size X.env))
        (compPost (model X.prog X.w) X.A E use Q (.ref s.heap.objs.size) G.objs.size) s4 := by
    rintro s4 rfl
    refine comp_loop_if (fun n s' => ∃ i xs H' z, Inv (X.block sc x ix ⟨G.objs.size, { s with heap := G }, upd H s.heap.objs.size (.lst []), X.pn ++ pins, fp⟩) [] (z :: capts σ ix) H' s' ∧ tn i s'.heap ∧ (∀ b ∈ fp, H' b = none) ∧ W i n xs H') ?_ m0
      ⟨0, [], _, none, J0, stk, fun b hb => (hf3 b hb).1, w0⟩
    rintro n s5 ⟨i, xs, H5, z, I5, st5, fr5, w5⟩
    obtain ⟨hl5, h5⟩ := tr i n xs H5 w5
    rcases h5 with ⟨stop, r5⟩ | ⟨go, hz, step⟩
    · refine thn (T.done (X.block sc x ix ⟨G.objs.size, { s with heap := G }, upd H s.heap.objs.size (.lst []), X.pn ++ pins, fp⟩) rfl rfl rfl hc i [] s5 _ H5 _ I5 (stat fr5) st5 stop) fun r s6 ⟨hr, I6⟩ => ?_
      subst hr
      obtain ⟨m6, hn6, _⟩ := I6.loc
      refine fin _ _ m6 s6 H5 (block_back I3 hf3 I6) hn6 ?_ r5
      exact I3.fpOk (Nat.le_refl _) I6.free
    · refine thn (T.item (X.block sc x ix ⟨G.objs.size, { s with heap := G }, upd H s.heap.objs.size (.lst []), X.pn ++ pins, fp⟩) rfl rfl rfl hc i [] s5 _ H5 _ I5 (stat fr5) st5 go) fun r s6 ⟨u, hr, h6⟩ => ?_
      subst hr
      refine thn h6 fun _ s7 ⟨y, H7, I7, r7, y7, st7, fr7⟩ => ?_
      have I7' := I7.pinned (stat fr7) (T.obj _ _ st7)
      have lx : (relabel sc X.env).names.lookup x = some .local := lookup_relabel_local O.var
      refine thn ((pg_name (i := 0) O.nd rfl (Or.inl lx) (Or.inr lx) : PG (X.block sc x ix ⟨G.objs.size, { s with heap := G }, upd H s.heap.objs.size (.lst []), X.pn ++ pins, fp⟩) (.Name x px) (gName 0)) _ s7 _ H7 y u (fun σ' H' => σ' = some y :: capts σ ix ∧ H' = H7) I7' r7 ⟨rfl, rfl⟩) fun _ s8 ⟨σ8, H8, I8, e8, e8'⟩ => ?_
      subst e8 e8'
      refine thn (htt _ _ s8 _ H8 _ I8 (step y H8 y7)) fun b s9 ⟨H9, I9, q9⟩ => ?_
      have kp : ∀ {σ0 : St} {H0 : Hp} {s0 : Shared}, Inv (X.block sc x ix ⟨G.objs.size, { s with heap := G }, upd H s.heap.objs.size (.lst []), X.pn ++ pins, fp⟩) ([] ++ pinsAt fp s7.heap) σ0 H0 s0 → tn (i + 1) s0.heap ∧ ∀ b ∈ fp, H0 b = none := fun {σ0 H0 s0} I0 => by
        refine ⟨T.keep _ _ _ st7 fun b hb o e => (I0.pin (b, o) (List.mem_append_right _ (List.mem_append_right _ (mem_pinsAt hb e)))).1, fun b hb => ?_⟩
        obtain ⟨o, e, d⟩ := T.obj _ _ st7 b hb
        exact (I0.pin (b, o) (List.mem_append_right _ (List.mem_append_right _ (mem_pinsAt hb e)))).2.1
      cases b with
      | false =>
        rw [if_neg Bool.false_ne_true] at q9 ⊢
        obtain ⟨m', hm, w9⟩ := q9
        exact ⟨m', hm, i + 1, xs, _, some y, I9.unpinned, (kp I9).1, (kp I9).2, w9⟩
      | true =>
        rw [if_pos rfl] at q9 ⊢
        refine thn (hel _ _ s9 _ H9 _ I9 q9) fun v9 s10 ⟨v, H10, I10, r10, hl10, m', hm, w10⟩ => ?_
        refine thn (mt_append _ s10 _ H10 (.ref s.heap.objs.size) [v] (.ref s.heap.objs.size) [v9] (fun _ H' => H' = upd H10 s.heap.objs.size (.lst (xs ++ [v]))) I10 rfl (.cons r10 .nil) ⟨_, xs, v, rfl, rfl, hl10, hz, rfl⟩) fun _ s11 ⟨_, H11, I11, _, e11⟩ => ?_
        subst e11
        exact ⟨m', hm, i + 1, xs ++ [v], _, some y, I11.unpinned, (kp I11).1, (kp I11).2, w10⟩
  exact codeAny_compStart_list (loop _ rfl) (T.self _ 0 _ _ _ stk (loop _ rfl))
/-- [elt for x in iter if c] -/
theorem pe_compIf (O : CompOk X sc x ix) (hi : PI X (.Name x px) iter wi) (htt : ∀ b, PT (X.block sc x ix b) c tt) (hel : ∀ b, PE (X.block sc x ix b) elt te) (hc : X.calm = true := by rfl) (hs : ∀ v, foldedSetIterable iter X.env v = pure v := by intro _; rfl) :
    PE X (.ListComp elt [⟨.Name x px, iter, [c], 0⟩] sc pos) (tCompIf ix wi tt te) := by
  intro pins s σ H Q I h
  rw [eval_ListComp]
  refine wpAny_comprehension_free (use := none) rfl hs O.clos O.kind O.names (thn (hi pins s σ H _ I h) fun xv s1 h1 => thn h1 fun itv s2 h2 => ?_)
  obtain ⟨it, fp, tn, J, H2, e, I2, T, st2, f2, hq⟩ := h2
  subst e
  refine comp_coreIf O htt hel hc I2 T st2 f2 (fun l H' => Q (.ref l) H') hq ?_
  intro l C m s' H' I' hn hf r
  refine ⟨m, hn, fun h' hb => ⟨.ref l, H', ?_, rfl, r⟩⟩
  exact I'.turned (t' := s'.toks) (fun b o hne e => hb.extBut b o hne e) hf.1 hf.2.1 hf.2.2.2.1 hf.2.2.2.2.1 hf.2.2.2.2.2
end
theorem same_new {H : Hp} {p : Addr} (h : H p = none) (o : HO) : Same H (upd H p o) := fun b u q => by rw [upd_ne (ne_of_none q h)]; exact q
section
variable {X : Cx}
theorem intsAre_vals : ∀ {ns : List Int} {us : List Value}, Vals (ns.map V.int) us → IntsAre us ns
  | [], _, .nil => .nil
  | n :: ns, _, .cons ⟨t, e⟩ r => by
    subst e
    exact .cons n t (intsAre_vals r)
end
end L2
namespace L2
open PySem PySem.Spec PyProof.Rows
/-! ### == and != by data -/
mutual
inductive RdV (K : PySem.W.Frag) (H : Hp) : V → PyData → Prop
  | non : RdV K H .non .none
  | bl (b : Bool) : RdV K H (.bl b) (.bool b)
  | int (i : Int) : RdV K H (.int i) (.int i)
  | str (x : Str) : RdV K H (.str x) (.str x)
  | lst {a : Addr} {xs : List V} {ds : List PyData} : SqL K H a xs → RdVs K H xs ds → RdV K H (.ref a) (.list ds)
  | tup {a : Addr} {xs : List V} {ds : List PyData} : SqT K H a xs → RdVs K H xs ds → RdV K H (.ref a) (.tuple ds)
inductive RdVs (K : PySem.W.Frag) (H : Hp) : List V → List PyData → Prop
  | nil : RdVs K H [] []
  | cons {x : V} {d : PyData} {xs : List V} {ds : List PyData} : RdV K H x d → RdVs K H xs ds → RdVs K H (x :: xs) (d :: ds)
end
theorem RdVs.ints {K : PySem.W.Frag} {H : Hp} : ∀ ns : List Int, RdVs K H (ns.map V.int) (ns.map PyData.int)
  | [] => .nil
  | n :: r => .cons (.int n) (RdVs.ints r)
section
variable {X : Cx} {pins : List (Addr × Obj)} {σ : St} {H : Hp} {s : Shared} {pos : Pos}
mutual
theorem RdV.reads (I : Inv X pins σ H s) : ∀ {x : V} {d : PyData} {u : Value}, RdV X.K H x d → RelV x u → ∃ as, Reads s.heap u d as
  | _, _, _, .non, r => by cases r; exact ⟨_, .none⟩
  | _, _, _, .bl b, r => by cases r; exact ⟨_, .bool b⟩
  | _, _, _, .int i, r => by obtain ⟨t, rfl⟩ := r; exact ⟨_, .int i t⟩
  | _, _, _, .str x, r => by obtain ⟨t, rfl⟩ := r; exact ⟨_, .str x t⟩
  | _, _, _, .lst h hs, r => by
    cases r
    obtain ⟨its, rv, pl, hz⟩ := I.list h
    obtain ⟨as, q⟩ := RdVs.reads I hs rv
    obtain ⟨o, n, e, c, hd, dt⟩ := pl
    exact ⟨_, reads_list_at e c dt (by simpa using q)⟩
  | _, _, _, .tup h hs, r => by
    cases r
    obtain ⟨its, rv, pl, hz⟩ := I.tuple h
    obtain ⟨as, q⟩ := RdVs.reads I hs rv
    obtain ⟨o, e, c, n, dt⟩ := pl
    exact ⟨_, reads_tuple_at e c dt (by simpa using q)⟩
theorem RdVs.reads (I : Inv X pins σ H s) : ∀ {xs : List V} {ds : List PyData} {us : List Value}, RdVs X.K H xs ds → Vals xs us → ∃ as, ReadsAll s.heap us ds as
  | _, _, _, .nil, .nil => ⟨_, .nil⟩
  | _, _, _, .cons h hs, .cons r rs => by
    obtain ⟨as, q⟩ := RdV.reads I h r
    obtain ⟨bs, q'⟩ := RdVs.reads I hs rs
    exact ⟨_, .cons q q'⟩
end
def rEqD (K : PySem.W.Frag) : R2 := fun x y H Q => ∃ d e, RdV K H x d ∧ RdV K H y e ∧ SeqAt.shaped d = true ∧ SeqAt.shaped e = true ∧ Q (.bl (PyData.eqv d e)) H
def rNeD (K : PySem.W.Frag) : R2 := fun x y H Q => ∃ d e, RdV K H x d ∧ RdV K H y e ∧ SeqAt.shaped d = true ∧ SeqAt.shaped e = true ∧ Q (.bl (!PyData.eqv d e)) H
/-! ### {} -/
def tDNew : TE := fun _ H Q => ∀ p, H p = none → Q (.ref p) (upd H p (.dK []))
end
/-! ### isinstance of the plain kinds -/
def kinds : List String := ["NoneType", "bool", "int", "str", "list", "tuple", "dict"]
/-- a flat thing or one of the three kinds of containers -/
def IsKind (K : PySem.W.Frag) (H : Hp) (x : V) (T : String) : Prop := TyOf K H x (.type T) ∧ T ∈ kinds
theorem iteNF {A B : Prop} (h : A) : if (!false) = true then A else B := iteT (B := B) h
theorem iteNT {A B : Prop} (h : B) : if (!true) = true then A else B := iteF (A := A) h
theorem ifND {p A B : Prop} [Decidable p] (h1 : ¬ p → A) (h2 : p → B) : if (!decide p) = true then A else B := by
  by_cases h : p
  · rw [if_neg (by simpa using h)]; exact h2 h
  · rw [if_pos (by simpa using h)]; exact h1 h
/-- a power of two written numbers -/
theorem pe_powc {X : Cx} {a b v : Int} {j j' : Nat} {p p' pos : Pos} (h : a ^ b.toNat = v) (hb : CPow a b) : PE X (.BinOp (.Constant (.int a) j p) .Pow (.Constant (.int b) j' p') pos) (tC (.int v)) := by
  intro pins s σ H Q I hq
  exact pe_op op_pow pe_int pe_int pins s σ H Q I ⟨_, _, rfl, rfl, hb, by show Q (V.int (a ^ b.toNat)) H; rw [h]; exact hq⟩
end L2
namespace L2
open PySem PySem.Spec PyProof.Rows
/-! ### an exception that flies -/
theorem ObjOk.get {P : Program} {w : World} {H : Hp} {h : Heap} {a : Addr} {o : HO} (x : ObjOk P w H h a o) : ∃ u, h.get? a = some u := by
  cases o with
  | lst xs => obtain ⟨_, _, _, _, e⟩ := x; exact ⟨_, e⟩
  | tup xs => obtain ⟨_, _, _, _, e, _⟩ := x; exact ⟨_, e⟩
  | dK kvs => obtain ⟨_, _, _, _, _, _, _, e, _⟩ := x; exact ⟨_, e⟩
  | set S n => obtain ⟨_, _, _, _, e, _⟩ := x; exact ⟨_, e⟩
  | ins C dx fs => obtain ⟨_, _, _, e, _⟩ := x; exact ⟨_, e⟩
  | own y => exact x
  | xd fs => obtain ⟨_, ⟨_, _, _, e, _⟩, _⟩ := x; exact ⟨_, e⟩
  | rng lo hi => obtain ⟨_, _, _, e⟩ := x; exact ⟨_, e⟩
  | frz ob u => obtain ⟨e, _⟩ := x; exact ⟨_, e⟩
  | tbl ps => exact ⟨_, (show h.get? a = some _ from x)⟩
  | met f y => exact ⟨_, (show h.get? a = some _ from x)⟩
  | ext φ => obtain ⟨_, e, _⟩ := x; exact e
theorem HOk.gone {P : Program} {w : World} {H : Hp} {h : Heap} {a : Addr} (x : HOk P w H h) (e : h.get? a = none) : H a = none := by
  cases q : H a with
  | none => rfl
  | some o =>
    obtain ⟨u, z⟩ := (x a o q).get
    rw [e] at z; cases z
/-- new since g, not tracked; its class C -/
structure ExcAt (g : Heap) (H : Hp) (h : Heap) (e : Addr) (C : Value) : Prop where
  new : g.get? e = none
  free : H e = none
  ex : ∃ oe vs T oT ts a0, h.get? e = some oe ∧ (oe.cls = C ∧ vs[0]? = some a0) ∧ oe.data = .fields vs ∧ vs[1]? = some (.ref T) ∧ (g.get? T = none ∧ H T = none) ∧ T ≠ e ∧ h.get? T = some oT ∧ oT.data = .fields ts ∧ ts[3]? = some .none
def CXX (P : Program) (w : World) : CXT := fun outer H s E ev s' => ∃ e C H', ev = .ref e ∧ E C none H' ∧ s'.os = s.os ∧ AllBare s'.gens ∧ Un (frs outer) [] H H' s.heap s'.heap ∧ HOk P w H' s'.heap ∧ ExcAt s.heap H' s'.heap e C
structure Flew (X : Cx) (hid : List Addr) (h h' : Heap) : Prop where
  keep : ∀ b o, h.get? b = some o → b ∉ frs X.stack → b ∉ hid → h'.get? b = some o
  slot : h.UpToSlots h'
section
variable {X : Cx} {pins : List (Addr × Obj)} {σ : St} {H : Hp} {s : Shared} {h' : Heap} {hid : List Addr}
end
section
variable {P : Program} {w : World} {K : PySem.W.Frag} {mg : Str → Option Value} {base : Heap} {N : List Str} {qual : Str} {scope : Scope} {f : Addr} {cd : Value} {A : Around} {outer : List Env} {s₀ : Shared} {H₀ : Hp} {E : XK}
end
/-! ### a def that may raise -/
structure DefX (P : Program) (w : World) (K : PySem.W.Frag) (mg : Str → Option Value) (base : Heap) (k : Nat) (x : Str) (ps : List Str) (sp : Sp) : Prop where
  ex : ∃ (f : Addr) (fd : FuncData), FnOk P w K mg base (CXX P w) k f fd ps sp ∧ mg x = some (.ref f) ∧ PySem.W.keepIn K (.ref f) = true ∧ (∀ us : List Value, us.length = ps.length → bindArgs fd ⟨us, []⟩ = pure (ps.zip us))
section
variable {P : Program} {w : World} {K : PySem.W.Frag} {mg : Str → Option Value} {base : Heap} {x : Str} {st : Stmt} {N ps : List Str} {k : Nat} {sp : Sp}
end
section
variable {X : Cx} {x : Str} {p pos : Pos} {e : Expr} {es : List Expr} {t : TA} {j k : Nat} {ps : List Str} {sp : Sp}
end
/-! ### own classes of exceptions -/
def bmV : List Value := [.type "ValueError", .type "Exception", .type "BaseException", .type "object"]
/-- the address of the class of that name -/
def cA (K : PySem.W.Frag) (x : Str) : Addr := match PySem.W.nsIn K mainGlobals x with
  | some (some (.ref C)) => C
  | _ => 0
theorem cA_of {K : PySem.W.Frag} {x : Str} {C : Addr} (e : PySem.W.nsIn K mainGlobals x = some (some (.ref C))) : cA K x = C := by unfold cA; rw [e]
/-- what isinstance asks of the class of an exception -/
structure XK1 (K : PySem.W.Frag) (C : Addr) : Prop where
  ga : PySem.W.findIn K (.ref C) "__getattribute__" = some (some (.builtin "BaseException.__getattribute__"))
  gh : PySem.W.findIn K (.ref C) "__getattr__" = some none
  cl : PySem.W.findIn K (.ref C) "__class__" = some (some (.builtin "object.__class__"))
  gt : PySem.W.specialIn K (.builtin "object.__class__") "__get__" = some (some (.builtin "getset_descriptor.__get__"))
  tk : PySem.W.takesIn K (.builtin "object.__class__") = some true
  ob : PySem.W.mroIn K C (.type "object") = some true
  be : PySem.W.subIn K (.ref C) (.type "BaseException") = some true
/-- .. and what raising it asks -/
structure XK2 (K : PySem.W.Frag) (C : Addr) : Prop where
  ok : PySem.W.excIn K C bmV "ValueError.__new__" = true
section
variable {X : Cx} {x : Str} {np cpos pos : Pos} {e0 : Expr} {rest : List Expr} {t : TA} {E : XK}
def tRaise (C : Addr) (E : XK) (t : TA) : TS := fun _ σ H => t σ H fun vs H1 => vs.length ≤ sizeLine ∧ E (.ref C) none H1
end
/-! ### isinstance of an exception -/
def ExcO (e : Addr) (C : Value) : HO := .ext fun h => ∃ o vs, h.get? e = some o ∧ o.cls = C ∧ o.data = .fields vs
section
open PySem.Builtin PySem.Builtin.ObjectAttr PySem.Builtin.Getset_descriptor
variable {prog : Program} {w : World} {A : Around} {E : Value → Shared → Prop} {s : Shared} {K : PySem.W.Frag} {e C : Addr} {oe : Obj}
end
end L2
namespace L2
open PySem PySem.Spec PyProof.Rows
section
variable {K : PySem.W.Frag} {e C : Addr}
end
section
variable {X : Cx}
end
/-! ### try: y = f(..) except C as n: suite -/
abbrev Cx.held (X : Cx) (e : Addr) : Cx := { X with A := X.A.mark (some (.ref e)), calm := false, xe := fun _ _ => False }
section
variable {X : Cx} {pins : List (Addr × Obj)} {σ : St} {H : Hp} {s : Shared} {e : Addr}
theorem Inv.held (I : Inv X pins σ H s) (e : Addr) : Inv (X.held e) pins σ H s :=
  ⟨⟨I.ok.mod, I.ok.kind, I.ok.glob, I.ok.blt, I.ok.above, I.ok.inj, I.ok.has, I.ok.cab, fun z => (Bool.false_ne_true z).elim, I.ok.frames, I.ok.stk, I.ok.exf, I.ok.bs, I.ok.bsz, I.ok.noex, I.ok.exfs, I.ok.funs, I.ok.frf⟩,
    I.os, I.bare, I.base, I.loc, I.cell, I.free, I.freeC, I.pin, I.hok, I.len⟩
theorem Inv.track {o : HO} (I : Inv X pins σ H s) (hn : H e = none) (h0 : X.s₀.heap.get? e = none) (hL : e ≠ X.env.locals) (hC : ∀ x c, X.env.cells.lookup x = some c → c ≠ e) (hp : ∀ p ∈ X.pn ++ pins, p.1 ≠ e)
    (new : ObjOk X.prog X.w (upd H e o) s.heap e o) : Inv X pins σ (upd H e o) s := by
  refine ⟨I.ok, I.os, I.bare, ⟨I.base.keep, I.base.slot, fun b u q n hx => ?_, I.base.there, fun b xs q => ?_, fun b u v q => ?_, fun b ps q => ?_⟩, I.loc, I.cell, ?_, fun x c q => ?_, fun p q => ?_, fun b u q => ?_, I.len⟩
  · rw [upd_ne (fun z => by rw [z, h0] at q; cases q)]
    exact I.base.free b u q n hx
  · have z := I.base.tups b xs q
    rw [upd_ne (ne_of_none z hn)]; exact z
  · have z := I.base.frzs b u v q
    rw [upd_ne (ne_of_none z hn)]; exact z
  · obtain ⟨more, z⟩ := I.base.tbls b ps q
    exact ⟨more, by rw [upd_ne (ne_of_none z hn)]; exact z⟩
  · rw [upd_ne (Ne.symm hL)]; exact I.free
  · rw [upd_ne (hC x c q)]; exact I.freeC x c q
  · obtain ⟨a, b, c, d, f⟩ := I.pin p q
    exact ⟨a, by rw [upd_ne (hp p q)]; exact b, c, d, f⟩
  · by_cases hb : b = e
    · subst hb
      rw [upd_same] at q; cases q
      exact new
    · rw [upd_ne hb] at q
      exact (I.hok b u q).stay (fun _ _ _ z => z) (fun c z => by rw [upd_ne (ne_of_none z hn)]; exact z) fun c xs z => by rw [upd_ne (ne_of_none z hn)]; exact z
end
def tTry (K : PySem.W.Frag) (Cx : Addr) (i j : Nat) (ta : TA) (sp : Sp) (th : TS) : TS := fun D σ H => ta σ H fun vs H1 => sp vs H1 (fun v H2 => D.nx (σ.set i (some v)) H2) fun C _ H2 =>
  ∃ c, C = .ref c ∧ PySem.W.exmOne K (.ref c) (.ref Cx) = some true ∧ ∀ e, H2 e = none → th { nx := fun _ _ => False, rt := D.rt } (σ.set j (some (.ref e))) (upd H2 e (ExcO e (.ref c)))
end L2
namespace L2
open PySem PySem.Spec PyProof.Rows
/-! ### the facts of classes, as they stand behind the top -/
section
variable {K : PySem.W.Frag} {h : Heap} {mg : Str → Option Value} {x y : Str} {C D : Addr} {v : Bool} {n : String}
theorem nsHave (X : K.In h) (a : PySem.W.nsIn K mainGlobals x = some (some (.ref C))) : PySem.W.nsIn K mainGlobals x = some (some (.ref C)) := a
theorem m_mk (X : K.In h) (G : h.Ns mainGlobals mg) (a : PySem.W.nsIn K mainGlobals x = some (some (.ref C))) : mg x = some (.ref (cA K x)) := by
  rw [cA_of a]; exact PySem.W.mg_of X G a
inductive NL (K : PySem.W.Frag) : List Str → List Addr → Prop
  | nil : NL K [] []
  | cons {x : Str} {C : Addr} {xs : List Str} {Cs : List Addr} (a : PySem.W.nsIn K mainGlobals x = some (some (.ref C))) (l : NL K xs Cs) : NL K (x :: xs) (C :: Cs)
theorem NL.eq {xs : List Str} {Cs : List Addr} (l : NL K xs Cs) : xs.map (cA K) = Cs := by
  induction l with
  | nil => rfl
  | cons a _ ih => rw [List.map_cons, cA_of a, ih]
end
end L2
namespace L2
open PySem PySem.Spec PyProof.Rows
/-! ### a def that is called within an except suite (it raises nothing) -/
structure RoomH (k : Nat) (A : Around) : Prop where
  dp : A.depth + 3 * k + 5 < recursionLimit
  un : A.units + 16 * k + 200 < cLine
theorem RoomH.of {k : Nat} {A : Around} {v : Option Value} (r : Room k A) : RoomH k (A.mark v) := ⟨r.dp, r.un⟩
theorem RoomH.mono {j k : Nat} {A : Around} (r : RoomH k A) (h : j ≤ k) : RoomH j A := ⟨by have := r.dp; omega, by have := r.un; omega⟩
theorem RoomH.deeper {k : Nat} {A : Around} (r : RoomH (k + 1) A) (env : Env) : RoomH k (A.deeper env) :=
  ⟨by have := r.dp; show A.depth + 1 + 3 * k + 5 < _; omega, by have := r.un; show A.units + 3 + 16 * k + 200 < _; omega⟩
abbrev cxH (P : Program) (w : World) (K : PySem.W.Frag) (mg : Str → Option Value) (base : Heap) (N : List Str) (qual : Str) (scope : Scope) (f : Addr) (cd : Value) (A : Around) (outer : List Env) (s : Shared) (H : Hp) : Cx :=
  { cxOf CX0 P w K mg base N qual scope f cd A outer s H E0 with calm := false, xe := fun _ _ => False }
structure FnOkH (P : Program) (w : World) (K : PySem.W.Frag) (mg : Str → Option Value) (base : Heap) (k : Nat) (f : Addr) (fd : FuncData) (ps : List Str) (sp : Sp) : Prop where
  len : ∀ vs H Q E, sp vs H Q E → vs.length = ps.length
  run : ∀ (A : Around) (outer : List Env) (s : Shared) (H : Hp) (args : Args) (us : List Value) (vs : List V) (Q : VK), RoomH k A → Env0 P w K mg base A outer s H → BindsTo s fd args (ps.zip us) → Vals vs us → sp vs H Q E0 →
    codeAny (model P w) A (.call (.ref f) args) (CR CX0 outer P w H s Q E0) s
structure DefH (P : Program) (w : World) (K : PySem.W.Frag) (mg : Str → Option Value) (base : Heap) (k : Nat) (x : Str) (ps : List Str) (sp : Sp) : Prop where
  ex : ∃ (f : Addr) (fd : FuncData), FnOkH P w K mg base k f fd ps sp ∧ mg x = some (.ref f) ∧ PySem.W.keepIn K (.ref f) = true ∧ (∀ us : List Value, us.length = ps.length → bindArgs fd ⟨us, []⟩ = pure (ps.zip us))
section
variable {P : Program} {w : World} {K : PySem.W.Frag} {mg : Str → Option Value} {base : Heap} {x : Str} {st : Stmt} {N ps : List Str} {k : Nat} {sp : Sp}
end
section
variable {X : Cx} {x : Str} {p pos : Pos} {e : Expr} {es : List Expr} {t : TA} {j k : Nat} {ps : List Str} {sp : Sp}
end
/-! ### lists by what is true of each item -/
theorem at_mem {xs : List V} {k : Int} (h0 : 0 ≤ k) (h : k < (xs.length : Int)) : ∃ v, atI xs k = some v ∧ v ∈ xs := by
  have hk : k.toNat < xs.length := by omega
  have q : atI xs ((k.toNat : Nat) : Int) = some xs[k.toNat] := atI_nat (List.getElem?_eq_getElem hk)
  rw [show ((k.toNat : Nat) : Int) = k by omega] at q
  exact ⟨_, q, List.getElem_mem hk⟩
theorem mem1 {v : V} {xs : List V} {p : V → Prop} (h : p v) (t : ∀ x ∈ xs, p x) : ∀ x ∈ v :: xs, p x := fun x hx => by
  rcases List.mem_cons.mp hx with rfl | hx
  · exact h
  · exact t x hx
theorem mem0 {p : V → Prop} : ∀ x ∈ ([] : List V), p x := fun x hx => by cases hx
theorem IsKind.same {K : PySem.W.Frag} {H H' : Hp} {x : V} {T : String} (h : IsKind K H x T) (s : Same H H') : IsKind K H' x T := by
  refine ⟨?_, h.2⟩
  have q := h.1
  generalize e : Value.type T = t at q ⊢
  cases q with
  | non => exact .non
  | bl b => exact .bl b
  | int i => exact .int i
  | str y => exact .str y
  | flt y => exact .flt y
  | lst ea => exact .lst (s _ _ ea)
  | frz ea => exact .frz (s _ _ ea)
  | tup ea => exact .tup (s _ _ ea)
  | dK ea => exact .dK (s _ _ ea)
  | ins => cases e
theorem IsKind.upd {K : PySem.W.Frag} {H : Hp} {x : V} {T : String} {l : Addr} {xs ys : List V} (h : IsKind K H x T) (hl : H l = some (.lst xs)) : IsKind K (upd H l (.lst ys)) x T := by
  refine ⟨?_, h.2⟩
  have q := h.1
  generalize e : Value.type T = t at q ⊢
  cases q with
  | non => exact .non
  | bl b => exact .bl b
  | int i => exact .int i
  | str y => exact .str y
  | flt y => exact .flt y
  | @lst a zs ea =>
    by_cases z : a = l
    · subst z; exact .lst upd_same
    · exact .lst (by rw [upd_ne z]; exact ea)
  | @frz a o zs ea => exact .frz (by rw [upd_ne (ne_of ea hl (by intro z; cases z))]; exact ea)
  | @tup a zs ea => exact .tup (by rw [upd_ne (ne_of ea hl (by intro z; cases z))]; exact ea)
  | @dK a zs ea => exact .dK (by rw [upd_ne (ne_of ea hl (by intro z; cases z))]; exact ea)
  | ins => cases e
theorem same_gone {H H' : Hp} {a : Addr} (s : Same H H') (h : H' a = none) : H a = none := by
  cases q : H a with
  | none => rfl
  | some o => rw [s a o q] at h; cases h
/-- a list that is newer than H is changed -/
theorem same_put {H H' : Hp} {l : Addr} {o : HO} (s : Same H H') (h : H l = none) : Same H (upd H' l o) := fun b u q => by
  rw [upd_ne (ne_of_none q h)]; exact s b u q
end L2
namespace L2
open PySem PySem.Spec PyProof.Rows
/-! ### an own class of exceptions with an __init__ of its own, right under one without -/
structure XK3 (K : PySem.W.Frag) (C f : Addr) : Prop where
  ob : ∃ D nm q N bs sn sub ab col dd k0 k1 k2 k3 k5, K.lookup C = some (excClassObj nm q C N bs (.ref D :: bmV) true sn sub ab col dd k0 k1 k2 k3 k5 "ValueError.__new__") ∧ PySem.W.excIn K D bmV "ValueError.__new__" = true
  init : PySem.W.findIn K (.ref C) "__init__" = some (some (.ref f))
  fn : PySem.W.typeIn K (.ref f) = some (.type "function")
  sa : PySem.W.findIn K (.ref C) "__setattr__" = some (some (.builtin "object.__setattr__"))
  kp : PySem.W.keepIn K (.ref C) = true
  z : XK1 K C
section
variable {prog : Program} {w : World} {A : Around} {E : Value → Shared → Prop} {s : Shared} {K : PySem.W.Frag} {e C f : Addr} {oe : Obj}
end
section
open PySem.Builtin PySem.Builtin.ObjectAttr
variable {prog : Program} {w : World} {A : Around} {E : Value → Shared → Prop} {s : Shared} {K : PySem.W.Frag} {e C f dx : Addr} {oe : Obj} {vs : Array Value} {mA : Str → Option Value} {name : Str} {v : Value}
end
section
open PySem.Builtin PySem.Builtin.ObjectAttr
variable {prog : Program} {w : World} {A : Around} {E : Value → Shared → Prop} {s : Shared} {K : PySem.W.Frag} {x C f dx : Addr} {o : Obj} {vs : Array Value} {mA : Str → Option Value} {name : Str} {v : Value}
set_option maxHeartbeats 2000000 in
end
/-! ### exceptions as things that are made and read -/
def ExcN (e : Addr) (C : Value) : HO := .ext fun h => ∃ o vs, h.get? e = some o ∧ o.cls = C ∧ o.data = .fields vs ∧ o.dict = none
def ExcD (e : Addr) (C : Value) (d : Addr) : HO := .ext fun h => ∃ o vs, h.get? e = some o ∧ o.cls = C ∧ o.data = .fields vs ∧ o.dict = some d
/-- an exception of the class C, with or without a dict -/
def IsX (H : Hp) (e : Addr) (C : Value) : Prop := ∃ φ, H e = some (.ext φ) ∧ ∀ h, φ h → ∃ o vs, h.get? e = some o ∧ o.cls = C ∧ o.data = .fields vs
theorem IsX.o {H : Hp} {e : Addr} {C : Value} (h : H e = some (ExcO e C)) : IsX H e C := ⟨_, h, fun _ q => q⟩
theorem IsX.d {H : Hp} {e d : Addr} {C : Value} (h : H e = some (ExcD e C d)) : IsX H e C := ⟨_, h, fun _ ⟨o, vs, a, b, c, _⟩ => ⟨o, vs, a, b, c⟩⟩
theorem IsX.same {H H' : Hp} {e : Addr} {C : Value} (x : IsX H e C) (s : Same H H') : IsX H' e C := let ⟨φ, a, b⟩ := x; ⟨φ, s _ _ a, b⟩
section
variable {X : Cx} {pins : List (Addr × Obj)} {σ : St} {H : Hp} {s : Shared} {e : Addr}
theorem Inv.freshX (I : Inv X pins σ H s) (hn : s.heap.get? e = none) (hex : X.ex = []) : X.s₀.heap.get? e = none ∧ e ≠ X.env.locals ∧ (∀ x c, X.env.cells.lookup x = some c → c ≠ e) ∧ ∀ p ∈ X.pn ++ pins, p.1 ≠ e := by
  refine ⟨?_, fun z => ?_, fun x c q z => ?_, fun p hp z => ?_⟩
  · cases q : X.s₀.heap.get? e with
    | none => rfl
    | some o =>
      obtain ⟨o', e1⟩ := I.base.there e o q (by rw [hex]; simp)
      rw [hn] at e1; cases e1
  · obtain ⟨m, ⟨o, es, ep, ho, _⟩, _⟩ := I.loc
    rw [← z, hn] at ho; cases ho
  · obtain ⟨v, o, ho, hd⟩ := I.cell x c q
    rw [z, hn] at ho; cases ho
  · have := (I.pin p hp).1
    rw [z, hn] at this; cases this
theorem Inv.trackNew {o : HO} {h' : Heap} {t' : Nat} (I : Inv X pins σ H s) (k : ∀ b u, s.heap.get? b = some u → h'.get? b = some u) (hn : s.heap.get? e = none) (hex : X.ex = []) (new : ObjOk X.prog X.w (upd H e o) h' e o) :
    Inv X pins σ (upd H e o) { s with heap := h', toks := t' } :=
  let ⟨a, b, c, d⟩ := I.freshX hn hex
  (I.kept (t' := t') k).track (I.hok.gone hn) a b c d new
end
section
variable {X : Cx} {x : Str} {np pos : Pos} {e0 : Expr} {rest : List Expr} {t : TA}
/-- C(..), C an own class of exceptions without an __init__ -/
def tNewX (C : Addr) (t : TA) : TE := fun σ H Q => t σ H fun vs H1 => vs.length ≤ sizeLine ∧ ∀ e H', Same H1 H' → IsX H' e (.ref C) → Q (.ref e) H'
end
section
variable {X : Cx} {o value : Expr} {name : Str} {pos pos' : Pos} {ta tv : TE} {C f : Addr}
/-- e.name = value, e an exception that has no dict yet -/
def sXFld (C : Addr) (ta tv : TE) (name : Str) : TS := fun D σ H => tv σ H fun y H1 => ta σ H1 fun x H2 => ∃ e, x = .ref e ∧ H2 e = some (ExcN e (.ref C)) ∧ ∀ d, d ≠ e → H2 d = none → D.nx σ (upd (upd H2 e (ExcD e (.ref C) d)) d (.xd [(name, y)]))
/-- e.name, a number in the dict of an exception -/
def tXFld (C : Addr) (ta : TE) (name : Str) : TE := fun σ H Q => ta σ H fun x H1 => ∃ e d fs i, x = .ref e ∧ H1 e = some (ExcD e (.ref C) d) ∧ H1 d = some (.xd fs) ∧ fs.lookup name = some (.int i) ∧ Q (.int i) H1
end
section
variable {X : Cx} {x : Str} {np pos : Pos} {e0 : Expr} {t : TA} {C f : Addr} {fd : FuncData} {ps : List Str} {name : Str} {j k : Nat}
/-- what the __init__ of such a class does: one name in the new dict -/
def sp_xinit (C : Addr) (name : Str) : Sp := fun vs H Q _ => ∃ e v, vs = [.ref e, v] ∧ H e = some (ExcN e (.ref C)) ∧ ∀ d, d ≠ e → H d = none → Q .non (upd (upd H e (ExcD e (.ref C) d)) d (.xd [(name, v)]))
def tNewI (C : Addr) (name : Str) (t : TA) : TE := fun σ H Q => t σ H fun vs H1 => ∃ v, vs = [v] ∧ ∀ e d H', Same H1 H' → H' e = some (ExcD e (.ref C) d) → H' d = some (.xd [(name, v)]) → Q (.ref e) H'
structure InitX (P : Program) (w : World) (K : PySem.W.Frag) (mg : Str → Option Value) (base : Heap) (k : Nat) (C : Addr) (name : Str) : Prop where
  ex : ∃ f fd ps, FnOk P w K mg base CX0 k f fd ps (sp_xinit C name) ∧ XK3 K C f ∧ ps.length = 2 ∧ ∀ us : List Value, us.length = ps.length → bindArgs fd ⟨us, []⟩ = pure (ps.zip us)
end
/-! ### the facts, as they stand behind the top -/
section
variable {X : Cx} {o : Expr} {name : Str} {pos : Pos} {ta : TE} {C : Addr}
end
section
variable {K : PySem.W.Frag} {h : Heap} {mg : Str → Option Value} {x : Str} {C f D : Addr}
structure InitS (K : PySem.W.Frag) (C : Addr) (x qual : Str) (st : Stmt) (ps : List Str) : Prop where
  ex : ∃ f fd, Fun K x qual st f fd ∧ XK3 K C f ∧ ∀ us : List Value, us.length = ps.length → bindArgs fd ⟨us, []⟩ = pure (ps.zip us)
theorem InitS.xk {qual : Str} {st : Stmt} {ps : List Str} (S : InitS K C x qual st ps) : ∃ f, XK3 K C f := let ⟨f, _, _, z, _⟩ := S.ex; ⟨f, z⟩
end
end L2
namespace L2
open PySem PySem.Spec PyProof.Rows
/-! ### sets of whole numbers: what stands in the table, and how it is walked -/
namespace SetL
def Up (xs : Array Nat) : Prop := xs.toList.Pairwise (· < ·)
theorem up_lt {xs : Array Nat} (h : Up xs) {i j : Nat} (hi : i < j) (hj : j < xs.size) (d e : Nat) : xs.getD i d < xs.getD j e := by
  have hi' : i < xs.size := by omega
  have q := List.pairwise_iff_getElem.mp h i j (by simpa using hi') (by simpa using hj) hi
  simpa [Array.getD, hi', hj] using q
theorem go_spec {xs : Array Nat} {j : Nat} (h : Up xs) : ∀ (fuel lo hi : Nat), lo ≤ hi → hi ≤ xs.size → hi - lo ≤ fuel → (∀ i, i < lo → xs.getD i j < j) → (∀ i, hi ≤ i → i < xs.size → j ≤ xs.getD i j) →
    SetTable.below.go xs j fuel lo hi ≤ xs.size ∧ (∀ i, i < SetTable.below.go xs j fuel lo hi → xs.getD i j < j) ∧ ∀ i, SetTable.below.go xs j fuel lo hi ≤ i → i < xs.size → j ≤ xs.getD i j
  | 0, lo, hi, h1, h2, h3, a, b => by
    unfold SetTable.below.go
    exact ⟨by omega, a, fun i p q => b i (by omega) q⟩
  | fuel + 1, lo, hi, h1, h2, h3, a, b => by
    unfold SetTable.below.go
    by_cases hl : lo < hi
    · rw [if_pos hl]
      dsimp only
      by_cases hm : xs.getD ((lo + hi) / 2) j < j
      · rw [if_pos hm]
        refine go_spec h fuel _ hi (by omega) h2 (by omega) (fun i q => ?_) b
        by_cases e : i = (lo + hi) / 2
        · rw [e]; exact hm
        · exact Nat.lt_trans (up_lt h (by omega) (by omega) j j) hm
      · rw [if_neg hm]
        refine go_spec h fuel lo _ (by omega) (by omega) (by omega) a (fun i q r => ?_)
        by_cases e : i = (lo + hi) / 2
        · rw [e]; omega
        · have := up_lt h (i := (lo + hi) / 2) (j := i) (by omega) r j j
          omega
    · rw [if_neg hl]
      exact ⟨by omega, a, fun i p q => b i (by omega) q⟩
theorem below_spec {xs : Array Nat} (h : Up xs) (j : Nat) : SetTable.below xs j ≤ xs.size ∧ (∀ i, i < SetTable.below xs j → xs.getD i j < j) ∧ ∀ i, SetTable.below xs j ≤ i → i < xs.size → j ≤ xs.getD i j := by
  unfold SetTable.below
  exact go_spec h _ _ _ (Nat.zero_le _) (Nat.le_refl _) (by omega) (fun i q => by omega) fun i p q => by omega
theorem up_insert {xs : Array Nat} {j : Nat} (h : Up xs) (hj : xs[SetTable.below xs j]? ≠ some j) : Up (SetTable.insertAt xs (SetTable.below xs j) j) := by
  obtain ⟨h0, h1, h2⟩ := below_spec h j
  generalize SetTable.below xs j = p at *
  unfold Up
  rw [SetTable.toList_insertAt]
  have e : xs.toList = xs.toList.take p ++ xs.toList.drop p := (List.take_append_drop p _).symm
  have hp : (xs.toList.take p ++ xs.toList.drop p).Pairwise (· < ·) := by rw [← e]; exact h
  obtain ⟨a, b, c⟩ := List.pairwise_append.mp hp
  have lo : ∀ x ∈ xs.toList.take p, x < j := fun x hx => by
    obtain ⟨i, hi, rfl⟩ := List.mem_iff_getElem.mp hx
    rw [List.length_take, Array.length_toList] at hi
    have := h1 i (by omega)
    rw [List.getElem_take]
    simpa [Array.getD, show i < xs.size by omega] using this
  have hi : ∀ x ∈ xs.toList.drop p, j < x := fun x hx => by
    obtain ⟨i, hi, rfl⟩ := List.mem_iff_getElem.mp hx
    rw [List.length_drop, Array.length_toList] at hi
    have q := h2 (p + i) (by omega) (by omega)
    rw [List.getElem_drop]
    have g : xs.getD (p + i) j = xs.toList[p + i]'(by rw [Array.length_toList]; omega) := by simp [Array.getD, show p + i < xs.size by omega]
    rw [g] at q
    refine Nat.lt_of_le_of_ne q fun z => ?_
    by_cases i0 : i = 0
    · subst i0
      apply hj
      rw [Array.getElem?_eq_getElem (by omega : p < xs.size), z]
      simp
    · have q0 := h2 p (Nat.le_refl _) (by omega)
      have lt := up_lt h (i := p) (j := p + i) (by omega) (by omega) j j
      rw [g, ← z] at lt
      omega
  exact List.pairwise_append.mpr ⟨a, List.pairwise_cons.mpr ⟨hi, b⟩, fun x hx y hy => by
    rcases List.mem_cons.mp hy with rfl | hy
    · exact lo x hx
    · exact c x hx y hy⟩
/-- what holds of the table of a set that was filled and never lost anything -/
structure Tab (bt : Bool) (t : SetTable) : Prop where
  led : t.led = !bt
  dum : t.dummies = #[]
  up : t.plain = true → Up t.place
theorem has_none (j : Nat) : SetTable.has #[] j = false := by simp [SetTable.has]
theorem slot_cases {t : SetTable} (hd : t.dummies = #[]) (j : Nat) : t.slot j ≠ .dummy := by
  unfold SetTable.slot
  dsimp only
  split
  · intro z; cases z
  · rw [hd, has_none]; intro z; simp at z
theorem probe_empty {t : SetTable} (hd : t.dummies = #[]) {f : Nat → Int} {h : Int} : ∀ (fuel : Nat) (p : SetTable.Probe) {j : Nat} {d : Option Nat}, p.dummy = none → SetTable.probe.go t f h fuel p = some (.empty j d) → d = none ∧ t.slot j = .empty
  | 0, p, j, d, hp, e => by simp [SetTable.probe.go] at e
  | fuel + 1, p, j, d, hp, e => by
    have adv : ∀ q : SetTable.Probe, q.dummy = none → (t.advance q).dummy = none := fun q hq => by
      unfold SetTable.advance
      split
      · exact hq
      · exact hq
    unfold SetTable.probe.go at e
    cases hs : t.slot p.j with
    | empty =>
      rw [hs] at e
      cases e
      exact ⟨hp, hs⟩
    | dummy => exact absurd hs (slot_cases hd _)
    | live i =>
      rw [hs] at e
      dsimp only at e
      split at e
      · cases e
      · exact probe_empty hd fuel _ (adv p hp) e
theorem free_slot {t : SetTable} (hd : t.dummies = #[]) {h : Int} {j : Nat} {b : Bool} (e : t.freeSlot h = some (j, b)) : t.place[SetTable.below t.place j]? ≠ some j := by
  unfold SetTable.freeSlot at e
  split at e
  · rename_i j' d' q
    obtain ⟨rfl, hs⟩ := probe_empty hd _ _ rfl (show SetTable.probe.go t _ h _ _ = _ from q)
    cases e
    intro z
    have z' : t.place[SetTable.below t.place j']? = some j' := z
    unfold SetTable.slot at hs
    dsimp only at hs
    rw [if_pos (by rw [z']; simp)] at hs
    cases hs
  · cases e
theorem tab_stand {bt : Bool} {t : SetTable} (T : Tab bt t) (n : Nat) : Tab bt (t.standIn n) := ⟨T.led, rfl, fun z => by cases z⟩
theorem tab_put {bt : Bool} {t : SetTable} (T : Tab bt t) {j : Nat} (hj : t.place[SetTable.below t.place j]? ≠ some j) : Tab bt (t.put j).1 :=
  ⟨T.led, by show (if SetTable.has t.dummies j then _ else t.dummies) = #[]; rw [T.dum, has_none]; rfl, fun z => up_insert (T.up z) hj⟩
theorem tab_new {bt : Bool} {t : SetTable} (T : Tab bt t) (es : Array (Int × Value)) (h : Int) (x : Value) : Tab bt (layNew t es h x).2.1 := by
  unfold layNew
  split
  · rename_i j b e
    dsimp only
    unfold SetTable.orStandIn
    split
    · exact tab_put T (free_slot T.dum e)
    · exact tab_stand (tab_put T (free_slot T.dum e)) _
  · exact tab_stand T _
theorem up_live (owner : Array (Option Nat)) (m : Nat) : (((List.range m).filterMap fun j => (owner.getD j none).map (fun k => (j, k))).map (·.1)).Pairwise (· < ·) := by
  have e : (((List.range m).filterMap fun j => (owner.getD j none).map (fun k => (j, k))).map (·.1)) = (List.range m).filter fun j => (owner.getD j none).isSome := by
    generalize List.range m = l
    induction l with
    | nil => rfl
    | cons a l ih =>
      cases q : owner.getD a none with
      | none => rw [List.filterMap_cons, q, List.filter_cons, q]; simpa using ih
      | some k => rw [List.filterMap_cons, q, List.filter_cons, q]; simpa using ih
  rw [e]
  exact List.Pairwise.filter _ (List.pairwise_lt_range)
theorem tab_re {bt : Bool} {t : SetTable} (T : Tab bt t) (es : Array (Int × Value)) (n : Nat) : Tab bt (relayAll t es n).2.1 := by
  unfold relayAll
  split
  · rename_i t' order e
    dsimp only
    split
    · unfold SetTable.relaid SetTable.laid at e
      simp only [Option.bind_eq_bind, Option.bind_eq_some_iff] at e
      obtain ⟨owner, _, e⟩ := e
      cases e
      refine ⟨T.led, rfl, fun _ => ?_⟩
      unfold Up
      simpa using up_live owner _
    · exact tab_stand T _
  · exact tab_stand T _
theorem tab_fresh (bt : Bool) : Tab bt (.fresh 0 0 (!bt)) := ⟨rfl, rfl, fun _ => List.Pairwise.nil⟩
end SetL
end L2
namespace L2
open PySem PySem.Spec PyProof.Rows
namespace SetL
def intOf : Value → Int
  | .int i _ => i
  | _ => 0
theorem intOf_is {k : Int} {v : Value} (h : Value.isInt k v = true) : intOf v = k := by
  obtain ⟨t, rfl⟩ := Value.isInt_shape h
  rfl
/-- the set at a has just the whole numbers ms, in the order of its entries -/
structure SetI (prog : Program) (w : World) (h : Heap) (a : Addr) (ms : List Int) : Prop where
  ex : ∃ o es ep t, (h.get? a = some o ∧ o.ExactSet ∧ o.data = .set es ep t) ∧ (ElemsOf (intKind prog w) es.toList ∧ es.size < scanBound ∧ t.fits es.size = true) ∧ Tab (w.params.followText "set-order") t ∧
    es.toList.map (fun e => intOf e.2) = ms
  nd : ms.Nodup
theorem elems_is {prog : Program} {w : World} {l : List (Int × Value)} (hl : ElemsOf (intKind prog w) l) (k : Int) : (∃ e ∈ l, Value.isInt k e.2 = true) ↔ k ∈ l.map fun e => intOf e.2 := by
  constructor
  · rintro ⟨e, he, q⟩
    exact List.mem_map.mpr ⟨e, he, intOf_is q⟩
  · intro q
    obtain ⟨e, he, rfl⟩ := List.mem_map.mp q
    obtain ⟨⟨k', hk, _⟩, _⟩ := hl e he
    refine ⟨e, he, ?_⟩
    rw [intOf_is hk]; exact hk
section
variable {prog : Program} {w : World} {A : Around} {E : Value → Shared → Prop} {s : Shared} {a : Addr} {ms : List Int} {k : Int} {tk : Tok}
theorem xadd {Q : Bool → Shared → Prop} (S : SetI prog w s.heap a ms) (room : ms.length + 1 < scanBound)
    (hQ : ∀ b h' ms', Heap.SameBut a s.heap h' → SetI prog w h' a ms' → (∀ m, m ∈ ms' ↔ m ∈ ms ∨ m = k) → ms'.length ≤ ms.length + 1 → Q b { s with heap := h' }) :
    wpAny (model prog w) A (setAddHashed a (.int k tk) (hashInt k)) Q E s := by
  obtain ⟨⟨o, es, ep, t, ⟨ho, hex, hd⟩, ⟨hel, hb, hf⟩, T, rfl⟩, nd⟩ := S
  have hlen : (es.toList.map fun e => intOf e.2).length = es.size := by simp
  have hkey : (intKind prog w).is k (.int k tk) = true := intKind_is prog w k tk
  unfold setAddHashed setAddHashedIn
  refine wpAny_holding (wpAny_bind (wpAny_setState_of ho hd hf ?_))
  dsimp only
  rw [byScan_of (knd := intKind prog w) rfl hb hel]
  simp only [↓reduceIte]
  unfold setAddByScan
  refine wpAny_bind (wpAny_bind (wpAny_rule (wpAny_bind (wpAny_setScan_of (knd := intKind prog w) hkey ho hd hf hel ?_))))
  cases hr : List.findIdx? (fun e => (intKind prog w).is k e.2) es.toList with
  | some j =>
    obtain ⟨hj, hpj, _⟩ := List.findIdx?_eq_some_iff_getElem.mp hr
    have hm : k ∈ es.toList.map fun e => intOf e.2 := (elems_is hel k).mp ⟨es.toList[j], List.getElem_mem hj, hpj⟩
    refine wpAny_pure (wpAny_pure ?_)
    have z := hQ false s.heap _ (Heap.SameBut.refl a s.heap) ⟨⟨o, es, ep, t, ⟨ho, hex, hd⟩, ⟨hel, hb, hf⟩, T, rfl⟩, nd⟩ (fun m => ⟨.inl, fun q => q.elim id fun e => e ▸ hm⟩) (by omega)
    exact z
  | none =>
    have hm : k ∉ es.toList.map fun e => intOf e.2 := fun q => by
      obtain ⟨e, he, hp⟩ := (elems_is hel k).mpr q
      have := List.findIdx?_eq_none_iff.mp hr e he
      rw [show (intKind prog w).is k e.2 = true from hp] at this
      cases this
    dsimp only
    have hperm := layNew_perm t es (hashInt k) (.int k tk)
    have hfits := layNew_fits t es (hashInt k) (.int k tk)
    have T1 := tab_new T es (hashInt k) (.int k tk)
    generalize layNew t es (hashInt k) (.int k tk) = L at hperm hfits T1 ⊢
    obtain ⟨es1, t1, dm, gave⟩ := L
    dsimp only at hperm hfits T1 ⊢
    rw [Array.toList_push] at hperm
    have el1 : ElemsOf (intKind prog w) es1.toList := (hel.push (k := k) hkey rfl).perm hperm
    have sz1 : es1.size = es.size + 1 := by rw [← Array.length_toList, hperm.length_eq, List.length_append, Array.length_toList]; rfl
    have hb1 : es1.size < scanBound := by omega
    have pm : (es1.toList.map fun e => intOf e.2).Perm ((es.toList.map fun e => intOf e.2) ++ [k]) := by
      have := hperm.map fun e => intOf e.2
      rw [List.map_append] at this
      exact this
    have nd1 : (es1.toList.map fun e => intOf e.2).Nodup := pm.nodup_iff.mpr (List.nodup_append.mpr ⟨nd, (List.pairwise_singleton _ _), fun x hx y hy z => hm (by rw [List.mem_singleton] at hy; rw [← hy, ← z]; exact hx)⟩)
    have mm : ∀ m, m ∈ (es1.toList.map fun e => intOf e.2) ↔ m ∈ (es.toList.map fun e => intOf e.2) ∨ m = k := fun m => by rw [pm.mem_iff, List.mem_append, List.mem_singleton]
    have len1 : (es1.toList.map fun e => intOf e.2).length ≤ (es.toList.map fun e => intOf e.2).length + 1 := by rw [pm.length_eq, List.length_append]; exact Nat.le_refl _
    have fin : ∀ h' es2 t2 ep2 o2, (h'.get? a = some o2 ∧ o2.ExactSet ∧ o2.data = .set es2 ep2 t2) → es2.toList.Perm es1.toList → t2.fits es2.size = true → Tab (w.params.followText "set-order") t2 → Heap.SameBut a s.heap h' → Q true { s with heap := h' } :=
      fun h' es2 t2 ep2 o2 hg p2 f2 T2 sb => by
        have q2 := p2.map fun e => intOf e.2
        have z2 : es2.size = es1.size := by rw [← Array.length_toList, p2.length_eq, Array.length_toList]
        refine hQ true h' _ sb ⟨⟨o2, es2, ep2, t2, hg, ⟨el1.perm p2, by omega, f2⟩, T2, rfl⟩, q2.nodup_iff.mpr nd1⟩ (fun m => (q2.mem_iff).trans (mm m)) ?_
        rw [q2.length_eq]; exact len1
    have put : ∀ {h : Heap} {o1 : Obj} {e1 : Array (Int × Value)} {p1 : Nat} {u1 : SetTable}, h.get? a = some o1 → o1.ExactSet → o1.data = .set e1 p1 u1 → ∀ (e2 : Array (Int × Value)) (u2 : SetTable),
        (h.update a (Obj.putSet e2 u2)).get? a = some { o1 with data := .set e2 (p1 + 1) u2 } := fun {h o1 e1 p1 u1} q1 _ q3 e2 u2 => by
      have z := Heap.get?_update_self (Obj.putSet e2 u2) q1 (by rw [putSet_of e2 u2 q3]; rfl)
      rw [putSet_of e2 u2 q3] at z
      exact z
    have tl : ∀ (Q' : Option Bool → Shared → Prop), (∀ h', Q true { s with heap := h' } → Q' (some true) { s with heap := h' }) → wpAny (model prog w) A (storeSet a es1 t1) (fun _ s1 => (dm = false ∧ t1.tooFull = true → ∀ g : Sem Unit, (∀ Q₀ : Unit → Shared → Prop, Q₀ () s1 → wpAny (model prog w) A g Q₀ E s1) →
        wpAny (model prog w) A (g >>= fun _ => storeSet a (relayAll t1 es1 (SetTable.grown es1.size)).1 (relayAll t1 es1 (SetTable.grown es1.size)).2.1 >>= fun _ => pure (some true)) Q' E s1) ∧ Q' (some true) s1) E s := fun Q' hq => by
      refine wpAny_storeSet_of ho hd ?_ (fits_of_scanBound hb1)
      have g1 := put ho hex hd es1 t1
      have sb1 := Heap.SameBut.update s.heap a (Obj.putSet es1 t1)
      refine ⟨fun _ g hg => wpAny_bind (hg _ ?_), hq _ (fin _ es1 t1 _ _ ⟨g1, hex, rfl⟩ .rfl hfits T1 sb1)⟩
      have p2 := relayAll_perm t1 es1 (SetTable.grown es1.size)
      have f2 := relayAll_fits t1 es1 (SetTable.grown es1.size)
      have T2 := tab_re T1 es1 (SetTable.grown es1.size)
      generalize relayAll t1 es1 (SetTable.grown es1.size) = L2 at p2 f2 T2 ⊢
      obtain ⟨es2, t2, gv2⟩ := L2
      dsimp only at p2 f2 T2 ⊢
      have z2 : es2.size = es1.size := by rw [← Array.length_toList, p2.length_eq, Array.length_toList]
      refine wpAny_bind (wpAny_storeSet_of g1 rfl (wpAny_pure (hq _ ?_)) (fits_of_scanBound (by omega)))
      exact fin _ es2 t2 _ _ ⟨put g1 hex rfl es2 t2, hex, rfl⟩ p2 f2 T2 (sb1.trans (Heap.SameBut.update _ a _))
    refine wpAny_bind ?_
    cases gave
    all_goals
      first | refine wpAny_pure ?_ | refine wpAny_rule ?_
      split
      all_goals
        refine wpAny_bind ?_
        try rw [hashByValue_scannable 8 (show (Value.int k tk).scannable = true from rfl)]
        refine wpAny_pure ?_
        simp only [plainKind, ↓reduceIte]
        refine wpAny_bind (wpAny_mono (tl (fun r s' => wpAny (model prog w) A (match r with | some added => pure added | none => setAddHashedIn a (Value.int k tk) (hashInt k) 99999) Q E s') fun h' z => wpAny_pure z) (fun _ s1 hz => ?_) fun _ _ z => z)
        obtain ⟨hz1, hz2⟩ := hz
        split
        · rename_i hc
          simp only [Bool.and_eq_true, Bool.not_eq_true'] at hc
          refine hz1 hc _ fun Q₀ q₀ => ?_
          generalize (relayAll t1 es1 (SetTable.grown es1.size)).2.2 = gb
          cases gb
          · exact wpAny_pure q₀
          · exact wpAny_rule q₀
        · exact wpAny_pure hz2
end
end SetL
end L2
namespace L2
open PySem PySem.Spec PyProof.Rows
namespace SetL
theorem SetI.keep {prog : Program} {w : World} {h h' : Heap} {a : Addr} {ms : List Int} (S : SetI prog w h a ms) (k : ∀ o, h.get? a = some o → h'.get? a = some o) : SetI prog w h' a ms := by
  obtain ⟨⟨o, es, ep, t, ⟨ho, r⟩, r2⟩, nd⟩ := S
  exact ⟨⟨o, es, ep, t, ⟨k o ho, r⟩, r2⟩, nd⟩
section
variable {prog : Program} {w : World} {A : Around} {R : Result → Shared → Prop} {I a : Addr} {fp wr : List Addr} {G : Array GenState → Array GenState → Prop} {n : Nat} {P : Nat → Value → Prop} {St : Nat → Shared → Prop} {val : Nat → Int}
theorem xloop (W : WalksS prog w A.in1 I fp wr G n P St) (ha : a ∉ fp) (hval : ∀ i v, P i v → ∃ t, v = .int (val i) t) (hb : n + 1 < scanBound) : ∀ (k i : Nat) (s : Shared) (ms : List Int), n - i = k → i ≤ n → St i s → SetI prog w s.heap a ms →
      (∀ m, m ∈ ms ↔ m ∈ (List.range i).map val) → ms.length ≤ i →
      (∀ s' ms', Moved (a :: wr) G s s' → SetI prog w s'.heap a ms' → (∀ m, m ∈ ms' ↔ m ∈ (List.range n).map val) → ms'.length ≤ n → R (.ok (.ret .none)) s') →
      codeAny (model prog w) A (.builtin "set.update.loop" ⟨[.ref a, .ref I], []⟩) R s := by
  have aw : a ∉ wr := fun z => ha (W.sub _ z)
  have sub : ∀ b ∈ wr, b ∈ a :: wr := fun b z => List.mem_cons_of_mem _ z
  intro k
  induction k with
  | zero =>
    intro i s ms hk hi st S mm hl hR
    obtain rfl : i = n := by omega
    refine codeAny_builtin PyProof.Rows.F.entry_set_update_loop ?_
    rw [Around.under_plainId PyProof.Rows.F.plain_set_update_loop _]
    show wpAny _ A.in1 (pyNext (.ref I) >>= _) _ _ s
    refine wpAny_bind (W.done s _ _ st fun s' mv => wpAny_pure (hR s' ms (mv.mono sub) (S.keep fun o e => mv.heap a o aw e) mm hl))
  | succ k ih =>
    intro i s ms hk hi st S mm hl hR
    have lt : i < n := by omega
    refine codeAny_builtin PyProof.Rows.F.entry_set_update_loop ?_
    rw [Around.under_plainId PyProof.Rows.F.plain_set_update_loop _]
    show wpAny _ A.in1 (pyNext (.ref I) >>= _) _ _ s
    refine wpAny_bind (W.item i s _ _ lt st fun v s' hP st' mv => ?_)
    obtain ⟨t, rfl⟩ := hval i v hP
    have S' := S.keep (h' := s'.heap) fun o e => mv.heap a o aw e
    show wpAny _ A.in1 (holding [Value.int (val i) t] (setAdd a (.int (val i) t)) >>= _) _ _ s'
    refine wpAny_bind (wpAny_holding ?_)
    unfold setAdd
    refine wpAny_holding (wpAny_bind ((intKind prog w).pyHash (k := val i) (intKind_is _ _ _ _) ?_))
    refine xadd (s := { s' with toks := s'.toks + 1 }) (ms := ms) S' (by omega) fun b h' ms' sb S2 mm2 l2 => ?_
    refine wpAny_pure ⟨plainId_quiet PyProof.Rows.F.plain_set_update_loop _, ih (i + 1) _ ms' (by omega) lt (W.frame _ s' _ _ st' (Nat.le_succ _) fun b hb o e => ?_) S2 (fun m => ?_) (by omega) fun s2 ms2 mv2 => hR s2 ms2 ?_⟩
    · rw [sb.2 b (fun z : b = a => ha (by rw [← z]; exact hb))]; exact e
    · rw [mm2, mm, List.range_succ, List.map_append, List.mem_append]
      simp
    · refine Moved.trans W.gtrans ((mv.mono sub).then_heap (Nat.le_succ _) fun b o hb e => ?_) mv2
      rw [sb.2 b (fun z : b = a => hb (by rw [z]; exact List.mem_cons_self))]; exact e
end
section
variable {prog : Program} {w : World} {A : Around} {E : Value → Shared → Prop} {s : Shared}
abbrev empty (w : World) : Obj := { cls := .type "set", dict := none, data := .set #[] 0 (.fresh 0 0 (!w.params.followText "set-order")) }
theorem new1 (v : Value) {R : Result → Shared → Prop} (h : R (.ok (.ret (.ref s.heap.objs.size))) { s with heap := s.heap.push (empty w) }) :
    codeAny (model prog w) A (.call (.builtin "set.__new__") ⟨[.type "set", v], []⟩) R s := by
  refine codeAny_of_tree ?_
  show wpAny _ A.in1 (checkBuiltinCall "set.__new__" ⟨[.type "set", v], []⟩ >>= fun _ => again (.builtin "set.__new__" ⟨[.type "set", v], []⟩)) _ _ s
  refine wpAny_bind (wpAny_of_eq (PySem.F.newCall_set_1 v) (wpAny_pure ⟨plainId_quiet PySem.F.plain_set_new _, codeAny_builtin PySem.F.entry_set_new ?_⟩))
  rw [Around.under_plainId PySem.F.plain_set_new _]
  unfold Builtin.«set.__new__» Builtin.Frozenset.newClass
  have sub := sub_set_self
  obtain ⟨hp, g, d, tk, os⟩ := s
  dsimp only
  wp_walk
  refine wpAny_askSetting (wpAny_pure ?_)
  simp only [newObj]
  refine wpAny_bind (wpAny_alloc (wpAny_pure (wpAny_pure ?_)))
  exact h
theorem empty_set {h : Heap} : SetI prog w (h.push (empty w)) h.objs.size [] :=
  ⟨⟨_, #[], 0, _, ⟨Heap.get?_push_size _ rfl, ⟨rfl, rfl, rfl⟩, rfl⟩, ⟨(fun e he => by simp at he), by decide, rfl⟩, tab_fresh _, rfl⟩, List.Pairwise.nil⟩
end
end SetL
end L2
namespace L2
open PySem PySem.Spec PyProof.Rows
namespace SetL
section
variable {prog : Program} {w : World} {A : Around} {E : Value → Shared → Prop} {s : Shared}
theorem range_ints : ∀ ns : List Int, (List.range ns.length).map (fun i => ns.getD i 0) = ns := fun ns => by
  apply List.ext_getElem?
  intro i
  rw [List.getElem?_map]
  by_cases h : i < ns.length
  · rw [List.getElem?_range h, List.getElem?_eq_getElem h]
    simp [h]
  · rw [List.getElem?_eq_none (by rw [List.length_range]; omega), List.getElem?_eq_none (by omega)]
    rfl
/-- __init__ of the new set, from a list of whole numbers -/
theorem init1 {l : Addr} {items : Array Value} {ns : List Int} (hh : A.handled = none) (hl : s.heap.IsList l items) (hi : IntsAre items.toList ns) (hb : items.size + 1 < scanBound) {R : Result → Shared → Prop}
    (h : ∀ h' tk ms, SetI prog w h' s.heap.objs.size ms → (∀ m, m ∈ ms ↔ m ∈ ns) → ms.length ≤ ns.length → (∀ b o, b < s.heap.objs.size → s.heap.get? b = some o → h'.get? b = some o) → R (.ok (.ret .none)) { s with heap := h', toks := tk }) :
    codeAny (model prog w) A (.call (.builtin "set.__init__") ⟨[.ref s.heap.objs.size, .ref l], []⟩) R { s with heap := s.heap.push (empty w) } := by
  have hn : items.size = ns.length := by rw [← IntsAre.length hi]; simp
  have at0 : (s.heap.push (empty w)).get? s.heap.objs.size = some (empty w) := Heap.get?_push_size _ rfl
  have ty : Shared.TypeIs { s with heap := s.heap.push (empty w) } (.ref s.heap.objs.size) "set" := ⟨_, at0, rfl⟩
  refine codeAny_call_builtin PySem.F.called_set.init.plain PySem.F.entry_set_init (check_set_init_1 ty ?_)
  obtain ⟨ol, hol, hcl, nl, hdl⟩ := id hl
  have lS : l < s.heap.objs.size := Heap.lt_size hol
  obtain ⟨oc, od, odt, osl⟩ := ol
  dsimp only at hcl hdl
  subst hcl hdl
  have hol' := Heap.get?_push_of_some (empty w) hol
  have n1 := PySem.F.sub_list_set
  have n2 := PySem.F.sub_list_frozenset
  have n3 : (Value.type "list" == Value.type "dict") = false := by decide
  have l1 : (s.heap.push (empty w)).IsList l items := ⟨_, hol', rfl, nl, rfl⟩
  unfold Builtin.«set.__init__» noKeywords Builtin.Frozenset.updateFrom
  generalize hPI : pyIter = PI
  wp_walk
  subst hPI
  refine wpAny_pyIter_list l1 (wpAny_bind (wpAny_runValue ?_))
  have h3 : A.in1.in1.handled = none := by simp [hh]
  have sz : (s.heap.push (empty w)).objs.size = s.heap.objs.size + 1 := Heap.size_push _ _
  have ne : l ≠ (s.heap.push (empty w)).objs.size := by rw [sz]; exact Nat.ne_of_lt (Nat.lt_succ_of_lt lS)
  have nf : s.heap.objs.size ∉ [(s.heap.push (empty w)).objs.size, l] := by
    rw [sz]
    simp only [List.mem_cons, List.not_mem_nil, or_false, not_or]
    exact ⟨Nat.ne_of_lt (Nat.lt_succ_self _), Nat.ne_of_gt lS⟩
  have S0 : SetI prog w ((s.heap.push (empty w)).push { cls := .type "list_iterator", data := .fields #[.ref l, .int 0 0] }) s.heap.objs.size [] := empty_set.keep fun o e => Heap.get?_push_of_some _ e
  refine xloop (val := fun i => ns.getD i 0) ((Walks.list h3 _ l ne items).toS) nf (fun i v q => IntsAre.int_at hi i v (by rw [Array.getElem?_toList]; exact q)) hb (items.size - 0) 0 _ [] (by omega) (Nat.zero_le _)
    ?xst ?xS (fun m => by simp) (Nat.zero_le _) ?_
  case xst => exact ⟨⟨_, Heap.get?_push_size _ rfl, rfl, rfl⟩, l1.push _⟩
  case xS => exact S0
  intro s' ms mv S mm len
  obtain ⟨h', g', d', tk', os'⟩ := s'
  obtain rfl : g' = s.gens := mv.gens
  obtain rfl : d' = s.drawn := mv.drawn
  obtain rfl : os' = s.os := mv.os
  refine wpAny_pure ?_
  show wpAny _ _ (ret Value.none) _ _ _
  refine wpAny_pure (h h' tk' ms S (fun m => ?_) (by omega) fun b o lt e => ?_)
  · rw [mm, hn, range_ints]
  · refine mv.heap b o ?_ (Heap.get?_push_of_some _ (Heap.get?_push_of_some _ e))
    rw [sz]
    simp only [List.mem_cons, List.not_mem_nil, or_false, not_or]
    exact ⟨Nat.ne_of_lt lt, Nat.ne_of_lt (Nat.lt_succ_of_lt lt)⟩
set_option maxHeartbeats 3200000 in
theorem set_of_list {l : Addr} {items : Array Value} {ns : List Int} (hh : A.handled = none) (hl : s.heap.IsList l items) (hi : IntsAre items.toList ns) (hb : items.size + 1 < scanBound) {Q : Value → Shared → Prop}
    (h : ∀ h' tk ms, SetI prog w h' s.heap.objs.size ms → (∀ m, m ∈ ms ↔ m ∈ ns) → ms.length ≤ ns.length → (∀ b o, b < s.heap.objs.size → s.heap.get? b = some o → h'.get? b = some o) → Q (.ref s.heap.objs.size) { s with heap := h', toks := tk }) :
    wpAny (model prog w) A (call (.type "set") [.ref l]) Q E s := by
  obtain ⟨c, tl, hmro⟩ := PySem.F.called_set.mro
  have m1 := PySem.F.called_set.made
  have m2 := PySem.F.called_set.sub
  have m3 := PySem.F.called_set.notType
  have m4 := PySem.F.called_set.canCreate
  have m5 := PySem.F.typeCall_set_1 (.ref l)
  refine wpAny_call (codeAny_of_tree ?_)
  show wpAny _ _ (callAny (.type "set") _) _ _ _
  refine wpAny_pure ⟨Code.quiet_builtin _ (by decide +kernel), codeAny_builtin PySem.F.entry_type_call ?_⟩
  rw [Around.under_plain (weight_type_call_type "set" [.ref l] []) rfl]
  repeat (any_goals (first | assumption | wp_step))
  refine new1 (.ref l) ?_
  have at0 : (s.heap.push (empty w)).get? s.heap.objs.size = some (empty w) := Heap.get?_push_size _ rfl
  have ty : Shared.TypeIs { s with heap := s.heap.push (empty w) } (.ref s.heap.objs.size) "set" := ⟨_, at0, rfl⟩
  have i1 := PySem.F.called_set.init.lookup
  have i2 := PySem.F.called_set.init.bind (.ref s.heap.objs.size)
  show wpAny _ _ _ _ _ _
  repeat (any_goals (first | assumption | wp_step))
  refine init1 (by simp [hh]) hl hi hb fun h' tk ms S mm len kp => ?_
  show wpAny _ _ _ _ _ _
  repeat (any_goals (first | assumption | wp_step))
  exact h _ _ _ S mm len kp
end
end SetL
end L2
namespace L2
open PySem PySem.Spec PyProof.Rows
namespace SetL
theorem si_next : Slot "set_iterator" "__next__" "set_iterator.__next__" := .of (owner := "set_iterator") (n := "__next__") (by rw [typeLookup_type, builtinLookup_eq_fast]; kernel_rfl) (by decide +kernel) (by decide +kernel) (by decide +kernel)
  (by first | exact .inl (by decide +kernel) | exact .inr (by decide +kernel)) (by rw [isSubtype_type]; kernel_rfl)
theorem si_iter : Slot "set_iterator" "__iter__" "set_iterator.__iter__" := .of (owner := "set_iterator") (n := "__iter__") (by rw [typeLookup_type, builtinLookup_eq_fast]; kernel_rfl) (by decide +kernel) (by decide +kernel) (by decide +kernel)
  (by first | exact .inl (by decide +kernel) | exact .inr (by decide +kernel)) (by rw [isSubtype_type]; kernel_rfl)
theorem en_next : entryFor table "set_iterator.__next__" = some Builtin.«set_iterator.__next__» := entryFor_of_fast (by kernel_rfl)
theorem en_iter : entryFor table "set_iterator.__iter__" = some Builtin.«dict_keyiterator.__iter__» := entryFor_alias (id' := "dict_keyiterator.__iter__") (by kernel_rfl) rfl (by decide +kernel) (by kernel_rfl)
theorem en_siter : entryFor table "set.__iter__" = some Builtin.«frozenset.__iter__» := entryFor_alias (id' := "frozenset.__iter__") (by kernel_rfl) rfl (by decide +kernel) (by kernel_rfl)
theorem ar_next (a : Value) : argsOk "set_iterator.__next__" ⟨[a], []⟩ := by unfold argsOk; kernel_rfl
theorem ar_iter (a : Value) : argsOk "set_iterator.__iter__" ⟨[a], []⟩ := by unfold argsOk; kernel_rfl
/-- the iterator at I, at its i-th turn -/
def IterAt (h : Heap) (I a : Addr) (first : Value) (i n ep : Nat) : Prop := ∃ o, h.get? I = some o ∧ o.cls = .type "set_iterator" ∧ o.data = .fields #[first, .int i 0, .ref a, .int n 0, .int ep 0]
theorem IterAt.ty {s : Shared} {I a : Addr} {first : Value} {i n ep : Nat} (h : IterAt s.heap I a first i n ep) : s.TypeIs (.ref I) "set_iterator" := let ⟨_, a, b, _⟩ := h; ⟨_, a, b⟩
theorem IterAt.keep {h h' : Heap} {I a : Addr} {first : Value} {i n ep : Nat} (x : IterAt h I a first i n ep) (k : ∀ o, h.get? I = some o → h'.get? I = some o) : IterAt h' I a first i n ep := let ⟨o, a, b⟩ := x; ⟨o, k o a, b⟩
/-- the object of the set -/
def ObjAt (h : Heap) (a : Addr) (es : Array (Int × Value)) (ep : Nat) (t : SetTable) : Prop := ∃ o, h.get? a = some o ∧ o.data = .set es ep t ∧ t.fits es.size = true
theorem ObjAt.keep {h h' : Heap} {a : Addr} {es : Array (Int × Value)} {ep : Nat} {t : SetTable} (x : ObjAt h a es ep t) (k : ∀ o, h.get? a = some o → h'.get? a = some o) : ObjAt h' a es ep t := let ⟨o, a, b⟩ := x; ⟨o, k o a, b⟩
section
variable {prog : Program} {w : World} {A : Around} {E : Value → Shared → Prop} {s : Shared} {I a : Addr} {es : Array (Int × Value)} {ep : Nat} {t : SetTable}
theorem state_at {Q : (Array (Int × Value) × Nat × SetTable) → Shared → Prop} (O : ObjAt s.heap a es ep t) (h : Q (es, ep, t) s) : wpAny (model prog w) A (setState a) Q E s := by
  obtain ⟨o, ho, hd, hf⟩ := O
  exact wpAny_setState_of ho hd hf h
theorem iter_self {first : Value} {i n : Nat} {Q : Value → Shared → Prop} (h : IterAt s.heap I a first i n ep) (q : Q (.ref I) s) : wpAny (model prog w) A (pyIter (.ref I)) Q E s := by
  refine wpAny_pyIter_slot h.ty si_iter (wpAny_call_entry si_iter h.ty en_iter ?_ (ar_iter _))
  exact wpAny_pure ⟨_, rfl, "set_iterator", _, h.ty, si_next.lookup, q⟩
/-- the end: StopIteration, caught by pyNext -/
theorem stop_here {Q : Option Value → Shared → Prop} {h1 : Heap} (hh : A.handled = none) (q : ∀ h', (∀ b o, h1.get? b = some o → h'.get? b = some o) → Q none { s with heap := h' }) :
    wpAny (model prog w) A.in1 (newExc (.type "StopIteration") [] >>= fun e => raiseNew e : Sem Fin) (fun fin s' => ∃ v, fin = .done (.ret v) ∧ wpAny (model prog w) A (match (Except.ok (some v) : Except Value (Option Value)) with | .ok (some v) => pure (some v) | .ok none => unsupported "iter:the-iterator's-class-has-lost-its-__next__-amid-the-walk" | .error e => do if ← isInstance e (.type "StopIteration") then pure none else throw e) Q E s')
      (fun e s' => wpAny (model prog w) A (do if ← isInstance e (.type "StopIteration") then pure none else throw e) Q E s') { s with heap := h1 } := by
  refine wpAny_bind ?_
  simp only [newExc, newTuple]
  refine wpAny_bind (wpAny_newObj_type ?_ (by size_fits))
  refine wpAny_bind (m := firstArgMember _ _) (wpAny_of_eq (a := Value.none) (by first | rfl | (simp only [firstArgMember]; rfl)) ?_)
  refine wpAny_newObj_type ?_ (by size_fits)
  simp only [raiseNew]
  refine wpAny_bind (wpAny_handled ?_)
  rw [show A.in1.handled = none from hh]
  refine wpAny_bind (wpAny_pure (wpAny_throw ?_))
  refine wpAny_bind (wpAny_isInstance (T := "StopIteration") (b := true) ⟨_, Heap.get?_push_size _ rfl, rfl⟩ isSubtype_stop ?_)
  exact wpAny_pure (q _ fun b o e => Heap.get?_push_of_some _ (Heap.get?_push_of_some _ e))
end
end SetL
end L2
namespace L2
open PySem PySem.Spec PyProof.Rows
namespace SetL
section
variable {prog : Program} {w : World} {A : Around} {E : Value → Shared → Prop} {s : Shared} {I a : Addr} {es : Array (Int × Value)} {ep : Nat} {t : SetTable}
theorem put_field {h : Heap} {o : Obj} {vs : Array Value} {j : Nat} {x : Value} (ho : h.get? I = some o) (hd : o.data = .fields vs) : (h.update I (Obj.mapFields (·.setIfInBounds j x))).get? I = some (Obj.mapFields (·.setIfInBounds j x) o) :=
  Heap.get?_update_self _ ho (Obj.isFreed_of_fields (Obj.data_mapFields hd _))
theorem next_int {F i : Nat} {r : Option (Value × Nat)} {Q : Option Value → Shared → Prop} (hh : A.handled = none) (It : IterAt s.heap I a (.int F 0) i es.size ep) (O : ObjAt s.heap a es ep t)
    (st : ∀ (A' : Around) (E' : Value → Shared → Prop) (Q' : Option (Value × Nat) → Shared → Prop), Q' r s → wpAny (model prog w) A' (setNext a F i ep) Q' E' s)
    (h1 : ∀ x F', r = some (x, F') → ∀ h', Heap.SameBut I s.heap h' → IterAt h' I a (.int F' 0) (i + 1) es.size ep → Q (some x) { s with heap := h' })
    (h2 : r = none → ∀ h', (∀ b o, b ≠ I → s.heap.get? b = some o → h'.get? b = some o) → Q none { s with heap := h' }) : wpAny (model prog w) A (pyNext (.ref I)) Q E s := by
  obtain ⟨o, ho, hc, hd⟩ := id It
  unfold pyNext
  refine wpAny_bind (wpAny_attempt (wpAny_callSpecial?_slot (name := Str.ofString "__next__") It.ty si_next (wpAny_call_entry si_next It.ty en_next ?_ (ar_next _))))
  unfold Builtin.«set_iterator.__next__»
  refine wpAny_bind (wpAny_of_eq (a := (Value.ref I, [])) rfl ?_)
  show wpAny _ _ (fieldsOf (.ref I) >>= _) _ _ s
  refine wpAny_bind (wpAny_fieldsOf ho hd ?_)
  show wpAny _ _ (setEntries a >>= _) _ _ s
  refine wpAny_bind ?_
  unfold setEntries
  refine wpAny_bind (state_at O (wpAny_pure ?_))
  dsimp only
  rw [if_neg (by simp)]
  simp only [Int.toNat_natCast]
  refine wpAny_bind (st _ _ _ ?_)
  cases r with
  | some xf =>
    obtain ⟨x, F'⟩ := xf
    refine wpAny_bind (wpAny_setField ho hd (by simp) ?_)
    have ho1 := put_field (j := 0) (x := rawInt F') ho hd
    have hd1 := Obj.data_mapFields hd (f := (·.setIfInBounds 0 (rawInt F')))
    refine wpAny_bind (wpAny_setField ho1 hd1 (by simp) (wpAny_pure ⟨x, rfl, wpAny_pure (h1 x F' rfl _ ((Heap.SameBut.update ..).trans (Heap.SameBut.update ..)) ?_)⟩))
    refine ⟨_, put_field ho1 hd1, (Obj.cls_mapFields ..).trans ((Obj.cls_mapFields ..).trans hc), ?_⟩
    rw [Obj.data_mapFields hd1]
    simp [rawInt]
  | none =>
    refine wpAny_bind (wpAny_setField ho hd (by simp) ?_)
    refine stop_here hh fun h' k => h2 rfl h' fun b o hb e => k b o ?_
    exact (Heap.get?_update_ne _ _ _ _ hb).trans e
end
end SetL
end L2
namespace L2
open PySem PySem.Spec PyProof.Rows
namespace SetL
section
variable {prog : Program} {w : World} {A : Around} {E : Value → Shared → Prop} {s : Shared} {I a T : Addr} {es : Array (Int × Value)} {ep : Nat} {t : SetTable} {ps : Array Value}
def PlacesAt (h : Heap) (T : Addr) (ps : Array Value) : Prop := ∃ o n, h.get? T = some o ∧ o.data = .seq ps n
theorem PlacesAt.keep {h h' : Heap} (x : PlacesAt h T ps) (k : ∀ o, h.get? T = some o → h'.get? T = some o) : PlacesAt h' T ps := let ⟨o, n, a, b⟩ := x; ⟨o, n, k o a, b⟩
theorem next_drawn {i : Nat} {Q : Option Value → Shared → Prop} (hh : A.handled = none) (It : IterAt s.heap I a (.ref T) i es.size ep) (O : ObjAt s.heap a es ep t) (P : PlacesAt s.heap T ps)
    (h1 : ∀ p, ps[i]? = some (.int p 0) → ∀ k x, es[p.toNat]? = some (k, x) → ∀ h', Heap.SameBut I s.heap h' → IterAt h' I a (.ref T) (i + 1) es.size ep → Q (some x) { s with heap := h' })
    (h2 : ps[i]? = none → ∀ h', (∀ b o, b ≠ I → s.heap.get? b = some o → h'.get? b = some o) → Q none { s with heap := h' })
    (hp : ps[i]? = none ∨ ∃ p k x, ps[i]? = some (.int p 0) ∧ es[p.toNat]? = some (k, x)) : wpAny (model prog w) A (pyNext (.ref I)) Q E s := by
  obtain ⟨o, ho, hc, hd⟩ := id It
  obtain ⟨oT, nT, hT, hdT⟩ := P
  unfold pyNext
  refine wpAny_bind (wpAny_attempt (wpAny_callSpecial?_slot (name := Str.ofString "__next__") It.ty si_next (wpAny_call_entry si_next It.ty en_next ?_ (ar_next _))))
  unfold Builtin.«set_iterator.__next__»
  refine wpAny_bind (wpAny_of_eq (a := (Value.ref I, [])) rfl ?_)
  show wpAny _ _ (fieldsOf (.ref I) >>= _) _ _ s
  refine wpAny_bind (wpAny_fieldsOf ho hd ?_)
  show wpAny _ _ (setEntries a >>= _) _ _ s
  refine wpAny_bind ?_
  unfold setEntries
  refine wpAny_bind (state_at O (wpAny_pure ?_))
  dsimp only
  rw [if_neg (by simp)]
  simp only [Int.toNat_natCast]
  refine wpAny_bind (wpAny_seqItems hT hdT ?_)
  dsimp only
  rcases hp with hp | ⟨p, k, x, hp, hx⟩
  · rw [hp]
    refine wpAny_bind (wpAny_setField ho hd (by simp) ?_)
    have ho1 := put_field (j := 0) (x := rawInt 0) ho hd
    have hd1 := Obj.data_mapFields hd (f := (·.setIfInBounds 0 (rawInt 0)))
    refine wpAny_bind (wpAny_setField ho1 hd1 (by simp) ?_)
    refine stop_here hh fun h' k => h2 hp h' fun b o hb e => k b o ?_
    exact (Heap.get?_update_ne _ _ _ _ hb).trans ((Heap.get?_update_ne _ _ _ _ hb).trans e)
  · rw [hp]
    dsimp only
    refine wpAny_bind ?_
    unfold setNextDrawn
    refine wpAny_bind (state_at O ?_)
    dsimp only
    rw [if_neg (by simp), hx]
    refine wpAny_pure (wpAny_bind (wpAny_setField ho hd (by simp) (wpAny_pure ⟨x, rfl, wpAny_pure (h1 p hp k x hx _ (Heap.SameBut.update ..) ?_)⟩)))
    refine ⟨_, put_field ho hd, (Obj.cls_mapFields ..).trans hc, ?_⟩
    rw [Obj.data_mapFields hd]
    simp [rawInt]
/-- a walk by slots -/
theorem walks_int (hh : A.handled = none) (ne : a ≠ I) {F : Nat → Nat} {ord : Nat → Value} (st : ∀ i, i ≤ es.size → ∀ (s : Shared), ObjAt s.heap a es ep t → ∀ (A' : Around) (E' : Value → Shared → Prop) (Q' : Option (Value × Nat) → Shared → Prop),
      Q' (if i < es.size then some (ord i, F (i + 1)) else none) s → wpAny (model prog w) A' (setNext a (F i) i ep) Q' E' s) :
    Walks prog w A I [I, a] [I] es.size (fun i v => v = ord i) (fun i h => i ≤ es.size ∧ IterAt h I a (.int (F i) 0) i es.size ep ∧ ObjAt h a es ep t) where
  sub := fun b hb => by simp at hb; simp [hb]
  frame := fun _ _ _ st k => ⟨st.1, st.2.1.keep fun o e => k I (by simp) o e, st.2.2.keep fun o e => k a (by simp) o e⟩
  item := fun i s Q E hi h hQ => by
    refine next_int hh h.2.1 h.2.2 (fun A' E' Q' q => st i h.1 s h.2.2 A' E' Q' q) (fun x F' e h' sb It => ?_) fun e => ?_
    · rw [if_pos hi] at e
      cases e
      exact hQ _ h' s.toks rfl ⟨hi, It, h.2.2.keep fun o e => (sb.2 a ne).trans e⟩ fun b o hb e => (sb.2 b fun z => hb (by simp [z])).trans e
    · rw [if_pos hi] at e; cases e
  done := fun s Q E h hQ => by
    refine next_int hh h.2.1 h.2.2 (fun A' E' Q' q => st _ h.1 s h.2.2 A' E' Q' q) (fun x F' e => ?_) fun _ h' k => hQ h' s.toks fun b o hb e => k b o (fun z => hb (by simp [z])) e
    rw [if_neg (Nat.lt_irrefl _)] at e; cases e
  self := fun _ _ _ _ h q => iter_self h.2.1 q
/-- a walk by places that were drawn -/
theorem walks_drawn (hh : A.handled = none) (ne : a ≠ I) (nT : T ≠ I) {ord : List Nat} (hps : ps = (ord.map fun i : Nat => rawInt i).toArray) (hl : ord.length = es.size) (ho : ∀ i ∈ ord, i < es.size) :
    Walks prog w A I [I, a, T] [I] es.size (fun i v => ∃ j, ord[i]? = some j ∧ ∃ k, es[j]? = some (k, v)) (fun i h => i ≤ es.size ∧ (IterAt h I a (.ref T) i es.size ep ∧ ObjAt h a es ep t) ∧ PlacesAt h T ps) where
  sub := fun b hb => by simp at hb; simp [hb]
  frame := fun _ _ _ st k => ⟨st.1, ⟨st.2.1.1.keep fun o e => k I (by simp) o e, st.2.1.2.keep fun o e => k a (by simp) o e⟩, st.2.2.keep fun o e => k T (by simp) o e⟩
  item := fun i s Q E hi h hQ => by
    have hj : i < ord.length := by omega
    have e0 : ps[i]? = some (.int (ord[i] : Nat) 0) := by rw [hps]; simp [hj, rawInt]
    have hlt := ho ord[i] (List.getElem_mem hj)
    obtain ⟨⟨k0, x0⟩, q0⟩ : ∃ q, es[ord[i]]? = some q := ⟨_, Array.getElem?_eq_getElem hlt⟩
    refine next_drawn hh h.2.1.1 h.2.1.2 h.2.2 (fun p ep' k x ex h' sb It => ?_) (fun e => by rw [e0] at e; cases e) (.inr ⟨_, k0, x0, e0, by simpa using q0⟩)
    rw [e0] at ep'
    cases ep'
    refine hQ x h' s.toks ⟨ord[i], List.getElem?_eq_getElem hj, k, by simpa using ex⟩ ⟨hi, ⟨It, h.2.1.2.keep fun o e => (sb.2 a ne).trans e⟩, h.2.2.keep fun o e => (sb.2 T nT).trans e⟩ fun b o hb e => (sb.2 b fun z => hb (by simp [z])).trans e
  done := fun s Q E h hQ => by
    have e0 : ps[es.size]? = none := by rw [hps]; simp; omega
    exact next_drawn hh h.2.1.1 h.2.1.2 h.2.2 (fun p ep' => by rw [e0] at ep'; cases ep') (fun _ h' k => hQ h' s.toks fun b o hb e => k b o (fun z => hb (by simp [z])) e) (.inl e0)
  self := fun _ _ _ _ h q => iter_self h.2.1.1 q
end
end SetL
end L2
namespace L2
open PySem PySem.Spec PyProof.Rows
namespace SetL
theorem erase_perm {α : Type} : ∀ (l : List α) (i : Nat) (h : i < l.length), (l[i] :: l.eraseIdx i).Perm l
  | x :: xs, 0, _ => .refl _
  | x :: xs, i + 1, h => (List.Perm.swap x _ _).trans ((erase_perm xs i (by simpa using h)).cons x)
theorem pick_go {α : Type} (next : Nat → Nat) : ∀ (fuel k : Nat) (left : List α) (out : Array α), left.length = fuel → (pickOrder.go next fuel k left out).toList.Perm (out.toList ++ left)
  | 0, k, left, out, h => by
    have : left = [] := List.length_eq_zero_iff.mp h
    subst this
    unfold pickOrder.go
    simp
  | fuel + 1, k, left, out, h => by
    have lt : next k % left.length < left.length := Nat.mod_lt _ (by omega)
    unfold pickOrder.go
    rw [List.getElem?_eq_getElem lt]
    dsimp only
    refine (pick_go next fuel (k + 1) _ _ (by rw [List.length_eraseIdx_of_lt lt, h]; rfl)).trans ?_
    rw [Array.toList_push, List.append_assoc]
    refine List.Perm.append_left _ ?_
    exact erase_perm left _ lt
theorem pick_perm {α : Type} (next : Nat → Nat) (xs : Array α) : (pickOrder next xs).toList.Perm xs.toList := by
  unfold pickOrder
  simpa using pick_go next xs.size 0 xs.toList #[] (by simp)
/-- the slot from which the i-th turn looks -/
def slotAt (t : SetTable) (i : Nat) : Nat := if i = 0 then 0 else t.place.getD (i - 1) 0 + 1
theorem below_at {t : SetTable} (h : Up t.place) {i : Nat} (hi : i ≤ t.place.size) : SetTable.below t.place (slotAt t i) = i := by
  obtain ⟨h0, h1, h2⟩ := below_spec h (slotAt t i)
  generalize SetTable.below t.place (slotAt t i) = p at *
  have gd : ∀ j, j < t.place.size → ∀ d e, t.place.getD j d = t.place.getD j e := fun j hj d e => by simp [Array.getD, hj]
  by_cases hz : i = 0
  · subst hz
    refine Nat.eq_zero_of_not_pos fun hp => ?_
    have := h1 0 hp
    unfold slotAt at this
    rw [if_pos rfl] at this
    omega
  · have e : slotAt t i = t.place.getD (i - 1) 0 + 1 := by unfold slotAt; rw [if_neg hz]
    rcases Nat.lt_trichotomy p i with lt | rfl | gt
    · have := h2 (i - 1) (by omega) (by omega)
      rw [gd _ (by omega) _ 0, e] at this
      omega
    · rfl
    · have := h1 i gt
      have u := up_lt h (i := i - 1) (j := i) (by omega) (by omega) 0 0
      rw [gd _ (by omega) _ 0, e] at this
      omega
section
variable {prog : Program} {w : World} {a : Addr} {es : Array (Int × Value)} {ep : Nat} {t : SetTable}
theorem next_plain (hb : w.params.followText "set-order" = false) (T : Tab false t) (hf : t.fits es.size = true) (hp : (!t.plain && decide (es.size > 1)) = false) (i : Nat) (hi : i ≤ es.size) (s : Shared) (O : ObjAt s.heap a es ep t) (A' : Around)
    (E' : Value → Shared → Prop) (Q' : Option (Value × Nat) → Shared → Prop) (q : Q' (if i < es.size then some ((es.getD i (0, .none)).2, slotAt t (i + 1)) else none) s) : wpAny (model prog w) A' (setNext a (slotAt t i) i ep) Q' E' s := by
  have fz : t.place.size = es.size := by simp [SetTable.fits] at hf; exact hf.1
  have up : Up t.place := by
    by_cases pl : t.plain = true
    · exact T.up pl
    · have : es.size ≤ 1 := by simp [pl] at hp; exact hp
      unfold Up
      have l1 : t.place.toList.length ≤ 1 := by rw [Array.length_toList]; omega
      match hq : t.place.toList, l1 with
      | [], _ => exact .nil
      | [x], _ => exact List.pairwise_singleton _ _
      | _ :: _ :: _, z => simp at z
  unfold setNext
  refine wpAny_bind (state_at O ?_)
  unfold setsByText
  refine wpAny_bind (wpAny_bind (wpAny_askSetting (wpAny_pure ?_)))
  rw [show (model prog w).w.params.followText "set-order" = false from hb]
  rw [if_neg Bool.false_ne_true]
  dsimp only
  show wpAny _ _ (if (!t.plain && decide (es.size > 1)) = true then _ else _) _ _ _
  rw [if_neg (by rw [hp]; exact Bool.false_ne_true)]
  refine wpAny_bind ?_
  show wpAny _ _ (if (!t.led && !es.isEmpty) = true then _ else _) _ _ _
  rw [if_neg (by rw [T.led]; simp)]
  refine wpAny_pure ?_
  rw [below_at up (by omega)]
  refine wpAny_pure ?_
  by_cases lt : i < es.size
  · rw [if_pos lt] at q
    rw [Array.getElem?_eq_getElem lt, Array.getElem?_eq_getElem (by omega : i < t.place.size)]
    dsimp only
    have e1 : (es.getD i (0, .none)).2 = es[i].2 := by simp [Array.getD, lt]
    have e2 : slotAt t (i + 1) = t.place[i]'(by omega) + 1 := by simp [slotAt, Array.getD, show i < t.place.size by omega]
    rw [e1, e2] at q
    exact q
  · rw [if_neg lt] at q
    rw [Array.getElem?_eq_none (by omega)]
    exact q
theorem next_text (hb : w.params.followText "set-order" = true) (i : Nat) (hi : i ≤ es.size) (s : Shared) (O : ObjAt s.heap a es ep t) (A' : Around)
    (E' : Value → Shared → Prop) (Q' : Option (Value × Nat) → Shared → Prop) (q : Q' (if i < es.size then some (((pickOrder (w.params.setOrder a ep) es).getD i (0, .none)).2, 0) else none) s) : wpAny (model prog w) A' (setNext a 0 i ep) Q' E' s := by
  have sz : (pickOrder (w.params.setOrder a ep) es).size = es.size := by
    have := (pick_perm (w.params.setOrder a ep) es).length_eq
    simpa using this
  unfold setNext
  refine wpAny_bind (state_at O ?_)
  unfold setsByText
  refine wpAny_bind (wpAny_bind (wpAny_askSetting (wpAny_pure ?_)))
  rw [show (model prog w).w.params.followText "set-order" = true from hb, if_pos rfl]
  dsimp only
  rw [if_neg (by simp)]
  refine wpAny_bind ?_
  unfold setWalk
  refine wpAny_bind (state_at O ?_)
  unfold setsByText
  refine wpAny_bind (wpAny_bind (wpAny_askSetting (wpAny_pure ?_)))
  rw [show (model prog w).w.params.followText "set-order" = true from hb, if_pos rfl]
  refine wpAny_bind (wpAny_askSetting (wpAny_pure (wpAny_pure ?_)))
  show Q' (Option.map (fun e => (e.2, 0)) (pickOrder (w.params.setOrder a ep) es)[i]?) s
  by_cases lt : i < es.size
  · rw [if_pos lt] at q
    rw [Array.getElem?_eq_getElem (by omega)]
    have e1 : ((pickOrder (w.params.setOrder a ep) es).getD i (0, .none)).2 = ((pickOrder (w.params.setOrder a ep) es)[i]'(by omega)).2 := by simp [Array.getD, show i < (pickOrder (w.params.setOrder a ep) es).size by omega]
    rw [e1] at q
    exact q
  · rw [if_neg lt] at q
    rw [Array.getElem?_eq_none (by omega)]
    exact q
end
end SetL
end L2
namespace L2
open PySem PySem.Spec PyProof.Rows
namespace SetL
section
variable {prog : Program} {w : World} {A : Around} {E : Value → Shared → Prop}
theorem choose_any {src : Source} {n : Nat} {s : Shared} {Q : Nat → Shared → Prop} (hn : 0 < n) (h : ∀ i d, i < n → Q i { s with drawn := d }) : wpAny (model prog w) A (choose src n) Q E s :=
  fun Γ p hΓ => ⟨by omega, h _ _ (Nat.mod_lt _ hn)⟩
theorem draw_perm {α : Type} : ∀ (n : Nat) (xs : List α) (s : Shared) (Q : List α → Shared → Prop), xs.length = n → (∀ l d, l.Perm xs → Q l { s with drawn := d }) → wpAny (model prog w) A (drawOrder n xs) Q E s
  | 0, xs, s, Q, hl, h => by
    have : xs = [] := List.length_eq_zero_iff.mp hl
    subst this
    unfold drawOrder
    exact wpAny_pure (h [] s.drawn (.refl _))
  | n + 1, [], s, Q, hl, h => by simp at hl
  | n + 1, x :: xs, s, Q, hl, h => by
    unfold drawOrder
    refine wpAny_bind (choose_any (by simp) fun i d hi => ?_)
    rw [List.getElem?_eq_getElem hi]
    refine wpAny_bind (draw_perm n _ _ _ (by rw [List.length_eraseIdx_of_lt hi, hl]; rfl) fun l d' hp => wpAny_pure (h _ d' ?_))
    exact (hp.cons _).trans (erase_perm (x :: xs) i hi)
end
theorem items_eq {P : Nat → Value → Prop} {acc : Array Value} {n : Nat} {f : Nat → Value} (h : ItemsOf P acc n) (hf : ∀ i v, i < n → P i v → v = f i) : acc.toList = (List.range n).map f := by
  apply List.ext_getElem?
  intro j
  rw [List.getElem?_map]
  by_cases lt : j < n
  · have e : acc.toList[j]? = some (acc[j]'(by rw [h.1]; exact lt)) := by rw [Array.getElem?_toList]; exact Array.getElem?_eq_getElem _
    rw [e, List.getElem?_range lt]
    exact congrArg some (hf j _ lt (h.2 j _ (Array.getElem?_eq_getElem _)))
  · rw [List.getElem?_eq_none (by rw [Array.length_toList, h.1]; omega), List.getElem?_eq_none (by rw [List.length_range]; omega)]
    rfl
theorem range_arr {α β : Type} (xs : Array α) (d : α) (f : α → β) : (List.range xs.size).map (fun i => f (xs.getD i d)) = xs.toList.map f := by
  apply List.ext_getElem?
  intro j
  rw [List.getElem?_map, List.getElem?_map]
  by_cases lt : j < xs.size
  · rw [List.getElem?_range lt, Array.getElem?_toList, Array.getElem?_eq_getElem lt]
    simp [Array.getD, lt]
  · rw [List.getElem?_eq_none (by rw [List.length_range]; omega), List.getElem?_eq_none (by rw [Array.length_toList]; omega)]
    rfl
section
variable {prog : Program} {w : World} {A : Around} {E : Value → Shared → Prop} {s : Shared} {a : Addr} {es : Array (Int × Value)} {ep : Nat} {t : SetTable}
/-- iter(a set): a walk that meets each of its elements once -/
theorem iter_set {B : Around} {Q : Value → Shared → Prop} (hB : B.handled = none) (ty : s.TypeIs (.ref a) "set") (O : ObjAt s.heap a es ep t) (T : Tab (w.params.followText "set-order") t) (hz : es.size ≤ sizeLine)
    (hQ : ∀ I h' d' fp P (St : Nat → Heap → Prop), Walks prog w B I fp [I] es.size P St → St 0 h' → (∀ b ∈ fp, b = a ∨ (s.heap.objs.size ≤ b ∧ b < h'.objs.size)) → (∀ acc, ItemsOf P acc es.size → acc.toList.Perm (es.toList.map (·.2))) →
      (∀ b o, s.heap.get? b = some o → h'.get? b = some o) → s.heap.objs.size ≤ I → Q (.ref I) { s with heap := h', drawn := d' }) : wpAny (model prog w) A (pyIter (.ref a)) Q E s := by
  have hf : t.fits es.size = true := O.choose_spec.2.2
  have alt : a < s.heap.objs.size := Heap.lt_size O.choose_spec.1
  refine wpAny_pyIter_slot ty PySem.F.slot_set_iter (wpAny_call_entry PySem.F.slot_set_iter ty en_siter ?_ (PySem.F.args_set_iter_1 _))
  unfold Builtin.«frozenset.__iter__» Builtin.Frozenset.slot0
  refine wpAny_bind (wpAny_bind (wpAny_of_eq (a := (Value.ref a, [])) rfl (wpAny_of_eq (a := a) rfl ?_)))
  unfold Builtin.Frozenset.sizeOf setEntries
  refine wpAny_bind (wpAny_bind (wpAny_bind (state_at O (wpAny_pure (wpAny_pure ?_)))))
  unfold setDrawn setsByText
  refine wpAny_bind (wpAny_bind (state_at O (wpAny_bind (wpAny_bind (wpAny_askSetting (wpAny_pure (wpAny_pure ?_)))))))
  show wpAny _ _ (if (!w.params.followText "set-order" && (!t.plain && decide (es.size > 1))) = true then _ else _) _ _ _
  have body : ∀ (first : Value) (s1 : Shared), ObjAt s1.heap a es ep t → (∀ I h', h' = s1.heap.push { cls := .type "set_iterator", data := .fields #[first, .int (0 : Nat) 0, .ref a, .int es.size 0, .int ep 0] } → I = s1.heap.objs.size → IterAt h' I a first 0 es.size ep → ObjAt h' a es ep t → Q (.ref I) { s1 with heap := h' }) →
      wpAny (model prog w) A.in1 (setEpoch a >>= fun e => newFields "set_iterator" [first, rawInt 0, .ref a, rawInt es.size, rawInt e] >>= fun x => ret x) (fun fin s' => ∃ v, fin = .done (.ret v) ∧ ∃ T' r, s'.TypeIs v T' ∧ typeLookup (.type T') "__next__" = pure (some r) ∧ Q v s') E s1 := fun first s1 O1 q => by
    unfold setEpoch
    refine wpAny_bind (wpAny_bind (state_at O1 (wpAny_pure ?_)))
    refine wpAny_bind (wpAny_newObj_type (wpAny_pure ?_))
    have g : (s1.heap.push { cls := .type "set_iterator", data := .fields #[first, .int (0 : Nat) 0, .ref a, .int es.size 0, .int ep 0] }).get? s1.heap.objs.size = some { cls := .type "set_iterator", data := .fields #[first, .int (0 : Nat) 0, .ref a, .int es.size 0, .int ep 0] } := Heap.get?_push_size _ rfl
    exact ⟨_, rfl, "set_iterator", _, ⟨_, g, rfl⟩, si_next.lookup, q _ _ rfl rfl ⟨_, g, rfl, rfl⟩ (O1.keep fun o e => Heap.get?_push_of_some _ e)⟩
  have pin : ∀ (F : Nat → Nat) (ord : Nat → Value), F 0 = 0 → (∀ i, i ≤ es.size → ∀ (s : Shared), ObjAt s.heap a es ep t → ∀ (A' : Around) (E' : Value → Shared → Prop) (Q' : Option (Value × Nat) → Shared → Prop),
      Q' (if i < es.size then some (ord i, F (i + 1)) else none) s → wpAny (model prog w) A' (setNext a (F i) i ep) Q' E' s) → ((List.range es.size).map ord).Perm (es.toList.map (·.2)) →
      wpAny (model prog w) A.in1 (setEpoch a >>= fun e => newFields "set_iterator" [rawInt 0, rawInt 0, .ref a, rawInt es.size, rawInt e] >>= fun x => ret x) (fun fin s' => ∃ v, fin = .done (.ret v) ∧ ∃ T' r, s'.TypeIs v T' ∧ typeLookup (.type T') "__next__" = pure (some r) ∧ Q v s') E s := fun F ord F0 st pm => by
    refine body (rawInt 0) s O fun I h' eh eI It O' => ?_
    have Ilt : I < h'.objs.size := by rw [eh, eI, Heap.size_push]; exact Nat.lt_succ_self _
    refine hQ I h' s.drawn [I, a] _ _ (walks_int (prog := prog) (w := w) (A := B) hB (by rw [eI]; exact Nat.ne_of_lt alt) st) ⟨Nat.zero_le _, by rw [F0]; exact It, O'⟩ (fun b hb => ?_) (fun acc hacc => ?_) (fun b o e => by rw [eh]; exact Heap.get?_push_of_some _ e) (by rw [eI]; exact Nat.le_refl _)
    · simp only [List.mem_cons, List.not_mem_nil, or_false] at hb
      rcases hb with rfl | rfl
      · exact .inr ⟨by rw [eI]; exact Nat.le_refl _, Ilt⟩
      · exact .inl rfl
    · rw [items_eq hacc fun i v _ q => q]
      exact pm
  by_cases hd : (!w.params.followText "set-order" && (!t.plain && decide (es.size > 1))) = true
  · rw [if_pos hd]
    refine wpAny_bind (draw_perm es.size (List.range es.size) s _ (by simp) fun ord d hp => ?_)
    have ol : ord.length = es.size := by rw [hp.length_eq]; simp
    refine wpAny_bind (wpAny_newObj_type ?_ ?_)
    · refine body (.ref s.heap.objs.size) { s with heap := s.heap.push { cls := .type "tuple", data := .seq (ord.map fun i : Nat => rawInt i).toArray }, drawn := d } (O.keep fun o e => Heap.get?_push_of_some _ e) fun I h' eh eI It O' => ?_
      have eI' : I = s.heap.objs.size + 1 := by rw [eI]; exact Heap.size_push _ _
      have Ilt : h'.objs.size = s.heap.objs.size + 2 := by rw [eh, Heap.size_push, Heap.size_push]
      have P : PlacesAt h' s.heap.objs.size (ord.map fun i : Nat => rawInt i).toArray := ⟨_, _, by rw [eh]; exact Heap.get?_push_of_some _ (Heap.get?_push_size _ rfl), rfl⟩
      refine hQ I h' d [I, a, s.heap.objs.size] _ _ (walks_drawn (prog := prog) (w := w) (A := B) hB (by rw [eI']; exact Nat.ne_of_lt (Nat.lt_succ_of_lt alt)) (by rw [eI']; exact Nat.ne_of_lt (Nat.lt_succ_self _)) rfl ol fun i hi => by
        have := hp.mem_iff.mp hi
        simpa using this) ⟨Nat.zero_le _, ⟨It, O'⟩, P⟩ (fun b hb => ?_) (fun acc hacc => ?_) (fun b o e => by rw [eh]; exact Heap.get?_push_of_some _ (Heap.get?_push_of_some _ e)) (by rw [eI']; exact Nat.le_succ _)
      · simp only [List.mem_cons, List.not_mem_nil, or_false] at hb
        rcases hb with rfl | rfl | rfl
        · exact .inr ⟨by rw [eI']; exact Nat.le_succ _, by rw [Ilt, eI']; exact Nat.lt_succ_self _⟩
        · exact .inl rfl
        · exact .inr ⟨Nat.le_refl _, by rw [Ilt]; exact Nat.lt_succ_of_lt (Nat.lt_succ_self _)⟩
      · have e1 : acc.toList = (List.range es.size).map fun i => (es.getD (ord.getD i 0) (0, .none)).2 := items_eq hacc fun i v lt ⟨j, hj, k, hk⟩ => by
          have hlt : j < es.size := by
            have := hp.mem_iff.mp (List.mem_of_getElem? hj)
            simpa using this
          have hi : i < ord.length := by omega
          rw [List.getElem?_eq_getElem hi] at hj
          cases hj
          rw [Array.getElem?_eq_getElem hlt] at hk
          cases hq : es[ord[i]]
          rw [hq] at hk
          cases hk
          simp [Array.getD, hi, hlt, hq]
        rw [e1]
        have e2 : (List.range es.size).map (fun i => (es.getD (ord.getD i 0) (0, .none)).2) = ord.map fun j => (es.getD j (0, .none)).2 := by
          have := range_arr ord.toArray 0 fun j => (es.getD j (0, .none)).2
          simpa [ol] using this
        rw [e2, ← range_arr es (0, .none) (·.2)]
        exact hp.map _
    · show (ord.map fun i : Nat => rawInt i).toArray.size ≤ sizeLine
      simp [ol, hz]
  · rw [if_neg hd]
    refine wpAny_bind (wpAny_pure ?_)
    cases hb : w.params.followText "set-order" with
    | true =>
      refine pin (fun _ => 0) (fun i => ((pickOrder (w.params.setOrder a ep) es).getD i (0, .none)).2) rfl (fun i hi s O A' E' Q' q => next_text hb i hi s O A' E' Q' q) ?_
      have sz : (pickOrder (w.params.setOrder a ep) es).size = es.size := by
        have := (pick_perm (w.params.setOrder a ep) es).length_eq
        simpa using this
      rw [← sz, range_arr]
      exact (pick_perm _ _).map _
    | false =>
      have T' := T
      rw [hb] at T'
      rw [hb] at hd
      refine pin (slotAt t) (fun i => (es.getD i (0, .none)).2) rfl (fun i hi s O A' E' Q' q => next_plain hb T' hf (by simpa using hd) i hi s O A' E' Q' q) ?_
      rw [range_arr]
end
end SetL
end L2
namespace L2
open PySem PySem.Spec PyProof.Rows
namespace SetL
theorem len_set : typeLookup (.type "set") "__len__" = pure (some (.builtin "set.__len__")) := by rw [typeLookup_type, builtinLookup_eq_fast]; kernel_rfl
theorem wp_if {M : Model} {A : Around} {α : Type} {Q : α → Shared → Prop} {E : Value → Shared → Prop} {s : Shared} {c : Prop} [Decidable c] {x y : Sem α} (hc : c) (h : wpAny M A x Q E s) : wpAny M A (if c then x else y) Q E s := by rw [if_pos hc]; exact h
theorem wp_ifn {M : Model} {A : Around} {α : Type} {Q : α → Shared → Prop} {E : Value → Shared → Prop} {s : Shared} {c : Prop} [Decidable c] {x y : Sem α} (hc : ¬ c) (h : wpAny M A y Q E s) : wpAny M A (if c then x else y) Q E s := by rw [if_neg hc]; exact h
section
variable {prog : Program} {w : World} {A : Around} {E : Value → Shared → Prop} {s : Shared} {a : Addr} {es : Array (Int × Value)} {ep : Nat} {t : SetTable}
theorem hint_set {Q : Bool → Shared → Prop} (ty : s.TypeIs (.ref a) "set") (q : Q false s) : wpAny (model prog w) A (Builtin.List.listLengthHint (.ref a)) Q E s := by
  unfold Builtin.List.listLengthHint
  refine wpAny_bind (wpAny_specialOf ty len_set ?_)
  generalize hid : ("set.__len__" : String) = id0
  have h1 : splitId id0 = some ("set", "__len__") := by subst hid; decide +kernel
  dsimp only
  rw [h1]
  subst hid
  refine wpAny_bind (wpAny_isInstance (b := true) ty (by rw [isSubtype_type]; kernel_rfl) ?_)
  refine wp_ifn (by simp) (wp_if (by decide +kernel) (wpAny_bind (wpAny_typeOf ty ?_)))
  exact wpAny_pure q
theorem collect_set {Q : List Value → Shared → Prop} (hh : A.handled = none) (ty : s.TypeIs (.ref a) "set") (O : ObjAt s.heap a es ep t) (T : Tab (w.params.followText "set-order") t) (hz : es.size ≤ sizeLine)
    (hQ : ∀ vs h' d' tk, vs.Perm (es.toList.map (·.2)) → (∀ b o, s.heap.get? b = some o → h'.get? b = some o) → Q vs { s with heap := h', drawn := d', toks := tk }) : wpAny (model prog w) A (collect (.ref a)) Q E s := by
  have alt : a < s.heap.objs.size := Heap.lt_size O.choose_spec.1
  unfold collect
  refine wpAny_bind (wpAny_runValue (codeAny_builtin PySem.F.entry_proto_collect ?_))
  rw [Around.under_plainId PySem.F.plain_proto_collect _]
  show wpAny _ A.in1 (newList [] >>= fun l => again (.builtin "list.__iadd__" ⟨[l, .ref a], []⟩)) _ _ s
  refine wpAny_bind (wpAny_newObj_type ?_)
  refine wpAny_pure ⟨plainId_quiet PySem.F.plain_list_iadd _, codeAny_builtin PySem.F.entry_list_iadd ?_⟩
  rw [Around.under_plainId PySem.F.plain_list_iadd _]
  show wpAny _ A.in1 (Builtin.List.listExtendWith (.ref s.heap.objs.size) (.ref a) (.ref s.heap.objs.size)) _ _ _
  have ne : Builtin.List.listSameRef (.ref s.heap.objs.size) (.ref a) = false := by
    have : s.heap.objs.size ≠ a := Nat.ne_of_gt alt
    simp [Builtin.List.listSameRef, this]
  obtain ⟨oa, hoa, hca⟩ := id ty
  have ty1 : ({ s with heap := s.heap.push { cls := .type "list", data := .seq ([] : List Value).toArray } } : Shared).TypeIs (.ref a) "set" := ⟨oa, Heap.get?_push_of_some _ hoa, hca⟩
  unfold Builtin.List.listExtendWith
  refine wpAny_bind (wpAny_typeOf ty1 ?_)
  rw [if_neg (by rw [ne]; decide)]
  refine wpAny_bind (iter_set (B := A.in1) (by simp [hh]) ty1 (O.keep fun o e => Heap.get?_push_of_some _ e) T hz fun I h' d' fp P St W st0 hfp pm kp hI => ?_)
  have S1 : h'.get? s.heap.objs.size = some { cls := .type "list", data := .seq ([] : List Value).toArray } := kp _ _ (Heap.get?_push_size _ rfl)
  refine wpAny_bind (wpAny_holding (hint_set ⟨oa, kp _ _ (Heap.get?_push_of_some _ hoa), hca⟩ ?_))
  refine wp_if (by decide +kernel) (wpAny_bind (wpAny_rule (wpAny_bind ?_)))
  unfold Builtin.List.listTouch
  have g1 : (h'.update s.heap.objs.size (Obj.mapSeq (·.push Value.none))).get? s.heap.objs.size = some { cls := .type "list", data := .seq #[.none] 1 } := Heap.get?_update_self _ S1 rfl
  have g2 : ((h'.update s.heap.objs.size (Obj.mapSeq (·.push Value.none))).update s.heap.objs.size (Obj.mapSeq (·.pop))).get? s.heap.objs.size = some { cls := .type "list", data := .seq #[] 2 } := Heap.get?_update_self _ g1 rfl
  refine wpAny_bind (listUpdate_at S1 rfl (listUpdate_at g1 rfl ?_ (by decide) (by decide)) (by decide) (by decide))
  have Sf : s.heap.objs.size ∉ fp := fun z => by
    rcases hfp _ z with e | ⟨e, _⟩
    · exact absurd alt (by rw [← e]; exact Nat.lt_irrefl _)
    · rw [Heap.size_push] at e
      exact Nat.not_succ_le_self _ e
  have st1 : St 0 ((h'.update s.heap.objs.size (Obj.mapSeq (·.push Value.none))).update s.heap.objs.size (Obj.mapSeq (·.pop))) := W.frame 0 h' _ st0 fun b hb o e => by
    have nb : b ≠ s.heap.objs.size := fun z => Sf (z ▸ hb)
    exact (Heap.get?_update_ne _ _ _ _ nb).trans ((Heap.get?_update_ne _ _ _ _ nb).trans e)
  refine wpAny_pure ⟨plainId_quiet PySem.F.plain_extend_loop _, codeAny_extend_loopS W.toS hz _ Sf _ es.size 0 _ #[] 2 rfl (Nat.zero_le _) st1 g2 (ItemsOf.nil P) fun s' acc c mv S' hacc => ?_⟩
  show wpAny _ A (load s.heap.objs.size >>= _) _ _ s'
  refine wpAny_bind (wpAny_load S' (wpAny_pure ?_))
  obtain ⟨h2, g', d2, tk', os'⟩ := s'
  obtain rfl : g' = s.gens := mv.gens
  obtain rfl : os' = s.os := mv.os
  refine hQ acc.toList h2 d2 tk' (pm acc hacc) fun b o e => mv.heap b o ?_ ?_
  · intro z
    have lt := Heap.lt_size e
    rcases List.mem_cons.mp z with z | z
    · exact absurd lt (by rw [z]; exact Nat.lt_irrefl _)
    · have z' : b = I := by simpa using z
      rw [z'] at lt
      have : s.heap.objs.size + 1 ≤ I := by rw [← Heap.size_push]; exact hI
      exact absurd (Nat.lt_of_lt_of_le lt (Nat.le_trans (Nat.le_succ _) this)) (Nat.lt_irrefl _)
  · have nb : b ≠ s.heap.objs.size := Nat.ne_of_lt (Heap.lt_size e)
    exact (Heap.get?_update_ne _ _ _ _ nb).trans ((Heap.get?_update_ne _ _ _ _ nb).trans (kp b o (Heap.get?_push_of_some _ e)))
end
end SetL
end L2
namespace L2
open PySem PySem.Spec PyProof.Rows
namespace SetL
theorem ints_of : ∀ {vs : List Value}, (∀ v ∈ vs, ∃ m t, v = .int m t) → IntsAre vs (vs.map intOf)
  | [], _ => .nil
  | v :: vs, h => by
    obtain ⟨m, t, rfl⟩ := h v (List.mem_cons_self)
    exact .cons m t (ints_of fun v hv => h v (List.mem_cons_of_mem _ hv))
section
variable {prog : Program} {w : World} {A : Around} {E : Value → Shared → Prop} {s : Shared} {a : Addr} {ms : List Int}
theorem sorted_set {Q : Value → Shared → Prop} (hh : A.handled = none) (S : SetI prog w s.heap a ms) (h64 : ms.length < 64)
    (h : ∀ h' d' tk (out : Array Value) ns' p n, IntsAre out.toList ns' → ns'.Perm ms → ns'.Pairwise (· ≤ ·) → (∀ b o, s.heap.get? b = some o → h'.get? b = some o) → s.heap.get? p = none → h'.get? p = some (seqObj "list" out n) → Q (.ref p) { s with heap := h', drawn := d', toks := tk }) :
    wpAny (model prog w) A (call (.builtin "sorted") [.ref a]) Q E s := by
  obtain ⟨⟨o, es, ep, t, ⟨ho, hex, hd⟩, ⟨hel, hb, hf⟩, T, rfl⟩, nd⟩ := S
  have lz : es.size < 64 := by simpa using h64
  refine Calls.call_function_entry kind_sorted plain_sorted entry_sorted (args_sorted1 _) ?_
  unfold Builtin.«sorted»
  refine wpAny_bind (m := checkCount "sorted" 1 1 _) (wpAny_pure ?_)
  refine wpAny_bind (collect_set (by simp [hh]) ⟨o, ho, hex.1⟩ ⟨o, ho, hd, hf⟩ T (by rw [sizeLine_eq]; omega) fun vs h1 d1 tk1 pm kp => ?_)
  have vi : IntsAre vs (vs.map intOf) := ints_of fun v hv => by
    obtain ⟨e, he, rfl⟩ := List.mem_map.mp (pm.mem_iff.mp hv)
    obtain ⟨⟨k, hk, _⟩, _⟩ := hel e he
    obtain ⟨t, e2⟩ := Value.isInt_shape (show Value.isInt k e.2 = true from hk)
    exact ⟨k, t, e2⟩
  have vp : (vs.map intOf).Perm (es.toList.map fun e => intOf e.2) := by
    have := pm.map intOf
    rwa [List.map_map] at this
  have vl : vs.length < 64 := by rw [pm.length_eq]; simpa using lz
  have sl : vs.length ≤ sizeLine := by rw [sizeLine_eq]; omega
  refine wpAny_bind (wpAny_newList ?_ (by first | exact sl | simpa using sl))
  have g0 : (h1.push (seqObj "list" vs.toArray 0)).get? h1.objs.size = some (seqObj "list" vs.toArray 0) := Heap.get?_push_size _ rfl
  have ol : s.heap.get? h1.objs.size = none := by
    cases q : s.heap.get? h1.objs.size with
    | none => rfl
    | some u => exact absurd (Heap.lt_size (kp _ _ q)) (Nat.lt_irrefl _)
  show wpAny _ _ _ _ _ { s with heap := h1.push (seqObj "list" vs.toArray 0), drawn := d1, toks := tk1 }
  refine wpAny_bind (wpAny_holding (wpAny_call_entry slot_list_sort ⟨_, g0, rfl⟩ entry_list_sort (list_sort_tree g0 vi vl fun out ns' a1 a2 a3 => ⟨_, rfl, ?_⟩) (args_list_sort _)))
  obtain ⟨n, g1⟩ := sortedHeap_at (out := out) g0
  refine wpAny_pure ⟨_, rfl, h _ _ _ out ns' h1.objs.size n a1 (a2.trans vp) a3 (fun b u e => ?_) ol g1⟩
  have e1 := kp b u e
  have lt := Heap.lt_size e1
  rw [sortedHeap_old (Nat.ne_of_lt lt) (by rw [size_push']; exact Nat.lt_succ_of_lt lt)]
  exact Heap.get?_push_of_some _ e1
end
end SetL
end L2
namespace L2
open PySem PySem.Spec PyProof.Rows
/-- a set of just the whole numbers ms -/
def SetO (P : Program) (w : World) (a : Addr) (ms : List Int) : HO := .ext fun h => SetL.SetI P w h a ms
theorem SetL.SetI.obj {P : Program} {w : World} {h : Heap} {a : Addr} {ms : List Int} (S : SetL.SetI P w h a ms) : ∃ o, h.get? a = some o := let ⟨⟨o, _, _, _, ⟨e, _⟩, _⟩, _⟩ := S; ⟨o, e⟩
section
variable {X : Cx} {pins : List (Addr × Obj)} {σ : St} {H : Hp} {s : Shared}
theorem Inv.drew (I : Inv X pins σ H s) (d : Drawn) : Inv X pins σ H { s with drawn := d } := ⟨I.ok, I.os, I.bare, I.base, I.loc, I.cell, I.free, I.freeC, I.pin, I.hok, I.len⟩
/-- set(xs), xs a list of whole numbers -/
theorem call_setI (hc : X.calm = true) : CallR X (.type "set") (fun xs H Q => ∃ (l : Addr) (ns : List Int), xs = [.ref l] ∧ SqL X.K H l (ns.map V.int) ∧ ns.length < 4000 ∧
    ∀ (p : Addr) (H' : Hp) (ms : List Int), H p = none → Same H H' → H' p = some (SetO X.prog X.w p ms) → ms.Nodup → (∀ m, m ∈ ms ↔ m ∈ ns) → ms.length ≤ ns.length → Q (.ref p) H') := by
  intro pins s σ H xs us Q I r h
  obtain ⟨l, ns, rfl, hq, hl, q⟩ := h
  obtain ⟨u, rfl, rx⟩ := vals1 r
  cases rx
  obtain ⟨its, rv, pl, hz⟩ := I.list hq
  have len : its.length = ns.length := by rw [← rv.length, List.length_map]
  refine SetL.set_of_list (I.ok.hd hc) pl.isList (by simpa using intsAre_vals rv) (by show its.toArray.size + 1 < 4096; simp; omega) fun h' tk ms S mm lm kp => ?_
  have k : ∀ b o, s.heap.get? b = some o → h'.get? b = some o := fun b o e => kp b o (Heap.lt_size e) e
  refine ⟨.ref s.heap.objs.size, _, I.laid (o := SetO X.prog X.w s.heap.objs.size ms) k (Nat.le_refl _) ⟨S, S.obj, fun h1 h2 p e => p.keep e⟩, rfl, q _ _ ms (I.hok.fresh (Nat.le_refl _)) (same_new (I.hok.fresh (Nat.le_refl _)) _) upd_same S.nd mm lm⟩
/-- sorted(a set of whole numbers) -/
theorem call_sortedS (hc : X.calm = true) (hex : X.ex = [] := by rfl) : CallR X (.builtin "sorted") (fun xs H Q => ∃ (p : Addr) (ms : List Int), xs = [.ref p] ∧ H p = some (SetO X.prog X.w p ms) ∧ ms.length < 64 ∧
    ∀ (l : Addr) (H' : Hp) (ns : List Int), H l = none → Same H H' → H' l = some (.lst (ns.map V.int)) → ns.Perm ms → ns.Pairwise (· ≤ ·) → Q (.ref l) H') := by
  intro pins s σ H xs us Q I r h
  obtain ⟨p, ms, rfl, hp, hl, q⟩ := h
  obtain ⟨u, rfl, rx⟩ := vals1 r
  cases rx
  refine SetL.sorted_set (I.ok.hd hc) (I.hok p _ hp).1 hl fun h' d' tk out ns l n a1 a2 a3 kp new at_ => ?_
  have vl : Vals (ns.map V.int) out.toList := vals_ints a1
  have nl : (ns.map V.int).length ≤ sizeLine := by rw [List.length_map, a2.length_eq, sizeLine_eq]; omega
  have I1 : Inv X pins σ (upd H l (.lst (ns.map V.int))) { s with heap := h', toks := tk } := I.trackNew kp new hex ⟨nl, out.toList, n, vl, by simpa [seqObj] using at_⟩
  exact ⟨.ref l, _, I1.drew d', rfl, q l _ ns (I.hok.gone new) (same_new (I.hok.gone new) _) upd_same a2 a3⟩
/-- sorted(xs), xs a list of whole numbers -/
theorem call_sortedL (hex : X.ex = [] := by rfl) : CallR X (.builtin "sorted") (fun xs H Q => ∃ (p : Addr) (ms : List Int), xs = [.ref p] ∧ SqL X.K H p (ms.map V.int) ∧ ms.length < 64 ∧
    ∀ (l : Addr) (H' : Hp) (ns : List Int), H l = none → Same H H' → H' l = some (.lst (ns.map V.int)) → ns.Perm ms → ns.Pairwise (· ≤ ·) → Q (.ref l) H') := by
  intro pins s σ H xs us Q I r h
  obtain ⟨p, ms, rfl, hp, hl, q⟩ := h
  obtain ⟨u, rfl, rx⟩ := vals1 r
  cases rx
  obtain ⟨its, rv, pl, hz⟩ := I.list hp
  have len : its.length = ms.length := by rw [← rv.length, List.length_map]
  refine sorted_ints pl.isList (intsAre_vals rv) (by omega) fun out ns a1 a2 a3 => ?_
  obtain ⟨n, at_⟩ := sortedAll_at s.heap its out
  have vl : Vals (ns.map V.int) out.toList := vals_ints a1
  have nl : (ns.map V.int).length ≤ sizeLine := by rw [List.length_map, a2.length_eq, sizeLine_eq]; omega
  have new : s.heap.get? (s.heap.objs.size + 1) = none := Heap.get?_none_of_le (Nat.le_succ _)
  have I1 : Inv X pins σ (upd H (s.heap.objs.size + 1) (.lst (ns.map V.int))) { s with heap := sortedAll s.heap its out, toks := s.toks } :=
    I.trackNew (fun b o e => sortedAll_old e) new hex ⟨nl, out.toList, n, vl, by simpa [seqObj] using at_⟩
  exact ⟨.ref (s.heap.objs.size + 1), _, I1, rfl, q _ _ ns (I.hok.gone new) (same_new (I.hok.gone new) _) upd_same a2 a3⟩
end
/-- sorted, without twice -/
theorem sorted_lt {ns ms : List Int} (p : ns.Perm ms) (nd : ms.Nodup) (o : ns.Pairwise (· ≤ ·)) : ns.Pairwise (· < ·) := by
  have n := p.nodup_iff.mpr nd
  refine (o.and n).imp fun {a b} h => ?_
  have := h.1
  have := h.2
  omega
end L2
namespace L2
open PySem PySem.Spec PyProof.Rows
/-! ### for a, b in zip(xs, ys): two lists -/
section
variable {X : Cx} {pins : List (Addr × Obj)} {σ : St} {H : Hp} {s : Shared} {h' : Heap}
/-- untracked records of ours have turned -/
theorem Inv.turns {t' : Nat} {ch : List Addr} (I : Inv X pins σ H s) (k : ∀ b o, b ∉ ch → s.heap.get? b = some o → h'.get? b = some o) (hf : ∀ b ∈ ch, FpOk X pins H b) : Inv X pins σ H { s with heap := h', toks := t' } := by
  have nit : ∀ b u, H b = some u → b ∉ ch := fun b u e z => by rw [(hf b z).1] at e; cases e
  have nL : X.env.locals ∉ ch := fun z => (hf _ z).2.1 rfl
  refine I.step (g' := s.gens) (d' := s.drawn) (ch := ch) (fun b hb => ⟨(hf b hb).2.2.2.1, (hf b hb).2.1, (hf b hb).2.2.2.2.1, (hf b hb).2.2.2.2.2⟩) (fun b o _ _ hc e _ => k b o hc e) (fun b o _ _ hc e _ => ⟨o.slots, k b o hc e⟩) (fun _ _ _ _ n => n)
    (fun b o hc e => ⟨o, k b o hc e⟩) (fun _ _ e => e) (fun _ _ _ e => e) (fun b ps e => ⟨#[], by rw [e]; simp⟩) (fun m hm => ?_) (fun b u e => ?_) I.bare
  · obtain ⟨o, es, ep, ho, r⟩ := hm
    exact ⟨o, es, ep, k _ o nL ho, r⟩
  · refine (I.hok b u e).stay (fun c v hc q => k c v ?_ q) (fun _ q => q) fun _ _ q => q
    rcases hc with z | z
    · rw [z]; exact nit b u e
    · exact nit c _ z
end
def Itz (K : PySem.W.Frag) (a b : Addr) : It :=
  ⟨fun i H => ∃ xs ys x y, SqL K H a xs ∧ SqL K H b ys ∧ xs[i]? = some x ∧ ys[i]? = some y,
    fun i H v H' => ∃ p, v = .ref p ∧ H p = none ∧ ∀ xs ys x y, SqL K H a xs → SqL K H b ys → xs[i]? = some x → ys[i]? = some y → H' = upd H p (.tup [x, y]),
    fun i H => ∃ xs ys, SqL K H a xs ∧ SqL K H b ys ∧ (xs.length ≤ i ∨ ys.length ≤ i)⟩
/-- the zip at z, at turn i -/
def ZipT (z ti to i1 i2 l1 l2 : Addr) (i : Nat) (h : Heap) : Prop := ((IsZip h z ti to .none ∧ IsPair h ti (.ref i1) (.ref i2)) ∧ ∃ a b, IsPair h to a b) ∧ h.IsListIter i1 l1 i ∧ h.IsListIter i2 l2 i
theorem turn_zip {P : Program} {w : World} {K : PySem.W.Frag} {elts : List Expr} {kk : Nat} {tpos : Pos} {z ti to i1 i2 a b : Addr} (D : ZipApart z ti to i1 i2 a b) (nn : to ≠ z) :
    Turn P w K (.Tuple elts kk tpos) (Itz K a b) [z, ti, to, i1, i2] z (ZipT z ti to i1 i2 a b) where
  mem := by simp
  obj := fun i h st c hc => by
    obtain ⟨⟨⟨hz, hti⟩, _, _, hto⟩, ⟨o1, g1, _, d1⟩, ⟨o2, g2, _, d2⟩⟩ := st
    simp only [List.mem_cons, List.not_mem_nil, or_false] at hc
    rcases hc with rfl | rfl | rfl | rfl | rfl
    · exact ⟨_, hz, fun v q => by cases q⟩
    · exact ⟨_, hti, fun v q => by cases q⟩
    · exact ⟨_, hto, fun v q => by cases q⟩
    · exact ⟨_, g1, fun v q => by rw [d1] at q; cases q⟩
    · exact ⟨_, g2, fun v q => by rw [d2] at q; cases q⟩
  keep := fun i h h' st k => by
    obtain ⟨⟨⟨hz, hti⟩, u, v, hto⟩, g1, g2⟩ := st
    exact ⟨⟨⟨k z (by simp) _ hz, k ti (by simp) _ hti⟩, u, v, k to (by simp) _ hto⟩, g1.at fun o e => k i1 (by simp) o e, g2.at fun o e => k i2 (by simp) o e⟩
  item := by
    intro X hP hw hK hc i pins s σ H E I hf st hg
    subst hP hw hK
    obtain ⟨xs, ys, x, y, qx, qy, ex, ey⟩ := hg
    obtain ⟨⟨⟨hz, hti⟩, u0, v0, hto⟩, g1, g2⟩ := st
    obtain ⟨its, rv, p, _⟩ := I.list qx
    obtain ⟨jts, rw_, q, _⟩ := I.list qy
    obtain ⟨u, hu, ru⟩ := rv.get ex
    obtain ⟨v, hv, rvv⟩ := rw_.get ey
    refine wpAny_pyNext_zip_item D hz hti hto g1 g2 p.isList q.isList (x := u) (y := v) (by simpa using hu) (by simpa using hv) fun h1 z1 t1 a1 a2 n1 sz1 kp1 => ⟨_, rfl, ?_⟩
    refine wpAny_letOwnedTupleGo_zip (s := { s with heap := h1 }) z1 fun h2 z2 sb => ?_
    have fr : s.heap.get? s.heap.objs.size = none := Heap.get?_none_of_le (Nat.le_refl _)
    have zlt : z < s.heap.objs.size := Heap.lt_size hz
    have nz : s.heap.objs.size ≠ z := Nat.ne_of_gt zlt
    have kp : ∀ c o, c ∉ [z, ti, to, i1, i2] → s.heap.get? c = some o → h2.get? c = some o := fun c o nc e => by
      simp only [List.mem_cons, List.not_mem_nil, or_false, not_or] at nc
      exact (sb.2 c nc.1).trans (kp1 c o nc.1 nc.2.2.1 nc.2.2.2.1 nc.2.2.2.2 e)
    have I1 : Inv X pins σ H { s with heap := h2, toks := s.toks } := I.turns kp hf
    have f := I.fpOk (H' := H) (b := s.heap.objs.size) (Nat.le_refl _) (I.hok.fresh (Nat.le_refl _))
    have np : IsPair h2 s.heap.objs.size u v := (sb.2 _ nz).trans n1
    have I2 : Inv X pins σ (upd H s.heap.objs.size (.tup [x, y])) { s with heap := h2, toks := s.toks } :=
      I1.track (o := .tup [x, y]) f.1 (Heap.get?_none_of_le I.sz) f.2.1 f.2.2.2.2.1 f.2.2.2.2.2 ⟨by show 2 ≤ sizeLine; rw [sizeLine_eq]; omega, [u, v], .cons ru (.cons rvv .nil), ⟨_, np, rfl, 0, rfl⟩⟩
    refine ⟨.ref s.heap.objs.size, _, I2, rfl, ⟨_, rfl, f.1, fun xs' ys' x' y' qx' qy' ex' ey' => ?_⟩, ⟨⟨⟨z2, ?_⟩, u, v, (sb.2 to nn).trans t1⟩, a1.at fun o e => (sb.2 i1 D.i1z).trans e, a2.at fun o e => (sb.2 i2 D.i2z).trans e⟩, fun c hc' => ?_⟩
    · obtain rfl := I.list_inj qx' qx
      obtain rfl := I.list_inj qy' qy
      rw [ex] at ex'
      rw [ey] at ey'
      cases ex'
      cases ey'
      rfl
    · exact (sb.2 ti D.TIz).trans (kp1 ti _ D.TIz D.TITO D.TIi1 D.TIi2 hti)
    · have nc : c ≠ s.heap.objs.size := fun e => by
        have lt : c < s.heap.objs.size := by
          obtain ⟨o1, gg1, _⟩ := g1
          obtain ⟨o2, gg2, _⟩ := g2
          simp only [List.mem_cons, List.not_mem_nil, or_false] at hc'
          rcases hc' with rfl | rfl | rfl | rfl | rfl
          · exact zlt
          · exact Heap.lt_size hti
          · exact Heap.lt_size hto
          · exact Heap.lt_size gg1
          · exact Heap.lt_size gg2
        rw [e] at lt
        exact Nat.lt_irrefl _ lt
      rw [upd_ne nc]
      exact (hf c hc').1
  done := by
    intro X hP hw hK hc i pins s σ H E I hf st hg
    subst hP hw hK
    obtain ⟨xs, ys, qx, qy, en⟩ := hg
    obtain ⟨⟨⟨hz, hti⟩, u0, v0, hto⟩, g1, g2⟩ := st
    obtain ⟨its, rv, p, _⟩ := I.list qx
    obtain ⟨jts, rw_, q, _⟩ := I.list qy
    have l1 := rv.length
    have l2 := rw_.length
    refine wpAny_pyNext_zip_end (I.ok.hd hc) D hz hti hto g1 g2 p.isList q.isList (en.imp (fun e => by simp; omega) fun e => by simp; omega) fun h1 kp1 => ⟨rfl, I.turns (t' := s.toks) (fun c o nc e => ?_) hf⟩
    simp only [List.mem_cons, List.not_mem_nil, or_false, not_or] at nc
    exact kp1 c o nc.1 nc.2.2.1 nc.2.2.2.1 nc.2.2.2.2 e
  self := fun _ _ _ _ _ st h => wpAny_pyIter_zip st.1.1.1 h
def iZip (K : PySem.W.Frag) (ta : TA) : TI := fun σ H R => ta σ H fun vs H1 => ∃ a b, vs = [.ref a, .ref b] ∧ (∃ xs, SqL K H1 a xs) ∧ (∃ ys, SqL K H1 b ys) ∧ R (Itz K a b) H1
theorem pi_zip {X : Cx} {elts : List Expr} {kk : Nat} {tpos : Pos} {e1 e2 : Expr} {ta : TA} {p pos : Pos} (hg : Gl X "zip") (hm : X.mg "zip" = none) (ha : PA X [e1, e2] ta) (hs : starEach [e1, e2] X.env = [(false, eval e1 X.env), (false, eval e2 X.env)] := by rfl) (hs2 : starEach [e2] X.env = [(false, eval e2 X.env)] := by rfl) :
    PI X (.Tuple elts kk tpos) (.Call (.Name "zip" p) [e1, e2] [] pos) (iZip X.K ta) := by
  intro pins s σ H R I h
  refine Call_ (ld_blt I hg hm boot_zip (PyProof.Rows.callWith_type1 (thn (ha pos pins s σ H _ I h) fun us s1 ⟨vs, H1, I1, r1, q1⟩ => ?_) (by rw [hs, hs2]) (by rw [hs2]; rfl)))
  obtain ⟨a, b, e, ⟨xs, qx⟩, ⟨ys, qy⟩, q⟩ := q1
  subst e
  obtain ⟨u, v, rfl, ru, rv⟩ := vals2 r1
  cases ru
  cases rv
  obtain ⟨its, _, pa, _⟩ := I1.list qx
  obtain ⟨jts, _, pb, _⟩ := I1.list qy
  have la : a < s1.heap.objs.size := by obtain ⟨_, e, _⟩ := pa.isList; exact Heap.lt_size e
  have lb : b < s1.heap.objs.size := by obtain ⟨_, e, _⟩ := pb.isList; exact Heap.lt_size e
  refine call_zip_2 pa.isList pb.isList fun h' hz hti hto g1 g2 sz kp => wpAny_pyIter_zip (s := { s1 with heap := h' }) hz ?_
  refine ⟨_, _, _, _, H1, rfl, I1.kept (t' := s1.toks) kp, turn_zip (zipApart_new la lb) (zipApart_new la lb).TOz, ⟨⟨⟨hz, hti⟩, _, _, hto⟩, g1, g2⟩, fun c hc => ?_, q⟩
  refine I1.fpOk ?_ (I1.hok.fresh ?_) <;>
  · simp only [List.mem_cons, List.not_mem_nil, or_false] at hc
    rcases hc with rfl | rfl | rfl | rfl | rfl <;> first | exact Nat.le_refl _ | exact Nat.le_add_right _ _
/-- over two lists that the body leaves as they are; each turn brings a new pair -/
theorem for_zip {K : PySem.W.Frag} {a b : Addr} {xs ys : List V} {g : TG} {tb : TS} {D : Ends} {σ : St} {H : Hp} (Pv : Nat → St → Hp → Prop) (h0 : Pv 0 σ H) (hl : ∀ i σ H, i ≤ xs.length → i ≤ ys.length → Pv i σ H → SqL K H a xs ∧ SqL K H b ys)
    (hs : ∀ i x y σ H p, xs[i]? = some x → ys[i]? = some y → Pv i σ H → H p = none → g (.ref p) σ (upd H p (.tup [x, y])) fun σ2 H2 => tb { D with nx := Pv (i + 1), ct := Pv (i + 1), bk := D.nx } σ2 H2)
    (hd : ∀ i σ H, i ≤ xs.length → i ≤ ys.length → (i = xs.length ∨ i = ys.length) → Pv i σ H → D.nx σ H) :
    ∃ W : Nat → Nat → St → Hp → Prop, (∃ m, W 0 m σ H) ∧ ∀ i m σ H, W i m σ H →
      ((Itz K a b).stop i H ∧ D.nx σ H) ∨ ((Itz K a b).go i H ∧ ∃ N : St → Hp → Prop, (∀ σ' H', N σ' H' → ∃ m', m' < m ∧ W (i + 1) m' σ' H') ∧ ∀ x H', (Itz K a b).yld i H x H' → g x σ H' fun σ2 H2 => tb { D with nx := N, ct := N, bk := D.nx } σ2 H2) := by
  refine ⟨fun i m σ H => m = xs.length - i ∧ (i ≤ xs.length ∧ i ≤ ys.length) ∧ Pv i σ H, ⟨xs.length, by simp, ⟨Nat.zero_le _, Nat.zero_le _⟩, h0⟩, ?_⟩
  rintro i m σ H ⟨rfl, ⟨hi, hj⟩, p⟩
  obtain ⟨qx, qy⟩ := hl i σ H hi hj p
  by_cases hlt : i < xs.length ∧ i < ys.length
  · have ex : xs[i]? = some xs[i] := List.getElem?_eq_getElem hlt.1
    have ey : ys[i]? = some ys[i] := List.getElem?_eq_getElem hlt.2
    refine .inr ⟨⟨xs, ys, _, _, qx, qy, ex, ey⟩, Pv (i + 1), fun σ' H' p' => ⟨xs.length - (i + 1), by omega, rfl, ⟨hlt.1, hlt.2⟩, p'⟩, fun v H' y => ?_⟩
    obtain ⟨q, rfl, hn, y⟩ := y
    rw [y xs ys _ _ qx qy ex ey]
    exact hs i _ _ σ H q ex ey p hn
  · exact .inl ⟨⟨xs, ys, qx, qy, by omega⟩, hd i σ H hi hj (by omega) p⟩
end L2
namespace L2
open PySem PySem.Spec PyProof.Rows
/-- a comprehension over a list that stays -/
theorem comp_list {K : PySem.W.Frag} {ix : List Nat} {te : TE} {σ : St} {a l : Addr} {xs : List V} {H : Hp} {R : Hp → Prop} (P : Nat → V → Prop) (ha : SqL K H a xs) (hl : H l = none) (hz : xs.length ≤ sizeLine)
    (hel : ∀ i x H' Q', xs[i]? = some x → Same H H' → (∀ v, P i v → Q' v H') → te (some x :: capts σ ix) H' Q') (fin : ∀ ys : List V, ys.length = xs.length → (∀ j v, ys[j]? = some v → P j v) → R (upd H l (.lst ys))) :
    ∃ W : Nat → Nat → List V → Hp → Prop, (∃ m, W 0 m [] (upd H l (.lst []))) ∧ Turns ix te σ (Itl K a) l R W := by
  refine ⟨fun i m ys H' => m = xs.length - i ∧ i ≤ xs.length ∧ ys.length = i ∧ (∀ j v, ys[j]? = some v → P j v) ∧ H' = upd H l (.lst ys), ⟨xs.length, by simp, Nat.zero_le _, rfl, (fun j v e => by simp at e), rfl⟩, ?_⟩
  rintro i m ys H' ⟨rfl, hi, hx, hp, rfl⟩
  have hT : SqL K (upd H l (.lst ys)) a xs := (same_new hl _).seq ha
  refine ⟨upd_same, ?_⟩
  by_cases hlt : i < xs.length
  · have ex : xs[i]? = some xs[i] := List.getElem?_eq_getElem hlt
    refine .inr ⟨⟨xs, _, hT, ex⟩, by omega, fun x H2 y => ?_⟩
    obtain ⟨e, y⟩ := y
    subst e
    have e2 := y xs hT
    refine hel i x _ _ e2 (same_new hl _) fun v hv => ⟨upd_same, xs.length - (i + 1), by omega, rfl, hlt, by rw [List.length_append, hx]; rfl, fun j w e => ?_, by rw [upd_upd]⟩
    by_cases hj : j < ys.length
    · rw [List.getElem?_append_left hj] at e
      exact hp j w e
    · by_cases hj2 : j = ys.length
      · subst hj2
        rw [List.getElem?_append_right (Nat.le_refl _), Nat.sub_self] at e
        cases e
        rw [hx]
        exact hv
      · rw [List.getElem?_eq_none (by rw [List.length_append, List.length_singleton]; omega)] at e
        cases e
  · exact .inl ⟨⟨xs, hT, by omega⟩, fin ys (by omega) hp⟩
/-! ### within a comprehension's block: the written part is named -/
theorem ix_tupK {X : Cx} (K : PySem.W.Frag) (h : X.K = K := by rfl) : IxR X (rIxT K) := by subst h; exact ix_tup
/-! ### lists of tuples of two whole numbers each (tables, spans) -/
inductive Rows2 (K : PySem.W.Frag) (H : Hp) : List V → List (Int × Int) → Prop
  | nil : Rows2 K H [] []
  | cons {p : Addr} {s : Int × Int} {xs : List V} {l : List (Int × Int)} : H p = some (.tup [.int s.1, .int s.2]) → Rows2 K H xs l → Rows2 K H (.ref p :: xs) (s :: l)
section
variable {K : PySem.W.Frag} {H H' : Hp} {xs ys zs : List V} {l : List (Int × Int)} {p : Addr} {s : Int × Int}
theorem Rows2.get (r : Rows2 K H xs l) : ∀ {i : Nat} {x : V}, xs[i]? = some x → ∃ p s, x = .ref p ∧ l[i]? = some s ∧ H p = some (.tup [.int s.1, .int s.2]) := by
  induction r with
  | nil => intro i x e; simp at e
  | cons h _ ih =>
    intro i x e
    cases i with
    | zero => cases e; exact ⟨_, _, rfl, rfl, h⟩
    | succ i => exact ih e
theorem Rows2.length (r : Rows2 K H xs l) : xs.length = l.length := by
  induction r with
  | nil => rfl
  | cons _ _ ih => simp [ih]
theorem Rows2.same (r : Rows2 K H xs l) (s : Same H H') : Rows2 K H' xs l := by
  induction r with
  | nil => exact .nil
  | cons h _ ih => exact .cons (s _ _ h) ih
theorem Rows2.put (r : Rows2 K H xs l) (hp : H p = some (.lst ys)) : Rows2 K (upd H p (.lst zs)) xs l := by
  induction r with
  | nil => exact .nil
  | cons h _ ih => exact .cons (by rw [upd_ne (ne_of h hp (by intro z; cases z))]; exact h) ih
theorem Rows2.push (r : Rows2 K H xs l) (h : H p = some (.tup [.int s.1, .int s.2])) : Rows2 K H (xs ++ [.ref p]) (l ++ [s]) := by
  induction r with
  | nil => exact .cons h .nil
  | cons h' _ ih => exact .cons h' ih
def rowD (s : Int × Int) : PyData := .tuple [.int s.1, .int s.2]
theorem Rows2.rd (r : Rows2 K H xs l) : RdVs K H xs (l.map rowD) := by
  induction r with
  | nil => exact .nil
  | cons h _ ih => exact .cons (.tup (SqT.of h) (.cons (.int _) (.cons (.int _) .nil))) ih
end
theorem ints_by {ys : List V} {ns : List Int} (h : ys.length = ns.length) (p : ∀ j v, ys[j]? = some v → v = V.int (ns.getD j 0)) : ys = ns.map V.int := by
  apply List.ext_getElem?
  intro j
  rw [List.getElem?_map]
  by_cases hj : j < ys.length
  · have e := List.getElem?_eq_getElem (l := ys) hj
    rw [e, p j _ e, List.getElem?_eq_getElem (by omega : j < ns.length)]
    simp [show j < ns.length by omega]
  · rw [List.getElem?_eq_none (by omega), List.getElem?_eq_none (by omega)]
    rfl
end L2
namespace L2
open PySem PySem.Spec PyProof.Rows
/-! ### comprehensions, whatever is walked -/
/-- what is walked has just these items, however the heap grows -/
structure WalkOf (J : It) (H : Hp) (xs : List V) : Prop where
  go : ∀ i H', Same H H' → i < xs.length → J.go i H'
  yld : ∀ i H' x H2, Same H H' → J.yld i H' x H2 → H2 = H' ∧ xs[i]? = some x
  stop : ∀ i H', Same H H' → xs.length ≤ i → J.stop i H'
theorem walk_list {K : PySem.W.Frag} {H : Hp} {a : Addr} {xs : List V} (h : SqL K H a xs) : WalkOf (Itl K a) H xs :=
  ⟨fun i H' s hi => ⟨xs, _, s.seq h, List.getElem?_eq_getElem hi⟩, fun i H' x H2 s y => ⟨y.1, y.2 xs (s.seq h)⟩, fun i H' s hi => ⟨xs, s.seq h, hi⟩⟩
/-- each item by a word of it that new objects don't touch -/
theorem comp_any {J : It} {ix : List Nat} {te : TE} {σ : St} {l : Addr} {xs : List V} {H : Hp} {R : Hp → Prop} (Y : WalkOf J H xs) (hl : H l = none) (hz : xs.length ≤ sizeLine) (P : Nat → V → Hp → Prop)
    (mono : ∀ i v H1 H2, Same H1 H2 → P i v H1 → P i v H2) (put : ∀ i v H1 ys zs, H1 l = some (.lst ys) → P i v H1 → P i v (upd H1 l (.lst zs)))
    (hel : ∀ i x H' Q', xs[i]? = some x → Same H H' → (∀ v H2, Same H' H2 → P i v H2 → Q' v H2) → te (some x :: capts σ ix) H' Q')
    (fin : ∀ ys H', Same H H' → H' l = some (.lst ys) → ys.length = xs.length → (∀ j v, ys[j]? = some v → P j v H') → R H') :
    ∃ W : Nat → Nat → List V → Hp → Prop, (∃ m, W 0 m [] (upd H l (.lst []))) ∧ Turns ix te σ J l R W := by
  refine ⟨fun i m ys H' => m = xs.length - i ∧ i ≤ xs.length ∧ ys.length = i ∧ (∀ j v, ys[j]? = some v → P j v H') ∧ Same H H' ∧ H' l = some (.lst ys), ⟨xs.length, by simp, Nat.zero_le _, rfl, (fun j v e => by simp at e), same_new hl _, upd_same⟩, ?_⟩
  rintro i m ys H' ⟨rfl, hi, hx, hp, sH, hL⟩
  refine ⟨hL, ?_⟩
  by_cases hlt : i < xs.length
  · refine .inr ⟨Y.go i H' sH hlt, by omega, fun x H2 y => ?_⟩
    obtain ⟨rfl, e2⟩ := Y.yld i H' x H2 sH y
    refine hel i x _ _ e2 sH fun v H3 s3 hv => ⟨s3 _ _ hL, xs.length - (i + 1), by omega, rfl, hlt, by rw [List.length_append, hx]; rfl, fun j w e => ?_, same_put (sH.trans s3) hl, upd_same⟩
    by_cases hj : j < ys.length
    · rw [List.getElem?_append_left hj] at e
      exact put _ _ _ _ _ (s3 _ _ hL) (mono _ _ _ _ s3 (hp j w e))
    · by_cases hj2 : j = ys.length
      · subst hj2
        rw [List.getElem?_append_right (Nat.le_refl _), Nat.sub_self] at e
        cases e
        rw [hx]
        exact put _ _ _ _ _ (s3 _ _ hL) hv
      · rw [List.getElem?_eq_none (by rw [List.length_append, List.length_singleton]; omega)] at e
        cases e
  · exact .inl ⟨Y.stop i H' sH (by omega), fin ys H' sH hL (by omega) hp⟩
/-- by a list of answers, one for each item: whether it is taken, and what is told -/
theorem comp_pick {J : It} {ix : List Nat} {tt : TT} {te : TE} {σ : St} {l : Addr} {xs : List V} {H : Hp} {R : Hp → Prop} (Y : WalkOf J H xs) (hl : H l = none) (hz : xs.length ≤ sizeLine) (pk : List (Bool × V)) (len : pk.length = xs.length)
    (ht : ∀ (i : Nat) x b v H' Q', xs[i]? = some x → pk[i]? = some (b, v) → Same H H' → Q' b H' → tt (some x :: capts σ ix) H' Q')
    (he : ∀ (i : Nat) x b v H' Q', xs[i]? = some x → pk[i]? = some (b, v) → Same H H' → Q' v H' → te (some x :: capts σ ix) H' Q')
    (fin : R (upd H l (.lst ((pk.filter (·.1)).map (·.2))))) :
    ∃ W : Nat → Nat → List V → Hp → Prop, (∃ m, W 0 m [] (upd H l (.lst []))) ∧ TurnsIf ix tt te σ J l R W := by
  refine ⟨fun i m ys H' => m = xs.length - i ∧ i ≤ xs.length ∧ ys = ((pk.take i).filter (·.1)).map (·.2) ∧ H' = upd H l (.lst ys), ⟨xs.length, by simp, Nat.zero_le _, rfl, rfl⟩, ?_⟩
  rintro i m ys H' ⟨rfl, hi, hy, rfl⟩
  refine ⟨upd_same, ?_⟩
  by_cases hlt : i < xs.length
  · have yl : ys.length ≤ i := by
      rw [hy, List.length_map]
      exact Nat.le_trans (List.length_filter_le _ _) (by rw [List.length_take]; omega)
    have eP : pk[i]? = some (pk[i]'(by omega)) := List.getElem?_eq_getElem (by omega)
    generalize pk[i]'(by omega) = bv at eP
    obtain ⟨b, v⟩ := bv
    have tk : pk.take (i + 1) = pk.take i ++ [(b, v)] := by rw [List.take_add_one, eP]; rfl
    refine .inr ⟨Y.go i _ (same_new hl _) hlt, by omega, fun x H2 y => ?_⟩
    obtain ⟨rfl, e2⟩ := Y.yld i _ x H2 (same_new hl _) y
    refine ht i x b v _ _ e2 eP (same_new hl _) ?_
    cases b with
    | true =>
      rw [if_pos rfl]
      refine he i x _ v _ _ e2 eP (same_new hl _) ⟨upd_same, xs.length - (i + 1), by omega, rfl, hlt, ?_, by rw [upd_upd]⟩
      rw [tk, List.filter_append, List.map_append, ← hy]
      rfl
    | false =>
      rw [if_neg Bool.false_ne_true]
      refine ⟨xs.length - (i + 1), by omega, rfl, hlt, ?_, rfl⟩
      rw [tk, List.filter_append, List.map_append, ← hy]
      simp
  · rw [List.take_of_length_le (by omega)] at hy
    subst hy
    exact .inl ⟨Y.stop i _ (same_new hl _) (by omega), fin⟩
theorem pick_ints {α : Type} (l : List α) (p : α → Bool) (f : α → Int) : (((l.map fun x => (p x, V.int (f x))).filter (·.1)).map (·.2)) = ((l.filter p).map f).map V.int := by
  induction l with
  | nil => rfl
  | cons a l ih =>
    rw [List.map_cons, List.filter_cons, List.filter_cons]
    cases h : p a with
    | true => simp only [h, if_true, List.map_cons, ih]
    | false => simp only [h, Bool.false_eq_true, if_false, ih]
theorem sIx_nat (n d k : Nat) : HT.sIx n d (some (k : Int)) = min k n := by
  show (if (k : Int) < 0 then ((k : Int) + (n : Int)).toNat else min (k : Int).toNat n) = min k n
  rw [if_neg (by omega)]
  rfl
theorem cutV_lo (xs : List V) (k : Nat) : cutV xs (some (k : Int)) none = xs.drop k := by
  unfold cutV
  rw [sIx_nat, show HT.sIx xs.length xs.length none = xs.length from rfl]
  by_cases h : k ≤ xs.length
  · rw [Nat.min_eq_left h, List.take_of_length_le (by rw [List.length_drop]; exact Nat.le_refl _)]
  · rw [Nat.min_eq_right (by omega), List.drop_of_length_le (Nat.le_refl _), List.drop_of_length_le (by omega), List.take_nil]
theorem rows_by {K : PySem.W.Frag} {H : Hp} : ∀ {ys : List V} {l : List (Int × Int)}, ys.length = l.length → (∀ (j : Nat) v s, ys[j]? = some v → l[j]? = some s → ∃ p, v = .ref p ∧ H p = some (.tup [.int s.1, .int s.2])) → Rows2 K H ys l
  | [], [], _, _ => .nil
  | y :: ys, s :: l, e, h => by
    obtain ⟨p, rfl, hp⟩ := h 0 y s rfl rfl
    exact .cons hp (rows_by (by simpa using e) fun j v u h1 h2 => h (j + 1) v u h1 h2)
  | [], _ :: _, e, _ => by simp at e
  | _ :: _, [], e, _ => by simp at e
/-! ### range with a step -/
def Its (lo st : Int) (n : Nat) : It := ⟨fun i _ => i < n, fun i H x H' => H' = H ∧ x = .int (lo + i * st), fun i _ => n ≤ i⟩
def iRng3 (n : Nat) (ta : TA) : TI := fun σ H R => ta σ H fun vs H1 => ∃ i j k : Int, vs = [.int i, .int j, .int k] ∧ (k ≠ 0 ∧ Builtin.Range.small i j k = true ∧ (n : Int) = Builtin.Range.rangeSize i j k ∧ Builtin.divisionGoesByPylong (j - i) k = false) ∧ R (Its i k n) H1
end L2
namespace L2
theorem Rows2.take {K : PySem.W.Frag} {H : Hp} {xs : List V} {l : List (Int × Int)} (r : Rows2 K H xs l) : ∀ n : Nat, Rows2 K H (xs.take n) (l.take n) := by
  induction r with
  | nil => intro n; rw [List.take_nil, List.take_nil]; exact .nil
  | cons h _ ih =>
    intro n
    cases n with
    | zero => exact .nil
    | succ n => exact .cons h (ih n)
end L2
namespace L2
open PySem PySem.Spec PyProof.Rows
section
variable {X : Cx} {pins : List (Addr × Obj)} {σ : St} {H : Hp} {s : Shared} {sc : Scope} {x : Str} {ix : List Nat} {fp : List Addr} {elt iter c : Expr} {te : TE} {tt : TT} {wi : TI} {px pos : Pos}
end
end L2
namespace L2
open PySem PySem.Spec PyProof.Rows
/-! ### C() where no class of it has an __init__ -/
structure Mk0 (K : PySem.W.Frag) (C : Addr) : Prop where
  makes : PySem.W.makesIn K C = true
  init : PySem.W.findIn K (.ref C) "__init__" = some (some (.builtin "object.__init__"))
  kp : PySem.W.keepIn K (.ref C) = true
def tNew0 (C : Addr) : TE := fun _ H Q => ∀ x dx, H x = none → H dx = none → dx ≠ x → Q (.ref x) (upd (upd H dx (.own x)) x (.ins C dx []))
section
variable {X : Cx} {C : Addr} {x m : Str} {p pos apos : Pos} {e o : Expr} {es : List Expr} {ta : TE} {t : TA} {j k : Nat} {ps : List Str}
theorem pe_new0 (M : Mk0 X.K C) (hm : X.mg x = some (.ref C)) (hg : Gl X x := by rfl) (hdb : (x == ("__debug__" : Str)) = false := by decide) : PE X (.Call (.Name x p) [] [] pos) (tNew0 C) := by
  intro pins s σ H Q I h
  refine wpAny_Call_Name_kw (ld_glob I hg hm ?_ hdb)
  refine PySem.W.callWith_K0 I.kIn M.kp ?_
  have hq := h (s.heap.objs.size + 1) s.heap.objs.size (I.hok.fresh (Nat.le_succ _)) (I.hok.fresh (Nat.le_refl _)) (Nat.ne_of_lt (Nat.lt_succ_self _))
  have I2 := Inv.made (C := C) I
  have Y := PySem.W.makes_of (M := model X.prog X.w) I.kIn M.makes
  have e2 : ((s.heap.push PySem.W.emptyDict).push (PySem.W.instObj C s.heap.objs.size)).get? (s.heap.objs.size + 1) = some (PySem.W.instObj C s.heap.objs.size) := by
    have := Heap.get?_push_size (s.heap.push PySem.W.emptyDict) (o := PySem.W.instObj C s.heap.objs.size) rfl
    rwa [Heap.size_push] at this
  refine wpAny_call (make_map0 I.kIn M.makes M.init (fun self => PySem.W.Looks.of_pure (PySem.W.oi_bind self)) ?_)
  have t1 : PySem.W.Looks (model X.prog X.w) ((s.heap.push PySem.W.emptyDict).push (PySem.W.instObj C s.heap.objs.size)) (typeOf (.ref (s.heap.objs.size + 1))) (.ref C) := (PySem.W.Looks.ld e2).andThen .now
  have t2 : PySem.W.Looks (model X.prog X.w) ((s.heap.push PySem.W.emptyDict).push (PySem.W.instObj C s.heap.objs.size)) (isInstance (.ref (s.heap.objs.size + 1)) (.type "object")) true := t1.andThen (Y.top.keeps fun b o e => Heap.get?_push_of_some _ (Heap.get?_push_of_some _ e))
  refine codeAny_call_builtin PySem.W.oi_plain PySem.W.entry_oi (@PySem.W.check_slot (model X.prog X.w) _ _ _ "object.__init__" "object" "__init__" (.ref (s.heap.objs.size + 1)) [] [] _ PySem.W.oi_kind PySem.W.oi_split t2 (PySem.W.oi_args (.ref (s.heap.objs.size + 1))) ?_)
  rw [PySem.W.oi_run]
  exact wpAny_pure (And.intro rfl ⟨V.ref (s.heap.objs.size + 1), _, I2, rfl, hq⟩)
/-! ### four classes, one under which the others stand; methods by the class of the instance -/
inductive Kd where
  | plain | bank | thirty | exact
def Kd.cls : Kd → Str
  | .plain => "Count"
  | .bank => "Bank"
  | .thirty => "Thirty"
  | .exact => "Exact"
/-- an instance of that class, without attributes -/
def IsCnt (K : PySem.W.Frag) (H : Hp) (a : Addr) (kd : Kd) : Prop := ∃ dx, H a = some (.ins (cA K kd.cls) dx [])
theorem IsCnt.same {K : PySem.W.Frag} {H H' : Hp} {a : Addr} {kd : Kd} (h : IsCnt K H a kd) (s : Same H H') : IsCnt K H' a kd := let ⟨dx, e⟩ := h; ⟨dx, s _ _ e⟩
/-- a method of the text, as it is found from a class -/
structure MethS (K : PySem.W.Frag) (C : Addr) (m qual : Str) (st : Stmt) (ps : List Str) : Prop where
  ex : ∃ (f : Addr) (fd : FuncData), Fun K m qual st f fd ∧ Meth K C m f ∧ ∀ us : List Value, us.length = ps.length → bindArgs fd ⟨us, []⟩ = pure (ps.zip us)
structure DefM (P : Program) (w : World) (K : PySem.W.Frag) (mg : Str → Option Value) (base : Heap) (k : Nat) (C : Addr) (m : Str) (ps : List Str) (sp : Sp) : Prop where
  ex : ∃ (f : Addr) (fd : FuncData), FnOk P w K mg base CX0 k f fd ps sp ∧ Meth K C m f ∧ ∀ us : List Value, us.length = ps.length → bindArgs fd ⟨us, []⟩ = pure (ps.zip us)
theorem MethS.ok {P : Program} {w : World} {K : PySem.W.Frag} {mg : Str → Option Value} {base : Heap} {C : Addr} {m qual : Str} {st : Stmt} {N ps : List Str} {k : Nat} {sp : Sp} (S : MethS K C m qual st ps) (sc : FnScope N ps (defScope st)) (len : ∀ vs H Q E, sp vs H Q E → vs.length = ps.length)
    (hbody : ∀ (f : Addr) (cdv : Value) (A : Around) (outer : List Env) (s : Shared) (H : Hp) (vs : List V) (Q : VK) (E : XK), Room k (A.deeper (envOfC qual (defScope st) s.heap.objs.size f cdv)) → sp vs H Q E →
      ∃ t, PSs (cxOf CX0 P w K mg base N qual (defScope st) f cdv A outer s H E).nox (defBody st) t ∧ t { nx := fun _ H' => Q .non H', rt := Q } (start N vs) H) : DefM P w K mg base (k + 1) C m ps sp := by
  obtain ⟨f, fd, F, hm, hb⟩ := S.ex
  exact ⟨f, fd, F.ok sc len (fun cdv => hbody f cdv), hm, hb⟩
theorem MethS.okF {P : Program} {w : World} {K : PySem.W.Frag} {mg : Str → Option Value} {base : Heap} {C : Addr} {m qual : Str} {st : Stmt} {N ps : List Str} {k : Nat} {sp : Sp} (S : MethS K C m qual st ps) (sc : FnScope N ps (defScope st)) (len : ∀ vs H Q E, sp vs H Q E → vs.length = ps.length)
    (hbody : ∀ (f : Addr) (cdv : Value) (A : Around) (outer : List Env) (s : Shared) (H : Hp) (vs : List V) (Q : VK) (E : XK), Room k (A.deeper (envOfC qual (defScope st) s.heap.objs.size f cdv)) → sp vs H Q E →
      ∃ t, PSs (cxOf CX0 P w K mg base N qual (defScope st) f cdv A outer s H E).nox (defBody st) t ∧ t { nx := fun _ H' => Same H H' ∧ Q .non H, rt := fun v H' => Same H H' ∧ Q v H } (start N vs) H) : DefM P w K mg base (k + 1) C m ps sp := by
  obtain ⟨f, fd, F, hm, hb⟩ := S.ex
  have G : FnOk P w K mg base CX0 (k + 1) f fd ps (fun vs H R E => ∃ Q, sp vs H Q E ∧ R = fun v H' => Same H H' ∧ Q v H) :=
    F.ok sc (fun vs H R E ⟨Q, h, _⟩ => len vs H Q E h) fun cdv A outer s H vs R E hr ⟨Q, h, e⟩ => by
      subst e
      exact hbody f cdv A outer s H vs Q E hr h
  exact ⟨f, fd, G.forget fun vs H Q E h => ⟨Q, h, rfl⟩, hm, hb⟩
def tMethK (K : PySem.W.Frag) (sp : Kd → Sp) (ta : TE) (t : TA) : TE := fun σ H Q => ta σ H fun x H1 => ∃ (kd : Kd) (a : Addr), x = .ref a ∧ IsCnt K H1 a kd ∧ t σ H1 fun vs H2 => sp kd (x :: vs) H2 Q E0
theorem pe_methK {pl : Sem Bool} {sp : Kd → Sp} (D : ∀ kd : Kd, DefM X.prog X.w X.K X.mg X.base j (cA X.K kd.cls) m ps (sp kd)) (hc : ∀ kd : Kd, Cls X.K (cA X.K kd.cls)) (hr : Room k X.A) (he : PE X o ta) (ha : PA X (e :: es) t) (hj : j ≤ k := by decide)
    (hst : starEach (e :: es) X.env = (false, eval e X.env) :: starEach es X.env := by rfl) (hpl : (backTo pos (starEach es X.env)).any (·.1) = false := by rfl)
    (ht : eval (.Call (.Attribute o m apos) (e :: es) [] pos) X.env = (do
      let ov ← eval o X.env
      standAt apos.atName
      let (f, first) ← holding [ov] (getMethod ov m pl)
      callWith pos f first (backTo pos (starEach (e :: es) X.env)) (backToKw pos (keywordEach [] X.env))) := by rfl) :
    PE X (.Call (.Attribute o m apos) (e :: es) [] pos) (tMethK X.K sp ta t) := by
  intro pins s σ H Q I h
  refine PySem.W.methodCall_KW (pl := pl) (thn (he pins s σ H _ I h) fun u s1 ⟨x, H1, I1, rx, kd, a, ex, ⟨dx, ea⟩, q⟩ => ?_) ht
  subst ex
  obtain rfl : u = Value.ref a := rx
  obtain ⟨f, fd, F, hm, hb⟩ := (D kd).ex
  refine getmeth_ok I1 ea (hc kd) hm rfl ?_
  refine PySem.W.callWith_K (first := [.ref a]) (h₀ := X.base) I.ok.mod.kin hm.kp (thn (ha pos pins s1 σ H1 _ I1 q) fun us s2 ⟨vs, H2, I2, r, q2⟩ => ⟨I2.kIn, ?_⟩) hst hpl
  exact run_fn (us := .ref a :: us) (vs := .ref a :: vs) (dvs := []) (ds := []) F (hr.mono hj) (.all hb) .nil pass0 I2 (.cons rfl r) (by rw [List.append_nil]; exact q2)
theorem pe_methK0 {pl : Sem Bool} {sp : Kd → Sp} (D : ∀ kd : Kd, DefM X.prog X.w X.K X.mg X.base j (cA X.K kd.cls) m ps (sp kd)) (hc : ∀ kd : Kd, Cls X.K (cA X.K kd.cls)) (hr : Room k X.A) (he : PE X o ta) (hj : j ≤ k := by decide)
    (ht : eval (.Call (.Attribute o m apos) [] [] pos) X.env = (do
      let ov ← eval o X.env
      standAt apos.atName
      let (f, first) ← holding [ov] (getMethod ov m pl)
      callWith pos f first (backTo pos (starEach [] X.env)) (backToKw pos (keywordEach [] X.env))) := by rfl) :
    PE X (.Call (.Attribute o m apos) [] [] pos) (tMethK X.K sp ta tNil) := by
  intro pins s σ H Q I h
  refine PySem.W.methodCall_KW (pl := pl) (thn (he pins s σ H _ I h) fun u s1 ⟨x, H1, I1, rx, kd, a, ex, ⟨dx, ea⟩, q⟩ => ?_) ht
  subst ex
  obtain rfl : u = Value.ref a := rx
  obtain ⟨f, fd, F, hm, hb⟩ := (D kd).ex
  refine getmeth_ok I1 ea (hc kd) hm rfl ?_
  exact PySem.W.callWith_K0 (first := [.ref a]) I1.kIn hm.kp (run_fn (us := [.ref a]) (vs := [.ref a]) (dvs := []) (ds := []) F (hr.mono hj) (.all hb) .nil pass0 I1 (.cons rfl .nil) q)
end
/-! ### the facts, by the class's name -/
section
variable {K : PySem.W.Frag} {x : Str} {C f : Addr}
theorem cls_mk (a : PySem.W.nsIn K mainGlobals x = some (some (.ref C))) (h1 : PySem.W.plainGet K C Str.empty = true) (h2 : PySem.W.hasDictIn K C = true) (h3 : PySem.W.plainOver K C = true) (h4 : PySem.W.findIn K (.ref C) "__setattr__" = some (some (.builtin "object.__setattr__"))) : Cls K (cA K x) := by
  rw [cA_of a]; exact ⟨h1, h2, h3, h4⟩
theorem mk0_mk (a : PySem.W.nsIn K mainGlobals x = some (some (.ref C))) (h1 : PySem.W.makesIn K C = true) (h2 : PySem.W.findIn K (.ref C) "__init__" = some (some (.builtin "object.__init__"))) (h3 : PySem.W.keepIn K (.ref C) = true) : Mk0 K (cA K x) := by
  rw [cA_of a]; exact ⟨h1, h2, h3⟩
theorem meth_mk {m qual : Str} {st : Stmt} {ps : List Str} {oc : Value} {od an : Option Addr} {osl : Array (Option Value)} {kV doc pm cdv ct : Value} (a : PySem.W.nsIn K mainGlobals x = some (some (.ref C))) (hi : PySem.W.findIn K (.ref C) m = some (some (.ref f))) (hf : PySem.W.isFn K (.ref f) = true)
    (fk : PySem.W.keepIn K (.ref f) = true) (fl : K.lookup f = some ⟨oc, od, .func (PySem.W.fnOf m qual (defArgs st) (defBody st) (defScope st) .none kV doc pm an cdv ct), osl⟩) (fc : PySem.W.codeIn K cdv qual = true)
    (hb : ∀ us : List Value, us.length = ps.length → bindArgs (PySem.W.fnOf m qual (defArgs st) (defBody st) (defScope st) .none kV doc pm an cdv ct) ⟨us, []⟩ = pure (ps.zip us)) : MethS K (cA K x) m qual st ps := by
  rw [cA_of a]; exact ⟨f, _, fun_mk fl fc fk, ⟨hi, hf, fk⟩, hb⟩
end
end L2
namespace L2
open PySem
theorem new_cnt {K : PySem.W.Frag} {H : Hp} {x dx : Addr} (kd : Kd) (nx : H x = none) (nd : H dx = none) (ne : dx ≠ x) : Same H (upd (upd H dx (.own x)) x (.ins (cA K kd.cls) dx [])) ∧ IsCnt K (upd (upd H dx (.own x)) x (.ins (cA K kd.cls) dx [])) x kd :=
  ⟨(same_new nd _).trans (same_new (by rw [upd_ne ne.symm]; exact nx) _), dx, upd_same⟩
end L2
namespace L2
theorem at_last {α : Type} {xs : List α} {v : α} (h : xs[xs.length - 1]? = some v) (h0 : 0 < xs.length) : atI xs (-1) = some v := by
  have e : ixN xs.length (-1) = some (xs.length - 1) := by
    unfold ixN
    rw [if_neg (by decide), if_pos (by omega), show ((-1 : Int) + (xs.length : Int)).toNat = xs.length - 1 by omega]
  unfold atI
  rw [e]
  exact h
end L2
/-! Spans of days: what joined lists are, and how the least one is told by the days on which a span begins or ends. No Python here. -/
namespace Spans
abbrev Sp := List (Int × Int)
def Cov (l : Sp) (d : Int) : Prop := ∃ s ∈ l, s.1 ≤ d ∧ d < s.2
structure Joined (l : Sp) : Prop where
  up : ∀ s ∈ l, s.1 < s.2
  apart : l.Pairwise fun s t => s.2 < t.1
theorem cov_nil {d : Int} : ¬ Cov [] d := fun ⟨_, h, _⟩ => by cases h
theorem cov_cons {s : Int × Int} {l : Sp} {d : Int} : Cov (s :: l) d ↔ (s.1 ≤ d ∧ d < s.2) ∨ Cov l d := by
  constructor
  · rintro ⟨t, ht, h⟩
    rcases List.mem_cons.mp ht with rfl | ht
    · exact .inl h
    · exact .inr ⟨t, ht, h⟩
  · rintro (h | ⟨t, ht, h⟩)
    · exact ⟨s, List.mem_cons_self, h⟩
    · exact ⟨t, List.mem_cons_of_mem _ ht, h⟩
theorem cov_append {a b : Sp} {d : Int} : Cov (a ++ b) d ↔ Cov a d ∨ Cov b d := by
  constructor
  · rintro ⟨t, ht, h⟩
    rcases List.mem_append.mp ht with ht | ht
    · exact .inl ⟨t, ht, h⟩
    · exact .inr ⟨t, ht, h⟩
  · rintro (⟨t, ht, h⟩ | ⟨t, ht, h⟩)
    · exact ⟨t, List.mem_append_left _ ht, h⟩
    · exact ⟨t, List.mem_append_right _ ht, h⟩
theorem Joined.above {s : Int × Int} {l : Sp} (j : Joined (s :: l)) {d : Int} (h : Cov l d) : s.2 < d := by
  obtain ⟨t, ht, h1, _⟩ := h
  have := (List.pairwise_cons.mp j.apart).1 t ht
  omega
/-! ### the least list, by the days on which a span begins or ends -/
def isIn (l : Sp) (d : Int) : Bool := l.any fun s => decide (s.1 ≤ d) && decide (d < s.2)
theorem isIn_iff {l : Sp} {d : Int} : isIn l d = true ↔ Cov l d := by
  unfold isIn
  rw [List.any_eq_true]
  constructor
  · rintro ⟨s, hs, h⟩
    simp only [Bool.and_eq_true, decide_eq_true_eq] at h
    exact ⟨s, hs, h⟩
  · rintro ⟨s, hs, h⟩
    exact ⟨s, hs, by simp only [Bool.and_eq_true, decide_eq_true_eq]; exact h⟩
/-- one edge: what was found so far, and the day from which on all is covered -/
def step (l : Sp) (st : Sp × Int) (e : Int) : Sp × Int :=
  let f := if isIn l e && !isIn l (e - 1) then e else st.2
  (if isIn l e then st.1 else st.1 ++ [(f, e)], f)
def least (l : Sp) (es : List Int) : Sp := (es.foldl (step l) ([], 0)).1
/-- the edges of l -/
structure Edges (l : Sp) (es : List Int) : Prop where
  up : es.Pairwise (· < ·)
  mem : ∀ d, d ∈ es ↔ ∃ s ∈ l, d = s.1 ∨ d = s.2
/-- where no edge lies, it stays -/
theorem same_of {l : Sp} {a b : Int} (ab : a ≤ b) (h : ∀ s ∈ l, ∀ d, a < d → d ≤ b → d ≠ s.1 ∧ d ≠ s.2) : Cov l a ↔ Cov l b := by
  constructor
  · rintro ⟨s, hs, h1, h2⟩
    refine ⟨s, hs, by omega, ?_⟩
    refine Int.not_le.mp fun le => ?_
    exact (h s hs s.2 h2 le).2 rfl
  · rintro ⟨s, hs, h1, h2⟩
    refine ⟨s, hs, ?_, by omega⟩
    refine Int.not_lt.mp fun lt => ?_
    exact (h s hs s.1 lt h1).1 rfl
/-- what holds when all edges up to e are taken -/
structure Upto (l : Sp) (e : Int) (st : Sp × Int) : Prop where
  j : Joined st.1
  out : ¬ Cov l e → (∀ d, d ≤ e → (Cov st.1 d ↔ Cov l d)) ∧ ∀ s ∈ st.1, s.2 ≤ e
  in_ : Cov l e → (∀ d, Cov st.1 d ↔ Cov l d ∧ d < st.2) ∧ st.2 ≤ e ∧ (∀ d, st.2 ≤ d → d ≤ e → Cov l d) ∧ ¬ Cov l (st.2 - 1) ∧ ∀ s ∈ st.1, s.2 < st.2
theorem isIn_not {l : Sp} {d : Int} (h : ¬ Cov l d) : isIn l d = false := by
  cases q : isIn l d with
  | false => rfl
  | true => exact absurd (isIn_iff.mp q) h
theorem Upto.next {l : Sp} {e e' : Int} {st : Sp × Int} (U : Upto l e st) (ok : ∀ s ∈ l, s.1 < s.2) (lt : e < e') (no : ∀ s ∈ l, ∀ d, e < d → d < e' → d ≠ s.1 ∧ d ≠ s.2) (ed : ∃ s ∈ l, e' = s.1 ∨ e' = s.2) : Upto l e' (step l st e') := by
  have con : ∀ d, e ≤ d → d < e' → (Cov l e ↔ Cov l d) := fun d h1 h2 => same_of h1 fun s hs d' g1 g2 => no s hs d' g1 (by omega)
  have bef : Cov l e ↔ Cov l (e' - 1) := con _ (by omega) (by omega)
  unfold step
  dsimp only
  by_cases c' : Cov l e'
  · rw [isIn_iff.mpr c']
    by_cases c : Cov l e
    · rw [isIn_iff.mpr (bef.mp c)]
      obtain ⟨h1, h2, h3, h4, h5⟩ := U.in_ c
      refine ⟨U.j, fun q => absurd c' q, fun _ => ⟨h1, by show st.2 ≤ e'; omega, fun d g1 g2 => ?_, h4, h5⟩⟩
      by_cases q : d ≤ e
      · exact h3 d g1 q
      · by_cases z : d = e'
        · rw [z]; exact c'
        · exact (con d (by omega) (by omega)).mp c
    · rw [isIn_not fun q => c (bef.mpr q)]
      obtain ⟨h1, h2⟩ := U.out c
      refine ⟨U.j, fun q => absurd c' q, fun _ => ⟨fun d => ?_, Int.le_refl _, fun d g1 g2 => ?_, fun q => c (bef.mpr q), fun s hs => ?_⟩⟩
      · show Cov st.1 d ↔ Cov l d ∧ d < e'
        by_cases q : d ≤ e
        · rw [h1 d q]
          exact ⟨fun z => ⟨z, by omega⟩, fun z => z.1⟩
        · constructor
          · rintro ⟨s, hs, _, g⟩
            have := h2 s hs
            omega
          · rintro ⟨g1, g2⟩
            exact absurd ((con d (by omega) g2).mpr g1) c
      · have g1' : e' ≤ d := g1
        have : d = e' := by omega
        rw [this]; exact c'
      · have := h2 s hs
        show s.2 < e'
        omega
  · rw [isIn_not c']
    have c : Cov l e := by
      obtain ⟨s, hs, q | q⟩ := ed
      · exact absurd ⟨s, hs, by omega, by have := ok s hs; omega⟩ c'
      · exact bef.mpr ⟨s, hs, by have := ok s hs; omega, by omega⟩
    obtain ⟨h1, h2, h3, h4, h5⟩ := U.in_ c
    simp only [Bool.false_and, Bool.false_eq_true, if_false]
    refine ⟨⟨fun s hs => ?_, ?_⟩, fun _ => ⟨fun d g => ?_, fun s hs => ?_⟩, fun q => absurd q c'⟩
    · rcases List.mem_append.mp hs with hs | hs
      · exact U.j.up s hs
      · have : s = (st.2, e') := by simpa using hs
        rw [this]
        show st.2 < e'
        omega
    · refine List.pairwise_append.mpr ⟨U.j.apart, List.pairwise_singleton _ _, fun s hs t ht => ?_⟩
      have : t = (st.2, e') := by simpa using ht
      rw [this]
      exact h5 s hs
    · rw [cov_append, h1 d, cov_cons]
      constructor
      · rintro (q | q | q)
        · exact q.1
        · have q1 : st.2 ≤ d := q.1
          have q2 : d < e' := q.2
          by_cases z : d ≤ e
          · exact h3 d q1 z
          · exact (con d (by omega) q2).mp c
        · exact absurd q cov_nil
      · intro q
        have ne : d ≠ e' := fun z => c' (z ▸ q)
        by_cases z : d < st.2
        · exact .inl ⟨q, z⟩
        · exact .inr (.inl ⟨by show st.2 ≤ d; omega, by show d < e'; omega⟩)
    · rcases List.mem_append.mp hs with hs | hs
      · have := h5 s hs
        omega
      · have : s = (st.2, e') := by simpa using hs
        rw [this]
        exact Int.le_refl _
theorem fold_upto {l : Sp} (ok : ∀ s ∈ l, s.1 < s.2) : ∀ (es : List Int) (e : Int) (st : Sp × Int), Upto l e st → es.Pairwise (· < ·) → (∀ d ∈ es, e < d) → (∀ s ∈ l, ∀ d, d = s.1 ∨ d = s.2 → e < d → d ∈ es) → (∀ d ∈ es, ∃ s ∈ l, d = s.1 ∨ d = s.2) →
    ∃ e', Upto l e' (es.foldl (step l) st) ∧ ∀ s ∈ l, s.1 ≤ e' ∧ s.2 ≤ e'
  | [], e, st, U, _, _, all, _ => ⟨e, U, fun s hs => ⟨Int.not_lt.mp fun lt => (by cases all s hs s.1 (.inl rfl) lt), Int.not_lt.mp fun lt => (by cases all s hs s.2 (.inr rfl) lt)⟩⟩
  | x :: es, e, st, U, up, ab, all, ed => by
    obtain ⟨u1, u2⟩ := List.pairwise_cons.mp up
    refine fold_upto ok es x _ (U.next ok (ab x List.mem_cons_self) (fun s hs d g1 g2 => ?_) (ed x List.mem_cons_self)) u2 u1 (fun s hs d q lt => ?_) fun d hd => ed d (List.mem_cons_of_mem _ hd)
    · have key : ∀ d, (d = s.1 ∨ d = s.2) → e < d → d < x → False := fun d q g1 g2 => by
        rcases List.mem_cons.mp (all s hs d q g1) with z | z
        · omega
        · have := u1 d z; omega
      exact ⟨fun z => key d (.inl z) g1 g2, fun z => key d (.inr z) g1 g2⟩
    · rcases List.mem_cons.mp (all s hs d q (by have := ab x List.mem_cons_self; omega)) with z | z
      · omega
      · exact z
theorem least_ok {l : Sp} {es : List Int} (ok : ∀ s ∈ l, s.1 < s.2) (E : Edges l es) : Joined (least l es) ∧ ∀ d, Cov (least l es) d ↔ Cov l d := by
  have bot : ∃ e : Int, ∀ d ∈ es, e < d := by
    cases es with
    | nil => exact ⟨0, fun d hd => by cases hd⟩
    | cons x r => exact ⟨x - 1, fun d hd => by
        rcases List.mem_cons.mp hd with rfl | hd
        · omega
        · have := (List.pairwise_cons.mp E.up).1 d hd; omega⟩
  obtain ⟨e, he⟩ := bot
  have none_ : ∀ d, d ≤ e → ¬ Cov l d := fun d hd ⟨s, hs, h1, _⟩ => by
    have := he s.1 ((E.mem _).mpr ⟨s, hs, .inl rfl⟩)
    omega
  have U0 : Upto l e ([], 0) := ⟨⟨fun s hs => (by cases hs), List.Pairwise.nil⟩, fun _ => ⟨fun d hd => ⟨fun q => absurd q cov_nil, fun q => absurd q (none_ d hd)⟩, fun s hs => by cases hs⟩, fun q => absurd q (none_ e (Int.le_refl _))⟩
  obtain ⟨e', U, top⟩ := fold_upto ok es e ([], 0) U0 E.up he (fun s hs d q _ => (E.mem d).mpr ⟨s, hs, q⟩) fun d hd => (E.mem d).mp hd
  have nc : ¬ Cov l e' := fun ⟨s, hs, _, h2⟩ => by have := (top s hs).2; omega
  obtain ⟨h1, h2⟩ := U.out nc
  refine ⟨U.j, fun d => ?_⟩
  by_cases q : d ≤ e'
  · exact h1 d q
  · constructor
    · rintro ⟨s, hs, _, g⟩
      have := h2 s hs
      omega
    · rintro ⟨s, hs, _, g⟩
      have := (top s hs).2
      omega
end Spans
/-! Sums over days, and the value that holds on a day. No Python here. -/
namespace Sums
/-- f over the days from a on that are below b -/
def S (f : Int → Int) (a : Int) : Nat → Int
  | 0 => 0
  | n + 1 => S f a n + f (a + n)
def sum (f : Int → Int) (a b : Int) : Int := S f a (b - a).toNat
theorem sum_le {f : Int → Int} {a b : Int} (h : b ≤ a) : sum f a b = 0 := by
  unfold sum
  rw [show (b - a).toNat = 0 by omega]
  rfl
theorem S_append (f : Int → Int) (a : Int) (n : Nat) : ∀ m, S f a (n + m) = S f a n + S f (a + n) m
  | 0 => by simp [S]
  | m + 1 => by
    show S f a (n + m) + f (a + ((n + m : Nat) : Int)) = S f a n + (S f (a + n) m + f (a + n + m))
    rw [S_append f a n m, show a + ((n + m : Nat) : Int) = a + n + m by omega]
    omega
theorem sum_add {f : Int → Int} {a b c : Int} (h1 : a ≤ c) (h2 : c ≤ b) : sum f a b = sum f a c + sum f c b := by
  unfold sum
  rw [show (b - a).toNat = (c - a).toNat + (b - c).toNat by omega, S_append, show a + ((c - a).toNat : Int) = c by omega]
theorem S_congr {f g : Int → Int} {a : Int} : ∀ (n : Nat), (∀ d, a ≤ d → d < a + n → f d = g d) → S f a n = S g a n
  | 0, _ => rfl
  | n + 1, h => by
    show S f a n + f (a + n) = S g a n + g (a + n)
    rw [S_congr n fun d h1 h2 => h d h1 (by omega), h (a + n) (by omega) (by omega)]
theorem sum_congr {f g : Int → Int} {a b : Int} (h : ∀ d, a ≤ d → d < b → f d = g d) : sum f a b = sum g a b := S_congr _ fun d h1 h2 => h d h1 (by omega)
theorem S_mul (c : Int) (f : Int → Int) (a : Int) : ∀ n, S (fun d => c * f d) a n = c * S f a n
  | 0 => by simp [S]
  | n + 1 => by
    show S (fun d => c * f d) a n + c * f (a + n) = c * (S f a n + f (a + n))
    rw [S_mul c f a n, Int.mul_add]
theorem sum_mul (c : Int) (f : Int → Int) (a b : Int) : sum (fun d => c * f d) a b = c * sum f a b := S_mul c f a _
theorem S_mono {f g : Int → Int} {a : Int} : ∀ (n : Nat), (∀ d, a ≤ d → d < a + n → f d ≤ g d) → S f a n ≤ S g a n
  | 0, _ => Int.le_refl _
  | n + 1, h => by
    have h1 := S_mono n fun d h1 h2 => h d h1 (by omega)
    have h2 := h (a + n) (by omega) (by omega)
    show S f a n + f (a + n) ≤ S g a n + g (a + n)
    omega
theorem sum_mono {f g : Int → Int} {a b : Int} (h : ∀ d, a ≤ d → d < b → f d ≤ g d) : sum f a b ≤ sum g a b := S_mono _ fun d h1 h2 => h d h1 (by omega)
theorem S_zero (a : Int) : ∀ n, S (fun _ => 0) a n = 0
  | 0 => rfl
  | n + 1 => by show S (fun _ => 0) a n + 0 = 0; rw [S_zero a n]; rfl
theorem sum_nonneg {f : Int → Int} {a b : Int} (h : ∀ d, a ≤ d → d < b → 0 ≤ f d) : 0 ≤ sum f a b := by
  have := sum_mono (f := fun _ => 0) (g := f) h
  unfold sum at this ⊢
  rw [S_zero] at this
  exact this
theorem S_tel {U : Int → Int} {a : Int} : ∀ n : Nat, S (fun d => U (d + 1) - U d) a n = U (a + n) - U a
  | 0 => by simp [S]
  | n + 1 => by
    show S (fun d => U (d + 1) - U d) a n + (U (a + n + 1) - U (a + n)) = _
    rw [S_tel n, show a + ((n + 1 : Nat) : Int) = a + n + 1 by omega]
    omega
/-- weights that are told by what stands up to a day -/
theorem sum_tel {U : Int → Int} {a b : Int} (h : a ≤ b) : sum (fun d => U (d + 1) - U d) a b = U b - U a := by
  unfold sum
  rw [S_tel, show a + ((b - a).toNat : Int) = b by omega]
/-- a stretch on which the value stays one -/
theorem sum_part {U v : Int → Int} {a b c : Int} (h : a ≤ b) (hv : ∀ d, a ≤ d → d < b → v d = c) : sum (fun d => (U (d + 1) - U d) * v d) a b = (U b - U a) * c := by
  rw [sum_congr (g := fun d => c * (U (d + 1) - U d)) fun d h1 h2 => by rw [hv d h1 h2, Int.mul_comm], sum_mul, sum_tel h, Int.mul_comm]
/-! ### tables -/
abbrev Tab := List (Int × Int)
/-- v is the value of the last row of the latest day that is not behind d; 0 where there is none -/
def Val (t : Tab) (d v : Int) : Prop := (v = 0 ∧ ∀ r ∈ t, d < r.1) ∨ ∃ i : Nat, ∃ b : Int, t[i]? = some (b, v) ∧ b ≤ d ∧ ∀ (j : Nat) (r : Int × Int), t[j]? = some r → r.1 ≤ d → r.1 < b ∨ (r.1 = b ∧ j ≤ i)
theorem Val.one {t : Tab} {d v u : Int} (a : Val t d v) (b : Val t d u) : v = u := by
  rcases a with ⟨rfl, h⟩ | ⟨i, x, e, le, h⟩
  · rcases b with ⟨rfl, _⟩ | ⟨j, y, e', le', _⟩
    · rfl
    · have := h _ (List.mem_of_getElem? e')
      dsimp only at this
      omega
  · rcases b with ⟨rfl, g⟩ | ⟨j, y, e', le', g⟩
    · have := g _ (List.mem_of_getElem? e)
      dsimp only at this
      omega
    · have p := h j _ e' le'
      have q := g i _ e le
      dsimp only at p q
      have ij : i = j := by omega
      subst ij
      rw [e] at e'
      cases e'
      rfl
/-- one row, as a walk over all rows sees it -/
def vstep (d : Int) (st : Int × Int) (r : Int × Int) : Int × Int := if st.1 ≤ r.1 ∧ r.1 ≤ d then r else st
def valOf (t : Tab) (d : Int) : Int := (t.foldl (vstep d) (-1, 0)).2
theorem valOf_ok {t : Tab} (h0 : ∀ r ∈ t, 0 ≤ r.1) (d : Int) : Val t d (valOf t d) := by
  suffices q : ∀ (pre rest : Tab) (st : Int × Int), pre ++ rest = t → ((st = (-1, 0) ∧ ∀ r ∈ pre, d < r.1) ∨ ∃ i : Nat, pre[i]? = some st ∧ st.1 ≤ d ∧ ∀ (j : Nat) (r : Int × Int), pre[j]? = some r → r.1 ≤ d → r.1 < st.1 ∨ (r.1 = st.1 ∧ j ≤ i)) →
      Val t d (rest.foldl (vstep d) st).2 from q [] t (-1, 0) rfl (.inl ⟨rfl, fun r hr => by cases hr⟩)
  intro pre rest
  induction rest generalizing pre with
  | nil =>
    intro st e h
    rw [List.append_nil] at e
    subst e
    rcases h with ⟨rfl, h⟩ | ⟨i, e, le, h⟩
    · exact .inl ⟨rfl, h⟩
    · exact .inr ⟨i, st.1, e, le, h⟩
  | cons r rest ih =>
    intro st e h
    have hr : 0 ≤ r.1 := h0 r (by rw [← e]; simp)
    refine ih (pre ++ [r]) (vstep d st r) (by rw [List.append_assoc]; exact e) ?_
    have last : ∀ (j : Nat) (x : Int × Int), (pre ++ [r])[j]? = some x → pre[j]? = some x ∨ (j = pre.length ∧ x = r) := fun j x hx => by
      by_cases hj : j < pre.length
      · rw [List.getElem?_append_left hj] at hx
        exact .inl hx
      · by_cases hj2 : j = pre.length
        · subst hj2
          rw [List.getElem?_append_right (Nat.le_refl _), Nat.sub_self] at hx
          exact .inr ⟨rfl, (by cases hx; rfl)⟩
        · rw [List.getElem?_eq_none (by rw [List.length_append, List.length_singleton]; omega)] at hx
          cases hx
    unfold vstep
    by_cases c : st.1 ≤ r.1 ∧ r.1 ≤ d
    · rw [if_pos c]
      refine .inr ⟨pre.length, by rw [List.getElem?_append_right (Nat.le_refl _), Nat.sub_self]; rfl, c.2, fun j x hx hd => ?_⟩
      rcases last j x hx with hx | ⟨rfl, rfl⟩
      · have hj : j < pre.length := (List.getElem?_eq_some_iff.mp hx).1
        rcases h with ⟨_, h⟩ | ⟨i, _, _, h⟩
        · have := h x (List.mem_of_getElem? hx)
          omega
        · rcases h j x hx hd with z | z
          · exact .inl (by omega)
          · by_cases w : x.1 = r.1
            · exact .inr ⟨w, by omega⟩
            · exact .inl (by omega)
      · exact .inr ⟨rfl, Nat.le_refl _⟩
    · rw [if_neg c]
      rcases h with ⟨rfl, h⟩ | ⟨i, ei, le, h⟩
      · refine .inl ⟨rfl, fun x hx => ?_⟩
        rcases List.mem_append.mp hx with hx | hx
        · exact h x hx
        · have : x = r := by simpa using hx
          rw [this]
          exact Int.not_le.mp fun q => c ⟨by show (-1 : Int) ≤ r.1; omega, q⟩
      · refine .inr ⟨i, ?_, le, fun j x hx hd => ?_⟩
        · rw [List.getElem?_append_left (List.getElem?_eq_some_iff.mp ei).1]; exact ei
        · rcases last j x hx with hx | ⟨rfl, rfl⟩
          · exact h j x hx hd
          · exact .inl (Int.not_le.mp fun q => c ⟨q, hd⟩)
end Sums
/-! Days that stand still, told by joined spans and by the spans as they were drawn; values between breaks. No Python here. -/
namespace Stills
open Spans Sums
/-! ### between breaks -/
theorem fold_same {x y : Int} : ∀ (t : Tab) (st : Int × Int), (∀ r ∈ t, (r.1 ≤ x ↔ r.1 ≤ y)) → t.foldl (vstep x) st = t.foldl (vstep y) st
  | [], _, _ => rfl
  | r :: t, st, h => by
    have e : vstep x st r = vstep y st r := by
      unfold vstep
      have := h r (List.mem_cons_self ..)
      by_cases c : st.1 ≤ r.1 ∧ r.1 ≤ x
      · rw [if_pos c, if_pos ⟨c.1, this.mp c.2⟩]
      · rw [if_neg c, if_neg fun z => c ⟨z.1, this.mpr z.2⟩]
    show t.foldl (vstep x) (vstep x st r) = t.foldl (vstep y) (vstep y st r)
    rw [e]
    exact fold_same t _ fun q hq => h q (List.mem_cons_of_mem _ hq)
theorem val_same {t : Tab} {x y : Int} (xy : x ≤ y) (h : ∀ r ∈ t, ¬ (x < r.1 ∧ r.1 ≤ y)) : valOf t x = valOf t y := by
  unfold valOf
  rw [fold_same (y := y) t _ fun r hr => by have := h r hr; omega]
theorem in_same {l r : Sp} {x y : Int} (c : ∀ d, Cov r d ↔ Cov l d) (xy : x ≤ y) (h : ∀ s ∈ r, ∀ d, x < d → d ≤ y → d ≠ s.1 ∧ d ≠ s.2) : isIn l x = isIn l y := by
  have e : Cov l x ↔ Cov l y := by rw [← c, ← c]; exact same_of xy h
  cases p : isIn l x with
  | true => exact (isIn_iff.mpr (e.mp (isIn_iff.mp p))).symm
  | false =>
    cases q : isIn l y with
    | false => rfl
    | true => rw [isIn_iff.mpr (e.mpr (isIn_iff.mp q))] at p; cases p
/-! ### how many rows have begun -/
structure Begun (r : Sp) (day : Int) (n : Nat) : Prop where
  le : n ≤ r.length
  lo : ∀ i s, i < n → r[i]? = some s → s.1 ≤ day
  hi : ∀ i s, n ≤ i → r[i]? = some s → day < s.1
/-- the least day from this one on that lies in none -/
structure Free (r : Sp) (day m : Int) : Prop where
  from_ : day ≤ m
  out : ¬ Cov r m
  all : ∀ d, day ≤ d → d < m → Cov r d
theorem Free.one {r : Sp} {day m n : Int} (a : Free r day m) (b : Free r day n) : m = n := by
  rcases Int.lt_trichotomy m n with h | h | h
  · exact absurd (b.all m a.from_ h) a.out
  · exact h
  · exact absurd (a.all n b.from_ h) b.out
theorem Free.here {r : Sp} {day : Int} (h : ¬ Cov r day) : Free r day day := ⟨Int.le_refl _, h, fun d h1 h2 => by omega⟩
theorem Free.gt {r : Sp} {day m : Int} (a : Free r day m) : m > day ↔ Cov r day := by
  constructor
  · intro h
    exact a.all day (Int.le_refl _) h
  · intro h
    have := a.from_
    by_cases e : m = day
    · rw [e] at a
      exact absurd h a.out
    · omega
theorem get_lt {r : Sp} (J : Joined r) {i j : Nat} {s t : Int × Int} (hi : r[i]? = some s) (hj : r[j]? = some t) (lt : i < j) : s.2 < t.1 := by
  obtain ⟨h1, rfl⟩ := List.getElem?_eq_some_iff.mp hi
  obtain ⟨h2, rfl⟩ := List.getElem?_eq_some_iff.mp hj
  exact List.pairwise_iff_getElem.mp J.apart i j h1 h2 lt
theorem moved_none {r : Sp} {day : Int} (B : Begun r day 0) : Free r day day := Free.here fun ⟨s, hs, h1, h2⟩ => by
  obtain ⟨j, hj, rfl⟩ := List.mem_iff_getElem.mp hs
  have := B.hi j _ (Nat.zero_le _) (List.getElem?_eq_getElem hj)
  omega
theorem moved_some {r : Sp} (J : Joined r) {day : Int} {n : Nat} {s : Int × Int} (B : Begun r day (n + 1)) (e : r[n]? = some s) : Free r day (if s.2 > day then s.2 else day) := by
  have up := J.up s (List.mem_of_getElem? e)
  have lo := B.lo n s (Nat.lt_succ_self _) e
  have other : ∀ (t : Int × Int) (d : Int), t ∈ r → t.1 ≤ d → d < t.2 → day ≤ d → d ≤ s.2 → t = s := fun t d ht h1 h2 h3 h4 => by
    obtain ⟨j, hj, rfl⟩ := List.mem_iff_getElem.mp ht
    have ej := List.getElem?_eq_getElem hj
    rcases Nat.lt_trichotomy j n with h | h | h
    · have := get_lt J ej e h
      omega
    · subst h
      rw [e] at ej
      cases ej
      rfl
    · have := get_lt J e ej h
      omega
  by_cases c : s.2 > day
  · rw [if_pos c]
    refine ⟨by omega, fun ⟨t, ht, h1, h2⟩ => ?_, fun d h1 h2 => ⟨s, List.mem_of_getElem? e, by omega, h2⟩⟩
    have := other t s.2 ht h1 h2 (by omega) (Int.le_refl _)
    rw [this] at h2
    omega
  · rw [if_neg c]
    refine Free.here fun ⟨t, ht, h1, h2⟩ => ?_
    obtain ⟨j, hj, rfl⟩ := List.mem_iff_getElem.mp ht
    have ej := List.getElem?_eq_getElem hj
    rcases Nat.lt_trichotomy j n with h | h | h
    · have := get_lt J ej e h
      omega
    · subst h
      rw [e] at ej
      cases ej
      omega
    · have := B.hi j _ h ej
      omega
/-! ### how many days stand still -/
def ind (l : Sp) (d : Int) : Int := if isIn l d then 1 else 0
def many (l : Sp) (a b : Int) : Int := sum (ind l) a b
def part (a b : Int) (s : Int × Int) : Int := if (if b < s.2 then b else s.2) - (if a > s.1 then a else s.1) > 0 then (if b < s.2 then b else s.2) - (if a > s.1 then a else s.1) else 0
end Stills
namespace Stills
open Spans Sums
/-! ### joined spans are no more than the spans -/
theorem nodup_sub_len : ∀ (a b : List Int), a.Nodup → (∀ x ∈ a, x ∈ b) → a.length ≤ b.length
  | [], b, _, _ => Nat.zero_le _
  | x :: a, b, nd, h => by
    have hx := h x (List.mem_cons_self ..)
    have n := List.nodup_cons.mp nd
    have := nodup_sub_len a (b.erase x) n.2 fun y hy => by
      have ne : y ≠ x := fun e => n.1 (e ▸ hy)
      exact (List.mem_erase_of_ne ne).mpr (h y (List.mem_cons_of_mem _ hy))
    rw [List.length_erase_of_mem hx] at this
    have p : 0 < b.length := List.length_pos_of_mem hx
    show a.length + 1 ≤ b.length
    omega
theorem joined_le {r l : Sp} (J : Joined r) (C : ∀ d, Cov r d ↔ Cov l d) : r.length ≤ l.length := by
  have nd : (r.map (·.1)).Nodup := by
    unfold List.Nodup
    rw [List.pairwise_map]
    refine (List.Pairwise.and_mem.mp J.apart).imp fun {s t} h => ?_
    have := J.up s h.1
    have := h.2.2
    omega
  have := nodup_sub_len (r.map (·.1)) (l.map (·.1)) nd fun x hx => by
    obtain ⟨s, hs, rfl⟩ := List.mem_map.mp hx
    obtain ⟨t, ht, h1, h2⟩ := (C s.1).mp ⟨s, hs, Int.le_refl _, J.up s hs⟩
    have no : ¬ Cov r (s.1 - 1) := by
      rintro ⟨u, hu, q1, q2⟩
      obtain ⟨i, hi, rfl⟩ := List.mem_iff_getElem.mp hs
      obtain ⟨j, hj, rfl⟩ := List.mem_iff_getElem.mp hu
      have ui := J.up _ (List.getElem_mem hi)
      rcases Nat.lt_trichotomy i j with h | h | h
      · have := get_lt J (List.getElem?_eq_getElem hi) (List.getElem?_eq_getElem hj) h
        omega
      · subst h
        omega
      · have := get_lt J (List.getElem?_eq_getElem hj) (List.getElem?_eq_getElem hi) h
        omega
    have e : t.1 = s.1 := by
      by_cases lt : t.1 < s.1
      · exact absurd ((C _).mpr ⟨t, ht, by omega, by omega⟩) no
      · omega
    exact List.mem_map.mpr ⟨t, ht, e⟩
  simpa using this
end Stills
namespace Stills
open Spans Sums
theorem get_up {l : Sp} (up : l.Pairwise fun s t => s.1 < t.1) {i j : Nat} {s t : Int × Int} (hi : l[i]? = some s) (hj : l[j]? = some t) (lt : i < j) : s.1 < t.1 := by
  obtain ⟨h1, rfl⟩ := List.getElem?_eq_some_iff.mp hi
  obtain ⟨h2, rfl⟩ := List.getElem?_eq_some_iff.mp hj
  exact List.pairwise_iff_getElem.mp up i j h1 h2 lt
theorem firsts_up {l : Sp} (J : Joined l) : l.Pairwise fun s t => s.1 < t.1 := by
  refine (List.Pairwise.and_mem.mp J.apart).imp fun {s t} h => ?_
  have := J.up s h.1
  have := h.2.2
  omega
/-! ### the edges between a and b, both among them -/
structure Rise (l : Sp) (a b : Int) (ns : List Int) : Prop where
  ab : a ≤ b
  up : ns.Pairwise (· < ·)
  mem : ∀ d, d ∈ ns ↔ d = a ∨ d = b ∨ ((a < d ∧ d < b) ∧ ∃ s ∈ l, d = s.1 ∨ d = s.2)
theorem lt_at {ns : List Int} (up : ns.Pairwise (· < ·)) {i j : Nat} {x y : Int} (hi : ns[i]? = some x) (hj : ns[j]? = some y) (lt : i < j) : x < y := by
  obtain ⟨h1, rfl⟩ := List.getElem?_eq_some_iff.mp hi
  obtain ⟨h2, rfl⟩ := List.getElem?_eq_some_iff.mp hj
  exact List.pairwise_iff_getElem.mp up i j h1 h2 lt
theorem Rise.in_ {l : Sp} {a b : Int} {ns : List Int} (R : Rise l a b ns) {d : Int} (h : d ∈ ns) : a ≤ d ∧ d ≤ b := by
  have := R.ab
  rcases (R.mem d).mp h with rfl | rfl | ⟨h, _⟩ <;> omega
theorem Rise.first {l : Sp} {a b : Int} {ns : List Int} (R : Rise l a b ns) : ns[0]? = some a := by
  obtain ⟨j, hj, ej⟩ := List.mem_iff_getElem.mp ((R.mem a).mpr (.inl rfl))
  have e0 := List.getElem?_eq_getElem (show 0 < ns.length by omega)
  rcases Nat.eq_zero_or_pos j with rfl | p
  · rw [e0, ej]
  · have := lt_at R.up e0 (by rw [List.getElem?_eq_getElem hj, ej]) p
    have := (R.in_ (List.mem_of_getElem? e0)).1
    omega
theorem Rise.last {l : Sp} {a b : Int} {ns : List Int} (R : Rise l a b ns) {i : Nat} {x : Int} (e : ns[i]? = some x) (no : ns.length = i + 1) : x = b := by
  obtain ⟨j, hj, ej⟩ := List.mem_iff_getElem.mp ((R.mem b).mpr (.inr (.inl rfl)))
  by_cases c : j = i
  · subst c
    rw [List.getElem?_eq_getElem hj, ej] at e
    exact (Option.some.inj e).symm
  · have := lt_at R.up (show ns[j]? = some b by rw [List.getElem?_eq_getElem hj, ej]) e (by omega)
    have := (R.in_ (List.mem_of_getElem? e)).2
    omega
theorem Rise.step {l : Sp} {a b : Int} {ns : List Int} (R : Rise l a b ns) {i : Nat} {x y : Int} (ex : ns[i]? = some x) (ey : ns[i + 1]? = some y) : (x < y ∧ a ≤ x ∧ y ≤ b) ∧ ∀ s ∈ l, ∀ d, x < d → d < y → d ≠ s.1 ∧ d ≠ s.2 := by
  have bx := R.in_ (List.mem_of_getElem? ex)
  have by_ := R.in_ (List.mem_of_getElem? ey)
  refine ⟨⟨lt_at R.up ex ey (Nat.lt_succ_self _), bx.1, by_.2⟩, fun s hs d h1 h2 => ?_⟩
  have no : d ∉ ns := fun z => by
    obtain ⟨j, hj, ej⟩ := List.mem_iff_getElem.mp z
    have e := (List.getElem?_eq_getElem hj).trans (congrArg some ej)
    rcases Nat.lt_trichotomy j i with c | c | c
    · have := lt_at R.up e ex c
      omega
    · subst c
      rw [ex] at e
      cases e
      omega
    · rcases Nat.lt_or_ge (i + 1) j with c2 | c2
      · have := lt_at R.up ey e c2
        omega
      · have : j = i + 1 := by omega
        subst this
        rw [ey] at e
        cases e
        omega
  refine ⟨fun z => no ((R.mem d).mpr (.inr (.inr ⟨⟨by omega, by omega⟩, s, hs, .inl z⟩))), fun z => no ((R.mem d).mpr (.inr (.inr ⟨⟨by omega, by omega⟩, s, hs, .inr z⟩)))⟩
end Stills
namespace Stills
open Spans Sums
theorem isIn_cov {r l : Sp} (h : ∀ d, Cov r d ↔ Cov l d) (d : Int) : isIn r d = isIn l d := by
  by_cases c : Cov r d
  · rw [isIn_iff.mpr c, isIn_iff.mpr ((h d).mp c)]
  · rw [isIn_not c, isIn_not fun z => c ((h d).mpr z)]
end Stills
namespace Stills
open Spans Sums
theorem val_none {t : Sp} {d : Int} (t0 : ∀ s ∈ t, 0 ≤ s.1) (B : Begun t d 0) : valOf t d = 0 := by
  refine Val.one (valOf_ok t0 d) (.inl ⟨rfl, fun r hr => ?_⟩)
  obtain ⟨j, hj, rfl⟩ := List.mem_iff_getElem.mp hr
  exact B.hi j _ (Nat.zero_le _) (List.getElem?_eq_getElem hj)
theorem val_some {t : Sp} {d : Int} (t0 : ∀ s ∈ t, 0 ≤ s.1) (up : t.Pairwise fun s u => s.1 < u.1) {n : Nat} {s : Int × Int} (B : Begun t d (n + 1)) (e : t[n]? = some s) : valOf t d = s.2 := by
  refine Val.one (valOf_ok t0 d) (.inr ⟨n, s.1, e, B.lo n s (Nat.lt_succ_self _) e, fun j r hj le => ?_⟩)
  rcases Nat.lt_trichotomy j n with h | h | h
  · exact .inl (get_up up hj e h)
  · subst h
    rw [e] at hj
    cases hj
    exact .inr ⟨rfl, Nat.le_refl _⟩
  · have := B.hi j r h hj
    omega
/-! ### charges -/
def chg (U : Int → Int) (t l : Sp) (a b : Int) : Int := sum (fun d => (U (d + 1) - U d) * (if isIn l d then 0 else valOf t d)) a b
/-- a stretch on which nothing changes -/
theorem chg_stretch {U : Int → Int} {t l : Sp} {x y : Int} (xy : x ≤ y) (ht : ∀ s ∈ t, ¬ (x < s.1 ∧ s.1 < y)) (hl : ∀ s ∈ l, ∀ d, x < d → d < y → d ≠ s.1 ∧ d ≠ s.2) :
    chg U t l x y = (U y - U x) * (if isIn l x then 0 else valOf t x) := by
  refine sum_part xy fun d h1 h2 => ?_
  rw [← in_same (l := l) (r := l) (fun _ => Iff.rfl) h1 fun s hs e q1 q2 => hl s hs e q1 (by omega), ← val_same (t := t) h1 fun s hs q => ht s hs ⟨q.1, by omega⟩]
theorem chg_add {U : Int → Int} {t l : Sp} {a b c : Int} (h1 : a ≤ c) (h2 : c ≤ b) : chg U t l a b = chg U t l a c + chg U t l c b := sum_add h1 h2
theorem chg_le {U : Int → Int} {t l : Sp} {a b : Int} (h : b ≤ a) : chg U t l a b = 0 := sum_le h
end Stills
namespace Stills
open Spans Sums
/-- a, the breaks between, and b -/
theorem rise_breaks {t l : Sp} {a b : Int} {ns : List Int} (ab : a < b) (up : ns.Pairwise (· < ·)) (mem : ∀ d, d ∈ ns ↔ (a < d ∧ d < b) ∧ ((∃ s ∈ t, d = s.1) ∨ ∃ s ∈ l, d = s.1 ∨ d = s.2)) : Rise (l ++ t.map fun s => (s.1, s.1)) a b (a :: (ns ++ [b])) := by
  refine ⟨Int.le_of_lt ab, ?_, fun d => ?_⟩
  · refine List.pairwise_cons.mpr ⟨fun d hd => ?_, List.pairwise_append.mpr ⟨up, List.pairwise_singleton _ _, fun d hd e he => ?_⟩⟩
    · rcases List.mem_append.mp hd with hd | hd
      · exact ((mem d).mp hd).1.1
      · have : d = b := by simpa using hd
        omega
    · have : e = b := by simpa using he
      have := ((mem d).mp hd).1.2
      omega
  · rw [List.mem_cons, List.mem_append, mem]
    constructor
    · rintro (h | ⟨h, ⟨s, hs, e⟩ | ⟨s, hs, e⟩⟩ | h)
      · exact .inl h
      · exact .inr (.inr ⟨h, (s.1, s.1), List.mem_append.mpr (.inr (List.mem_map.mpr ⟨s, hs, rfl⟩)), .inl e⟩)
      · exact .inr (.inr ⟨h, s, List.mem_append.mpr (.inl hs), e⟩)
      · exact .inr (.inl (by simpa using h))
    · rintro (h | h | ⟨h, s, hs, e⟩)
      · exact .inl h
      · exact .inr (.inr (by simpa using h))
      · rcases List.mem_append.mp hs with hs | hs
        · exact .inr (.inl ⟨h, .inr ⟨s, hs, e⟩⟩)
        · obtain ⟨u, hu, rfl⟩ := List.mem_map.mp hs
          exact .inr (.inl ⟨h, .inl ⟨u, hu, by rcases e with e | e <;> exact e⟩⟩)
end Stills
namespace Stills
end Stills
namespace Stills
open Spans Sums
/-- the table of the pairs -/
structure TabOf (t tb : Sp) : Prop where
  up : tb.Pairwise fun s u => s.1 < u.1
  val : ∀ d, valOf tb d = valOf t d
  days : ∀ d, (∃ s ∈ tb, d = s.1) ↔ ∃ s ∈ t, d = s.1
theorem TabOf.nn {t tb : Sp} (T : TabOf t tb) (t0 : ∀ s ∈ t, 0 ≤ s.1) : ∀ s ∈ tb, 0 ≤ s.1 := fun s hs => by
  obtain ⟨u, hu, e⟩ := (T.days s.1).mp ⟨s, hs, rfl⟩
  rw [e]
  exact t0 u hu
theorem tab_of {t : Sp} {ds : List Int} (t0 : ∀ s ∈ t, 0 ≤ s.1) (up : ds.Pairwise (· < ·)) (mem : ∀ d, d ∈ ds ↔ ∃ s ∈ t, d = s.1) : TabOf t (ds.map fun d => (d, valOf t d)) := by
  have d0 : ∀ s ∈ ds.map fun d => (d, valOf t d), 0 ≤ s.1 := fun s hs => by
    obtain ⟨d, hd, rfl⟩ := List.mem_map.mp hs
    obtain ⟨u, hu, e⟩ := (mem d).mp hd
    show 0 ≤ d
    rw [e]
    exact t0 u hu
  refine ⟨by rw [List.pairwise_map]; exact up, fun d => ?_, fun d => ?_⟩
  · refine Val.one (valOf_ok d0 d) ?_
    rcases valOf_ok t0 d with ⟨e, h⟩ | ⟨i, b, e, le, h⟩
    · rw [e]
      refine .inl ⟨rfl, fun r hr => ?_⟩
      obtain ⟨x, hx, rfl⟩ := List.mem_map.mp hr
      obtain ⟨u, hu, e'⟩ := (mem x).mp hx
      show d < x
      rw [e']
      exact h u hu
    · have hb : b ∈ ds := (mem b).mpr ⟨_, List.mem_of_getElem? e, rfl⟩
      obtain ⟨j, hj, ej⟩ := List.mem_iff_getElem.mp hb
      have vb : valOf t b = valOf t d := Val.one (valOf_ok t0 b) (.inr ⟨i, b, e, Int.le_refl _, fun k r hk hr => h k r hk (by omega)⟩)
      refine .inr ⟨j, b, ?_, le, fun k r hk hr => ?_⟩
      · rw [List.getElem?_map, List.getElem?_eq_getElem hj, ej]
        show some (b, valOf t b) = _
        rw [vb]
      · rw [List.getElem?_map] at hk
        obtain ⟨x, hx, rfl⟩ := Option.map_eq_some_iff.mp hk
        have ej' : ds[j]? = some b := by rw [List.getElem?_eq_getElem hj, ej]
        obtain ⟨u, hu, eu⟩ := (mem x).mp (List.mem_of_getElem? hx)
        obtain ⟨n, hn, en⟩ := List.mem_iff_getElem.mp hu
        have hxb : x ≤ b := by
          have := h n u (by rw [List.getElem?_eq_getElem hn, en]) (by rw [← eu]; exact hr)
          rw [← eu] at this
          omega
        rcases Nat.lt_trichotomy k j with c | c | c
        · exact .inl (lt_at up hx ej' c)
        · subst c
          rw [ej'] at hx
          cases hx
          exact .inr ⟨rfl, Nat.le_refl _⟩
        · have := lt_at up ej' hx c
          omega
  · constructor
    · rintro ⟨s, hs, rfl⟩
      obtain ⟨x, hx, rfl⟩ := List.mem_map.mp hs
      exact (mem x).mp hx
    · intro hd
      exact ⟨(d, valOf t d), List.mem_map.mpr ⟨d, (mem d).mpr hd, rfl⟩, rfl⟩
theorem chg_same {U : Int → Int} {t tb l r : Sp} (T : TabOf t tb) (C : ∀ d, Cov r d ↔ Cov l d) (a b : Int) : chg U tb r a b = chg U t l a b := sum_congr fun d _ _ => by
  show (U (d + 1) - U d) * (if isIn r d then 0 else valOf tb d) = (U (d + 1) - U d) * (if isIn l d then 0 else valOf t d)
  rw [isIn_cov C, T.val]
/-- a row more, behind all -/
theorem fold_le {d m : Int} : ∀ (t : Tab) (st : Int × Int), st.1 ≤ m → (∀ s ∈ t, s.1 ≤ m) → (t.foldl (vstep d) st).1 ≤ m
  | [], _, h, _ => h
  | r :: t, st, h, ht => by
    show (t.foldl (vstep d) (vstep d st r)).1 ≤ m
    refine fold_le t _ ?_ fun s hs => ht s (List.mem_cons_of_mem _ hs)
    unfold vstep
    split
    · exact ht r (List.mem_cons_self ..)
    · exact h
theorem val_push {t : Tab} {x : Int × Int} (x0 : -1 ≤ x.1) (h : ∀ s ∈ t, s.1 ≤ x.1) (d : Int) : valOf (t ++ [x]) d = if x.1 ≤ d then x.2 else valOf t d := by
  unfold valOf
  rw [List.foldl_append]
  show (vstep d (t.foldl (vstep d) (-1, 0)) x).2 = _
  have := fold_le (d := d) t (-1, 0) x0 h
  unfold vstep
  by_cases c : x.1 ≤ d
  · rw [if_pos ⟨this, c⟩, if_pos c]
  · rw [if_neg fun z => c z.2, if_neg c]
theorem TabOf.push {t tb : Sp} (T : TabOf t tb) {x : Int × Int} (x0 : -1 ≤ x.1) (h : ∀ s ∈ t, s.1 < x.1) : TabOf (t ++ [x]) (tb ++ [x]) := by
  have hb : ∀ s ∈ tb, s.1 < x.1 := fun s hs => by
    obtain ⟨u, hu, e⟩ := (T.days s.1).mp ⟨s, hs, rfl⟩
    rw [e]
    exact h u hu
  refine ⟨List.pairwise_append.mpr ⟨T.up, List.pairwise_singleton _ _, fun s hs u hu => ?_⟩, fun d => ?_, fun d => ?_⟩
  · have : u = x := by simpa using hu
    rw [this]
    exact hb s hs
  · rw [val_push x0 (fun s hs => Int.le_of_lt (hb s hs)), val_push x0 (fun s hs => Int.le_of_lt (h s hs)), T.val]
  · constructor
    · rintro ⟨s, hs, e⟩
      rcases List.mem_append.mp hs with hs | hs
      · obtain ⟨u, hu, e'⟩ := (T.days d).mp ⟨s, hs, e⟩
        exact ⟨u, List.mem_append.mpr (.inl hu), e'⟩
      · exact ⟨s, List.mem_append.mpr (.inr hs), e⟩
    · rintro ⟨s, hs, e⟩
      rcases List.mem_append.mp hs with hs | hs
      · obtain ⟨u, hu, e'⟩ := (T.days d).mpr ⟨s, hs, e⟩
        exact ⟨u, List.mem_append.mpr (.inl hu), e'⟩
      · exact ⟨s, List.mem_append.mpr (.inr hs), e⟩
end Stills
namespace Stills
open Spans Sums
theorem chg_edges {U : Int → Int} {t l : Sp} {a b : Int} {ns : List Int} (ab : a ≤ b) (up : ns.Pairwise (· < ·)) (mem : ∀ d, d ∈ ns ↔ (a < d ∧ d < b) ∧ ((∃ s ∈ t, d = s.1) ∨ ∃ s ∈ l, d = s.1 ∨ d = s.2)) {i : Nat} {x y : Int} (ex : (a :: (ns ++ [b]))[i]? = some x) (ey : (a :: (ns ++ [b]))[i + 1]? = some y) :
    (a ≤ x ∧ x ≤ y ∧ y ≤ b) ∧ chg U t l a y = chg U t l a x + (U y - U x) * (if isIn l x then 0 else valOf t x) := by
  by_cases lt : a < b
  · have R := rise_breaks lt up mem
    obtain ⟨⟨xy, ax, yb⟩, no⟩ := R.step ex ey
    refine ⟨⟨ax, Int.le_of_lt xy, yb⟩, ?_⟩
    rw [← chg_stretch (by omega) (fun s hs q => (no (s.1, s.1) (List.mem_append.mpr (.inr (List.mem_map.mpr ⟨s, hs, rfl⟩))) s.1 q.1 q.2).1 rfl) (fun s hs d q1 q2 => no s (List.mem_append.mpr (.inl hs)) d q1 q2)]
    exact chg_add ax (by omega)
  · have e : a = b := by omega
    subst e
    have n : ns = [] := by
      cases ns with
      | nil => rfl
      | cons d r => exact absurd ((mem d).mp (List.mem_cons_self ..)).1 (by omega)
    subst n
    have i0 : i = 0 := by
      have := (List.getElem?_eq_some_iff.mp ey).1
      simp at this
      omega
    subst i0
    cases ex
    cases ey
    refine ⟨by omega, ?_⟩
    rw [Int.sub_self, Int.zero_mul, Int.add_zero]
theorem edges_last {a b : Int} {ns : List Int} : (a :: (ns ++ [b]))[ns.length + 1]? = some b := by
  rw [List.getElem?_cons_succ, List.getElem?_append_right (Nat.le_refl _), Nat.sub_self]
  rfl
theorem val_nn {t : Sp} (t0 : ∀ s ∈ t, 0 ≤ s.1) (v0 : ∀ s ∈ t, 0 ≤ s.2) (d : Int) : 0 ≤ valOf t d := by
  rcases valOf_ok t0 d with ⟨e, _⟩ | ⟨i, b, e, _⟩
  · rw [e]; exact Int.le_refl _
  · exact v0 (b, valOf t d) (List.mem_of_getElem? e)
theorem chg_nn {U : Int → Int} {t l : Sp} {a b : Int} (a0 : 0 ≤ a) (up : ∀ d, 0 ≤ d → U d ≤ U (d + 1)) (t0 : ∀ s ∈ t, 0 ≤ s.1) (v0 : ∀ s ∈ t, 0 ≤ s.2) : 0 ≤ chg U t l a b := sum_nonneg fun d h1 h2 => by
  have := up d (by omega)
  refine Int.mul_nonneg (by omega) ?_
  split
  · exact Int.le_refl _
  · exact val_nn t0 v0 d
end Stills
namespace Stills
theorem le_at {cs : List Int} (up : cs.Pairwise (· ≤ ·)) {i j : Nat} {x y : Int} (hi : cs[i]? = some x) (hj : cs[j]? = some y) (le : i ≤ j) : x ≤ y := by
  rcases Nat.eq_or_lt_of_le le with e | lt
  · subst e
    rw [hi] at hj
    cases hj
    exact Int.le_refl _
  · obtain ⟨h1, rfl⟩ := List.getElem?_eq_some_iff.mp hi
    obtain ⟨h2, rfl⟩ := List.getElem?_eq_some_iff.mp hj
    exact List.pairwise_iff_getElem.mp up i j h1 h2 lt
end Stills
namespace Cal
def leap (y : Int) : Bool := decide (y % 4 = 0) && (!decide (y % 100 = 0) || decide (y % 400 = 0))
def lp (y : Int) : Int := if leap y = true then 1 else 0
def mlen (y m : Int) : Int := if m = 2 then 28 + lp y else 31 - (m - 1) % 7 % 2
def ny (y : Int) : Int := 365 * (y - 2000) + (y - 2000 + 3) / 4 - (y - 2000 + 99) / 100 + (y - 2000 + 399) / 400
def cum (y m : Int) : Int :=
  if m = 1 then 0 else if m = 2 then 31 else
  lp y + (if m = 3 then 59 else if m = 4 then 90 else if m = 5 then 120 else if m = 6 then 151 else if m = 7 then 181 else if m = 8 then 212
    else if m = 9 then 243 else if m = 10 then 273 else if m = 11 then 304 else 334)
def num (y m d : Int) : Int := ny y + cum y m + d - 1
structure IsDate (y m d : Int) : Prop where
  m1 : 1 ≤ m
  m2 : m ≤ 12
  d1 : 1 ≤ d
  d2 : d ≤ mlen y m

theorem lp_iff (y : Int) : (lp y = 1 ∧ y % 4 = 0 ∧ (y % 100 ≠ 0 ∨ y % 400 = 0)) ∨ (lp y = 0 ∧ (y % 4 ≠ 0 ∨ (y % 100 = 0 ∧ y % 400 ≠ 0))) := by
  unfold lp leap
  by_cases h1 : y % 4 = 0 <;> by_cases h2 : y % 100 = 0 <;> by_cases h3 : y % 400 = 0 <;> simp [h1, h2, h3]
theorem lp_01 (y : Int) : 0 ≤ lp y ∧ lp y ≤ 1 := by
  rcases lp_iff y with h | h <;> omega
theorem ny_succ (y : Int) : ny (y + 1) = ny y + 365 + lp y := by
  unfold ny
  rcases lp_iff y with h | h <;> omega
theorem cum_succ {y m : Int} (h1 : 1 ≤ m) (h2 : m ≤ 11) : cum y (m + 1) = cum y m + mlen y m := by
  have h : m = 1 ∨ m = 2 ∨ m = 3 ∨ m = 4 ∨ m = 5 ∨ m = 6 ∨ m = 7 ∨ m = 8 ∨ m = 9 ∨ m = 10 ∨ m = 11 := by omega
  rcases h with rfl | rfl | rfl | rfl | rfl | rfl | rfl | rfl | rfl | rfl | rfl <;> simp [cum, mlen] <;> omega
theorem mlen_in {y m : Int} (h1 : 1 ≤ m) (h2 : m ≤ 12) : 28 ≤ mlen y m ∧ mlen y m ≤ 31 := by
  have h : m = 1 ∨ m = 2 ∨ m = 3 ∨ m = 4 ∨ m = 5 ∨ m = 6 ∨ m = 7 ∨ m = 8 ∨ m = 9 ∨ m = 10 ∨ m = 11 ∨ m = 12 := by omega
  have := lp_01 y
  rcases h with rfl | rfl | rfl | rfl | rfl | rfl | rfl | rfl | rfl | rfl | rfl | rfl <;> simp [mlen] <;> omega
theorem cum_in {y m : Int} (h1 : 1 ≤ m) (h2 : m ≤ 12) : 0 ≤ cum y m ∧ cum y m + mlen y m ≤ 365 + lp y := by
  have h : m = 1 ∨ m = 2 ∨ m = 3 ∨ m = 4 ∨ m = 5 ∨ m = 6 ∨ m = 7 ∨ m = 8 ∨ m = 9 ∨ m = 10 ∨ m = 11 ∨ m = 12 := by omega
  have := lp_01 y
  rcases h with rfl | rfl | rfl | rfl | rfl | rfl | rfl | rfl | rfl | rfl | rfl | rfl <;> simp [mlen, cum] <;> omega
theorem cum_12 (y : Int) : cum y 12 + mlen y 12 = 365 + lp y := by
  simp [mlen, cum]; omega
/-- by the month's index -/
def ms (M : Int) : Int := ny (M / 12) + cum (M / 12) (M % 12 + 1)
def ml (M : Int) : Int := mlen (M / 12) (M % 12 + 1)
theorem ml_in (M : Int) : 28 ≤ ml M ∧ ml M ≤ 31 := mlen_in (by omega) (by omega)
theorem ms_succ (M : Int) : ms (M + 1) = ms M + ml M := by
  unfold ms ml
  by_cases h : M % 12 = 11
  · have e1 : (M + 1) / 12 = M / 12 + 1 := by omega
    have e2 : (M + 1) % 12 = 0 := by omega
    rw [e1, e2, h, ny_succ]
    have := cum_12 (M / 12)
    simp only [show (11 : Int) + 1 = 12 by rfl]
    have e3 : cum (M / 12 + 1) (0 + 1) = 0 := by simp [cum]
    omega
  · have e1 : (M + 1) / 12 = M / 12 := by omega
    have e2 : (M + 1) % 12 = M % 12 + 1 := by omega
    rw [e1, e2, cum_succ (by omega) (by omega)]
    omega
theorem ms_add (M : Int) : ∀ k : Nat, ms M + k ≤ ms (M + k)
  | 0 => by simp
  | k + 1 => by
    have h := ms_add M k
    have h2 := ms_succ (M + k)
    have h3 := ml_in (M + k)
    have e : M + ((k + 1 : Nat) : Int) = M + k + 1 := by omega
    rw [e, h2]; omega
theorem ms_mono {M N : Int} (h : M ≤ N) : ms M + (N - M) ≤ ms N := by
  have := ms_add M (N - M).toNat
  have e : M + ((N - M).toNat : Int) = N := by omega
  rw [e] at this; omega
theorem ms_lt {M N : Int} (h : M < N) : ms M + ml M ≤ ms N := by
  have := ms_mono (show M + 1 ≤ N by omega)
  rw [ms_succ] at this; omega
theorem num_ms {y m d : Int} (h1 : 1 ≤ m) (h2 : m ≤ 12) : num y m d = ms (12 * y + m - 1) + d - 1 := by
  unfold num ms
  rw [show (12 * y + m - 1) / 12 = y by omega, show (12 * y + m - 1) % 12 + 1 = m by omega]
theorem ml_y {y m : Int} (h1 : 1 ≤ m) (h2 : m ≤ 12) : ml (12 * y + m - 1) = mlen y m := by
  unfold ml
  rw [show (12 * y + m - 1) / 12 = y by omega, show (12 * y + m - 1) % 12 + 1 = m by omega]
/-- one date a day -/
theorem date_inj {y m d y' m' d' : Int} (h : IsDate y m d) (h' : IsDate y' m' d') (e : num y m d = num y' m' d') : y = y' ∧ m = m' ∧ d = d' := by
  obtain ⟨a, b, c, f⟩ := h
  obtain ⟨a', b', c', f'⟩ := h'
  rw [num_ms a b, num_ms a' b'] at e
  rw [← ml_y a b] at f
  rw [← ml_y a' b'] at f'
  have h1 : ¬ (12 * y + m - 1 < 12 * y' + m' - 1) := fun q => by have := ms_lt q; omega
  have h2 : ¬ (12 * y' + m' - 1 < 12 * y + m - 1) := fun q => by have := ms_lt q; omega
  have h3 : 12 * y + m - 1 = 12 * y' + m' - 1 := by omega
  rw [h3] at e
  omega
theorem ny_add (y : Int) : ∀ k : Nat, ny y + 365 * k ≤ ny (y + k)
  | 0 => by simp
  | k + 1 => by
    have h := ny_add y k
    have h2 := ny_succ (y + k)
    have h3 := lp_01 (y + k)
    have e : y + ((k + 1 : Nat) : Int) = y + k + 1 := by omega
    rw [e, h2]; omega
theorem ny_mono {y z : Int} (h : y ≤ z) : ny y + 365 * (z - y) ≤ ny z := by
  have := ny_add y (z - y).toNat
  have e : y + ((z - y).toNat : Int) = z := by omega
  rw [e] at this; omega
theorem ny_0 : ny 2000 = 0 := by decide
theorem year_of_nn {y m d : Int} (h : IsDate y m d) (h0 : 0 ≤ num y m d) : 2000 ≤ y := by
  have hc := @cum_in y m h.m1 h.m2
  have := h.d2
  have h1 := ny_succ y
  have h2 := ny_0
  by_cases q : 2000 ≤ y
  · exact q
  · have := ny_mono (show y + 1 ≤ 2000 by omega)
    unfold num at h0
    omega
theorem year_guess {d : Int} : ny (2000 + d * 400 / 146097 - 1) ≤ d := by
  unfold ny; omega
/-- months between: the end's month by its index, less one where the day is not reached -/
theorem between {y1 m1 d1 y2 m2 d2 k : Int} (h1 : IsDate y1 m1 d1) (h2 : IsDate y2 m2 d2) (le : num y1 m1 d1 ≤ num y2 m2 d2)
    (hk : k = if (if mlen y2 m2 < d1 then mlen y2 m2 else d1) > d2 then 12 * (y2 - y1) + m2 - m1 - 1 else 12 * (y2 - y1) + m2 - m1) :
    0 ≤ k ∧ ∀ (P P' L L' : Int), P = 12 * y1 + m1 - 1 + k → P' = P + 1 → (L = if ml P < d1 then ml P else d1) → (L' = if ml P' < d1 then ml P' else d1) →
      ms P + L - 1 ≤ num y2 m2 d2 ∧ num y2 m2 d2 < ms P' + L' - 1 := by
  obtain ⟨a1, b1, c1, e1⟩ := h1
  obtain ⟨a2, b2, c2, e2⟩ := h2
  rw [num_ms a1 b1, num_ms a2 b2] at le
  rw [num_ms a2 b2]
  rw [← ml_y a1 b1] at e1
  rw [← ml_y a2 b2] at e2 hk
  generalize hM1 : 12 * y1 + m1 - 1 = M1 at *
  generalize hM2 : 12 * y2 + m2 - 1 = M2 at *
  have hk' : k = if (if ml M2 < d1 then ml M2 else d1) > d2 then M2 - M1 - 1 else M2 - M1 := by
    rw [hk]; split <;> omega
  have hle : M1 ≤ M2 := by
    by_cases q : M1 ≤ M2
    · exact q
    · have := ms_lt (show M2 < M1 by omega); omega
  have g : M1 < M2 ∨ M1 = M2 := by omega
  have b2' := ml_in M2
  constructor
  · rcases g with g | g
    · rw [hk']; split <;> omega
    · subst g
      rw [hk', if_neg]
      · omega
      · split <;> omega
  · intro P P' L L' hP hP' hL hL'
    have bP := ml_in P
    have bP' := ml_in P'
    have hL1 : 1 ≤ L ∧ L ≤ ml P := by rw [hL]; split <;> omega
    have hL1' : 1 ≤ L' ∧ L' ≤ ml P' := by rw [hL']; split <;> omega
    by_cases q : (if ml M2 < d1 then ml M2 else d1) > d2
    · rw [if_pos q] at hk'
      have eP : P = M2 - 1 := by omega
      have eP' : P' = M2 := by omega
      have := ms_lt (show P < M2 by omega)
      rw [eP'] at hL' ⊢
      constructor
      · omega
      · rw [hL']; omega
    · rw [if_neg q] at hk'
      have eP : P = M2 := by omega
      have eP' : P' = M2 + 1 := by omega
      have := ms_lt (show M2 < P' by omega)
      rw [eP] at hL ⊢
      constructor
      · rw [hL]; omega
      · omega
/-- every day has a date -/
theorem date_next {y m r : Int} (D : IsDate y m r) : ∃ y' m' r', IsDate y' m' r' ∧ num y' m' r' = num y m r + 1 := by
  obtain ⟨a, b, c, d⟩ := D
  have l1 := @mlen_in (y + 1) 1 (by decide) (by decide)
  by_cases h : r < mlen y m
  · exact ⟨y, m, r + 1, ⟨a, b, by omega, by omega⟩, by unfold num; omega⟩
  · by_cases h2 : m ≤ 11
    · have cs := @cum_succ y m a h2
      have l2 := @mlen_in y (m + 1) (by omega) (by omega)
      exact ⟨y, m + 1, 1, ⟨by omega, by omega, by omega, by omega⟩, by unfold num; omega⟩
    · have e : m = 12 := by omega
      subst e
      have c12 := cum_12 y
      have n1 := ny_succ y
      have c1 : cum (y + 1) 1 = 0 := by simp [cum]
      exact ⟨y + 1, 1, 1, ⟨by omega, by omega, by omega, by omega⟩, by unfold num; omega⟩
theorem date_exN : ∀ n : Nat, ∃ y m r, IsDate y m r ∧ num y m r = n
  | 0 => ⟨2000, 1, 1, ⟨by decide, by decide, by decide, by decide⟩, by decide⟩
  | n + 1 => by
    obtain ⟨y, m, r, D, e⟩ := date_exN n
    obtain ⟨y', m', r', D', e'⟩ := date_next D
    exact ⟨y', m', r', D', by omega⟩
theorem date_ex {d : Int} (h : 0 ≤ d) : ∃ y m r, IsDate y m r ∧ num y m r = d := by
  obtain ⟨y, m, r, D, e⟩ := date_exN d.toNat
  exact ⟨y, m, r, D, by omega⟩
end Cal
/-! What stands up to a day by months of 30 days, and exact. No Python here. -/
namespace Cnt
open Cal
def RelT (d u : Int) : Prop := ∃ y m r, IsDate y m r ∧ num y m r = d ∧ u = 30 * (12 * (y - 2000) + m - 1) + (if 30 < r then 30 else r) - 1
def each (y : Int) : Int := if leap y = true then 365 else 366
def RelE (d u : Int) : Prop := ∃ y, ny y ≤ d ∧ d < ny (y + 1) ∧ u = 365 * 366 * (y - 2000) + each y * (d - ny y)
theorem RelT.one {d u v : Int} (a : RelT d u) (b : RelT d v) : u = v := by
  obtain ⟨y, m, r, D, e, rfl⟩ := a
  obtain ⟨y', m', r', D', e', rfl⟩ := b
  obtain ⟨rfl, rfl, rfl⟩ := date_inj D D' (e.trans e'.symm)
  rfl
theorem year_one {d y z : Int} (h1 : ny y ≤ d) (h2 : d < ny (y + 1)) (h3 : ny z ≤ d) (h4 : d < ny (z + 1)) : y = z := by
  rcases Int.lt_trichotomy y z with h | h | h
  · have := ny_mono (show y + 1 ≤ z by omega)
    omega
  · exact h
  · have := ny_mono (show z + 1 ≤ y by omega)
    omega
theorem RelE.one {d u v : Int} (a : RelE d u) (b : RelE d v) : u = v := by
  obtain ⟨y, h1, h2, rfl⟩ := a
  obtain ⟨z, h3, h4, rfl⟩ := b
  obtain rfl := year_one h1 h2 h3 h4
  rfl
noncomputable def UT (d : Int) : Int := Classical.epsilon fun u => RelT d u
noncomputable def UE (d : Int) : Int := Classical.epsilon fun u => RelE d u
theorem UT_eq {d u : Int} (h : RelT d u) : UT d = u := RelT.one (Classical.epsilon_spec (p := fun u => RelT d u) ⟨u, h⟩) h
theorem UE_eq {d u : Int} (h : RelE d u) : UE d = u := RelE.one (Classical.epsilon_spec (p := fun u => RelE d u) ⟨u, h⟩) h
theorem year_ex {d : Int} (h : 0 ≤ d) : ∃ y, 2000 ≤ y ∧ ny y ≤ d ∧ d < ny (y + 1) := by
  obtain ⟨y, m, r, D, e⟩ := date_ex h
  have c := cum_in (y := y) D.m1 D.m2
  have s := ny_succ y
  have r1 := D.d1
  have r2 := D.d2
  refine ⟨y, year_of_nn D (by omega), ?_, ?_⟩
  · unfold num at e; omega
  · unfold num at e; omega
theorem UT_mono {a b : Int} (h0 : 0 ≤ a) (ab : a ≤ b) : UT a ≤ UT b := by
  obtain ⟨y, m, r, D, e⟩ := date_ex h0
  obtain ⟨y', m', r', D', e'⟩ := date_ex (show 0 ≤ b by omega)
  rw [UT_eq ⟨y, m, r, D, e, rfl⟩, UT_eq ⟨y', m', r', D', e', rfl⟩]
  rw [num_ms D.m1 D.m2] at e
  rw [num_ms D'.m1 D'.m2] at e'
  have l := ml_y (y := y) D.m1 D.m2
  have l' := ml_y (y := y') D'.m1 D'.m2
  have d1 := D.d1
  have d2 := D.d2
  have d1' := D'.d1
  have d2' := D'.d2
  rcases Int.lt_trichotomy (12 * y + m - 1) (12 * y' + m' - 1) with h | h | h
  · split <;> split <;> omega
  · rw [h] at e
    split <;> split <;> omega
  · have := ms_lt h
    omega
theorem each_in (y : Int) : (each y = 365 ∧ lp y = 1) ∨ (each y = 366 ∧ lp y = 0) := by
  unfold each lp
  split
  · exact .inl ⟨rfl, rfl⟩
  · exact .inr ⟨rfl, rfl⟩
theorem UE_mono {a b : Int} (h0 : 0 ≤ a) (ab : a ≤ b) : UE a ≤ UE b := by
  obtain ⟨y, y0, h1, h2⟩ := year_ex h0
  obtain ⟨z, z0, h3, h4⟩ := year_ex (show 0 ≤ b by omega)
  rw [UE_eq ⟨y, h1, h2, rfl⟩, UE_eq ⟨z, h3, h4, rfl⟩]
  have s := ny_succ y
  rcases Int.lt_trichotomy y z with h | h | h
  · rcases each_in y with ⟨e, l⟩ | ⟨e, l⟩ <;> rcases each_in z with ⟨e', l'⟩ | ⟨e', l'⟩ <;> rw [e, e'] <;> omega
  · subst h
    rcases each_in y with ⟨e, l⟩ | ⟨e, l⟩ <;> rw [e] <;> omega
  · have := ny_mono (show z + 1 ≤ y by omega)
    omega
end Cnt
namespace Cnt
open Cal
theorem year_in {d y : Int} (h1 : d ≤ 1000000) (h2 : ny y ≤ d) : y ≤ 4740 := by
  by_cases c : y ≤ 4740
  · exact c
  · have := ny_mono (show (2000 : Int) ≤ y by omega)
    rw [ny_0] at this
    omega
theorem UT_in {d : Int} (h0 : 0 ≤ d) (h1 : d ≤ 1000000) : -1 ≤ UT d ∧ UT d ≤ 1000000000 := by
  obtain ⟨y, m, r, D, e⟩ := date_ex h0
  have y0 := year_of_nn D (by omega)
  have m1 := D.m1
  have m2 := D.m2
  have d1 := D.d1
  have c := cum_in (y := y) m1 m2
  have y1 : y ≤ 4740 := year_in h1 (by unfold num at e; omega)
  rw [UT_eq ⟨y, m, r, D, e, rfl⟩]
  split <;> omega
theorem UE_in {d : Int} (h0 : 0 ≤ d) (h1 : d ≤ 1000000) : -1 ≤ UE d ∧ UE d ≤ 1000000000 := by
  obtain ⟨y, y0, q1, q2⟩ := year_ex h0
  have y1 := year_in h1 q1
  have s := ny_succ y
  have l := lp_01 y
  rw [UE_eq ⟨y, q1, q2, rfl⟩]
  rcases each_in y with ⟨e, _⟩ | ⟨e, _⟩ <;> rw [e] <;> omega
end Cnt
namespace Cnt
open Cal
end Cnt
/-! the reading, step by step -/
theorem L2.qb {Q : L2.VK} {H : L2.Hp} {a b : Bool} (h : Q (.bl a) H) (e : a = b) : Q (.bl b) H := e ▸ h
theorem L2.qi {Q : L2.VK} {H : L2.Hp} {a b : Int} (h : Q (.int a) H) (e : a = b) : Q (.int b) H := e ▸ h
local macro_rules | `(tactic| walk_at "cap") => `(tactic| repeat (first | exact trivial | refine ⟨⟨by first | exact Or.inl rfl | exact Or.inr rfl, by first | exact Or.inl rfl | exact Or.inr rfl, rfl⟩, ?_⟩))
local macro_rules | `(tactic| walk_at "sub") => `(tactic| repeat (first | exact trivial | refine ⟨rfl, ?_⟩))
local macro_rules | `(tactic| walk_at "has") => `(tactic| repeat (first | exact trivial | refine ⟨fun _ => ⟨_, rfl⟩, ?_⟩ | refine ⟨(fun z => by (rcases z with z | z <;> first | cases (show PySem.NameKind.local = PySem.NameKind.cell from z) | cases (show PySem.NameKind.local = PySem.NameKind.free from z) | cases (show PySem.NameKind.globalImplicit = PySem.NameKind.cell from z) | cases (show PySem.NameKind.globalImplicit = PySem.NameKind.free from z))), ?_⟩))
local macro_rules | `(tactic| walk_at "rd1") => `(tactic| first
  | with_reducible refine L2.iteT ?_
  | with_reducible refine L2.iteF ?_
  | refine ⟨_, rfl, ?_⟩
  | refine ⟨_, _, rfl, rfl, ?_⟩
  | refine ⟨_, _, rfl, ?_⟩
  | refine ⟨_, _, _, rfl, ?_⟩
  | refine ⟨rfl, ?_⟩
  | refine ⟨(⟨by decide, by decide⟩ : L2.CDiv _ _), ?_⟩
  | refine ⟨(show (0 : Int) < _ by first | decide | omega), ?_⟩
  | refine ⟨(⟨by decide, by decide, by decide⟩ : L2.CPow _ _), ?_⟩
  | refine ⟨(Or.inl ⟨by first | decide | omega, by first | decide | omega⟩ : L2.CMul _ _), ?_⟩
  | refine ⟨(Or.inr ⟨by first | decide | omega, by first | decide | omega⟩ : L2.CMul _ _), ?_⟩
  | refine ⟨_, _, rfl, .inl (by assumption), ?_⟩
  | refine ⟨_, _, _, _, rfl, rfl, L2.SqT.of (by assumption), rfl, ?_⟩
  | (refine ⟨_, _, _, _, rfl, (by assumption), (by first | omega | decide), (by first | omega | decide), (by first | omega | decide), ?_⟩; intro r' r0' r1')
  | (refine ⟨_, _, _, rfl, (by assumption), (by omega), (by omega), ?_⟩; intro r' r0' r1')
  | refine And.intro (by omega) ?_
  | refine And.intro (Nat.le_of_ble_eq_true rfl) ?_
  | with_reducible refine L2.iteNF ?_
  | with_reducible refine L2.iteNT ?_
  | with_reducible refine L2.ifI (fun _ => ?_) (fun _ => ?_)
  | with_reducible refine L2.ifNI (fun _ => ?_) (fun _ => ?_)
  | with_reducible refine L2.ifD (fun _ => ?_) (fun _ => ?_)
  | with_reducible refine L2.ifND (fun _ => ?_) (fun _ => ?_))
local macro_rules | `(tactic| walk_at "rd") => `(tactic| repeat' walk_at "rd1")
seal L2.PSs L2.PS L2.PE L2.PT L2.PA L2.PI L2.PG L2.PGs L2.PW L2.PC L2.PO
namespace My
open PySem L2
def top (i : Nat) : Stmt := PySem.Challenge.pw_loanroll_k25_charges_add.main.body.getD i (.Pass ⟨0, 0, 0, 0⟩)
structure Txt (K : PySem.W.Frag) (mg : Str → Option Value) : Prop where
  n_bool : mg "bool" = none
  n_int : mg "int" = none
  n_isinstance : mg "isinstance" = none
  n_len : mg "len" = none
  n_list : mg "list" = none
  n_max : mg "max" = none
  n_min : mg "min" = none
  n_range : mg "range" = none
  n_set : mg "set" = none
  n_sorted : mg "sorted" = none
  n_zip : mg "zip" = none
  cls : ∀ kd : Kd, Cls K (cA K kd.cls)
  mk0 : ∀ kd : Kd, Mk0 K (cA K kd.cls)
  m_Bank : mg "Bank" = some (.ref (cA K "Bank"))
  m_Count : mg "Count" = some (.ref (cA K "Count"))
  m_Exact : mg "Exact" = some (.ref (cA K "Exact"))
  m_Thirty : mg "Thirty" = some (.ref (cA K "Thirty"))
  g_FIRST_YEAR : ∃ t, mg "FIRST_YEAR" = some (.int 2000 t)
  g_LENGTHS : ∃ a, mg "LENGTHS" = some (.ref a) ∧ ∀ H, SqT K H a [.int 31, .int 28, .int 31, .int 30, .int 31, .int 30, .int 31, .int 31, .int 30, .int 31, .int 30, .int 31]
  g_ROUND_DAYS : ∃ t, mg "ROUND_DAYS" = some (.int 146097 t)
  g_ROUND_YEARS : ∃ t, mg "ROUND_YEARS" = some (.int 400 t)
abbrev s_begun : Stmt := top 2
abbrev s_breaks : Stmt := top 8
abbrev s_is_leap : Stmt := top 15
abbrev s_new_year : Stmt := top 17
abbrev s_Count_year : Stmt := inClass (top 21) 1
abbrev s_Bank_year : Stmt := inClass (top 22) 1
abbrev s_Thirty_year : Stmt := inClass (top 23) 1
abbrev s_Exact_year : Stmt := inClass (top 24) 1
abbrev s__law_whole : Stmt := top 26
abbrev s__law_draw : Stmt := top 27
abbrev s__law_in : Stmt := top 29
abbrev s__law_value : Stmt := top 31
abbrev s__law_day : Stmt := top 32
abbrev s_value_at : Stmt := top 3
abbrev s_moved : Stmt := top 5
abbrev s_month_days : Stmt := top 16
abbrev s_year_of : Stmt := top 18
abbrev s__law_cell : Stmt := top 28
abbrev s__law_least : Stmt := top 30
abbrev s_stands : Stmt := top 6
abbrev s_date_of : Stmt := top 19
abbrev s__law_some : Stmt := top 33
abbrev s__law_cuts : Stmt := top 34
abbrev s_Count_upto : Stmt := inClass (top 21) 3
abbrev s_Thirty_upto : Stmt := inClass (top 23) 2
abbrev s_Exact_upto : Stmt := inClass (top 24) 2
abbrev s_Count_weight : Stmt := inClass (top 21) 4
abbrev s_charge : Stmt := top 9
abbrev s__law_sum : Stmt := top 35
abbrev s_law : Stmt := top 36
section
variable {P : Program} {w : World} {K : PySem.W.Frag} {mg : Str → Option Value} {base : Heap}
--@ begun
def sp_begun (K : PySem.W.Frag) : Sp := fun vs H Q _ => ∃ (a : Addr) (xs : List V) (l : List (Int × Int)) (d : Int), vs = [.ref a, .int d] ∧ SqL K H a xs ∧ Rows2 K H xs l ∧ (l.Pairwise fun s t => s.1 < t.1) ∧ ∀ n : Nat, Stills.Begun l d n → Q (.int n) H
theorem sc_begun : FnScope ["rows", "day", "low", "high", "middle"] ["rows", "day"] (defScope s_begun) := ⟨rfl, rfl, rfl, by decide +kernel, rfl, by decide +kernel, by decide +kernel⟩
theorem d_begun (S : Src K mg "begun" s_begun ["rows", "day"]) (T : Txt K mg)  : Def P w K mg base 1 "begun" ["rows", "day"] (sp_begun K) := by
  refine S.ok sc_begun (fun vs H Q E h => ?_) (fun f cdv A outer s H vs Q E hr h => ?_)
  · obtain ⟨a, xs, l, d, rfl, hS, hR, up, h⟩ := h
    rfl
  obtain ⟨a, xs, l, d, rfl, hS, hR, up, h⟩ := h
  refine ⟨_, (pss_cons (ps_set (i := 2) sc_begun.nd rfl (by first | exact Or.inl rfl | exact Or.inr rfl) pe_int)
      (pss_cons (ps_set (i := 3) sc_begun.nd rfl (by first | exact Or.inl rfl | exact Or.inr rfl) (pe_callB call_len_seq rfl T.n_len PySem.boot_len (pa_cons (pv 0) pa_nil)))
      (pss_cons (ps_while PassesOwn.never (pt_cmpR op_lt (pv 2) (pv 3) (nomark _))
      (pss_cons (ps_set (i := 4) sc_begun.nd rfl (by first | exact Or.inl rfl | exact Or.inr rfl) (pe_op op_fdiv (pe_op op_add (pv 2) (pv 3)) pe_int))
      (pss_one (ps_if (pt_cmpR op_le (pe_ix ix_tup (pe_ix ix_list (pv 0) (pv 4) (fun _ _ => rfl)) pe_int (fun _ _ => rfl)) (pv 1) (nomark _))
      (pss_one (ps_set (i := 2) sc_begun.nd rfl (by first | exact Or.inl rfl | exact Or.inr rfl) (pe_op op_add (pv 4) pe_int)))
      (pss_one (ps_set (i := 3) sc_begun.nd rfl (by first | exact Or.inl rfl | exact Or.inr rfl) (pv 4)))))))
      (pss_one (ps_ret (pv 2)))))), ?_⟩
  have xl := hR.length
  walk_at "rd"
  refine ⟨fun n σ H' => H = H' ∧ ∃ (lo hi : Nat) (z : Option V), σ = [some (.ref a), some (.int d), some (.int lo), some (.int hi), z] ∧ lo ≤ hi ∧ hi ≤ l.length ∧ (∀ i s, i < lo → l[i]? = some s → s.1 ≤ d) ∧ (∀ i s, hi ≤ i → l[i]? = some s → d < s.1) ∧ n = hi - lo, ⟨_, rfl, 0, xs.length, _, rfl, Nat.zero_le _, by omega, fun i s hi => absurd hi (Nat.not_lt_zero _), fun i s hi e => ?_, rfl⟩, ?_⟩
  · have := (List.getElem?_eq_some_iff.mp e).1
    omega
  rintro n σ H' ⟨rfl, lo, hi, z, rfl, lh, hl, below, above, rfl⟩
  walk_at "rd"
  · rename_i q
    refine ⟨_, fun σ' H' z => z, ?_⟩
    have em : ((lo : Int) + hi) / 2 = (((lo + hi) / 2 : Nat) : Int) := by omega
    have m1 : lo ≤ (lo + hi) / 2 := by omega
    have m2 : (lo + hi) / 2 < hi := by omega
    walk_at "rd"
    generalize (lo + hi) / 2 = m at m1 m2 em
    obtain ⟨p, s, ex, es, hp⟩ := hR.get (List.getElem?_eq_getElem (by omega : m < xs.length))
    have at_ : atI xs (((lo : Int) + hi) / 2) = some (.ref p) := em ▸ atI_nat (by rw [List.getElem?_eq_getElem (by omega : m < xs.length), ex])
    refine ⟨a, _, _, _, rfl, rfl, hS, at_, ?_⟩
    walk_at "rd"
    · rename_i q2
      refine ⟨hi - (m + 1), by omega, rfl, m + 1, hi, some (.int m), (by show [some (V.ref a), some (V.int d), some (V.int (((lo : Int) + hi) / 2 + 1)), some (V.int hi), some (V.int (((lo : Int) + hi) / 2))] = _; rw [em]; rfl), by omega, hl, fun i t hi e => ?_, above, rfl⟩
      rcases Nat.lt_or_ge i m with c | c
      · have := Stills.get_up up e es c
        omega
      · have : i = m := by omega
        subst this
        rw [es] at e
        cases e
        exact q2
    · rename_i q2
      refine ⟨m - lo, by omega, rfl, lo, m, some (.int m), (by show [some (V.ref a), some (V.int d), some (V.int lo), some (V.int (((lo : Int) + hi) / 2)), some (V.int (((lo : Int) + hi) / 2))] = _; rw [em]), by omega, by omega, below, fun i t hi e => ?_, rfl⟩
      rcases Nat.lt_or_ge m i with c | c
      · have := Stills.get_up up es e c
        omega
      · have : i = m := by omega
        subst this
        rw [es] at e
        cases e
        omega
  · rename_i q
    have : lo = hi := by omega
    subst this
    exact h lo ⟨hl, below, above⟩
--@ breaks
def sp_breaks (K : PySem.W.Frag) : Sp := fun vs H Q _ => ∃ (pt ps : Addr) (xs ys : List V) (t l : List (Int × Int)) (a b : Int), vs = [.ref pt, .ref ps, .int a, .int b] ∧ SqL K H pt xs ∧ Rows2 K H xs t ∧ SqL K H ps ys ∧ Rows2 K H ys l ∧ t.length + 2 * l.length < 64 ∧
  ∀ (p : Addr) (ns : List Int) H', Same H H' → H p = none → H' p = some (.lst (ns.map V.int)) → ns.length < 64 → ns.Pairwise (· < ·) → (∀ d, d ∈ ns ↔ (a < d ∧ d < b) ∧ ((∃ s ∈ t, d = s.1) ∨ ∃ s ∈ l, d = s.1 ∨ d = s.2)) → Q (.ref p) H'
theorem sc_breaks : FnScope ["table", "spans", "a", "b", "days"] ["table", "spans", "a", "b"] (defScope s_breaks) := ⟨rfl, rfl, rfl, by decide +kernel, rfl, by decide +kernel, by decide +kernel⟩
theorem d_breaks (S : Src K mg "breaks" s_breaks ["table", "spans", "a", "b"]) (T : Txt K mg)  : Def P w K mg base 1 "breaks" ["table", "spans", "a", "b"] (sp_breaks K) := by
  refine S.ok sc_breaks (fun vs H Q E h => ?_) (fun f cdv A outer s H vs Q E hr h => ?_)
  · obtain ⟨pt, ps, xs, ys, t, l, a, b, rfl, hS, hR, hS2, hR2, hl, h⟩ := h
    rfl
  obtain ⟨pt, ps, xs, ys, t, l, a, b, rfl, hS, hR, hS2, hR2, hl, h⟩ := h
  refine ⟨_, (pss_cons (ps_setc (i := 4) sc_breaks.nd rfl rfl (ix := []) ⟨rfl, by decide +kernel, rfl, by decide +kernel, rfl, (show (["row"] : List Str).Nodup by decide +kernel), by walk_at "cap", by walk_at "sub", by walk_at "has"⟩ (pi_list (pv 0)) (fun b => (pe_ix (ix_tupK K) (pv 0) pe_int (fun _ _ => rfl))))
      (pss_cons (ps_expr (pe_bm PySem.F.plainAttrs_list PySem.F.slot_list_extend PySem.F.type_list_extend mt_extend (pv 4) (pa_cons (pe_comp (ix := []) ⟨rfl, by decide +kernel, rfl, by decide +kernel, rfl, (show (["span"] : List Str).Nodup by decide +kernel), by walk_at "cap", by walk_at "sub", by walk_at "has"⟩ (pi_list (pv 1)) (fun b => (pe_ix (ix_tupK K) (pv 0) pe_int (fun _ _ => rfl)))) pa_nil)))
      (pss_cons (ps_expr (pe_bm PySem.F.plainAttrs_list PySem.F.slot_list_extend PySem.F.type_list_extend mt_extend (pv 4) (pa_cons (pe_comp (ix := []) ⟨rfl, by decide +kernel, rfl, by decide +kernel, rfl, (show (["span"] : List Str).Nodup by decide +kernel), by walk_at "cap", by walk_at "sub", by walk_at "has"⟩ (pi_list (pv 1)) (fun b => (pe_ix (ix_tupK K) (pv 0) pe_int (fun _ _ => rfl)))) pa_nil)))
      (pss_one (ps_ret (pe_callB (call_sortedS rfl) rfl T.n_sorted PyProof.Rows.boot_sorted (pa_cons (pe_callTy (call_setI rfl) rfl T.n_set PyProof.Rows.boot_set (pa_cons (pe_compIf (ix := [2, 3]) ⟨rfl, by decide +kernel, rfl, by decide +kernel, rfl, (show (["day", "a", "b"] : List Str).Nodup by decide +kernel), by walk_at "cap", by walk_at "sub", by walk_at "has"⟩ (pi_list (pv 4)) (fun b => (pt_chain op_lt op_lt (pv 1) (pv 0) (pv 2))) (fun b => (pv 0))) pa_nil)) pa_nil))))))), ?_⟩
  have sz := sizeLine_eq
  have xl := hR.length
  have yl := hR2.length
  have gd : ∀ (u : List (Int × Int)) (f : Int × Int → Int) (i : Nat) (s : Int × Int), u[i]? = some s → (u.map f).getD i 0 = f s := fun u f i s e => by
    rw [List.getD_eq_getElem?_getD, List.getElem?_map, e]; rfl
  walk_at "rd"
  refine ⟨⟨_, hS⟩, ?_⟩
  intro l1 n1
  refine comp_list (fun i v => v = .int ((t.map (·.1)).getD i 0)) hS n1 (by omega) ?_ ?_
  · intro i x H' Q' hx sH hq
    obtain ⟨p, s, rfl, e, ht⟩ := hR.get hx
    walk_at "rd"
    exact ⟨p, _, _, _, rfl, rfl, SqT.of (sH _ _ ht), rfl, hq _ (by rw [gd t _ i s e])⟩
  intro ys1 len1 hp1
  obtain rfl := ints_by (ns := t.map (·.1)) (by rw [len1, List.length_map, xl]) hp1
  have s1 := same_new n1 (.lst ((t.map (·.1)).map V.int))
  have e1 : (upd H l1 (.lst ((t.map (·.1)).map V.int))) l1 = some (.lst ((t.map (·.1)).map V.int)) := upd_same
  generalize upd H l1 (.lst ((t.map (·.1)).map V.int)) = H1 at s1 e1 ⊢
  walk_at "rd"
  refine ⟨.inl ⟨rfl, _, SqL.of e1⟩, ?_⟩
  walk_at "rd"
  refine ⟨⟨_, s1.seq hS2⟩, ?_⟩
  intro l2 n2
  refine comp_list (fun i v => v = .int ((l.map (·.1)).getD i 0)) (s1.seq hS2) n2 (by omega) ?_ ?_
  · intro i x H' Q' hx sH hq
    obtain ⟨p, s, rfl, e, ht⟩ := hR2.get hx
    walk_at "rd"
    exact ⟨p, _, _, _, rfl, rfl, SqT.of (sH _ _ (s1 _ _ ht)), rfl, hq _ (by rw [gd l _ i s e])⟩
  intro ys2 len2 hp2
  obtain rfl := ints_by (ns := l.map (·.1)) (by rw [len2, List.length_map, yl]) hp2
  have s2 := same_new n2 (.lst ((l.map (·.1)).map V.int))
  refine ⟨l1, l2, _, _, rfl, rfl, s2 _ _ e1, upd_same, by simp; omega, ?_⟩
  rw [← List.map_append]
  have s3 : Same H (upd (upd H1 l2 (.lst ((l.map (·.1)).map V.int))) l1 (.lst ((t.map (·.1) ++ l.map (·.1)).map V.int))) := same_put (s1.trans s2) n1
  have e3 : (upd (upd H1 l2 (.lst ((l.map (·.1)).map V.int))) l1 (.lst ((t.map (·.1) ++ l.map (·.1)).map V.int))) l1 = some (.lst ((t.map (·.1) ++ l.map (·.1)).map V.int)) := upd_same
  generalize upd (upd H1 l2 (.lst ((l.map (·.1)).map V.int))) l1 (.lst ((t.map (·.1) ++ l.map (·.1)).map V.int)) = H3 at s3 e3 ⊢
  walk_at "rd"
  refine ⟨.inl ⟨rfl, _, SqL.of e3⟩, ?_⟩
  walk_at "rd"
  refine ⟨⟨_, s3.seq hS2⟩, ?_⟩
  intro l4 n4
  refine comp_list (fun i v => v = .int ((l.map (·.2)).getD i 0)) (s3.seq hS2) n4 (by omega) ?_ ?_
  · intro i x H' Q' hx sH hq
    obtain ⟨p, s, rfl, e, ht⟩ := hR2.get hx
    walk_at "rd"
    exact ⟨p, _, _, _, rfl, rfl, SqT.of (sH _ _ (s3 _ _ ht)), rfl, hq _ (by rw [gd l _ i s e])⟩
  intro ys4 len4 hp4
  obtain rfl := ints_by (ns := l.map (·.2)) (by rw [len4, List.length_map, yl]) hp4
  have s4 := same_new n4 (.lst ((l.map (·.2)).map V.int))
  refine ⟨l1, l4, _, _, rfl, rfl, s4 _ _ e3, upd_same, by simp; omega, ?_⟩
  rw [← List.map_append]
  have s5 : Same H (upd (upd H3 l4 (.lst ((l.map (·.2)).map V.int))) l1 (.lst ((t.map (·.1) ++ l.map (·.1) ++ l.map (·.2)).map V.int))) := same_put (s3.trans s4) n1
  have e5 : (upd (upd H3 l4 (.lst ((l.map (·.2)).map V.int))) l1 (.lst ((t.map (·.1) ++ l.map (·.1) ++ l.map (·.2)).map V.int))) l1 = some (.lst ((t.map (·.1) ++ l.map (·.1) ++ l.map (·.2)).map V.int)) := upd_same
  generalize upd (upd H3 l4 (.lst ((l.map (·.2)).map V.int))) l1 (.lst ((t.map (·.1) ++ l.map (·.1) ++ l.map (·.2)).map V.int)) = H5 at s5 e5 ⊢
  obtain ⟨es, hes⟩ : ∃ es, es = t.map (·.1) ++ l.map (·.1) ++ l.map (·.2) := ⟨_, rfl⟩
  have el : es.length = t.length + 2 * l.length := by rw [hes]; simp; omega
  rw [← hes] at e5
  walk_at "rd"
  refine ⟨⟨_, SqL.of e5⟩, ?_⟩
  intro l6 n6
  refine comp_pick (walk_list (SqL.of e5)) n6 (by rw [List.length_map]; omega) (es.map fun d => (decide (a < d) && decide (d < b), V.int d)) (by simp) ?_ ?_ ?_
  · intro i x bb v H' Q' hx hpk sH hq
    rw [List.getElem?_map] at hx hpk
    obtain ⟨d, hd, rfl⟩ := Option.map_eq_some_iff.mp hx
    rw [hd] at hpk
    cases hpk
    walk_at "rd"
    · rename_i q1
      rw [decide_eq_true q1, Bool.true_and] at hq
      exact hq
    · rename_i q1
      rw [decide_eq_false q1, Bool.false_and] at hq
      exact hq
  · intro i x bb v H' Q' hx hpk sH hq
    rw [List.getElem?_map] at hx hpk
    obtain ⟨d, hd, rfl⟩ := Option.map_eq_some_iff.mp hx
    rw [hd] at hpk
    cases hpk
    walk_at "rd"
    exact hq
  rw [pick_ints es (fun d => decide (a < d) && decide (d < b)) (fun d => d), List.map_id']
  obtain ⟨fs, hfs⟩ : ∃ fs, fs = es.filter fun d => decide (a < d) && decide (d < b) := ⟨_, rfl⟩
  have fl : fs.length ≤ es.length := by rw [hfs]; exact List.length_filter_le _ _
  rw [← hfs]
  have s6 := same_new n6 (.lst (fs.map V.int))
  walk_at "rd"
  refine ⟨l6, fs, rfl, SqL.of upd_same, by omega, ?_⟩
  intro ps' Hs ms ps0 ss es' nd mm lm
  refine ⟨ps', ms, rfl, es', by omega, ?_⟩
  intro lq Hq ns lq0 sq eq pm srt
  refine h lq ns Hq (s5.trans (s6.trans (ss.trans sq))) (same_gone (s5.trans (s6.trans ss)) lq0) eq (by rw [pm.length_eq]; omega) (sorted_lt pm nd srt) fun d => ?_
  rw [pm.mem_iff, mm, hfs, List.mem_filter, hes, List.mem_append, List.mem_append, List.mem_map, List.mem_map, List.mem_map, Bool.and_eq_true, decide_eq_true_eq, decide_eq_true_eq]
  constructor
  · rintro ⟨(⟨s, hs, e⟩ | ⟨s, hs, e⟩) | ⟨s, hs, e⟩, q⟩
    · exact ⟨q, .inl ⟨s, hs, e.symm⟩⟩
    · exact ⟨q, .inr ⟨s, hs, .inl e.symm⟩⟩
    · exact ⟨q, .inr ⟨s, hs, .inr e.symm⟩⟩
  · rintro ⟨q, ⟨s, hs, e⟩ | ⟨s, hs, e | e⟩⟩
    · exact ⟨.inl (.inl ⟨s, hs, e.symm⟩), q⟩
    · exact ⟨.inl (.inr ⟨s, hs, e.symm⟩), q⟩
    · exact ⟨.inr ⟨s, hs, e.symm⟩, q⟩
--@ is_leap
def sp_is_leap (K : PySem.W.Frag) : Sp := fun vs H Q _ => ∃ y, vs = [.int y] ∧ Q (.bl (Cal.leap y)) H
theorem sc_is_leap : FnScope ["year"] ["year"] (defScope s_is_leap) := ⟨rfl, rfl, rfl, by decide +kernel, rfl, by decide +kernel, by decide +kernel⟩
theorem d_is_leap (S : Src K mg "is_leap" s_is_leap ["year"]) (T : Txt K mg)  : Def P w K mg base 1 "is_leap" ["year"] (sp_is_leap K) := by
  refine S.ok sc_is_leap (fun vs H Q E h => ?_) (fun f cdv A outer s H vs Q E hr h => ?_)
  · obtain ⟨y, rfl, h⟩ := h
    rfl
  obtain ⟨y, rfl, h⟩ := h
  refine ⟨_, (pss_one (ps_ret (pe_and (pe_cmpR op_eq (pe_op op_mod (pv 0) pe_int) pe_int (nomark _)) (pe_one (pe_or (pe_cmpR op_ne (pe_op op_mod (pv 0) pe_int) pe_int (nomark _)) (pe_one (pe_cmpR op_eq (pe_op op_mod (pv 0) pe_int) pe_int (nomark _)))))))), ?_⟩
  walk_at "rd"
  all_goals exact qb h (by simp [Cal.leap, dI, *])
--@ new_year
def sp_new_year (K : PySem.W.Frag) : Sp := fun vs H Q _ => ∃ y, vs = [.int y] ∧ Q (.int (Cal.ny y)) H
theorem sc_new_year : FnScope ["year", "years", "leaps"] ["year"] (defScope s_new_year) := ⟨rfl, rfl, rfl, by decide +kernel, rfl, by decide +kernel, by decide +kernel⟩
theorem d_new_year (S : Src K mg "new_year" s_new_year ["year"]) (T : Txt K mg)  : Def P w K mg base 1 "new_year" ["year"] (sp_new_year K) := by
  refine S.ok sc_new_year (fun vs H Q E h => ?_) (fun f cdv A outer s H vs Q E hr h => ?_)
  · obtain ⟨y, rfl, h⟩ := h
    rfl
  obtain ⟨y, rfl, h⟩ := h
  refine ⟨_, (pss_cons (ps_set (i := 1) sc_new_year.nd rfl (by first | exact Or.inl rfl | exact Or.inr rfl) (pe_op op_sub (pv 0) (pe_gint T.g_FIRST_YEAR)))
      (pss_cons (ps_set (i := 2) sc_new_year.nd rfl (by first | exact Or.inl rfl | exact Or.inr rfl) (pe_op op_add (pe_op op_sub (pe_op op_fdiv (pe_op op_add (pv 1) pe_int) pe_int) (pe_op op_fdiv (pe_op op_add (pv 1) pe_int) pe_int)) (pe_op op_fdiv (pe_op op_add (pv 1) pe_int) pe_int)))
      (pss_one (ps_ret (pe_op op_add (pe_op op_mul pe_int (pv 1)) (pv 2)))))), ?_⟩
  walk_at "rd"
  all_goals exact qi h (by unfold Cal.ny; omega)
--@ Count_year
def yr : Kd → Int
  | .plain => 365
  | .bank => 360
  | .thirty => 360
  | .exact => 133590
def sp_m_year (kd : Kd) (K : PySem.W.Frag) : Sp := fun vs H Q _ => ∃ (a : Addr), vs = [.ref a] ∧ Q (.int (yr kd)) H
theorem sc_Count_year : FnScope ["self"] ["self"] (defScope s_Count_year) := ⟨rfl, rfl, rfl, by decide +kernel, rfl, by decide +kernel, by decide +kernel⟩
theorem d_Count_year (kd : Kd) (hk : kd = .plain) (S : MethS K (cA K kd.cls) "year" "Count.year" s_Count_year ["self"]) (T : Txt K mg)  : DefM P w K mg base 1 (cA K kd.cls) "year" ["self"] (sp_m_year kd K) := by
  subst hk
  refine S.ok sc_Count_year (fun vs H Q E h => ?_) (fun f cdv A outer s H vs Q E hr h => ?_)
  · obtain ⟨a, rfl, h⟩ := h
    rfl
  obtain ⟨a, rfl, h⟩ := h
  refine ⟨_, (pss_one (ps_ret pe_int)), ?_⟩
  walk_at "rd"
  exact h
--@ Bank_year

theorem sc_Bank_year : FnScope ["self"] ["self"] (defScope s_Bank_year) := ⟨rfl, rfl, rfl, by decide +kernel, rfl, by decide +kernel, by decide +kernel⟩
theorem d_Bank_year (kd : Kd) (hk : kd = .bank) (S : MethS K (cA K kd.cls) "year" "Bank.year" s_Bank_year ["self"]) (T : Txt K mg)  : DefM P w K mg base 1 (cA K kd.cls) "year" ["self"] (sp_m_year kd K) := by
  subst hk
  refine S.ok sc_Bank_year (fun vs H Q E h => ?_) (fun f cdv A outer s H vs Q E hr h => ?_)
  · obtain ⟨a, rfl, h⟩ := h
    rfl
  obtain ⟨a, rfl, h⟩ := h
  refine ⟨_, (pss_one (ps_ret pe_int)), ?_⟩
  walk_at "rd"
  exact h
--@ Thirty_year

theorem sc_Thirty_year : FnScope ["self"] ["self"] (defScope s_Thirty_year) := ⟨rfl, rfl, rfl, by decide +kernel, rfl, by decide +kernel, by decide +kernel⟩
theorem d_Thirty_year (kd : Kd) (hk : kd = .thirty) (S : MethS K (cA K kd.cls) "year" "Thirty.year" s_Thirty_year ["self"]) (T : Txt K mg)  : DefM P w K mg base 1 (cA K kd.cls) "year" ["self"] (sp_m_year kd K) := by
  subst hk
  refine S.ok sc_Thirty_year (fun vs H Q E h => ?_) (fun f cdv A outer s H vs Q E hr h => ?_)
  · obtain ⟨a, rfl, h⟩ := h
    rfl
  obtain ⟨a, rfl, h⟩ := h
  refine ⟨_, (pss_one (ps_ret pe_int)), ?_⟩
  walk_at "rd"
  exact h
--@ Exact_year

theorem sc_Exact_year : FnScope ["self"] ["self"] (defScope s_Exact_year) := ⟨rfl, rfl, rfl, by decide +kernel, rfl, by decide +kernel, by decide +kernel⟩
theorem d_Exact_year (kd : Kd) (hk : kd = .exact) (S : MethS K (cA K kd.cls) "year" "Exact.year" s_Exact_year ["self"]) (T : Txt K mg)  : DefM P w K mg base 1 (cA K kd.cls) "year" ["self"] (sp_m_year kd K) := by
  subst hk
  refine S.ok sc_Exact_year (fun vs H Q E h => ?_) (fun f cdv A outer s H vs Q E hr h => ?_)
  · obtain ⟨a, rfl, h⟩ := h
    rfl
  obtain ⟨a, rfl, h⟩ := h
  refine ⟨_, (pss_one (ps_ret (pe_op op_mul pe_int pe_int))), ?_⟩
  walk_at "rd"
  exact h
--@ _law_whole
def sp__law_whole (K : PySem.W.Frag) : Sp := fun vs H Q _ => ∃ i, vs = [.int i] ∧ Q (.bl true) H
theorem sc__law_whole : FnScope ["_law_found"] ["_law_found"] (defScope s__law_whole) := ⟨rfl, rfl, rfl, by decide +kernel, rfl, by decide +kernel, by decide +kernel⟩
theorem d__law_whole (S : Src K mg "_law_whole" s__law_whole ["_law_found"]) (T : Txt K mg)  : Def P w K mg base 1 "_law_whole" ["_law_found"] (sp__law_whole K) := by
  refine S.ok sc__law_whole (fun vs H Q E h => ?_) (fun f cdv A outer s H vs Q E hr h => ?_)
  · obtain ⟨i, rfl, h⟩ := h
    rfl
  obtain ⟨i, rfl, h⟩ := h
  refine ⟨_, (pss_one (ps_ret (pe_and (pe_callB call_isinst rfl T.n_isinstance PyProof.Rows.boot_isinstance (pa_cons (pv 0) (pa_cons (pe_bltn (v := .ty "int") rfl T.n_int PyProof.Rows.boot_int rfl) pa_nil))) (pe_one (pe_not (pe_callB call_isinst rfl T.n_isinstance PyProof.Rows.boot_isinstance (pa_cons (pv 0) (pa_cons (pe_bltn (v := .ty "bool") rfl T.n_bool PyProof.Rows.boot_bool rfl) pa_nil)))))))), ?_⟩
  walk_at "rd"
  refine ⟨_, _, _, _, rfl, .int i, kit_ii, ?_⟩
  walk_at "rd"
  refine ⟨_, _, _, _, rfl, .int i, kit_ib, ?_⟩
  walk_at "rd"
  exact h
--@ _law_draw
def sp__law_draw (K : PySem.W.Frag) : Sp := fun vs H Q _ => ∃ (a : Addr) (ns : List Int) (k m : Int), vs = [.ref a, .int k, .int m] ∧ SqL K H a (ns.map V.int) ∧ 0 ≤ k ∧ k ≤ 1000000 ∧ 0 < m ∧ ∀ r, 0 ≤ r → r < m → Q (.int r) H
theorem sc__law_draw : FnScope ["_law_script", "_law_k", "_law_many", "_law_cell_here", "_law_one", "_law_other"] ["_law_script", "_law_k", "_law_many"] (defScope s__law_draw) := ⟨rfl, rfl, rfl, by decide +kernel, rfl, by decide +kernel, by decide +kernel⟩
theorem d__law_draw (S : Src K mg "_law_draw" s__law_draw ["_law_script", "_law_k", "_law_many"]) (T : Txt K mg)  : Def P w K mg base 1 "_law_draw" ["_law_script", "_law_k", "_law_many"] (sp__law_draw K) := by
  refine S.ok sc__law_draw (fun vs H Q E h => ?_) (fun f cdv A outer s H vs Q E hr h => ?_)
  · obtain ⟨a, ns, k, m, rfl, hS, h0, h1, hm, h⟩ := h
    rfl
  obtain ⟨a, ns, k, m, rfl, hS, h0, h1, hm, h⟩ := h
  refine ⟨_, (pss_cons (ps_set (i := 3) sc__law_draw.nd rfl (by first | exact Or.inl rfl | exact Or.inr rfl) pe_int)
      (pss_cons (ps_if (pt_cmpR op_gt (pe_callB call_len_seq rfl T.n_len PySem.boot_len (pa_cons (pv 0) pa_nil)) pe_int (nomark _))
      (pss_one (ps_set (i := 3) sc__law_draw.nd rfl (by first | exact Or.inl rfl | exact Or.inr rfl) (pe_ix ix_list (pv 0) (pe_op op_mod (pv 1) (pe_callB call_len_seq rfl T.n_len PySem.boot_len (pa_cons (pv 0) pa_nil))) (fun _ _ => rfl))))
      pss_nil)
      (pss_cons (ps_if (PW.pt (pw_and (pt_cmpR op_gt (pv 3) (pe_powc (v := 1000000000000000000) (by decide +kernel) ⟨by decide, by decide, by decide⟩) (nomark _)) (pw_and (pt_cmpR op_eq (pe_op op_mod (pv 3) pe_int) pe_int (nomark _)) (pw_and1 (pt_cmpR op_lt (pv 1) (pe_callB call_len_seq rfl T.n_len PySem.boot_len (pa_cons (pv 0) pa_nil)) (nomark _))))))
      (pss_one (ps_ret (pe_op op_mod (pe_op op_fdiv (pv 3) pe_int) (pv 2))))
      pss_nil)
      (pss_cons (ps_set (i := 4) sc__law_draw.nd rfl (by first | exact Or.inl rfl | exact Or.inr rfl) (pe_op op_mod (pe_op op_mul (pe_op op_add (pe_op op_mod (pv 3) pe_int) pe_int) (pe_op op_add pe_int (pe_op op_mul (pe_op op_mul pe_int (pv 1)) (pe_op op_add (pv 1) pe_int)))) pe_int))
      (pss_cons (ps_set (i := 5) sc__law_draw.nd rfl (by first | exact Or.inl rfl | exact Or.inr rfl) (pe_op op_mod (pe_op op_add (pe_op op_mul (pv 4) (pv 4)) pe_int) pe_int))
      (pss_one (ps_ret (pe_op op_mod (pe_op op_fdiv (pe_op op_mod (pe_op op_add (pv 4) (pe_op op_mul (pv 5) pe_int)) pe_int) pe_int) (pv 2))))))))), ?_⟩
  have fin : ∀ r : Int, Q (.int (r % m)) H := fun r => h _ (Int.emod_nonneg r (by omega)) (Int.emod_lt_of_pos r hm)
  walk_at "rd"
  · have hl : 0 < (ns.length : Int) := by
      have e := List.length_map (f := V.int) (as := ns)
      omega
    have e : k % ((ns.map V.int).length : Int) = k % (ns.length : Int) := by rw [List.length_map]
    refine ⟨a, _, _, _, rfl, rfl, hS, (by rw [e]; exact at_ints (Int.emod_nonneg k (by omega)) (Int.emod_lt_of_pos k hl)), ?_⟩
    walk_at "rd"
    all_goals exact fin _
  · walk_at "rd"
    all_goals exact fin _
--@ _law_in
def sp__law_in (K : PySem.W.Frag) : Sp := fun vs H Q _ => ∃ (a : Addr) (xs : List V) (l : List (Int × Int)) (d : Int), vs = [.ref a, .int d] ∧ SqL K H a xs ∧ Rows2 K H xs l ∧ Q (.bl (Spans.isIn l d)) H
theorem sc__law_in : FnScope ["_law_spans", "_law_day_here", "_law_first", "_law_last"] ["_law_spans", "_law_day_here"] (defScope s__law_in) := ⟨rfl, rfl, rfl, by decide +kernel, rfl, by decide +kernel, by decide +kernel⟩
theorem d__law_in (S : Src K mg "_law_in" s__law_in ["_law_spans", "_law_day_here"]) (T : Txt K mg)  : Def P w K mg base 1 "_law_in" ["_law_spans", "_law_day_here"] (sp__law_in K) := by
  refine S.ok sc__law_in (fun vs H Q E h => ?_) (fun f cdv A outer s H vs Q E hr h => ?_)
  · obtain ⟨a, xs, l, d, rfl, hS, hr, h⟩ := h
    rfl
  obtain ⟨a, xs, l, d, rfl, hS, hr, h⟩ := h
  refine ⟨_, (pss_cons (ps_for PassesOwn.never rfl (pi_list (pv 0)) (pg_tup rfl (pgs_cons (pg_name (i := 2) sc__law_in.nd rfl (by first | exact Or.inl rfl | exact Or.inr rfl)) (pgs_cons (pg_name (i := 3) sc__law_in.nd rfl (by first | exact Or.inl rfl | exact Or.inr rfl)) pgs_nil)))
      (pss_one (ps_if (pt_chain op_le op_lt (pv 2) (pv 1) (pv 3))
      (pss_one (ps_ret pe_bl))
      pss_nil)))
      (pss_one (ps_ret pe_bl))), ?_⟩
  walk_at "rd"
  refine ⟨⟨_, hS⟩, for_list (xs := xs) (fun i σ H' => H' = H ∧ (∃ z1 z2, σ = [some (.ref a), some (.int d), z1, z2]) ∧ ∀ j s, j < i → l[j]? = some s → ¬ (s.1 ≤ d ∧ d < s.2)) ⟨rfl, ⟨_, _, rfl⟩, fun j s hj => absurd hj (Nat.not_lt_zero _)⟩ ?_ ?_ ?_⟩
  · rintro i σ H' _ ⟨rfl, _⟩
    exact hS
  · rintro i x σ H' hx ⟨rfl, ⟨z1, z2, rfl⟩, no⟩
    obtain ⟨p, s, rfl, hl, ht⟩ := hr.get hx
    refine ⟨p, _, rfl, SqT.of ht, ?_⟩
    refine ⟨rfl, _, _, rfl, _, _, rfl, rfl, ?_⟩
    have more : ¬ (s.1 ≤ d ∧ d < s.2) → ∀ j t, j < i + 1 → l[j]? = some t → ¬ (t.1 ≤ d ∧ d < t.2) := fun q j t hj e => by
      by_cases z : j = i
      · subst z
        rw [hl] at e
        cases e
        exact q
      · exact no j t (by omega) e
    walk_at "rd"
    · rename_i q1 q2
      have e : Spans.isIn l d = true := Spans.isIn_iff.mpr ⟨s, List.mem_of_getElem? hl, q1, q2⟩
      rw [e] at h
      exact h
    · rename_i q1 q2
      exact ⟨⟨_, _, rfl⟩, more fun z => q2 z.2⟩
    · rename_i q1
      exact ⟨⟨_, _, rfl⟩, more fun z => q1 z.1⟩
  · rintro σ H' ⟨rfl, ⟨z1, z2, rfl⟩, no⟩
    have e : Spans.isIn l d = false := Spans.isIn_not fun ⟨s, hs, q⟩ => by
      obtain ⟨j, hj, rfl⟩ := List.mem_iff_getElem.mp hs
      exact no j _ (by rw [hr.length]; exact hj) (List.getElem?_eq_getElem hj) q
    rw [e] at h
    exact h
--@ _law_value
def sp__law_value (K : PySem.W.Frag) : Sp := fun vs H Q _ => ∃ (a : Addr) (xs : List V) (t : List (Int × Int)) (d : Int), vs = [.ref a, .int d] ∧ SqL K H a xs ∧ Rows2 K H xs t ∧ Q (.int (Sums.valOf t d)) H
theorem sc__law_value : FnScope ["_law_pairs", "_law_day_here", "_law_best", "_law_found", "_law_start", "_law_value_here"] ["_law_pairs", "_law_day_here"] (defScope s__law_value) := ⟨rfl, rfl, rfl, by decide +kernel, rfl, by decide +kernel, by decide +kernel⟩
theorem d__law_value (S : Src K mg "_law_value" s__law_value ["_law_pairs", "_law_day_here"]) (T : Txt K mg)  : Def P w K mg base 1 "_law_value" ["_law_pairs", "_law_day_here"] (sp__law_value K) := by
  refine S.ok sc__law_value (fun vs H Q E h => ?_) (fun f cdv A outer s H vs Q E hr h => ?_)
  · obtain ⟨a, xs, t, d, rfl, hS, hR, h⟩ := h
    rfl
  obtain ⟨a, xs, t, d, rfl, hS, hR, h⟩ := h
  refine ⟨_, (pss_cons (ps_set (i := 2) sc__law_value.nd rfl (by first | exact Or.inl rfl | exact Or.inr rfl) (pe_un un_neg pe_int))
      (pss_cons (ps_set (i := 3) sc__law_value.nd rfl (by first | exact Or.inl rfl | exact Or.inr rfl) pe_int)
      (pss_cons (ps_for PassesOwn.never rfl (pi_list (pv 0)) (pg_tup rfl (pgs_cons (pg_name (i := 4) sc__law_value.nd rfl (by first | exact Or.inl rfl | exact Or.inr rfl)) (pgs_cons (pg_name (i := 5) sc__law_value.nd rfl (by first | exact Or.inl rfl | exact Or.inr rfl)) pgs_nil)))
      (pss_one (ps_if (pt_chain op_le op_le (pv 2) (pv 4) (pv 1))
      (pss_cons (ps_set (i := 2) sc__law_value.nd rfl (by first | exact Or.inl rfl | exact Or.inr rfl) (pv 4))
      (pss_one (ps_set (i := 3) sc__law_value.nd rfl (by first | exact Or.inl rfl | exact Or.inr rfl) (pv 5))))
      pss_nil)))
      (pss_one (ps_ret (pv 3)))))), ?_⟩
  have xl := hR.length
  walk_at "rd"
  refine ⟨⟨_, hS⟩, for_list (xs := xs) (fun i σ H' => H' = H ∧ ∃ z1 z2, σ = [some (.ref a), some (.int d), some (.int ((t.take i).foldl (Sums.vstep d) (-1, 0)).1), some (.int ((t.take i).foldl (Sums.vstep d) (-1, 0)).2), z1, z2]) ⟨rfl, _, _, rfl⟩ ?_ ?_ ?_⟩
  · rintro i σ H' _ ⟨rfl, _⟩
    exact hS
  · rintro i x σ H' hx ⟨rfl, z1, z2, rfl⟩
    obtain ⟨p, s, rfl, he, ht⟩ := hR.get hx
    have tk : (t.take (i + 1)).foldl (Sums.vstep d) (-1, 0) = Sums.vstep d ((t.take i).foldl (Sums.vstep d) (-1, 0)) s := by
      rw [List.take_add_one, he, List.foldl_append]; rfl
    rw [tk]
    generalize (t.take i).foldl (Sums.vstep d) (-1, 0) = st at *
    refine ⟨p, _, rfl, SqT.of ht, rfl, _, _, rfl, _, _, rfl, rfl, ?_⟩
    unfold Sums.vstep
    walk_at "rd"
    · rename_i q1 q2
      exact ⟨_, _, by rw [if_pos ⟨q1, q2⟩]; rfl⟩
    · rename_i q1 q2
      exact ⟨_, _, by rw [if_neg fun z => q2 z.2]; rfl⟩
    · rename_i q1
      exact ⟨_, _, by rw [if_neg fun z => q1 z.1]; rfl⟩
  · rintro σ H' ⟨rfl, z1, z2, rfl⟩
    rw [xl, List.take_of_length_le (Nat.le_refl _)]
    walk_at "rd"
    exact h
--@ _law_day
def sp__law_day (K : PySem.W.Frag) : Sp := fun vs H Q _ => ∃ c near : Int, vs = [.int c, .int near] ∧ 0 ≤ near ∧ near ≤ 1000000 ∧ ∀ r, 0 ≤ r → r ≤ 1000000 → Q (.int r) H
theorem sc__law_day : FnScope ["_law_cell_here", "_law_near"] ["_law_cell_here", "_law_near"] (defScope s__law_day) := ⟨rfl, rfl, rfl, by decide +kernel, rfl, by decide +kernel, by decide +kernel⟩
theorem d__law_day (S : Src K mg "_law_day" s__law_day ["_law_cell_here", "_law_near"]) (T : Txt K mg)  : Def P w K mg base 1 "_law_day" ["_law_cell_here", "_law_near"] (sp__law_day K) := by
  refine S.okF sc__law_day (fun vs H Q E h => ?_) (fun f cdv A outer s H vs Q E hr h => ?_)
  · obtain ⟨c, near, rfl, n0, n1, h⟩ := h
    rfl
  obtain ⟨c, near, rfl, n0, n1, h⟩ := h
  refine ⟨_, (pss_one (ps_ret (pe_ix ix_list (pe_lst (pa_cons (pe_op op_mod (pe_op op_fdiv (pv 0) pe_int) pe_int) (pa_cons (pe_callB (call_min2 rfl) rfl T.n_min PyProof.Rows.boot_min (pa_cons pe_int (pa_cons (pe_op op_add (pv 1) (pe_op op_mod (pe_op op_fdiv (pv 0) pe_int) pe_int)) pa_nil))) pa_nil))) (pe_callTy call_int1 rfl T.n_int PyProof.Rows.boot_int (pa_cons (pe_cmpR op_eq (pe_op op_mod (pv 0) pe_int) pe_int (nomark _)) pa_nil)) (fun _ _ => rfl)))), ?_⟩
  walk_at "rd"
  intro w nw
  have s1 := same_new nw (.lst [.int (c / 3 % 1000001), .int (if near + c / 3 % 60 < 1000000 then near + c / 3 % 60 else 1000000)])
  have g1 : 0 ≤ c / 3 % 60 := Int.emod_nonneg _ (by decide)
  have fin : ∀ k : Int, 0 ≤ k → k < 2 → ∃ r : Int, atI ([.int (c / 3 % 1000001), .int (if near + c / 3 % 60 < 1000000 then near + c / 3 % 60 else 1000000)] : List V) k = some (.int r) ∧ 0 ≤ r ∧ r ≤ 1000000 := fun k k0 k1 => by
    obtain ⟨v, hv, hm⟩ := at_mem (xs := [.int (c / 3 % 1000001), .int (if near + c / 3 % 60 < 1000000 then near + c / 3 % 60 else 1000000)]) k0 (by simpa using k1)
    obtain ⟨r, rfl, q⟩ := (mem1 ⟨_, rfl, by omega, by omega⟩ (mem1 ⟨_, rfl, by split <;> omega, by split <;> omega⟩ mem0) : ∀ v ∈ ([.int (c / 3 % 1000001), .int (if near + c / 3 % 60 < 1000000 then near + c / 3 % 60 else 1000000)] : List V), ∃ r : Int, v = .int r ∧ 0 ≤ r ∧ r ≤ 1000000) v hm
    exact ⟨r, hv, q⟩
  walk_at "rd"
  refine .inr ⟨_, rfl, ?_⟩
  obtain ⟨r, hr', q0, q1⟩ := fin (if decide (V.int (c % 3) = V.int 1) = true then 1 else 0) (by split <;> omega) (by split <;> omega)
  refine ⟨w, _, _, _, rfl, rfl, SqL.of upd_same, hr', ?_⟩
  first | exact ⟨s1, h r q0 q1⟩ | exact h r q0 q1
--@ value_at
def sp_value_at (K : PySem.W.Frag) : Sp := fun vs H Q _ => ∃ (a : Addr) (xs : List V) (t : List (Int × Int)) (d : Int), vs = [.ref a, .int d] ∧ SqL K H a xs ∧ Rows2 K H xs t ∧ (t.Pairwise fun s u => s.1 < u.1) ∧ (∀ s ∈ t, 0 ≤ s.1) ∧ Q (.int (Sums.valOf t d)) H
theorem sc_value_at : FnScope ["table", "day", "many"] ["table", "day"] (defScope s_value_at) := ⟨rfl, rfl, rfl, by decide +kernel, rfl, by decide +kernel, by decide +kernel⟩
theorem d_value_at (S : Src K mg "value_at" s_value_at ["table", "day"]) (T : Txt K mg) (D_begun : Def P w K mg base 1 "begun" ["rows", "day"] (sp_begun K)) : Def P w K mg base 2 "value_at" ["table", "day"] (sp_value_at K) := by
  refine S.ok sc_value_at (fun vs H Q E h => ?_) (fun f cdv A outer s H vs Q E hr h => ?_)
  · obtain ⟨a, xs, t, d, rfl, hS, hR, up, t0, h⟩ := h
    rfl
  obtain ⟨a, xs, t, d, rfl, hS, hR, up, t0, h⟩ := h
  refine ⟨_, (pss_cons (ps_set (i := 2) sc_value_at.nd rfl (by first | exact Or.inl rfl | exact Or.inr rfl) (pe_fn D_begun hr (pa_cons (pv 0) (pa_cons (pv 1) pa_nil))))
      (pss_cons (ps_if (pt_cmpR op_eq (pv 2) pe_int (nomark _))
      (pss_one (ps_ret pe_int))
      pss_nil)
      (pss_one (ps_ret (pe_ix ix_tup (pe_ix ix_list (pv 0) (pe_op op_sub (pv 2) pe_int) (fun _ _ => rfl)) pe_int (fun _ _ => rfl)))))), ?_⟩
  have xl := hR.length
  walk_at "rd"
  refine ⟨a, xs, t, d, rfl, hS, hR, up, ?_⟩
  intro n B
  walk_at "rd"
  · rename_i q
    have : n = 0 := by omega
    subst this
    rw [Stills.val_none t0 B] at h
    exact h
  · rename_i q
    obtain ⟨k, rfl⟩ : ∃ k, n = k + 1 := ⟨n - 1, by omega⟩
    have kl := B.le
    obtain ⟨p, s, ex, es, hp⟩ := hR.get (List.getElem?_eq_getElem (by omega : k < xs.length))
    have ek : ((k + 1 : Nat) : Int) - 1 = (k : Int) := by omega
    have at_ : atI xs (((k + 1 : Nat) : Int) - 1) = some (.ref p) := by
      rw [ek]
      exact atI_nat (by rw [List.getElem?_eq_getElem (by omega : k < xs.length), ex])
    refine ⟨a, _, _, _, rfl, rfl, hS, at_, ?_⟩
    walk_at "rd"
    rw [Stills.val_some t0 up B es] at h
    exact h
--@ moved
def sp_moved (K : PySem.W.Frag) : Sp := fun vs H Q _ => ∃ (a : Addr) (xs : List V) (l : List (Int × Int)) (d : Int), vs = [.ref a, .int d] ∧ SqL K H a xs ∧ Rows2 K H xs l ∧ Spans.Joined l ∧ ∀ m, Stills.Free l d m → Q (.int m) H
theorem sc_moved : FnScope ["spans", "day", "many"] ["spans", "day"] (defScope s_moved) := ⟨rfl, rfl, rfl, by decide +kernel, rfl, by decide +kernel, by decide +kernel⟩
theorem d_moved (S : Src K mg "moved" s_moved ["spans", "day"]) (T : Txt K mg) (D_begun : Def P w K mg base 1 "begun" ["rows", "day"] (sp_begun K)) : Def P w K mg base 2 "moved" ["spans", "day"] (sp_moved K) := by
  refine S.ok sc_moved (fun vs H Q E h => ?_) (fun f cdv A outer s H vs Q E hr h => ?_)
  · obtain ⟨a, xs, l, d, rfl, hS, hR, J, h⟩ := h
    rfl
  obtain ⟨a, xs, l, d, rfl, hS, hR, J, h⟩ := h
  refine ⟨_, (pss_cons (ps_set (i := 2) sc_moved.nd rfl (by first | exact Or.inl rfl | exact Or.inr rfl) (pe_fn D_begun hr (pa_cons (pv 0) (pa_cons (pv 1) pa_nil))))
      (pss_cons (ps_if (pt_cmpR op_eq (pv 2) pe_int (nomark _))
      (pss_one (ps_ret (pv 1)))
      pss_nil)
      (pss_one (ps_ret (pe_callB (call_max2 rfl) rfl T.n_max PyProof.Rows.boot_max (pa_cons (pv 1) (pa_cons (pe_ix ix_tup (pe_ix ix_list (pv 0) (pe_op op_sub (pv 2) pe_int) (fun _ _ => rfl)) pe_int (fun _ _ => rfl)) pa_nil))))))), ?_⟩
  have xl := hR.length
  walk_at "rd"
  refine ⟨a, xs, l, d, rfl, hS, hR, Stills.firsts_up J, ?_⟩
  intro n B
  walk_at "rd"
  · rename_i q
    have : n = 0 := by omega
    subst this
    exact h _ (Stills.moved_none B)
  · rename_i q
    obtain ⟨k, rfl⟩ : ∃ k, n = k + 1 := ⟨n - 1, by omega⟩
    have kl := B.le
    obtain ⟨p, s, ex, es, hp⟩ := hR.get (List.getElem?_eq_getElem (by omega : k < xs.length))
    have ek : ((k + 1 : Nat) : Int) - 1 = (k : Int) := by omega
    have at_ : atI xs (((k + 1 : Nat) : Int) - 1) = some (.ref p) := by
      rw [ek]
      exact atI_nat (by rw [List.getElem?_eq_getElem (by omega : k < xs.length), ex])
    refine ⟨a, _, _, _, rfl, rfl, hS, at_, ?_⟩
    walk_at "rd"
    exact h _ (Stills.moved_some J B es)
--@ month_days
def sp_month_days (K : PySem.W.Frag) : Sp := fun vs H Q _ => ∃ y m, vs = [.int y, .int m] ∧ 1 ≤ m ∧ m ≤ 12 ∧ Q (.int (Cal.mlen y m)) H
theorem sc_month_days : FnScope ["year", "month"] ["year", "month"] (defScope s_month_days) := ⟨rfl, rfl, rfl, by decide +kernel, rfl, by decide +kernel, by decide +kernel⟩
theorem d_month_days (S : Src K mg "month_days" s_month_days ["year", "month"]) (T : Txt K mg) (D_is_leap : Def P w K mg base 1 "is_leap" ["year"] (sp_is_leap K)) : Def P w K mg base 2 "month_days" ["year", "month"] (sp_month_days K) := by
  refine S.ok sc_month_days (fun vs H Q E h => ?_) (fun f cdv A outer s H vs Q E hr h => ?_)
  · obtain ⟨y, m, rfl, h1, h2, h⟩ := h
    rfl
  obtain ⟨y, m, rfl, h1, h2, h⟩ := h
  refine ⟨_, (pss_cons (ps_if (PW.pt (pw_and (pt_cmpR op_eq (pv 1) pe_int (nomark _)) (pw_and1 (pt_val (pe_fn D_is_leap hr (pa_cons (pv 0) pa_nil))))))
      (pss_one (ps_ret pe_int))
      pss_nil)
      (pss_one (ps_ret (pe_ix ix_tup (pe_gtup T.g_LENGTHS) (pe_op op_sub (pv 1) pe_int) (fun _ _ => rfl))))), ?_⟩
  have tab : ∀ a : Addr, (∀ H, SqT K H a [.int 31, .int 28, .int 31, .int 30, .int 31, .int 30, .int 31, .int 31, .int 30, .int 31, .int 30, .int 31]) → (m = 2 → Cal.leap y = false) →
      ∃ p xs i v, V.ref a = .ref p ∧ V.int (m - 1) = .int i ∧ SqT K H p xs ∧ atI xs i = some v ∧ Q v H := fun a ha hb => by
    have q : m = 1 ∨ m = 2 ∨ m = 3 ∨ m = 4 ∨ m = 5 ∨ m = 6 ∨ m = 7 ∨ m = 8 ∨ m = 9 ∨ m = 10 ∨ m = 11 ∨ m = 12 := by omega
    rcases q with rfl | rfl | rfl | rfl | rfl | rfl | rfl | rfl | rfl | rfl | rfl | rfl
    all_goals refine ⟨_, _, _, _, rfl, rfl, ha H, rfl, qi h (by simp [Cal.mlen, Cal.lp, *])⟩
  walk_at "rd"
  · refine ifB (fun hb => ?_) (fun hb => ?_)
    · exact qi h (by simp [Cal.mlen, Cal.lp, *])
    · intro a ha
      walk_at "rd"
      exact tab a ha (fun _ => hb)
  · intro a ha
    walk_at "rd"
    exact tab a ha (fun z => absurd z (by assumption))
--@ year_of
def sp_year_of (K : PySem.W.Frag) : Sp := fun vs H Q _ => ∃ d, vs = [.int d] ∧ ∀ y, Cal.ny y ≤ d → d < Cal.ny (y + 1) → Q (.int y) H
theorem sc_year_of : FnScope ["day", "year"] ["day"] (defScope s_year_of) := ⟨rfl, rfl, rfl, by decide +kernel, rfl, by decide +kernel, by decide +kernel⟩
theorem d_year_of (S : Src K mg "year_of" s_year_of ["day"]) (T : Txt K mg) (D_new_year : Def P w K mg base 1 "new_year" ["year"] (sp_new_year K)) : Def P w K mg base 2 "year_of" ["day"] (sp_year_of K) := by
  refine S.ok sc_year_of (fun vs H Q E h => ?_) (fun f cdv A outer s H vs Q E hr h => ?_)
  · obtain ⟨d, rfl, h⟩ := h
    rfl
  obtain ⟨d, rfl, h⟩ := h
  refine ⟨_, (pss_cons (ps_set (i := 1) sc_year_of.nd rfl (by first | exact Or.inl rfl | exact Or.inr rfl) (pe_op op_sub (pe_op op_add (pe_gint T.g_FIRST_YEAR) (pe_op op_fdiv (pe_op op_mul (pv 0) (pe_gint T.g_ROUND_YEARS)) (pe_gint T.g_ROUND_DAYS))) pe_int))
      (pss_cons (ps_while PassesOwn.never (pt_cmpR op_le (pe_fn D_new_year hr (pa_cons (pe_op op_add (pv 1) pe_int) pa_nil)) (pv 0) (nomark _))
      (pss_one (ps_set (i := 1) sc_year_of.nd rfl (by first | exact Or.inl rfl | exact Or.inr rfl) (pe_op op_add (pv 1) pe_int))))
      (pss_one (ps_ret (pv 1))))), ?_⟩
  walk_at "rd"
  refine ⟨fun n σ H' => H = H' ∧ ∃ y, σ = [some (.int d), some (.int y)] ∧ Cal.ny y ≤ d ∧ n = (d - Cal.ny y).toNat, ⟨_, rfl, _, rfl, Cal.year_guess, rfl⟩, ?_⟩
  rintro n σ H' ⟨rfl, y, rfl, hy, rfl⟩
  walk_at "rd"
  · refine ⟨_, fun σ' H' z => z, ?_⟩
    walk_at "rd"
    have e := Cal.ny_succ y
    have l := Cal.lp_01 y
    exact ⟨_, by omega, rfl, _, rfl, by assumption, rfl⟩
  · exact h y hy (by omega)
--@ _law_cell
def sp__law_cell (K : PySem.W.Frag) : Sp := fun vs H Q _ => ∃ (a : Addr) (ns : List Int) (k : Int), vs = [.ref a, .int k] ∧ SqL K H a (ns.map V.int) ∧ 0 ≤ k ∧ k ≤ 990000 ∧ ∀ r, 0 ≤ r → r < 10 ^ 40 → Q (.int r) H
theorem sc__law_cell : FnScope ["_law_script", "_law_k"] ["_law_script", "_law_k"] (defScope s__law_cell) := ⟨rfl, rfl, rfl, by decide +kernel, rfl, by decide +kernel, by decide +kernel⟩
theorem d__law_cell (S : Src K mg "_law_cell" s__law_cell ["_law_script", "_law_k"]) (T : Txt K mg) (D__law_draw : Def P w K mg base 1 "_law_draw" ["_law_script", "_law_k", "_law_many"] (sp__law_draw K)) : Def P w K mg base 2 "_law_cell" ["_law_script", "_law_k"] (sp__law_cell K) := by
  refine S.ok sc__law_cell (fun vs H Q E h => ?_) (fun f cdv A outer s H vs Q E hr h => ?_)
  · obtain ⟨a, ns, k, rfl, hS, k0, k1, h⟩ := h
    rfl
  obtain ⟨a, ns, k, rfl, hS, k0, k1, h⟩ := h
  refine ⟨_, (pss_cons (ps_if (PW.pt (pw_and (pt_cmpR op_lt (pv 1) (pe_callB call_len_seq rfl T.n_len PySem.boot_len (pa_cons (pv 0) pa_nil)) (nomark _)) (pw_and (pt_cmpR op_eq (pe_op op_mod (pe_ix ix_list (pv 0) (pv 1) (fun _ _ => rfl)) pe_int) pe_int (nomark _)) (pw_and1 (pt_cmpR op_gt (pe_ix ix_list (pv 0) (pv 1) (fun _ _ => rfl)) (pe_powc (v := 1000000000000000000) (by decide +kernel) ⟨by decide, by decide, by decide⟩) (nomark _))))))
      (pss_one (ps_ret (pe_op op_mod (pe_op op_fdiv (pe_ix ix_list (pv 0) (pv 1) (fun _ _ => rfl)) pe_int) (pe_powc (v := 10000000000000000000000000000000000000000) (by decide +kernel) ⟨by decide, by decide, by decide⟩))))
      pss_nil)
      (pss_one (ps_ret (pe_op op_add (pe_op op_mul (pe_fn D__law_draw hr (pa_cons (pv 0) (pa_cons (pv 1) (pa_cons (pe_op op_mul pe_int (pe_powc (v := 100000000) (by decide +kernel) ⟨by decide, by decide, by decide⟩)) pa_nil)))) pe_int) (pe_fn D__law_draw hr (pa_cons (pv 0) (pa_cons (pe_op op_add (pv 1) pe_int) (pa_cons (pe_op op_mul pe_int (pe_powc (v := 100000000) (by decide +kernel) ⟨by decide, by decide, by decide⟩)) pa_nil)))))))), ?_⟩
  have fin : ∀ r : Int, Q (.int (r % 10 ^ 40)) H := fun r => h _ (Int.emod_nonneg r (by decide)) (Int.emod_lt_of_pos r (by decide))
  have low : ∀ r q : Int, 0 ≤ r → r < 3 * 100000000 → 0 ≤ q → q < 3 * 100000000 → Q (.int (r * 300000007 + q)) H := fun r q r0 r1 q0 q1 => h _ (by omega) (Int.lt_trans (show r * 300000007 + q < 10 ^ 18 by omega) (by decide))
  walk_at "rd"
  · rename_i q
    have at_ : atI (ns.map V.int) k = some (.int (ns.getD k.toNat 0)) := at_ints k0 (by rw [List.length_map] at q; exact q)
    refine ⟨a, _, _, _, rfl, rfl, hS, at_, ?_⟩
    walk_at "rd"
    · refine ⟨a, _, _, _, rfl, rfl, hS, at_, ?_⟩
      walk_at "rd"
      · refine ⟨a, _, _, _, rfl, rfl, hS, at_, ?_⟩
        walk_at "rd"
        exact fin _
      · exact low _ _ (by assumption) (by assumption) (by assumption) (by assumption)
    · exact low _ _ (by assumption) (by assumption) (by assumption) (by assumption)
  · exact low _ _ (by assumption) (by assumption) (by assumption) (by assumption)
--@ _law_least
def sp__law_least (K : PySem.W.Frag) : Sp := fun vs H Q _ => ∃ (a : Addr) (xs : List V) (l : List (Int × Int)), vs = [.ref a] ∧ SqL K H a xs ∧ Rows2 K H xs l ∧ l.length < 31 ∧ (∀ s ∈ l, s.1 < s.2) ∧
  ∀ p ys r H', Same H H' → H p = none → H' p = some (.lst ys) → Rows2 K H' ys r → Spans.Joined r → (∀ d, Spans.Cov r d ↔ Spans.Cov l d) → Q (.ref p) H'
theorem sc__law_least : FnScope ["_law_spans", "_law_edges", "_law_found", "_law_first", "_law_day_here"] ["_law_spans"] (defScope s__law_least) := ⟨rfl, rfl, rfl, by decide +kernel, rfl, by decide +kernel, by decide +kernel⟩
theorem d__law_least (S : Src K mg "_law_least" s__law_least ["_law_spans"]) (T : Txt K mg) (D__law_in : Def P w K mg base 1 "_law_in" ["_law_spans", "_law_day_here"] (sp__law_in K)) : Def P w K mg base 2 "_law_least" ["_law_spans"] (sp__law_least K) := by
  refine S.ok sc__law_least (fun vs H Q E h => ?_) (fun f cdv A outer s H vs Q E hr h => ?_)
  · obtain ⟨a, xs, l, rfl, hS, hR, hl, ok, h⟩ := h
    rfl
  obtain ⟨a, xs, l, rfl, hS, hR, hl, ok, h⟩ := h
  refine ⟨_, (pss_cons (ps_set (i := 1) sc__law_least.nd rfl (by first | exact Or.inl rfl | exact Or.inr rfl) (pe_op op_cat (pe_comp (ix := []) ⟨rfl, by decide +kernel, rfl, by decide +kernel, rfl, (show (["_law_span"] : List Str).Nodup by decide +kernel), by walk_at "cap", by walk_at "sub", by walk_at "has"⟩ (pi_list (pv 0)) (fun b => (pe_ix (ix_tupK K) (pv 0) pe_int (fun _ _ => rfl)))) (pe_comp (ix := []) ⟨rfl, by decide +kernel, rfl, by decide +kernel, rfl, (show (["_law_span"] : List Str).Nodup by decide +kernel), by walk_at "cap", by walk_at "sub", by walk_at "has"⟩ (pi_list (pv 0)) (fun b => (pe_ix (ix_tupK K) (pv 0) pe_int (fun _ _ => rfl))))))
      (pss_cons (ps_set (i := 2) sc__law_least.nd rfl (by first | exact Or.inl rfl | exact Or.inr rfl) (pe_lst pa_nil))
      (pss_cons (ps_set (i := 3) sc__law_least.nd rfl (by first | exact Or.inl rfl | exact Or.inr rfl) pe_int)
      (pss_cons (ps_for PassesOwn.never rfl (pi_list (pe_callB (call_sortedS rfl) rfl T.n_sorted PyProof.Rows.boot_sorted (pa_cons (pe_callTy (call_setI rfl) rfl T.n_set PyProof.Rows.boot_set (pa_cons (pv 1) pa_nil)) pa_nil))) (pg_name (i := 4) sc__law_least.nd rfl (by first | exact Or.inl rfl | exact Or.inr rfl))
      (pss_cons (ps_if (PW.pt (pw_and (pt_val (pe_fn D__law_in hr (pa_cons (pv 0) (pa_cons (pv 4) pa_nil)))) (pw_and1 (pt_not (pt_val (pe_fn D__law_in hr (pa_cons (pv 0) (pa_cons (pe_op op_sub (pv 4) pe_int) pa_nil))))))))
      (pss_one (ps_set (i := 3) sc__law_least.nd rfl (by first | exact Or.inl rfl | exact Or.inr rfl) (pv 4)))
      pss_nil)
      (pss_one (ps_if (pt_not (pt_val (pe_fn D__law_in hr (pa_cons (pv 0) (pa_cons (pv 4) pa_nil)))))
      (pss_one (ps_expr (pe_bm PySem.F.plainAttrs_list PySem.F.slot_list_append PySem.F.type_list_append mt_append (pv 2) (pa_cons (pe_tup (pa_cons (pv 3) (pa_cons (pv 4) pa_nil))) pa_nil))))
      pss_nil))))
      (pss_one (ps_ret (pv 2))))))), ?_⟩
  have sz := sizeLine_eq
  have xl := hR.length
  have gd : ∀ (f : Int × Int → Int) (i : Nat) (s : Int × Int), l[i]? = some s → (l.map f).getD i 0 = f s := fun f i s e => by
    rw [List.getD_eq_getElem?_getD, List.getElem?_map, e]; rfl
  walk_at "rd"
  refine ⟨⟨_, hS⟩, ?_⟩
  intro l1 n1
  refine comp_list (fun i v => v = .int ((l.map (·.1)).getD i 0)) hS n1 (by omega) ?_ ?_
  · intro i x H' Q' hx sH hq
    obtain ⟨p, s, rfl, e, ht⟩ := hR.get hx
    walk_at "rd"
    exact ⟨p, _, _, _, rfl, rfl, SqT.of (sH _ _ ht), rfl, hq _ (by rw [gd _ i s e])⟩
  intro ys1 len1 hp1
  obtain rfl := ints_by (ns := l.map (·.1)) (by rw [len1, List.length_map, xl]) hp1
  have s1 := same_new n1 (.lst ((l.map (·.1)).map V.int))
  walk_at "rd"
  refine ⟨⟨_, s1.seq hS⟩, ?_⟩
  intro l2 n2
  refine comp_list (fun i v => v = .int ((l.map (·.2)).getD i 0)) (s1.seq hS) n2 (by omega) ?_ ?_
  · intro i x H' Q' hx sH hq
    obtain ⟨p, s, rfl, e, ht⟩ := hR.get hx
    walk_at "rd"
    exact ⟨p, _, _, _, rfl, rfl, SqT.of (sH _ _ (s1 _ _ ht)), rfl, hq _ (by rw [gd _ i s e])⟩
  intro ys2 len2 hp2
  obtain rfl := ints_by (ns := l.map (·.2)) (by rw [len2, List.length_map, xl]) hp2
  have s2 := same_new n2 (.lst ((l.map (·.2)).map V.int))
  refine ⟨l1, l2, _, _, rfl, rfl, s2 _ _ upd_same, upd_same, by simp; omega, ?_⟩
  intro l3 n3
  have e3 : (l.map (·.1)).map V.int ++ (l.map (·.2)).map V.int = (l.map (·.1) ++ l.map (·.2)).map V.int := by rw [List.map_append]
  rw [e3]
  have s3 := same_new n3 (.lst ((l.map (·.1) ++ l.map (·.2)).map V.int))
  walk_at "rd"
  intro p np
  have s4 := same_new np (.lst [])
  have sH := s1.trans (s2.trans (s3.trans s4))
  walk_at "rd"
  refine ⟨l3, _, rfl, SqL.of (s4 _ _ upd_same), by simp; omega, ?_⟩
  intro ps Hs ms ps0 ss es nd mm lm
  refine ⟨ps, ms, rfl, es, by simp at lm; omega, ?_⟩
  intro lq Hq ns lq0 sq eq pm srt
  have E1 : Spans.Edges l ns := ⟨sorted_lt pm nd srt, fun d => by
    rw [pm.mem_iff, mm, List.mem_append, List.mem_map, List.mem_map]
    constructor
    · rintro (⟨s, hs, e⟩ | ⟨s, hs, e⟩)
      · exact ⟨s, hs, .inl e.symm⟩
      · exact ⟨s, hs, .inr e.symm⟩
    · rintro ⟨s, hs, e | e⟩
      · exact .inl ⟨s, hs, e.symm⟩
      · exact .inr ⟨s, hs, e.symm⟩⟩
  have nl : ns.length < 64 := by rw [pm.length_eq]; simp at lm; omega
  have hp0 : H p = none := same_gone (s1.trans (s2.trans s3)) np
  have hps : Hs p = some (.lst []) := ss _ _ upd_same
  have SH := sH.trans (ss.trans sq)
  have npq : lq ≠ p := fun z => by rw [z, hps] at lq0; cases lq0
  refine ⟨lq, rfl, ⟨_, SqL.of eq⟩, for_list (xs := ns.map V.int) (fun i σ H' => ∃ ys z, (Same H H' ∧ H' lq = some (.lst (ns.map V.int)) ∧ H' p = some (.lst ys)) ∧ Rows2 K H' ys ((ns.take i).foldl (Spans.step l) ([], 0)).1 ∧ ys.length ≤ i ∧
    σ = [some (.ref a), some (.ref l3), some (.ref p), some (.int ((ns.take i).foldl (Spans.step l) ([], 0)).2), z]) ⟨[], _, ⟨SH, eq, sq _ _ hps⟩, .nil, Nat.le_refl _, rfl⟩ ?_ ?_ ?_⟩
  · rintro i σ H' _ ⟨ys, z, ⟨_, e, _⟩, _⟩
    exact SqL.of e
  · rintro i x σ H' hx ⟨ys, z, ⟨sH', eL, eP⟩, rows, yl, rfl⟩
    rw [List.getElem?_map] at hx
    obtain ⟨e, he, rfl⟩ := Option.map_eq_some_iff.mp hx
    have il : i < ns.length := (List.getElem?_eq_some_iff.mp he).1
    have tk : (ns.take (i + 1)).foldl (Spans.step l) ([], 0) = Spans.step l ((ns.take i).foldl (Spans.step l) ([], 0)) e := by
      rw [List.take_add_one, he, List.foldl_append]; rfl
    rw [tk]
    generalize (ns.take i).foldl (Spans.step l) ([], 0) = st at *
    have hS' := sH'.seq hS
    have hR' := hR.same sH'
    unfold Spans.step
    cases b1 : Spans.isIn l e with
    | false =>
      walk_at "rd"
      refine ⟨a, xs, l, e, rfl, hS', hR', ?_⟩
      rw [b1]
      walk_at "rd"
      refine ⟨a, xs, l, e, rfl, hS', hR', ?_⟩
      rw [b1]
      walk_at "rd"
      refine ⟨.inl ⟨rfl, _, SqL.of eP⟩, ?_⟩
      walk_at "rd"
      intro t nt
      have s5 := same_new nt (.tup [.int st.2, .int e])
      have nl' : (ys.length : Nat) < sizeLine := by omega
      have eP' := s5 _ _ eP
      refine ⟨p, _, _, rfl, rfl, eP', nl', ?_⟩
      have st2 : (upd (upd H' t (.tup [.int st.2, .int e])) p (.lst (ys ++ [.ref t]))) t = some (.tup [.int st.2, .int e]) := by
        rw [upd_ne (ne_of_none eP nt).symm]
        exact upd_same
      exact ⟨ys ++ [.ref t], _, ⟨same_put (sH'.trans s5) hp0, by rw [upd_ne npq]; exact s5 _ _ eL, upd_same⟩, ((rows.same s5).put eP').push (s := (st.2, e)) st2, by rw [List.length_append]; show ys.length + 1 ≤ i + 1; omega, rfl⟩
    | true =>
      cases b2 : Spans.isIn l (e - 1) with
      | false =>
        walk_at "rd"
        refine ⟨a, xs, l, e, rfl, hS', hR', ?_⟩
        rw [b1]
        walk_at "rd"
        refine ⟨a, xs, l, e - 1, rfl, hS', hR', ?_⟩
        rw [b2]
        walk_at "rd"
        refine ⟨a, xs, l, e, rfl, hS', hR', ?_⟩
        rw [b1]
        walk_at "rd"
        exact ⟨ys, _, ⟨sH', eL, eP⟩, rows, Nat.le_succ_of_le yl, rfl⟩
      | true =>
        walk_at "rd"
        refine ⟨a, xs, l, e, rfl, hS', hR', ?_⟩
        rw [b1]
        walk_at "rd"
        refine ⟨a, xs, l, e - 1, rfl, hS', hR', ?_⟩
        rw [b2]
        walk_at "rd"
        refine ⟨a, xs, l, e, rfl, hS', hR', ?_⟩
        rw [b1]
        walk_at "rd"
        exact ⟨ys, _, ⟨sH', eL, eP⟩, rows, Nat.le_succ_of_le yl, rfl⟩
  · rintro σ H' ⟨ys, z, ⟨sH', eL, eP⟩, rows, yl, rfl⟩
    rw [List.length_map, List.take_of_length_le (Nat.le_refl _)] at rows
    obtain ⟨j, c⟩ := Spans.least_ok ok E1
    walk_at "rd"
    exact h p ys _ H' sH' hp0 eP rows j c
--@ stands
def sp_stands (K : PySem.W.Frag) : Sp := fun vs H Q _ => ∃ (a : Addr) (xs : List V) (l : List (Int × Int)) (d : Int), vs = [.ref a, .int d] ∧ SqL K H a xs ∧ Rows2 K H xs l ∧ Spans.Joined l ∧ Q (.bl (Spans.isIn l d)) H
theorem sc_stands : FnScope ["spans", "day"] ["spans", "day"] (defScope s_stands) := ⟨rfl, rfl, rfl, by decide +kernel, rfl, by decide +kernel, by decide +kernel⟩
theorem d_stands (S : Src K mg "stands" s_stands ["spans", "day"]) (T : Txt K mg) (D_moved : Def P w K mg base 2 "moved" ["spans", "day"] (sp_moved K)) : Def P w K mg base 3 "stands" ["spans", "day"] (sp_stands K) := by
  refine S.ok sc_stands (fun vs H Q E h => ?_) (fun f cdv A outer s H vs Q E hr h => ?_)
  · obtain ⟨a, xs, l, d, rfl, hS, hR, J, h⟩ := h
    rfl
  obtain ⟨a, xs, l, d, rfl, hS, hR, J, h⟩ := h
  refine ⟨_, (pss_one (ps_ret (pe_cmpR op_gt (pe_fn D_moved hr (pa_cons (pv 0) (pa_cons (pv 1) pa_nil))) (pv 1) (nomark _)))), ?_⟩
  walk_at "rd"
  refine ⟨a, xs, l, d, rfl, hS, hR, J, ?_⟩
  intro m F
  walk_at "rd"
  refine qb h ?_
  cases b : Spans.isIn l d with
  | true => exact (decide_eq_true (F.gt.mpr (Spans.isIn_iff.mp b))).symm
  | false => exact (decide_eq_false fun z => by rw [Spans.isIn_iff.mpr (F.gt.mp z)] at b; cases b).symm
--@ date_of
def sp_date_of (K : PySem.W.Frag) : Sp := fun vs H Q _ => ∃ d, vs = [.int d] ∧ ∀ y m r p, Cal.IsDate y m r → Cal.num y m r = d → H p = none → Q (.ref p) (upd H p (.tup [.int y, .int m, .int r]))
theorem sc_date_of : FnScope ["day", "year", "month", "rest"] ["day"] (defScope s_date_of) := ⟨rfl, rfl, rfl, by decide +kernel, rfl, by decide +kernel, by decide +kernel⟩
theorem d_date_of (S : Src K mg "date_of" s_date_of ["day"]) (T : Txt K mg) (D_year_of : Def P w K mg base 2 "year_of" ["day"] (sp_year_of K)) (D_new_year : Def P w K mg base 1 "new_year" ["year"] (sp_new_year K)) (D_month_days : Def P w K mg base 2 "month_days" ["year", "month"] (sp_month_days K)) : Def P w K mg base 3 "date_of" ["day"] (sp_date_of K) := by
  refine S.ok sc_date_of (fun vs H Q E h => ?_) (fun f cdv A outer s H vs Q E hr h => ?_)
  · obtain ⟨d, rfl, h⟩ := h
    rfl
  obtain ⟨d, rfl, h⟩ := h
  refine ⟨_, (pss_cons (ps_set (i := 1) sc_date_of.nd rfl (by first | exact Or.inl rfl | exact Or.inr rfl) (pe_fn D_year_of hr (pa_cons (pv 0) pa_nil)))
      (pss_cons (ps_set (i := 2) sc_date_of.nd rfl (by first | exact Or.inl rfl | exact Or.inr rfl) pe_int)
      (pss_cons (ps_set (i := 3) sc_date_of.nd rfl (by first | exact Or.inl rfl | exact Or.inr rfl) (pe_op op_sub (pv 0) (pe_fn D_new_year hr (pa_cons (pv 1) pa_nil))))
      (pss_cons (ps_while PassesOwn.never (pt_cmpR op_ge (pv 3) (pe_fn D_month_days hr (pa_cons (pv 1) (pa_cons (pv 2) pa_nil))) (nomark _))
      (pss_cons (ps_set (i := 3) sc_date_of.nd rfl (by first | exact Or.inl rfl | exact Or.inr rfl) (pe_op op_sub (pv 3) (pe_fn D_month_days hr (pa_cons (pv 1) (pa_cons (pv 2) pa_nil)))))
      (pss_one (ps_set (i := 2) sc_date_of.nd rfl (by first | exact Or.inl rfl | exact Or.inr rfl) (pe_op op_add (pv 2) pe_int)))))
      (pss_one (ps_ret (pe_tup (pa_cons (pv 1) (pa_cons (pv 2) (pa_cons (pe_op op_add (pv 3) pe_int) pa_nil)))))))))), ?_⟩
  walk_at "rd"
  intro y hy1 hy2
  walk_at "rd"
  have e := Cal.ny_succ y
  refine ⟨fun n σ H' => H = H' ∧ ∃ m r, σ = [some (.int d), some (.int y), some (.int m), some (.int r)] ∧ 1 ≤ m ∧ m ≤ 12 ∧ r = d - Cal.ny y - Cal.cum y m ∧ 0 ≤ r ∧ n = r.toNat, ⟨_, rfl, _, _, rfl, by decide, by decide, (by simp [Cal.cum]), by omega, rfl⟩, ?_⟩
  rintro n σ H' ⟨rfl, m, r, rfl, m1, m2, hr, r0, rfl⟩
  have b := @Cal.mlen_in y m m1 m2
  walk_at "rd"
  · refine ⟨_, fun σ' H' z => z, ?_⟩
    walk_at "rd"
    have c := @Cal.cum_in y m m1 m2
    have c12 := Cal.cum_12 y
    have m3 : m ≤ 11 := by
      by_cases q : m = 12
      · subst q; omega
      · omega
    have cs := @Cal.cum_succ y m m1 m3
    exact ⟨_, by omega, rfl, _, _, rfl, by omega, by omega, by omega, by omega, rfl⟩
  · intro p hp
    exact h _ _ _ p ⟨m1, m2, by omega, by omega⟩ (by unfold Cal.num; omega) hp
--@ _law_some
def sp__law_some (K : PySem.W.Frag) : Sp := fun vs H Q _ => ∃ (a : Addr) (ns : List Int) (near : Int), vs = [.ref a, .int near] ∧ SqL K H a (ns.map V.int) ∧ ns.length ≤ 63 ∧ 0 ≤ near ∧ near ≤ 1000000 ∧
  ∀ p1 p2 q xs ys t l H', Same H H' → H p1 = none → H p2 = none → H' q = some (.tup [.ref p1, .ref p2]) → H' p1 = some (.lst xs) → H' p2 = some (.lst ys) → Rows2 K H' xs t → Rows2 K H' ys l → t.length ≤ 16 → l.length ≤ 8 → (∀ s ∈ t, 0 ≤ s.1 ∧ s.1 ≤ 1000000 ∧ 0 ≤ s.2) → (∀ s ∈ l, 0 ≤ s.1 ∧ s.1 < s.2 ∧ s.2 ≤ 1000000) → Q (.ref q) H'
theorem sc__law_some : FnScope ["_law_script", "_law_near", "_law_pairs", "_law_spans", "_law_k", "_law_cell_here", "_law_day_here", "_law_long", "_law_rest", "_law_value_here"] ["_law_script", "_law_near"] (defScope s__law_some) := ⟨rfl, rfl, rfl, by decide +kernel, rfl, by decide +kernel, by decide +kernel⟩
theorem d__law_some (S : Src K mg "_law_some" s__law_some ["_law_script", "_law_near"]) (T : Txt K mg) (D__law_cell : Def P w K mg base 2 "_law_cell" ["_law_script", "_law_k"] (sp__law_cell K)) (D__law_day : Def P w K mg base 1 "_law_day" ["_law_cell_here", "_law_near"] (sp__law_day K)) : Def P w K mg base 3 "_law_some" ["_law_script", "_law_near"] (sp__law_some K) := by
  refine S.ok sc__law_some (fun vs H Q E h => ?_) (fun f cdv A outer s H vs Q E hr h => ?_)
  · obtain ⟨a, ns, near, rfl, hS, hl, b0, b1, h⟩ := h
    rfl
  obtain ⟨a, ns, near, rfl, hS, hl, b0, b1, h⟩ := h
  refine ⟨_, (pss_cons (ps_set (i := 2) sc__law_some.nd rfl (by first | exact Or.inl rfl | exact Or.inr rfl) (pe_lst pa_nil))
      (pss_cons (ps_set (i := 3) sc__law_some.nd rfl (by first | exact Or.inl rfl | exact Or.inr rfl) (pe_lst pa_nil))
      (pss_cons (ps_for PassesOwn.never rfl (pi_range2 rfl T.n_range (pa_cons pe_int (pa_cons (pe_callB (call_min2 rfl) rfl T.n_min PyProof.Rows.boot_min (pa_cons pe_int (pa_cons (pe_callB (call_max2 rfl) rfl T.n_max PyProof.Rows.boot_max (pa_cons pe_int (pa_cons (pe_callB call_len_seq rfl T.n_len PySem.boot_len (pa_cons (pv 0) pa_nil)) pa_nil))) pa_nil))) pa_nil))) (pg_name (i := 4) sc__law_some.nd rfl (by first | exact Or.inl rfl | exact Or.inr rfl))
      (pss_cons (ps_set (i := 5) sc__law_some.nd rfl (by first | exact Or.inl rfl | exact Or.inr rfl) (pe_fn D__law_cell hr (pa_cons (pv 0) (pa_cons (pv 4) pa_nil))))
      (pss_cons (ps_set (i := 6) sc__law_some.nd rfl (by first | exact Or.inl rfl | exact Or.inr rfl) (pe_fn D__law_day hr (pa_cons (pv 5) (pa_cons (pv 1) pa_nil))))
      (pss_cons (ps_set (i := 5) sc__law_some.nd rfl (by first | exact Or.inl rfl | exact Or.inr rfl) (pe_op op_fdiv (pv 5) pe_int))
      (pss_one (ps_cut (ps_if (PW.pt (pw_and (pt_cmpR op_eq (pe_op op_mod (pv 5) pe_int) pe_int (nomark _)) (pw_and (pt_cmpR op_lt (pe_callB call_len_seq rfl T.n_len PySem.boot_len (pa_cons (pv 3) pa_nil)) pe_int (nomark _)) (pw_and1 (pt_cmpR op_lt (pv 6) pe_int (nomark _))))))
      (pss_cons (ps_set (i := 7) sc__law_some.nd rfl (by first | exact Or.inl rfl | exact Or.inr rfl) (pe_op op_add pe_int (pe_op op_mod (pe_op op_fdiv (pv 5) pe_int) (pe_ix ix_list (pe_lst (pa_cons pe_int (pa_cons pe_int pa_nil))) (pe_op op_mod (pe_op op_fdiv (pv 5) pe_int) pe_int) (fun _ _ => rfl)))))
      (pss_one (ps_expr (pe_bm PySem.F.plainAttrs_list PySem.F.slot_list_append PySem.F.type_list_append mt_append (pv 3) (pa_cons (pe_tup (pa_cons (pv 6) (pa_cons (pe_callB (call_min2 rfl) rfl T.n_min PyProof.Rows.boot_min (pa_cons pe_int (pa_cons (pe_op op_add (pv 6) (pv 7)) pa_nil))) pa_nil))) pa_nil)))))
      (pss_one (ps_if (pt_cmpR op_lt (pe_callB call_len_seq rfl T.n_len PySem.boot_len (pa_cons (pv 2) pa_nil)) pe_int (nomark _))
      (pss_cons (ps_set (i := 8) sc__law_some.nd rfl (by first | exact Or.inl rfl | exact Or.inr rfl) (pe_op op_fdiv (pv 5) pe_int))
      (pss_cons (ps_set (i := 9) sc__law_some.nd rfl (by first | exact Or.inl rfl | exact Or.inr rfl) (pe_ix ix_list (pe_lst (pa_cons pe_int (pa_cons (pe_powc (v := 1000000) (by decide +kernel) ⟨by decide, by decide, by decide⟩) (pa_cons (pe_op op_mod (pv 8) pe_int) (pa_cons (pe_op op_mod (pv 8) (pe_op op_add (pe_powc (v := 1000000) (by decide +kernel) ⟨by decide, by decide, by decide⟩) pe_int)) (pa_cons (pe_op op_mul (pv 8) (pe_powc (v := 1000000000000000) (by decide +kernel) ⟨by decide, by decide, by decide⟩)) pa_nil)))))) (pe_op op_mod (pe_op op_fdiv (pv 5) pe_int) pe_int) (fun _ _ => rfl)))
      (pss_one (ps_expr (pe_bm PySem.F.plainAttrs_list PySem.F.slot_list_append PySem.F.type_list_append mt_append (pv 2) (pa_cons (pe_tup (pa_cons (pv 6) (pa_cons (pv 9) pa_nil))) pa_nil))))))
      pss_nil)))))))))
      (pss_one (ps_ret (pe_tup (pa_cons (pv 2) (pa_cons (pv 3) pa_nil)))))))), ?_⟩
  have sz := sizeLine_eq
  walk_at "rd"
  intro p np
  have sp := same_new np (.lst [])
  walk_at "rd"
  intro p2 np2
  have sp2 := same_new np2 (.lst [])
  have sp' := sp.trans sp2
  have hS1 := sp'.seq hS
  have n2 : H p2 = none := same_gone sp np2
  have ne : p ≠ p2 := ne_of_none (upd_same (H := H) (o := .lst [])) np2
  walk_at "rd"
  refine for_range (fun i σ H' => ∃ xs ys t l z1 z2 z3 z4 z5 z6, (Same H H' ∧ H' p = some (.lst xs) ∧ H' p2 = some (.lst ys)) ∧ (Rows2 K H' xs t ∧ Rows2 K H' ys l) ∧ (t.length ≤ 16 ∧ l.length ≤ 8) ∧ ((∀ s ∈ t, 0 ≤ s.1 ∧ s.1 ≤ 1000000 ∧ 0 ≤ s.2) ∧ ∀ s ∈ l, 0 ≤ s.1 ∧ s.1 < s.2 ∧ s.2 ≤ 1000000) ∧ σ = [some (.ref a), some (.int near), some (.ref p), some (.ref p2), z1, z2, z3, z4, z5, z6])
    ⟨[], [], [], [], _, _, _, _, _, _, ⟨sp', sp2 _ _ upd_same, upd_same⟩, ⟨.nil, .nil⟩, ⟨Nat.zero_le _, Nat.zero_le _⟩, ⟨fun s hs => (by cases hs), fun s hs => (by cases hs)⟩, rfl⟩ ?_ ?_
  · rintro i σ H' hi ⟨xs, ys, t, l, z1, z2, z3, z4, z5, z6, ⟨sH, eP, eQ⟩, ⟨rT, rL⟩, ⟨tl, ll⟩, ⟨gT, gL⟩, rfl⟩
    have hS' := sH.seq hS
    have xl := rT.length
    have yl := rL.length
    have i60 : i < 60 := by
      refine Nat.lt_of_lt_of_le hi ?_
      split <;> omega
    have hP : SqL K H' p xs := SqL.of eP
    have hQ : SqL K H' p2 ys := SqL.of eQ
    walk_at "rd"
    intro dy dy0 dy1
    walk_at "rd"
    rename_i o o0 o1
    have c0 : 0 ≤ o / 3000003 := Int.ediv_nonneg o0 (by decide)
    have c1 : o / 3000003 < 10 ^ 40 := by omega
    refine ⟨fun σ' H'' => ∃ xs ys t l z1 z2 z3 z4 z5 z6, (Same H H'' ∧ H'' p = some (.lst xs) ∧ H'' p2 = some (.lst ys)) ∧ (Rows2 K H'' xs t ∧ Rows2 K H'' ys l) ∧ (t.length ≤ 16 ∧ l.length ≤ 8) ∧ ((∀ s ∈ t, 0 ≤ s.1 ∧ s.1 ≤ 1000000 ∧ 0 ≤ s.2) ∧ ∀ s ∈ l, 0 ≤ s.1 ∧ s.1 < s.2 ∧ s.2 ≤ 1000000) ∧ σ' = [some (.ref a), some (.int near), some (.ref p), some (.ref p2), z1, z2, z3, z4, z5, z6], ?_, ?_⟩
    · walk_at "rd"
      · rename_i q1 q2 q3
        intro w nw
        have s5 := same_new nw (.lst [.int 9, .int 100000])
        walk_at "rd"
        have d0 : 0 ≤ o / 3000003 / 900000 % 2 := Int.emod_nonneg _ (by decide)
        have d1 : o / 3000003 / 900000 % 2 < 2 := Int.emod_lt_of_pos _ (by decide)
        obtain ⟨v, hv, hm⟩ := at_mem (xs := [.int 9, .int 100000]) d0 (by simpa using d1)
        obtain ⟨w0, rfl, w1, w2⟩ := (mem1 ⟨_, rfl, by omega, by omega⟩ (mem1 ⟨_, rfl, by omega, by omega⟩ mem0) : ∀ v ∈ ([.int 9, .int 100000] : List V), ∃ w0 : Int, v = .int w0 ∧ 1 ≤ w0 ∧ w0 ≤ 100000) v hm
        refine ⟨w, _, _, _, rfl, rfl, SqL.of upd_same, hv, ?_⟩
        have k0 : 0 ≤ o / 3000003 / 3 % w0 := Int.emod_nonneg _ (by omega)
        walk_at "rd"
        refine ⟨.inl ⟨rfl, _, SqL.of (s5 _ _ eQ)⟩, ?_⟩
        walk_at "rd"
        intro u nu
        obtain ⟨e, he⟩ : ∃ e : Int, e = if dy + (1 + o / 3000003 / 3 % w0) < 1000000 then dy + (1 + o / 3000003 / 3 % w0) else 1000000 := ⟨_, rfl⟩
        have e0 : dy < e ∧ e ≤ 1000000 := by rw [he]; constructor <;> split <;> omega
        rw [← he]
        have s6 := same_new nu (.tup [.int dy, .int e])
        have eQ' := s6 _ _ (s5 _ _ eQ)
        have eP' := s6 _ _ (s5 _ _ eP)
        refine ⟨p2, _, _, rfl, rfl, eQ', by omega, ?_⟩
        have st2 : (upd (upd (upd H' w (.lst [.int 9, .int 100000])) u (.tup [.int dy, .int e])) p2 (.lst (ys ++ [.ref u]))) u = some (.tup [.int dy, .int e]) := by
          rw [upd_ne (ne_of_none (s5 _ _ eQ) nu).symm]
          exact upd_same
        refine ⟨xs, ys ++ [.ref u], t, l ++ [(dy, e)], _, _, _, _, _, _, ⟨same_put (sH.trans (s5.trans s6)) n2, by rw [upd_ne ne]; exact eP', upd_same⟩, ⟨(rT.same (s5.trans s6)).put eQ', ((rL.same (s5.trans s6)).put eQ').push (s := (dy, e)) st2⟩, ⟨tl, by rw [List.length_append]; show l.length + 1 ≤ 8; omega⟩, ⟨gT, fun s hs => ?_⟩, rfl⟩
        rcases List.mem_append.mp hs with hs | hs
        · exact gL s hs
        · obtain rfl : s = (dy, e) := by simpa using hs
          exact ⟨dy0, e0.1, e0.2⟩
      all_goals first
        | (refine ⟨xs, ys, t, l, _, _, _, _, _, _, ⟨sH, eP, eQ⟩, ⟨rT, rL⟩, ⟨tl, ll⟩, ⟨gT, gL⟩, rfl⟩; done)
        | skip
      all_goals
        rename_i q1
        intro w nw
        have g0 : 0 ≤ o / 3000003 / 15 := Int.ediv_nonneg c0 (by decide)
        have s5 := same_new nw (.lst [.int 0, .int 1000000, .int (o / 3000003 / 15 % 9), .int (o / 3000003 / 15 % (1000000 + 1)), .int (o / 3000003 / 15 * 1000000000000000)])
        walk_at "rd"
        have d0 : 0 ≤ o / 3000003 / 3 % 5 := Int.emod_nonneg _ (by decide)
        have d1 : o / 3000003 / 3 % 5 < 5 := Int.emod_lt_of_pos _ (by decide)
        obtain ⟨v, hv, hm⟩ := at_mem (xs := [.int 0, .int 1000000, .int (o / 3000003 / 15 % 9), .int (o / 3000003 / 15 % (1000000 + 1)), .int (o / 3000003 / 15 * 1000000000000000)]) d0 (by simpa using d1)
        obtain ⟨w0, rfl, w1⟩ := (mem1 ⟨_, rfl, by omega⟩ (mem1 ⟨_, rfl, by omega⟩ (mem1 ⟨_, rfl, by omega⟩ (mem1 ⟨_, rfl, by omega⟩ (mem1 ⟨_, rfl, by omega⟩ mem0)))) : ∀ v ∈ ([.int 0, .int 1000000, .int (o / 3000003 / 15 % 9), .int (o / 3000003 / 15 % (1000000 + 1)), .int (o / 3000003 / 15 * 1000000000000000)] : List V), ∃ w0 : Int, v = .int w0 ∧ 0 ≤ w0) v hm
        refine ⟨w, _, _, _, rfl, rfl, SqL.of upd_same, hv, ?_⟩
        walk_at "rd"
        refine ⟨.inl ⟨rfl, _, SqL.of (s5 _ _ eP)⟩, ?_⟩
        walk_at "rd"
        intro u nu
        have s6 := same_new nu (.tup [.int dy, .int w0])
        have eQ' := s6 _ _ (s5 _ _ eQ)
        have eP' := s6 _ _ (s5 _ _ eP)
        refine ⟨p, _, _, rfl, rfl, eP', by omega, ?_⟩
        have st2 : (upd (upd (upd H' w (.lst [.int 0, .int 1000000, .int (o / 3000003 / 15 % 9), .int (o / 3000003 / 15 % (1000000 + 1)), .int (o / 3000003 / 15 * 1000000000000000)])) u (.tup [.int dy, .int w0])) p (.lst (xs ++ [.ref u]))) u = some (.tup [.int dy, .int w0]) := by
          rw [upd_ne (ne_of_none (s5 _ _ eP) nu).symm]
          exact upd_same
        refine ⟨xs ++ [.ref u], ys, t ++ [(dy, w0)], l, _, _, _, _, _, _, ⟨same_put (sH.trans (s5.trans s6)) np, upd_same, by rw [upd_ne ne.symm]; exact eQ'⟩, ⟨((rT.same (s5.trans s6)).put eP').push (s := (dy, w0)) st2, (rL.same (s5.trans s6)).put eP'⟩, ⟨by rw [List.length_append]; show t.length + 1 ≤ 16; omega, ll⟩, ⟨fun s hs => ?_, gL⟩, rfl⟩
        rcases List.mem_append.mp hs with hs | hs
        · exact gT s hs
        · obtain rfl : s = (dy, w0) := by simpa using hs
          exact ⟨dy0, dy1, w1⟩
    · rintro σ' H'' z
      exact z
  · rintro σ H' ⟨xs, ys, t, l, z1, z2, z3, z4, z5, z6, ⟨sH, eP, eQ⟩, ⟨rT, rL⟩, ⟨tl, ll⟩, ⟨gT, gL⟩, rfl⟩
    walk_at "rd"
    intro q nq
    have sq := same_new nq (.tup [.ref p, .ref p2])
    exact h p p2 q xs ys t l _ (sH.trans sq) np n2 upd_same (sq _ _ eP) (sq _ _ eQ) (rT.same sq) (rL.same sq) tl ll gT gL
--@ _law_cuts
def sp__law_cuts (K : PySem.W.Frag) : Sp := fun vs H Q _ => ∃ (a q : Addr) (ns D : List Int), vs = [.ref a, .ref q] ∧ SqL K H a (ns.map V.int) ∧ SqL K H q (D.map V.int) ∧ 0 < D.length ∧ D.length < 1000 ∧ (∀ d ∈ D, 0 ≤ d ∧ d ≤ 1000000) ∧
  ∀ (p : Addr) (cs : List Int) H', Same H H' → H p = none → H' p = some (.lst (cs.map V.int)) → cs.Pairwise (· ≤ ·) → 2 ≤ cs.length → cs.length ≤ 6 → (∀ d ∈ cs, 0 ≤ d ∧ d ≤ 1000000) → Q (.ref p) H'
theorem sc__law_cuts : FnScope ["_law_script", "_law_days", "_law_cuts_here", "_law_k", "_law_cell_here"] ["_law_script", "_law_days"] (defScope s__law_cuts) := ⟨rfl, rfl, rfl, by decide +kernel, rfl, by decide +kernel, by decide +kernel⟩
theorem d__law_cuts (S : Src K mg "_law_cuts" s__law_cuts ["_law_script", "_law_days"]) (T : Txt K mg) (D__law_cell : Def P w K mg base 2 "_law_cell" ["_law_script", "_law_k"] (sp__law_cell K)) : Def P w K mg base 3 "_law_cuts" ["_law_script", "_law_days"] (sp__law_cuts K) := by
  refine S.ok sc__law_cuts (fun vs H Q E h => ?_) (fun f cdv A outer s H vs Q E hr h => ?_)
  · obtain ⟨a, q, ns, D, rfl, hS, hD, D0, D1, Din, h⟩ := h
    rfl
  obtain ⟨a, q, ns, D, rfl, hS, hD, D0, D1, Din, h⟩ := h
  refine ⟨_, (pss_cons (ps_set (i := 2) sc__law_cuts.nd rfl (by first | exact Or.inl rfl | exact Or.inr rfl) (pe_lst pa_nil))
      (pss_cons (ps_for PassesOwn.never rfl (pi_range2 rfl T.n_range (pa_cons pe_int (pa_cons (pe_op op_add pe_int (pe_op op_mod (pe_fn D__law_cell hr (pa_cons (pv 0) (pa_cons pe_int pa_nil))) pe_int)) pa_nil))) (pg_name (i := 3) sc__law_cuts.nd rfl (by first | exact Or.inl rfl | exact Or.inr rfl))
      (pss_cons (ps_set (i := 4) sc__law_cuts.nd rfl (by first | exact Or.inl rfl | exact Or.inr rfl) (pe_fn D__law_cell hr (pa_cons (pv 0) (pa_cons (pv 3) pa_nil))))
      (pss_one (ps_expr (pe_bm PySem.F.plainAttrs_list PySem.F.slot_list_append PySem.F.type_list_append mt_append (pv 2) (pa_cons (pe_ix ix_list (pe_lst (pa_cons (pe_op op_mod (pe_op op_fdiv (pv 4) pe_int) pe_int) (pa_cons (pe_ix ix_list (pv 1) (pe_op op_mod (pe_op op_fdiv (pv 4) pe_int) (pe_callB call_len_seq rfl T.n_len PySem.boot_len (pa_cons (pv 1) pa_nil))) (fun _ _ => rfl)) pa_nil))) (pe_op op_mod (pv 4) pe_int) (fun _ _ => rfl)) pa_nil))))))
      (pss_one (ps_ret (pe_callB call_sortedL rfl T.n_sorted PyProof.Rows.boot_sorted (pa_cons (pv 2) pa_nil)))))), ?_⟩
  have sz := sizeLine_eq
  walk_at "rd"
  intro p np
  have sp := same_new np (.lst [])
  have hS1 := sp.seq hS
  walk_at "rd"
  rename_i r r0 r1
  have n5 : 2 ≤ ((5 + r % 5 - 3).toNat) ∧ ((5 + r % 5 - 3).toNat) ≤ 6 := by omega
  refine for_range (fun i σ H' => ∃ (cs : List Int) (z1 z2 : Option V), (Same H H' ∧ H' p = some (.lst (cs.map V.int))) ∧ cs.length = i ∧ (∀ d ∈ cs, 0 ≤ d ∧ d ≤ 1000000) ∧ σ = [some (.ref a), some (.ref q), some (.ref p), z1, z2])
    ⟨[], _, _, ⟨sp, upd_same⟩, rfl, fun d hd => (by cases hd), rfl⟩ ?_ ?_
  · rintro i σ H' hi ⟨cs, z1, z2, ⟨sH, eP⟩, cl, cin, rfl⟩
    have hS' := sH.seq hS
    have hD' := sH.seq hD
    have i6 : i < 6 := by omega
    walk_at "rd"
    rename_i o o0 o1
    have m1 : 0 ≤ o / 2 % ((D.map V.int).length : Int) ∧ o / 2 % ((D.map V.int).length : Int) < (D.length : Int) := by
      rw [List.length_map]
      exact ⟨Int.emod_nonneg _ (by omega), Int.emod_lt_of_pos _ (by omega)⟩
    have dm : 0 ≤ D.getD (o / 2 % ((D.map V.int).length : Int)).toNat 0 ∧ D.getD (o / 2 % ((D.map V.int).length : Int)).toNat 0 ≤ 1000000 := by
      refine Din _ ?_
      rw [List.getD_eq_getElem?_getD, List.getElem?_eq_getElem (by omega : (o / 2 % ((D.map V.int).length : Int)).toNat < D.length)]
      exact List.getElem_mem _
    have k1 : 0 ≤ o % 2 := Int.emod_nonneg _ (by decide)
    have k2 : o % 2 < 2 := Int.emod_lt_of_pos _ (by decide)
    refine ⟨.inl ⟨rfl, _, SqL.of eP⟩, ?_⟩
    walk_at "rd"
    refine ⟨by rw [List.length_map]; omega, ?_⟩
    walk_at "rd"
    refine ⟨q, _, _, _, rfl, rfl, hD', at_ints m1.1 m1.2, ?_⟩
    walk_at "rd"
    intro w nw
    have sw := same_new nw (.lst [.int (o / 2 % 1000001), .int (D.getD (o / 2 % ((D.map V.int).length : Int)).toNat 0)])
    walk_at "rd"
    obtain ⟨v, hv, hm⟩ := at_mem (xs := [.int (o / 2 % 1000001), .int (D.getD (o / 2 % ((D.map V.int).length : Int)).toNat 0)]) k1 (by simpa using k2)
    obtain ⟨c, rfl, c0, c1⟩ := (mem1 ⟨_, rfl, by omega, by omega⟩ (mem1 ⟨_, rfl, dm.1, dm.2⟩ mem0) : ∀ v ∈ ([.int (o / 2 % 1000001), .int (D.getD (o / 2 % ((D.map V.int).length : Int)).toNat 0)] : List V), ∃ w0 : Int, v = .int w0 ∧ 0 ≤ w0 ∧ w0 ≤ 1000000) v hm
    refine ⟨w, _, _, _, rfl, rfl, SqL.of upd_same, hv, ?_⟩
    refine ⟨p, _, _, rfl, rfl, sw _ _ eP, by rw [List.length_map]; omega, ?_⟩
    refine ⟨cs ++ [c], _, _, ⟨same_put (sH.trans sw) np, by rw [upd_same, List.map_append]; rfl⟩, by rw [List.length_append, cl]; rfl, fun d hd => ?_, rfl⟩
    rcases List.mem_append.mp hd with hd | hd
    · exact cin d hd
    · obtain rfl : d = c := by simpa using hd
      exact ⟨c0, c1⟩
  · rintro σ H' ⟨cs, z1, z2, ⟨sH, eP⟩, cl, cin, rfl⟩
    walk_at "rd"
    refine ⟨p, cs, rfl, SqL.of eP, by omega, ?_⟩
    intro lq Hq ds lq0 sq eq pm srt
    exact h lq ds Hq (sH.trans sq) (same_gone sH lq0) eq srt (by rw [pm.length_eq]; omega) (by rw [pm.length_eq]; omega) fun d hd => cin d (pm.mem_iff.mp hd)
--@ Count_upto
noncomputable def Uk : Kd → Int → Int
  | .plain, d => d
  | .bank, d => d
  | .thirty, d => Cnt.UT d
  | .exact, d => Cnt.UE d
theorem Uk_mono {kd : Kd} {a b : Int} (h0 : 0 ≤ a) (ab : a ≤ b) : Uk kd a ≤ Uk kd b := by
  cases kd with
  | plain => exact ab
  | bank => exact ab
  | thirty => exact Cnt.UT_mono h0 ab
  | exact => exact Cnt.UE_mono h0 ab
theorem Uk_in {kd : Kd} {d : Int} (h0 : 0 ≤ d) (h1 : d ≤ 1000000) : -1 ≤ Uk kd d ∧ Uk kd d ≤ 1000000000 := by
  cases kd with
  | plain => exact ⟨by show -1 ≤ d; omega, by show d ≤ 1000000000; omega⟩
  | bank => exact ⟨by show -1 ≤ d; omega, by show d ≤ 1000000000; omega⟩
  | thirty => exact Cnt.UT_in h0 h1
  | exact => exact Cnt.UE_in h0 h1
def sp_m_upto (kd : Kd) (K : PySem.W.Frag) : Sp := fun vs H Q _ => ∃ (a : Addr) (d : Int), vs = [.ref a, .int d] ∧ IsCnt K H a kd ∧ Q (.int (Uk kd d)) H
theorem sc_Count_upto : FnScope ["self", "day"] ["self", "day"] (defScope s_Count_upto) := ⟨rfl, rfl, rfl, by decide +kernel, rfl, by decide +kernel, by decide +kernel⟩
theorem d_Count_upto (kd : Kd) (hk : kd = .plain ∨ kd = .bank) (S : MethS K (cA K kd.cls) "upto" "Count.upto" s_Count_upto ["self", "day"]) (T : Txt K mg)  : DefM P w K mg base 4 (cA K kd.cls) "upto" ["self", "day"] (sp_m_upto kd K) := by

  refine S.ok sc_Count_upto (fun vs H Q E h => ?_) (fun f cdv A outer s H vs Q E hr h => ?_)
  · obtain ⟨a, d, rfl, hc, h⟩ := h
    rfl
  obtain ⟨a, d, rfl, hc, h⟩ := h
  refine ⟨_, (pss_one (ps_ret (pv 1))), ?_⟩
  rcases hk with rfl | rfl
  · walk_at "rd"
    exact h
  · walk_at "rd"
    exact h
--@ Thirty_upto

theorem sc_Thirty_upto : FnScope ["self", "day", "date", "months"] ["self", "day"] (defScope s_Thirty_upto) := ⟨rfl, rfl, rfl, by decide +kernel, rfl, by decide +kernel, by decide +kernel⟩
theorem d_Thirty_upto (kd : Kd) (hk : kd = .thirty) (S : MethS K (cA K kd.cls) "upto" "Thirty.upto" s_Thirty_upto ["self", "day"]) (T : Txt K mg) (D_date_of : Def P w K mg base 3 "date_of" ["day"] (sp_date_of K)) : DefM P w K mg base 4 (cA K kd.cls) "upto" ["self", "day"] (sp_m_upto kd K) := by
  subst hk
  refine S.okF sc_Thirty_upto (fun vs H Q E h => ?_) (fun f cdv A outer s H vs Q E hr h => ?_)
  · obtain ⟨a, d, rfl, hc, h⟩ := h
    rfl
  obtain ⟨a, d, rfl, hc, h⟩ := h
  refine ⟨_, (pss_cons (ps_set (i := 2) sc_Thirty_upto.nd rfl (by first | exact Or.inl rfl | exact Or.inr rfl) (pe_fn D_date_of hr (pa_cons (pv 1) pa_nil)))
      (pss_cons (ps_set (i := 3) sc_Thirty_upto.nd rfl (by first | exact Or.inl rfl | exact Or.inr rfl) (pe_op op_sub (pe_op op_add (pe_op op_mul pe_int (pe_op op_sub (pe_ix ix_tup (pv 2) pe_int (fun _ _ => rfl)) (pe_gint T.g_FIRST_YEAR))) (pe_ix ix_tup (pv 2) pe_int (fun _ _ => rfl))) pe_int))
      (pss_one (ps_ret (pe_op op_sub (pe_op op_add (pe_op op_mul pe_int (pv 3)) (pe_callB (call_min2 rfl) rfl T.n_min PyProof.Rows.boot_min (pa_cons (pe_ix ix_tup (pv 2) pe_int (fun _ _ => rfl)) (pa_cons pe_int pa_nil)))) pe_int))))), ?_⟩
  walk_at "rd"
  intro y m r p D e np
  have s1 := same_new np (.tup [.int y, .int m, .int r])
  have t1 : (upd H p (.tup [.int y, .int m, .int r])) p = some (.tup [.int y, .int m, .int r]) := upd_same
  generalize upd H p (.tup [.int y, .int m, .int r]) = H1 at s1 t1 ⊢
  walk_at "rd"
  have e1 : Uk .thirty d = 30 * (12 * (y - 2000) + m - 1) + (if 30 < r then 30 else r) - 1 := Cnt.UT_eq ⟨y, m, r, D, e, rfl⟩
  rw [e1] at h
  first | exact h | exact ⟨s1, h⟩
--@ Exact_upto

theorem sc_Exact_upto : FnScope ["self", "day", "year", "each"] ["self", "day"] (defScope s_Exact_upto) := ⟨rfl, rfl, rfl, by decide +kernel, rfl, by decide +kernel, by decide +kernel⟩
theorem d_Exact_upto (kd : Kd) (hk : kd = .exact) (S : MethS K (cA K kd.cls) "upto" "Exact.upto" s_Exact_upto ["self", "day"]) (T : Txt K mg) (D_year_of : Def P w K mg base 2 "year_of" ["day"] (sp_year_of K)) (D_is_leap : Def P w K mg base 1 "is_leap" ["year"] (sp_is_leap K)) (D_m_year : ∀ kd : Kd, DefM P w K mg base 1 (cA K kd.cls) "year" ["self"] (sp_m_year kd K)) (D_new_year : Def P w K mg base 1 "new_year" ["year"] (sp_new_year K)) : DefM P w K mg base 4 (cA K kd.cls) "upto" ["self", "day"] (sp_m_upto kd K) := by
  subst hk
  refine S.ok sc_Exact_upto (fun vs H Q E h => ?_) (fun f cdv A outer s H vs Q E hr h => ?_)
  · obtain ⟨a, d, rfl, hc, h⟩ := h
    rfl
  obtain ⟨a, d, rfl, hc, h⟩ := h
  refine ⟨_, (pss_cons (ps_set (i := 2) sc_Exact_upto.nd rfl (by first | exact Or.inl rfl | exact Or.inr rfl) (pe_fn D_year_of hr (pa_cons (pv 1) pa_nil)))
      (pss_cons (ps_set (i := 3) sc_Exact_upto.nd rfl (by first | exact Or.inl rfl | exact Or.inr rfl) (pe_ifExp (pt_val (pe_fn D_is_leap hr (pa_cons (pv 2) pa_nil))) pe_int pe_int))
      (pss_one (ps_ret (pe_op op_add (pe_op op_mul (pe_methK0 D_m_year T.cls hr (pv 0)) (pe_op op_sub (pv 2) (pe_gint T.g_FIRST_YEAR))) (pe_op op_mul (pv 3) (pe_op op_sub (pv 1) (pe_fn D_new_year hr (pa_cons (pv 2) pa_nil))))))))), ?_⟩
  walk_at "rd"
  intro y h1 h2
  have e1 : Uk .exact d = 365 * 366 * (y - 2000) + Cnt.each y * (d - Cal.ny y) := Cnt.UE_eq ⟨y, h1, h2, rfl⟩
  walk_at "rd"
  cases lp : Cal.leap y with
  | true =>
    have ee : Cnt.each y = 365 := by unfold Cnt.each; rw [lp]; rfl
    rw [ee] at e1
    rw [e1] at h
    walk_at "rd"
    refine ⟨.exact, a, rfl, hc, ?_⟩
    walk_at "rd"
    exact h
  | false =>
    have ee : Cnt.each y = 366 := by unfold Cnt.each; rw [lp]; rfl
    rw [ee] at e1
    rw [e1] at h
    walk_at "rd"
    refine ⟨.exact, a, rfl, hc, ?_⟩
    walk_at "rd"
    exact h
--@ Count_weight
def sp_m_weight (kd : Kd) (K : PySem.W.Frag) : Sp := fun vs H Q _ => ∃ (a : Addr) (x y : Int), vs = [.ref a, .int x, .int y] ∧ IsCnt K H a kd ∧ Q (.int (Uk kd y - Uk kd x)) H
theorem sc_Count_weight : FnScope ["self", "a", "b"] ["self", "a", "b"] (defScope s_Count_weight) := ⟨rfl, rfl, rfl, by decide +kernel, rfl, by decide +kernel, by decide +kernel⟩
theorem d_Count_weight (kd : Kd) (hk : kd = .plain ∨ kd = .bank ∨ kd = .thirty ∨ kd = .exact) (S : MethS K (cA K kd.cls) "weight" "Count.weight" s_Count_weight ["self", "a", "b"]) (T : Txt K mg) (D_m_upto : ∀ kd : Kd, DefM P w K mg base 4 (cA K kd.cls) "upto" ["self", "day"] (sp_m_upto kd K)) : DefM P w K mg base 5 (cA K kd.cls) "weight" ["self", "a", "b"] (sp_m_weight kd K) := by

  refine S.ok sc_Count_weight (fun vs H Q E h => ?_) (fun f cdv A outer s H vs Q E hr h => ?_)
  · obtain ⟨a, x, y, rfl, hc, h⟩ := h
    rfl
  obtain ⟨a, x, y, rfl, hc, h⟩ := h
  refine ⟨_, (pss_one (ps_ret (pe_op op_sub (pe_methK D_m_upto T.cls hr (pv 0) (pa_cons (pv 2) pa_nil)) (pe_methK D_m_upto T.cls hr (pv 0) (pa_cons (pv 1) pa_nil))))), ?_⟩
  walk_at "rd"
  refine ⟨kd, a, rfl, hc, ?_⟩
  walk_at "rd"
  refine ⟨kd, a, rfl, hc, ?_⟩
  walk_at "rd"
  exact h
--@ charge
def sp_charge (K : PySem.W.Frag) : Sp := fun vs H Q _ => ∃ (c pt ps : Addr) (kd : Kd) (xs ys : List V) (t l : List (Int × Int)) (a b : Int), vs = [.ref c, .ref pt, .ref ps, .int a, .int b] ∧ IsCnt K H c kd ∧ SqL K H pt xs ∧ Rows2 K H xs t ∧ SqL K H ps ys ∧ Rows2 K H ys l ∧ (t.Pairwise fun s u => s.1 < u.1) ∧ (∀ s ∈ t, 0 ≤ s.1) ∧ Spans.Joined l ∧ t.length + 2 * l.length < 64 ∧ (0 ≤ a ∧ a ≤ 1000000 ∧ 0 ≤ b ∧ b ≤ 1000000) ∧ Q (.int (Stills.chg (Uk kd) t l a b)) H
theorem sc_charge : FnScope ["count", "table", "spans", "a", "b", "total", "start", "end"] ["count", "table", "spans", "a", "b"] (defScope s_charge) := ⟨rfl, rfl, rfl, by decide +kernel, rfl, by decide +kernel, by decide +kernel⟩
theorem d_charge (S : Src K mg "charge" s_charge ["count", "table", "spans", "a", "b"]) (T : Txt K mg) (D_breaks : Def P w K mg base 1 "breaks" ["table", "spans", "a", "b"] (sp_breaks K)) (D_m_weight : ∀ kd : Kd, DefM P w K mg base 5 (cA K kd.cls) "weight" ["self", "a", "b"] (sp_m_weight kd K)) (D_value_at : Def P w K mg base 2 "value_at" ["table", "day"] (sp_value_at K)) (D_stands : Def P w K mg base 3 "stands" ["spans", "day"] (sp_stands K)) : Def P w K mg base 6 "charge" ["count", "table", "spans", "a", "b"] (sp_charge K) := by
  refine S.okF sc_charge (fun vs H Q E h => ?_) (fun f cdv A outer s H vs Q E hr h => ?_)
  · obtain ⟨c, pt, ps, kd, xs, ys, t, l, a, b, rfl, hc, hS, hR, hS2, hR2, up, t0, J, len, ⟨a0, a1, b0, b1⟩, h⟩ := h
    rfl
  obtain ⟨c, pt, ps, kd, xs, ys, t, l, a, b, rfl, hc, hS, hR, hS2, hR2, up, t0, J, len, ⟨a0, a1, b0, b1⟩, h⟩ := h
  refine ⟨_, (pss_cons (ps_if (pt_cmpR op_ge (pv 3) (pv 4) (nomark _))
      (pss_one (ps_ret pe_int))
      pss_nil)
      (pss_cons (ps_set (i := 5) sc_charge.nd rfl (by first | exact Or.inl rfl | exact Or.inr rfl) pe_int)
      (pss_cons (ps_set (i := 6) sc_charge.nd rfl (by first | exact Or.inl rfl | exact Or.inr rfl) (pv 3))
      (pss_cons (ps_for PassesOwn.never rfl (pi_list (pe_op op_cat (pe_fn D_breaks hr (pa_cons (pv 1) (pa_cons (pv 2) (pa_cons (pv 3) (pa_cons (pv 4) pa_nil))))) (pe_lst (pa_cons (pv 4) pa_nil)))) (pg_name (i := 7) sc_charge.nd rfl (by first | exact Or.inl rfl | exact Or.inr rfl))
      (pss_cons (ps_if (pt_not (pt_val (pe_fn D_stands hr (pa_cons (pv 2) (pa_cons (pv 6) pa_nil)))))
      (pss_one (ps_set (i := 5) sc_charge.nd rfl (by first | exact Or.inl rfl | exact Or.inr rfl) (pe_op op_add (pv 5) (pe_op op_mul (pe_methK D_m_weight T.cls hr (pv 0) (pa_cons (pv 6) (pa_cons (pv 7) pa_nil))) (pe_fn D_value_at hr (pa_cons (pv 1) (pa_cons (pv 6) pa_nil)))))))
      pss_nil)
      (pss_one (ps_set (i := 6) sc_charge.nd rfl (by first | exact Or.inl rfl | exact Or.inr rfl) (pv 7)))))
      (pss_one (ps_ret (pv 5))))))), ?_⟩
  have sz := sizeLine_eq
  walk_at "rd"
  · rename_i q
    rw [Stills.chg_le (by omega)] at h
    exact ⟨Same.refl _, h⟩
  · rename_i q
    refine ⟨pt, ps, xs, ys, t, l, a, b, rfl, hS, hR, hS2, hR2, len, ?_⟩
    intro p ns H1 s1 np eP nl upn mem
    walk_at "rd"
    intro w nw
    have s2 := same_new nw (.lst [.int b])
    refine ⟨p, w, ns.map V.int, [.int b], rfl, rfl, s2 _ _ eP, upd_same, by simp; omega, ?_⟩
    intro w2 nw2
    have ec : ns.map V.int ++ [.int b] = (ns ++ [b]).map V.int := by rw [List.map_append]; rfl
    rw [ec]
    have s3 := same_new nw2 (.lst ((ns ++ [b]).map V.int))
    have R : Stills.Rise (l ++ t.map fun s => (s.1, s.1)) a b (a :: (ns ++ [b])) := Stills.rise_breaks (by omega) upn mem
    refine ⟨w2, rfl, ⟨_, SqL.of upd_same⟩, for_list (xs := (ns ++ [b]).map V.int) (fun i σ H' => ∃ (tot st : Int) (z : Option V), (Same H H' ∧ H' w2 = some (.lst ((ns ++ [b]).map V.int))) ∧ (a :: (ns ++ [b]))[i]? = some st ∧ tot = Stills.chg (Uk kd) t l a st ∧ σ = [some (.ref c), some (.ref pt), some (.ref ps), some (.int a), some (.int b), some (.int tot), some (.int st), z])
      ⟨0, a, _, ⟨s1.trans (s2.trans s3), upd_same⟩, rfl, (Stills.chg_le (Int.le_refl _)).symm, rfl⟩ ?_ ?_ ?_⟩
    · rintro i σ H' _ ⟨tot, st, z, ⟨_, eW⟩, _⟩
      exact SqL.of eW
    · rintro i x σ H' hx ⟨tot, st, z, ⟨sH, eW⟩, est, rfl, rfl⟩
      rw [List.getElem?_map] at hx
      obtain ⟨y, hy, rfl⟩ := Option.map_eq_some_iff.mp hx
      have ey : (a :: (ns ++ [b]))[i + 1]? = some y := hy
      obtain ⟨⟨xy, ax, yb⟩, no⟩ := R.step est ey
      have cs : Stills.chg (Uk kd) t l a y = Stills.chg (Uk kd) t l a st + (Uk kd y - Uk kd st) * (if Spans.isIn l st then 0 else Sums.valOf t st) := by
        rw [← Stills.chg_stretch (by omega) (fun s hs q => (no (s.1, s.1) (List.mem_append.mpr (.inr (List.mem_map.mpr ⟨s, hs, rfl⟩))) s.1 q.1 q.2).1 rfl) (fun s hs d q1 q2 => no s (List.mem_append.mpr (.inl hs)) d q1 q2)]
        exact Stills.chg_add ax (by omega)
      have u1 := Uk_in (kd := kd) (d := y) (by omega) (by omega)
      have u2 := Uk_in (kd := kd) (d := st) (by omega) (by omega)
      walk_at "rd"
      refine ⟨ps, ys, l, st, rfl, sH.seq hS2, hR2.same sH, J, ?_⟩
      cases bb : Spans.isIn l st with
      | true =>
        rw [bb, if_pos rfl, Int.mul_zero, Int.add_zero] at cs
        walk_at "rd"
        exact ⟨_, y, _, ⟨sH, eW⟩, ey, cs.symm, rfl⟩
      | false =>
        rw [bb, if_neg Bool.false_ne_true] at cs
        walk_at "rd"
        refine ⟨kd, c, rfl, hc.same sH, ?_⟩
        walk_at "rd"
        refine ⟨hc.same sH, ?_⟩
        walk_at "rd"
        refine ⟨pt, xs, t, st, rfl, sH.seq hS, hR.same sH, up, t0, ?_⟩
        walk_at "rd"
        exact ⟨_, y, _, ⟨sH, eW⟩, ey, cs.symm, rfl⟩
    · rintro σ H' ⟨tot, st, z, ⟨sH, eW⟩, est, rfl, rfl⟩
      have eb : st = b := R.last est (by simp)
      rw [eb]
      walk_at "rd"
      first | exact h | exact ⟨sH, h⟩
--@ _law_sum
def sp__law_sum (K : PySem.W.Frag) : Sp := fun vs H Q _ => ∃ (c pt ps : Addr) (kd : Kd) (xs ys : List V) (t l : List (Int × Int)) (a b : Int), vs = [.ref c, .ref pt, .ref ps, .int a, .int b] ∧ IsCnt K H c kd ∧ SqL K H pt xs ∧ Rows2 K H xs t ∧ SqL K H ps ys ∧ Rows2 K H ys l ∧ t.length + 2 * l.length < 64 ∧ (0 ≤ a ∧ a ≤ b ∧ b ≤ 1000000) ∧ Q (.int (Stills.chg (Uk kd) t l a b)) H
theorem sc__law_sum : FnScope ["_law_count", "_law_pairs", "_law_spans", "_law_a", "_law_b", "_law_days", "_law_span", "_law_edges", "_law_found", "_law_one", "_law_other"] ["_law_count", "_law_pairs", "_law_spans", "_law_a", "_law_b"] (defScope s__law_sum) := ⟨rfl, rfl, rfl, by decide +kernel, rfl, by decide +kernel, by decide +kernel⟩
theorem d__law_sum (S : Src K mg "_law_sum" s__law_sum ["_law_count", "_law_pairs", "_law_spans", "_law_a", "_law_b"]) (T : Txt K mg) (D_m_weight : ∀ kd : Kd, DefM P w K mg base 5 (cA K kd.cls) "weight" ["self", "a", "b"] (sp_m_weight kd K)) (D__law_value : Def P w K mg base 1 "_law_value" ["_law_pairs", "_law_day_here"] (sp__law_value K)) (D__law_in : Def P w K mg base 1 "_law_in" ["_law_spans", "_law_day_here"] (sp__law_in K)) : Def P w K mg base 6 "_law_sum" ["_law_count", "_law_pairs", "_law_spans", "_law_a", "_law_b"] (sp__law_sum K) := by
  refine S.okF sc__law_sum (fun vs H Q E h => ?_) (fun f cdv A outer s H vs Q E hr h => ?_)
  · obtain ⟨c, pt, ps, kd, xs, ys, t, l, a, b, rfl, hc, hS, hR, hS2, hR2, len, ⟨a0, ab, b1⟩, h⟩ := h
    rfl
  obtain ⟨c, pt, ps, kd, xs, ys, t, l, a, b, rfl, hc, hS, hR, hS2, hR2, len, ⟨a0, ab, b1⟩, h⟩ := h
  refine ⟨_, (pss_cons (ps_setc (i := 5) sc__law_sum.nd rfl rfl (ix := []) ⟨rfl, by decide +kernel, rfl, by decide +kernel, rfl, (show (["_law_pair"] : List Str).Nodup by decide +kernel), by walk_at "cap", by walk_at "sub", by walk_at "has"⟩ (pi_list (pv 1)) (fun b => (pe_ix (ix_tupK K) (pv 0) pe_int (fun _ _ => rfl))))
      (pss_cons (ps_for PassesOwn.never rfl (pi_list (pv 2)) (pg_name (i := 6) sc__law_sum.nd rfl (by first | exact Or.inl rfl | exact Or.inr rfl))
      (pss_one (ps_set (i := 5) sc__law_sum.nd rfl (by first | exact Or.inl rfl | exact Or.inr rfl) (pe_op op_cat (pv 5) (pe_callTy call_list_of rfl T.n_list PyProof.Rows.boot_list (pa_cons (pv 6) pa_nil))))))
      (pss_cons (ps_set (i := 7) sc__law_sum.nd rfl (by first | exact Or.inl rfl | exact Or.inr rfl) (pe_op op_cat (pe_op op_cat (pe_lst (pa_cons (pv 3) pa_nil)) (pe_callB (call_sortedS rfl) rfl T.n_sorted PyProof.Rows.boot_sorted (pa_cons (pe_callTy (call_setI rfl) rfl T.n_set PyProof.Rows.boot_set (pa_cons (pe_compIf (ix := [3, 4]) ⟨rfl, by decide +kernel, rfl, by decide +kernel, rfl, (show (["_law_day_here", "_law_a", "_law_b"] : List Str).Nodup by decide +kernel), by walk_at "cap", by walk_at "sub", by walk_at "has"⟩ (pi_list (pv 5)) (fun b => (pt_chain op_lt op_lt (pv 1) (pv 0) (pv 2))) (fun b => (pv 0))) pa_nil)) pa_nil))) (pe_lst (pa_cons (pv 4) pa_nil))))
      (pss_cons (ps_set (i := 8) sc__law_sum.nd rfl (by first | exact Or.inl rfl | exact Or.inr rfl) pe_int)
      (pss_cons (ps_for PassesOwn.never rfl (pi_zip rfl T.n_zip (pa_cons (pv 7) (pa_cons (pe_slice sl_list (pv 7) (po_some pe_int) po_none) pa_nil))) (pg_tup rfl (pgs_cons (pg_name (i := 9) sc__law_sum.nd rfl (by first | exact Or.inl rfl | exact Or.inr rfl)) (pgs_cons (pg_name (i := 10) sc__law_sum.nd rfl (by first | exact Or.inl rfl | exact Or.inr rfl)) pgs_nil)))
      (pss_one (ps_if (pt_not (pt_val (pe_fn D__law_in hr (pa_cons (pv 2) (pa_cons (pv 9) pa_nil)))))
      (pss_one (ps_set (i := 8) sc__law_sum.nd rfl (by first | exact Or.inl rfl | exact Or.inr rfl) (pe_op op_add (pv 8) (pe_op op_mul (pe_methK D_m_weight T.cls hr (pv 0) (pa_cons (pv 9) (pa_cons (pv 10) pa_nil))) (pe_fn D__law_value hr (pa_cons (pv 1) (pa_cons (pv 9) pa_nil)))))))
      pss_nil)))
      (pss_one (ps_ret (pv 8)))))))), ?_⟩
  have sz := sizeLine_eq
  have xl := hR.length
  have yl := hR2.length
  have gd : ∀ (u : List (Int × Int)) (f : Int × Int → Int) (i : Nat) (s : Int × Int), u[i]? = some s → (u.map f).getD i 0 = f s := fun u f i s e => by
    rw [List.getD_eq_getElem?_getD, List.getElem?_map, e]; rfl
  walk_at "rd"
  refine ⟨⟨_, hS⟩, ?_⟩
  intro l1 n1
  refine comp_list (fun i v => v = .int ((t.map (·.1)).getD i 0)) hS n1 (by omega) ?_ ?_
  · intro i x H' Q' hx sH hq
    obtain ⟨p, s, rfl, e, ht⟩ := hR.get hx
    walk_at "rd"
    exact ⟨p, _, _, _, rfl, rfl, SqT.of (sH _ _ ht), rfl, hq _ (by rw [gd t _ i s e])⟩
  intro ys1 len1 hp1
  obtain rfl := ints_by (ns := t.map (·.1)) (by rw [len1, List.length_map, xl]) hp1
  have s1 := same_new n1 (.lst ((t.map (·.1)).map V.int))
  walk_at "rd"
  refine ⟨⟨_, s1.seq hS2⟩, for_list (xs := ys) (fun i σ H' => ∃ (q : Addr) (es : List Int) (z : Option V), (Same H H' ∧ H' q = some (.lst (es.map V.int))) ∧ es.length = t.length + 2 * i ∧ (∀ d, d ∈ es ↔ (∃ s ∈ t, d = s.1) ∨ ∃ s ∈ l.take i, d = s.1 ∨ d = s.2) ∧ σ = [some (.ref c), some (.ref pt), some (.ref ps), some (.int a), some (.int b), some (.ref q), z, none, none, none, none])
    ⟨l1, t.map (·.1), _, ⟨s1, upd_same⟩, by simp, fun d => ⟨fun hd => (by obtain ⟨s, hs, e⟩ := List.mem_map.mp hd; exact .inl ⟨s, hs, e.symm⟩), fun hd => (by rcases hd with ⟨s, hs, e⟩ | ⟨s, hs, _⟩; exact List.mem_map.mpr ⟨s, hs, e.symm⟩; cases hs)⟩, rfl⟩ ?_ ?_ ?_⟩
  · rintro i σ H' _ ⟨q, es, z, ⟨sG, _⟩, _⟩
    exact sG.seq hS2
  · rintro i x σ H' hx ⟨q, es, z, ⟨sG, eE⟩, el, mem, rfl⟩
    obtain ⟨u, s, rfl, hs, ht⟩ := (hR2.same sG).get hx
    have il : i < l.length := (List.getElem?_eq_some_iff.mp hs).1
    walk_at "rd"
    refine ⟨u, _, rfl, .inr (SqT.of ht), ?_⟩
    intro w nw
    have sw := same_new nw (.lst [.int s.1, .int s.2])
    refine ⟨q, w, es.map V.int, [.int s.1, .int s.2], rfl, rfl, sw _ _ eE, upd_same, by simp; omega, ?_⟩
    intro w2 nw2
    have ec : es.map V.int ++ [.int s.1, .int s.2] = (es ++ [s.1, s.2]).map V.int := by rw [List.map_append]; rfl
    rw [ec]
    have sw2 := same_new nw2 (.lst ((es ++ [s.1, s.2]).map V.int))
    walk_at "rd"
    refine ⟨w2, es ++ [s.1, s.2], _, ⟨sG.trans (sw.trans sw2), upd_same⟩, by rw [List.length_append]; show es.length + 2 = _; omega, fun d => ?_, rfl⟩
    rw [List.mem_append, mem, List.take_add_one, hs]
    constructor
    · rintro ((h | ⟨t, ht, e⟩) | h)
      · exact .inl h
      · exact .inr ⟨t, List.mem_append.mpr (.inl ht), e⟩
      · exact .inr ⟨s, by simp, by simpa using h⟩
    · rintro (h | ⟨t, ht, e⟩)
      · exact .inl (.inl h)
      · rcases List.mem_append.mp ht with ht | ht
        · exact .inl (.inr ⟨t, ht, e⟩)
        · have : t = s := by simpa using ht
          subst this
          exact .inr (by simpa using e)
  rintro σ H' ⟨q, D, z6, ⟨sG, eD⟩, Dl, Dm, rfl⟩
  rw [List.take_of_length_le (by omega)] at Dm
  walk_at "rd"
  intro u1 nu1
  have su1 := same_new nu1 (.lst [.int a])
  have eD1 := su1 _ _ eD
  walk_at "rd"
  refine ⟨⟨_, SqL.of eD1⟩, ?_⟩
  intro lc nlc
  refine comp_pick (walk_list (SqL.of eD1)) nlc (by rw [List.length_map]; omega) (D.map fun d => (decide (a < d) && decide (d < b), V.int d)) (by simp) ?_ ?_ ?_
  · intro i x bb v H' Q' hx hpk sH hq
    rw [List.getElem?_map] at hx hpk
    obtain ⟨d, hd, rfl⟩ := Option.map_eq_some_iff.mp hx
    rw [hd] at hpk
    cases hpk
    walk_at "rd"
    · rename_i q1
      rw [decide_eq_true q1, Bool.true_and] at hq
      exact hq
    · rename_i q1
      rw [decide_eq_false q1, Bool.false_and] at hq
      exact hq
  · intro i x bb v H' Q' hx hpk sH hq
    rw [List.getElem?_map] at hx hpk
    obtain ⟨d, hd, rfl⟩ := Option.map_eq_some_iff.mp hx
    rw [hd] at hpk
    cases hpk
    walk_at "rd"
    exact hq
  rw [pick_ints D (fun d => decide (a < d) && decide (d < b)) (fun d => d), List.map_id']
  obtain ⟨fs, hfs⟩ : ∃ fs, fs = D.filter fun d => decide (a < d) && decide (d < b) := ⟨_, rfl⟩
  have fl : fs.length ≤ D.length := by rw [hfs]; exact List.length_filter_le _ _
  rw [← hfs]
  have sc1 := same_new nlc (.lst (fs.map V.int))
  walk_at "rd"
  refine ⟨lc, fs, rfl, SqL.of upd_same, by omega, ?_⟩
  intro ps' Hs' ms' ps0' ss' es' nd' mm' lm'
  refine ⟨ps', ms', rfl, es', by omega, ?_⟩
  intro lq H4 ns lq0 sq eq pm srt
  have nl : ns.length < 64 := by rw [pm.length_eq]; omega
  have up := sorted_lt pm nd' srt
  have mem : ∀ d, d ∈ ns ↔ (a < d ∧ d < b) ∧ ((∃ s ∈ t, d = s.1) ∨ ∃ s ∈ l, d = s.1 ∨ d = s.2) := fun d => by
    rw [pm.mem_iff, mm', hfs, List.mem_filter, Dm, Bool.and_eq_true, decide_eq_true_eq, decide_eq_true_eq]
    exact And.comm
  have sH4 := sG.trans (su1.trans (sc1.trans (ss'.trans sq)))
  have eu1 := (sc1.trans (ss'.trans sq)) _ _ (upd_same (H := H') (a := u1) (o := .lst [.int a]))
  clear pm srt mm' nd' es' hfs fl lm' eD1 eD Dm
  refine ⟨u1, lq, [.int a], ns.map V.int, rfl, rfl, eu1, eq, by simp; omega, ?_⟩
  intro u2 nu2
  have ec2 : [V.int a] ++ ns.map V.int = (a :: ns).map V.int := rfl
  rw [ec2]
  have su2 := same_new nu2 (.lst ((a :: ns).map V.int))
  walk_at "rd"
  intro u3 nu3
  have su3 := same_new nu3 (.lst [.int b])
  refine ⟨u2, u3, (a :: ns).map V.int, [.int b], rfl, rfl, su3 _ _ upd_same, upd_same, by simp; omega, ?_⟩
  intro u4 nu4
  have ec4 : (a :: ns).map V.int ++ [.int b] = (a :: (ns ++ [b])).map V.int := by simp
  rw [ec4]
  have su4 := same_new nu4 (.lst ((a :: (ns ++ [b])).map V.int))
  have sU := sH4.trans (su2.trans (su3.trans su4))
  have eu4 : (upd (upd (upd H4 u2 (.lst ((a :: ns).map V.int))) u3 (.lst [.int b])) u4 (.lst ((a :: (ns ++ [b])).map V.int))) u4 = some (.lst ((a :: (ns ++ [b])).map V.int)) := upd_same
  have Ll : (a :: (ns ++ [b])).length = ns.length + 2 := by simp
  have key : ∀ (i : Nat) (x y : Int), (a :: (ns ++ [b]))[i]? = some x → (a :: (ns ++ [b]))[i + 1]? = some y → (a ≤ x ∧ x ≤ y ∧ y ≤ b) ∧ Stills.chg (Uk kd) t l a y = Stills.chg (Uk kd) t l a x + (Uk kd y - Uk kd x) * (if Spans.isIn l x then 0 else Sums.valOf t x) := fun i x y ex ey => Stills.chg_edges ab up mem ex ey
  have last : (a :: (ns ++ [b]))[ns.length + 1]? = some b := Stills.edges_last
  have first : (a :: (ns ++ [b]))[0]? = some a := rfl
  generalize (a :: (ns ++ [b])) = L at eu4 Ll key last first sU ⊢
  generalize upd (upd (upd H4 u2 (.lst ((a :: ns).map V.int))) u3 (.lst [.int b])) u4 (.lst (L.map V.int)) = M at sU eu4 ⊢
  clear su2 su3 su4 sH4 eu1 eq
  walk_at "rd"
  refine ⟨u4, _, rfl, SqL.of eu4, ?_⟩
  intro cc ncc
  rw [show (1 : Int) = ((1 : Nat) : Int) from rfl, cutV_lo, ← List.map_drop]
  have s5 := same_new ncc (.lst ((L.drop 1).map V.int))
  walk_at "rd"
  refine ⟨⟨_, s5.seq (SqL.of eu4)⟩, ⟨_, SqL.of upd_same⟩, for_zip (xs := L.map V.int) (ys := (L.drop 1).map V.int) (fun i σ H' => ∃ (f : Int) (z3 z4 : Option V), (Same H H' ∧ H' u4 = some (.lst (L.map V.int)) ∧ H' cc = some (.lst ((L.drop 1).map V.int))) ∧ (∀ x, L[i]? = some x → f = Stills.chg (Uk kd) t l a x) ∧ σ = [some (.ref c), some (.ref pt), some (.ref ps), some (.int a), some (.int b), some (.ref q), z6, some (.ref u4), some (.int f), z3, z4])
    ⟨0, _, _, ⟨sU.trans s5, s5 _ _ eu4, upd_same⟩, fun x e => ?_, rfl⟩ ?_ ?_ ?_⟩
  · rw [first] at e
    cases e
    exact (Stills.chg_le (Int.le_refl _)).symm
  · rintro i σ H' _ _ ⟨f, z3, z4, ⟨_, e1, e2⟩, _⟩
    exact ⟨SqL.of e1, SqL.of e2⟩
  · rintro i x y σ H' pp hx hy ⟨f, z3, z4, ⟨sC, eL, eC⟩, hf, rfl⟩ np
    rw [List.getElem?_map] at hx hy
    obtain ⟨x', hx', rfl⟩ := Option.map_eq_some_iff.mp hx
    obtain ⟨y', hy', rfl⟩ := Option.map_eq_some_iff.mp hy
    rw [List.getElem?_drop, Nat.add_comm] at hy'
    obtain ⟨⟨ax, xy, yb⟩, cs⟩ := key i x' y' hx' hy'
    obtain rfl := hf x' hx'
    have u1 := Uk_in (kd := kd) (d := y') (by omega) (by omega)
    have u2 := Uk_in (kd := kd) (d := x') (by omega) (by omega)
    have s6 := same_new np (.tup [.int x', .int y'])
    have sD := sC.trans s6
    have eL' := s6 _ _ eL
    have eC' := s6 _ _ eC
    refine ⟨pp, _, rfl, SqT.of upd_same, ?_⟩
    refine ⟨rfl, _, _, rfl, _, _, rfl, rfl, ?_⟩
    generalize upd H' pp (.tup [.int x', .int y']) = H2 at sD eL' eC' ⊢
    have hcD := hc.same sD
    walk_at "rd"
    refine ⟨ps, ys, l, x', rfl, sD.seq hS2, hR2.same sD, ?_⟩
    cases bb : Spans.isIn l x' with
    | true =>
      rw [bb, if_pos rfl, Int.mul_zero, Int.add_zero] at cs
      walk_at "rd"
      refine ⟨_, _, _, ⟨sD, eL', eC'⟩, fun z hz => ?_, rfl⟩
      rw [hy'] at hz
      cases hz
      exact cs.symm
    | false =>
      rw [bb, if_neg Bool.false_ne_true] at cs
      walk_at "rd"
      refine ⟨kd, c, rfl, hcD, ?_⟩
      walk_at "rd"
      refine ⟨pt, xs, t, _, rfl, sD.seq hS, hR.same sD, ?_⟩
      walk_at "rd"
      refine ⟨_, _, _, ⟨sD, eL', eC'⟩, fun z hz => ?_, rfl⟩
      rw [hy'] at hz
      cases hz
      exact cs.symm
  · rintro i σ H' _ _ hi ⟨f, z3, z4, ⟨sC, eL, eC⟩, hf, rfl⟩
    have il : i = ns.length + 1 := by
      rw [List.length_map, List.length_map, List.length_drop] at hi
      rename_i h1 h2
      rw [List.length_map, List.length_drop] at h2
      omega
    subst il
    obtain rfl := hf b last
    walk_at "rd"
    first | exact h | exact ⟨sC, h⟩
--@ law
def sp_law (K : PySem.W.Frag) : Sp := fun vs H Q _ => ∃ (a : Addr) (ns : List Int), vs = [.ref a] ∧ SqL K H a (ns.map V.int) ∧ ns.length ≤ 63 ∧ ∀ H', Q (.bl true) H'
theorem sc_law : FnScope ["_law_script", "_law_near", "_law_count", "_law_pairs", "_law_spans", "_law_table", "_law_least_here", "_law_days", "_law_span", "_law_cuts_here", "_law_total", "_law_one", "_law_other", "_law_found", "_law_whole_here", "_law_other_count"] ["_law_script"] (defScope s_law) := ⟨rfl, rfl, rfl, by decide +kernel, rfl, by decide +kernel, by decide +kernel⟩
theorem d_law (S : Src K mg "law" s_law ["_law_script"]) (T : Txt K mg) (D__law_cell : Def P w K mg base 2 "_law_cell" ["_law_script", "_law_k"] (sp__law_cell K)) (D__law_some : Def P w K mg base 3 "_law_some" ["_law_script", "_law_near"] (sp__law_some K)) (D__law_value : Def P w K mg base 1 "_law_value" ["_law_pairs", "_law_day_here"] (sp__law_value K)) (D__law_least : Def P w K mg base 2 "_law_least" ["_law_spans"] (sp__law_least K)) (D__law_cuts : Def P w K mg base 3 "_law_cuts" ["_law_script", "_law_days"] (sp__law_cuts K)) (D_charge : Def P w K mg base 6 "charge" ["count", "table", "spans", "a", "b"] (sp_charge K)) (D__law_whole : Def P w K mg base 1 "_law_whole" ["_law_found"] (sp__law_whole K)) (D__law_sum : Def P w K mg base 6 "_law_sum" ["_law_count", "_law_pairs", "_law_spans", "_law_a", "_law_b"] (sp__law_sum K)) : Def P w K mg base 7 "law" ["_law_script"] (sp_law K) := by
  refine S.ok sc_law (fun vs H Q E h => ?_) (fun f cdv A outer s H vs Q E hr h => ?_)
  · obtain ⟨a, ns, rfl, hS, hl, h⟩ := h
    rfl
  obtain ⟨a, ns, rfl, hS, hl, h⟩ := h
  refine ⟨_, (pss_cons (ps_set (i := 1) sc_law.nd rfl (by first | exact Or.inl rfl | exact Or.inr rfl) (pe_op op_mod (pe_fn D__law_cell hr (pa_cons (pv 0) (pa_cons pe_int pa_nil))) pe_int))
      (pss_cons (ps_set (i := 2) sc_law.nd rfl (by first | exact Or.inl rfl | exact Or.inr rfl) (pe_ix ix_list (pe_lst (pa_cons (pe_new0 (T.mk0 .plain) T.m_Count) (pa_cons (pe_new0 (T.mk0 .bank) T.m_Bank) (pa_cons (pe_new0 (T.mk0 .thirty) T.m_Thirty) (pa_cons (pe_new0 (T.mk0 .exact) T.m_Exact) pa_nil))))) (pe_op op_mod (pe_fn D__law_cell hr (pa_cons (pv 0) (pa_cons pe_int pa_nil))) pe_int) (fun _ _ => rfl)))
      (pss_cons (ps_asg (pe_fn D__law_some hr (pa_cons (pv 0) (pa_cons (pv 1) pa_nil))) (pg_tup rfl (pgs_cons (pg_name (i := 3) sc_law.nd rfl (by first | exact Or.inl rfl | exact Or.inr rfl)) (pgs_cons (pg_name (i := 4) sc_law.nd rfl (by first | exact Or.inl rfl | exact Or.inr rfl)) pgs_nil))))
      (pss_cons (ps_setc (i := 5) sc_law.nd rfl rfl (ix := [3]) ⟨rfl, by decide +kernel, rfl, by decide +kernel, rfl, (show (["_law_day_here", "_law_pairs"] : List Str).Nodup by decide +kernel), by walk_at "cap", by walk_at "sub", by walk_at "has"⟩ (pi_list (pe_callB (call_sortedS rfl) rfl T.n_sorted PyProof.Rows.boot_sorted (pa_cons (pe_callTy (call_setI rfl) rfl T.n_set PyProof.Rows.boot_set (pa_cons (pe_comp (ix := []) ⟨rfl, by decide +kernel, rfl, by decide +kernel, rfl, (show (["_law_pair"] : List Str).Nodup by decide +kernel), by walk_at "cap", by walk_at "sub", by walk_at "has"⟩ (pi_list (pv 3)) (fun b => (pe_ix (ix_tupK K) (pv 0) pe_int (fun _ _ => rfl)))) pa_nil)) pa_nil))) (fun b => (pe_tup (pa_cons (pv 0) (pa_cons (pe_fn D__law_value hr (pa_cons (pv 1) (pa_cons (pv 0) pa_nil))) pa_nil)))))
      (pss_cons (ps_set (i := 6) sc_law.nd rfl (by first | exact Or.inl rfl | exact Or.inr rfl) (pe_fn D__law_least hr (pa_cons (pv 4) pa_nil)))
      (pss_cons (ps_set (i := 7) sc_law.nd rfl (by first | exact Or.inl rfl | exact Or.inr rfl) (pe_op op_cat (pe_lst (pa_cons pe_int (pa_cons pe_int pa_nil))) (pe_comp (ix := []) ⟨rfl, by decide +kernel, rfl, by decide +kernel, rfl, (show (["_law_row"] : List Str).Nodup by decide +kernel), by walk_at "cap", by walk_at "sub", by walk_at "has"⟩ (pi_list (pv 5)) (fun b => (pe_ix (ix_tupK K) (pv 0) pe_int (fun _ _ => rfl))))))
      (pss_cons (ps_for PassesOwn.never rfl (pi_list (pv 4)) (pg_name (i := 8) sc_law.nd rfl (by first | exact Or.inl rfl | exact Or.inr rfl))
      (pss_one (ps_set (i := 7) sc_law.nd rfl (by first | exact Or.inl rfl | exact Or.inr rfl) (pe_op op_cat (pv 7) (pe_callTy call_list_of rfl T.n_list PyProof.Rows.boot_list (pa_cons (pv 8) pa_nil))))))
      (pss_cons (ps_set (i := 9) sc_law.nd rfl (by first | exact Or.inl rfl | exact Or.inr rfl) (pe_fn D__law_cuts hr (pa_cons (pv 0) (pa_cons (pv 7) pa_nil))))
      (pss_cons (ps_set (i := 10) sc_law.nd rfl (by first | exact Or.inl rfl | exact Or.inr rfl) pe_int)
      (pss_cons (ps_for PassesOwn.never rfl (pi_zip rfl T.n_zip (pa_cons (pv 9) (pa_cons (pe_slice sl_list (pv 9) (po_some pe_int) po_none) pa_nil))) (pg_tup rfl (pgs_cons (pg_name (i := 11) sc_law.nd rfl (by first | exact Or.inl rfl | exact Or.inr rfl)) (pgs_cons (pg_name (i := 12) sc_law.nd rfl (by first | exact Or.inl rfl | exact Or.inr rfl)) pgs_nil)))
      (pss_cons (ps_set (i := 13) sc_law.nd rfl (by first | exact Or.inl rfl | exact Or.inr rfl) (pe_fn D_charge hr (pa_cons (pv 2) (pa_cons (pv 5) (pa_cons (pv 6) (pa_cons (pv 11) (pa_cons (pv 12) pa_nil)))))))
      (pss_cons (ps_if (PW.pt (pw_or (pt_not (pt_val (pe_fn D__law_whole hr (pa_cons (pv 13) pa_nil)))) (pw_or (pt_cmpR op_lt (pv 13) pe_int (nomark _)) (pw_or1 (pt_cmpR op_ne (pe_fn D_charge hr (pa_cons (pv 2) (pa_cons (pv 5) (pa_cons (pv 6) (pa_cons (pv 11) (pa_cons (pv 11) pa_nil)))))) pe_int (nomark _))))))
      (pss_one (ps_ret pe_bl))
      pss_nil)
      (pss_cons (ps_if (PW.pt (pw_and (pt_cmpR op_lt (pv 11) (pv 12) (nomark _)) (pw_and1 (pt_cmpR op_ne (pe_fn D_charge hr (pa_cons (pv 2) (pa_cons (pv 5) (pa_cons (pv 6) (pa_cons (pv 12) (pa_cons (pv 11) pa_nil)))))) pe_int (nomark _)))))
      (pss_one (ps_ret pe_bl))
      pss_nil)
      (pss_one (ps_set (i := 10) sc_law.nd rfl (by first | exact Or.inl rfl | exact Or.inr rfl) (pe_op op_add (pv 10) (pv 13))))))))
      (pss_cons (ps_set (i := 14) sc_law.nd rfl (by first | exact Or.inl rfl | exact Or.inr rfl) (pe_fn D_charge hr (pa_cons (pv 2) (pa_cons (pv 5) (pa_cons (pv 6) (pa_cons (pe_ix ix_list (pv 9) pe_int (fun _ _ => rfl)) (pa_cons (pe_ix ix_list (pv 9) (pe_un un_neg pe_int) (fun _ _ => rfl)) pa_nil)))))))
      (pss_cons (ps_set (i := 15) sc_law.nd rfl (by first | exact Or.inl rfl | exact Or.inr rfl) (pe_ix ix_list (pe_lst (pa_cons (pe_new0 (T.mk0 .exact) T.m_Exact) (pa_cons (pe_new0 (T.mk0 .plain) T.m_Count) (pa_cons (pe_new0 (T.mk0 .bank) T.m_Bank) (pa_cons (pe_new0 (T.mk0 .thirty) T.m_Thirty) pa_nil))))) (pe_op op_mod (pe_fn D__law_cell hr (pa_cons (pv 0) (pa_cons pe_int pa_nil))) pe_int) (fun _ _ => rfl)))
      (pss_cons (ps_if (pt_cmpR op_ne (pe_fn D_charge hr (pa_cons (pv 15) (pa_cons (pv 5) (pa_cons (pv 6) (pa_cons (pe_ix ix_list (pv 9) pe_int (fun _ _ => rfl)) (pa_cons (pe_ix ix_list (pv 9) (pe_un un_neg pe_int) (fun _ _ => rfl)) pa_nil)))))) (pe_fn D__law_sum hr (pa_cons (pv 15) (pa_cons (pv 3) (pa_cons (pv 4) (pa_cons (pe_ix ix_list (pv 9) pe_int (fun _ _ => rfl)) (pa_cons (pe_ix ix_list (pv 9) (pe_un un_neg pe_int) (fun _ _ => rfl)) pa_nil)))))) (nomark _))
      (pss_one (ps_ret pe_bl))
      pss_nil)
      (pss_one (ps_ret (pe_and (pe_cmpR op_eq (pv 14) (pv 10) (nomark _)) (pe_one (pe_cmpR op_eq (pv 14) (pe_fn D__law_sum hr (pa_cons (pv 2) (pa_cons (pv 3) (pa_cons (pv 4) (pa_cons (pe_ix ix_list (pv 9) pe_int (fun _ _ => rfl)) (pa_cons (pe_ix ix_list (pv 9) (pe_un un_neg pe_int) (fun _ _ => rfl)) pa_nil)))))) (nomark _))))))))))))))))))), ?_⟩
  have sz := sizeLine_eq
  have gd : ∀ (u : List (Int × Int)) (f : Int × Int → Int) (i : Nat) (s : Int × Int), u[i]? = some s → (u.map f).getD i 0 = f s := fun u f i s e => by
    rw [List.getD_eq_getElem?_getD, List.getElem?_map, e]; rfl
  walk_at "rd"
  rename_i r2 r20 r21
  obtain ⟨near, hb⟩ : ∃ near, near = r2 % 1000000 := ⟨_, rfl⟩
  have b0 : 0 ≤ near := by omega
  have b1 : near ≤ 1000000 := by omega
  dsimp only
  rw [← hb]
  clear hb
  walk_at "rd"
  intro x1 d1 nx1 nd1 ne1
  obtain ⟨sx1, c1⟩ := new_cnt (K := K) .plain nx1 nd1 ne1
  walk_at "rd"
  intro x2 d2 nx2 nd2 ne2
  obtain ⟨sx2, c2⟩ := new_cnt (K := K) .bank nx2 nd2 ne2
  walk_at "rd"
  intro x3 d3 nx3 nd3 ne3
  obtain ⟨sx3, c3⟩ := new_cnt (K := K) .thirty nx3 nd3 ne3
  walk_at "rd"
  intro x4 d4 nx4 nd4 ne4
  obtain ⟨sx4, c4⟩ := new_cnt (K := K) .exact nx4 nd4 ne4
  walk_at "rd"
  intro q1 nq1
  have sq1 := same_new nq1 (.lst [.ref x1, .ref x2, .ref x3, .ref x4])
  have sA := sx1.trans (sx2.trans (sx3.trans (sx4.trans sq1)))
  have hS1 := sA.seq hS
  have c1' := c1.same (sx2.trans (sx3.trans (sx4.trans sq1)))
  have c2' := c2.same (sx3.trans (sx4.trans sq1))
  have c3' := c3.same (sx4.trans sq1)
  have c4' := c4.same sq1
  walk_at "rd"
  rename_i r1 r10 r11
  have d0 : 0 ≤ r1 % 4 := Int.emod_nonneg _ (by decide)
  have d1 : r1 % 4 < 4 := Int.emod_lt_of_pos _ (by decide)
  obtain ⟨v, hv, hm⟩ := at_mem (xs := [.ref x1, .ref x2, .ref x3, .ref x4]) d0 (by simpa using d1)
  obtain ⟨c, kd, rfl, hc⟩ := (mem1 ⟨_, _, rfl, c1'⟩ (mem1 ⟨_, _, rfl, c2'⟩ (mem1 ⟨_, _, rfl, c3'⟩ (mem1 ⟨_, _, rfl, c4'⟩ mem0))) : ∀ v ∈ ([.ref x1, .ref x2, .ref x3, .ref x4] : List V), ∃ c kd, v = .ref c ∧ IsCnt K _ c kd) v hm
  refine ⟨q1, _, _, _, rfl, rfl, SqL.of upd_same, hv, ?_⟩
  clear hv hm c1 c2 c3 c4 c1' c2' c3' c4'
  generalize upd _ q1 (.lst [.ref x1, .ref x2, .ref x3, .ref x4]) = H1 at hS1 hc ⊢
  clear sq1 sx1 sx2 sx3 sx4 sA nq1 nx4 nd4 nx3 nd3 nx2 nd2
  walk_at "rd"
  refine ⟨a, ns, near, rfl, hS1, hl, b0, b1, ?_⟩
  intro p1 p2 q xs ys t l H2 s2 n1 n2 eq e1 e2 rT rL tl ll gT gL
  have t0 : ∀ s ∈ t, 0 ≤ s.1 := fun s hs => (gT s hs).1
  have v0 : ∀ s ∈ t, 0 ≤ s.2 := fun s hs => (gT s hs).2.2
  have gL' : ∀ s ∈ l, s.1 < s.2 := fun s hs => (gL s hs).2.1
  have xl := rT.length
  have yl := rL.length
  have hS2 := s2.seq hS1
  have hc2 := hc.same s2
  refine ⟨q, _, rfl, SqT.of eq, ?_⟩
  refine ⟨rfl, _, _, rfl, _, _, rfl, rfl, ?_⟩
  walk_at "rd"
  -- the table
  refine ⟨⟨_, SqL.of e1⟩, ?_⟩
  intro l1 nl1
  refine comp_list (fun i v => v = .int ((t.map (·.1)).getD i 0)) (SqL.of e1) nl1 (by omega) ?_ ?_
  · intro i x H' Q' hx sH hq
    obtain ⟨p, s, rfl, e, ht⟩ := rT.get hx
    walk_at "rd"
    exact ⟨p, _, _, _, rfl, rfl, SqT.of (sH _ _ ht), rfl, hq _ (by rw [gd t _ i s e])⟩
  intro ys1 len1 hp1
  obtain rfl := ints_by (ns := t.map (·.1)) (by rw [len1, List.length_map, xl]) hp1
  have s3 := same_new nl1 (.lst ((t.map (·.1)).map V.int))
  walk_at "rd"
  refine ⟨l1, _, rfl, SqL.of upd_same, by simp; omega, ?_⟩
  intro ps Hs ms ps0 ss es nd mm lm
  refine ⟨ps, ms, rfl, es, by simp at lm; omega, ?_⟩
  intro lq Hq ds lq0 sq eqd pm srt
  have up := sorted_lt pm nd srt
  have dm : ∀ d, d ∈ ds ↔ ∃ s ∈ t, d = s.1 := fun d => by
    rw [pm.mem_iff, mm, List.mem_map]
    exact ⟨fun ⟨s, hs, e⟩ => ⟨s, hs, e.symm⟩, fun ⟨s, hs, e⟩ => ⟨s, hs, e.symm⟩⟩
  have dl : ds.length ≤ t.length := by rw [pm.length_eq]; simpa using lm
  have s4 := s3.trans (ss.trans sq)
  have hS4 := s4.seq hS2
  have e1' := s4 _ _ e1
  have e2' := s4 _ _ e2
  have rT' := rT.same s4
  have rL' := rL.same s4
  refine ⟨lq, rfl, ⟨_, SqL.of eqd⟩, ?_⟩
  intro lt nlt
  refine comp_any (walk_list (SqL.of eqd)) nlt (by rw [List.length_map]; omega) (fun i v H' => ∃ p, v = .ref p ∧ H' p = some (.tup [.int (ds.getD i 0), .int (Sums.valOf t (ds.getD i 0))])) (fun i v H1 H2 s ⟨p, e, h⟩ => ⟨p, e, s _ _ h⟩)
    (fun i v H1 ys zs hl ⟨p, e, h⟩ => ⟨p, e, by rw [upd_ne (ne_of h hl (by intro z; cases z))]; exact h⟩) ?_ ?_
  · intro i x H' Q' hx sH hq
    rw [List.getElem?_map] at hx
    obtain ⟨d, hd, rfl⟩ := Option.map_eq_some_iff.mp hx
    have ed : ds.getD i 0 = d := by rw [List.getD_eq_getElem?_getD, hd]; rfl
    walk_at "rd"
    refine ⟨p1, xs, t, d, rfl, SqL.of (sH _ _ e1'), rT'.same sH, ?_⟩
    walk_at "rd"
    intro u nu
    exact hq _ _ (same_new nu _) ⟨u, rfl, by rw [ed]; exact upd_same⟩
  intro zs H5 s5 eZ zl hz
  have T := Stills.tab_of t0 up dm
  obtain ⟨tb, htb⟩ : ∃ tb : List (Int × Int), tb = ds.map fun d => (d, Sums.valOf t d) := ⟨_, rfl⟩
  rw [← htb] at T
  have tbl : tb.length = ds.length := by rw [htb, List.length_map]
  have tbf : tb.map (·.1) = ds := by rw [htb, List.map_map]; exact List.map_id' _
  have rB : Rows2 K H5 zs tb := rows_by (by rw [zl, List.length_map, tbl]) fun j v s h1 h2 => by
    obtain ⟨p, e, hp⟩ := hz j v h1
    rw [htb, List.getElem?_map] at h2
    obtain ⟨d, hd, rfl⟩ := Option.map_eq_some_iff.mp h2
    have ed : ds.getD j 0 = d := by rw [List.getD_eq_getElem?_getD, hd]; rfl
    rw [ed] at hp
    exact ⟨p, e, hp⟩
  have zl' := rB.length
  have hS5 := s5.seq hS4
  have e1'' := s5 _ _ e1'
  have e2'' := s5 _ _ e2'
  have rT'' := rT'.same s5
  have rL'' := rL'.same s5
  have hc5 := (hc2.same s4).same s5
  clear hz e1 e2 rT rL e1' e2' rT' rL' hp1 hS1 hS2 hS4 eqd hc hc2
  walk_at "rd"
  -- the joined spans
  refine ⟨p2, ys, l, rfl, SqL.of e2'', rL'', by omega, gL', ?_⟩
  intro p3 ws r H6 s6 np3 eP3 rR J C
  have rl : r.length ≤ l.length := Stills.joined_le J C
  have wl := rR.length
  walk_at "rd"
  intro l6 n6
  have s66 := same_new n6 (.lst [.int 0, .int 1000000])
  have s67 := s6.trans s66
  walk_at "rd"
  refine ⟨⟨_, SqL.of (s67 _ _ eZ)⟩, ?_⟩
  intro l7 n7
  refine comp_list (fun i v => v = .int ((tb.map (·.1)).getD i 0)) (SqL.of (s67 _ _ eZ)) n7 (by omega) ?_ ?_
  · intro i x H' Q' hx sH hq
    obtain ⟨p, s, rfl, e, ht⟩ := (rB.same s67).get hx
    walk_at "rd"
    exact ⟨p, _, _, _, rfl, rfl, SqT.of (sH _ _ ht), rfl, hq _ (by rw [gd tb _ i s e])⟩
  intro ys7 len7 hp7
  obtain rfl := ints_by (ns := tb.map (·.1)) (by rw [len7, List.length_map]; omega) hp7
  rw [tbf]
  have s7 := same_new n7 (.lst (ds.map V.int))
  refine ⟨l6, l7, [.int 0, .int 1000000], ds.map V.int, rfl, rfl, s7 _ _ upd_same, upd_same, by simp; omega, ?_⟩
  intro l8 n8
  have ec8 : [V.int 0, V.int 1000000] ++ ds.map V.int = (0 :: 1000000 :: ds).map V.int := rfl
  rw [ec8]
  have s8 := same_new n8 (.lst ((0 :: 1000000 :: ds).map V.int))
  have sA := s66.trans (s7.trans s8)
  have eZ7 := sA _ _ (s6 _ _ eZ)
  have rB7 := (rB.same s6).same sA
  have eP7 := sA _ _ eP3
  have rR7 := rR.same sA
  have e17 := sA _ _ (s6 _ _ e1'')
  have e27 := sA _ _ (s6 _ _ e2'')
  have rT7 := (rT''.same s6).same sA
  have rL7 := (rL''.same s6).same sA
  have hS7 := sA.seq (s6.seq hS5)
  have hc7 := (hc5.same s6).same sA
  have e77 : (upd (upd (upd H6 l6 (.lst [.int 0, .int 1000000])) l7 (.lst (ds.map V.int))) l8 (.lst ((0 :: 1000000 :: ds).map V.int))) l8 = some (.lst ((0 :: 1000000 :: ds).map V.int)) := upd_same
  generalize upd (upd (upd H6 l6 (.lst [.int 0, .int 1000000])) l7 (.lst (ds.map V.int))) l8 (.lst ((0 :: 1000000 :: ds).map V.int)) = G at eZ7 rB7 eP7 rR7 e17 e27 rT7 rL7 hS7 hc7 e77 ⊢
  clear hp7 eZ rB eP3 rR e1'' e2'' rT'' rL'' hS5 hc5 sA s8 s7 s66 s67 s6 s5 s4 s3 es sq ss
  have ds1 : ∀ d ∈ ds, 0 ≤ d ∧ d ≤ 1000000 := fun d hd => by
    obtain ⟨s, hs, rfl⟩ := (dm d).mp hd
    exact ⟨(gT s hs).1, (gT s hs).2.1⟩
  walk_at "rd"
  refine ⟨⟨_, SqL.of e27⟩, for_list (xs := ys) (fun i σ H' => ∃ (q : Addr) (es : List Int) (z : Option V), (Same G H' ∧ H' q = some (.lst (es.map V.int))) ∧ es.length = 2 + ds.length + 2 * i ∧ (∀ d ∈ es, 0 ≤ d ∧ d ≤ 1000000) ∧ σ = [some (.ref a), some (.int near), some (.ref c), some (.ref p1), some (.ref p2), some (.ref lt), some (.ref p3), some (.ref q), z, none, none, none, none, none, none, none])
    ⟨l8, 0 :: 1000000 :: ds, _, ⟨Same.refl _, e77⟩, by simp; omega, fun d hd => ?_, rfl⟩ ?_ ?_ ?_⟩
  · rcases List.mem_cons.mp hd with rfl | hd
    · omega
    · rcases List.mem_cons.mp hd with rfl | hd
      · omega
      · exact ds1 d hd
  · rintro i σ H' _ ⟨q, es, z, ⟨sG, _⟩, _⟩
    exact SqL.of (sG _ _ e27)
  · rintro i x σ H' hx ⟨q, es, z, ⟨sG, eE⟩, el, ein, rfl⟩
    obtain ⟨u, s, rfl, hs, ht⟩ := (rL7.same sG).get hx
    have il : i < l.length := (List.getElem?_eq_some_iff.mp hs).1
    have gs := gL s (List.mem_of_getElem? hs)
    walk_at "rd"
    refine ⟨u, _, rfl, .inr (SqT.of ht), ?_⟩
    intro w nw
    have sw := same_new nw (.lst [.int s.1, .int s.2])
    refine ⟨q, w, es.map V.int, [.int s.1, .int s.2], rfl, rfl, sw _ _ eE, upd_same, by simp; omega, ?_⟩
    intro w2 nw2
    have ec : es.map V.int ++ [.int s.1, .int s.2] = (es ++ [s.1, s.2]).map V.int := by rw [List.map_append]; rfl
    rw [ec]
    have sw2 := same_new nw2 (.lst ((es ++ [s.1, s.2]).map V.int))
    walk_at "rd"
    refine ⟨w2, es ++ [s.1, s.2], _, ⟨sG.trans (sw.trans sw2), upd_same⟩, by rw [List.length_append]; show es.length + 2 = _; omega, fun d hd => ?_, rfl⟩
    rcases List.mem_append.mp hd with hd | hd
    · exact ein d hd
    · have : d = s.1 ∨ d = s.2 := by simpa using hd
      rcases this with rfl | rfl <;> omega
  rintro σ H' ⟨qd, D, z8, ⟨sG, eD⟩, Dl, Din, rfl⟩
  have eZ8 := sG _ _ eZ7
  have rB8 := rB7.same sG
  have eP8 := sG _ _ eP7
  have rR8 := rR7.same sG
  have e18 := sG _ _ e17
  have e28 := sG _ _ e27
  have rT8 := rT7.same sG
  have rL8 := rL7.same sG
  have hS8 := sG.seq hS7
  have hc8 := hc7.same sG
  clear eZ7 rB7 eP7 rR7 e17 e27 rT7 rL7 hS7 hc7 e77 sG
  walk_at "rd"
  refine ⟨a, qd, ns, D, rfl, hS8, SqL.of eD, by omega, by omega, Din, ?_⟩
  intro pc cs M sC npc eC cup cl2 cl6 cin
  have eZ := sC _ _ eZ8
  have rB := rB8.same sC
  have eP := sC _ _ eP8
  have rR := rR8.same sC
  have e1 := sC _ _ e18
  have e2 := sC _ _ e28
  have rT := rT8.same sC
  have rL := rL8.same sC
  have hSM := sC.seq hS8
  have hcM := hc8.same sC
  clear eZ8 rB8 eP8 rR8 e18 e28 rT8 rL8 hS8 hc8 sC eD
  have chA : ∀ kd' A B, Stills.chg (Uk kd') tb r A B = Stills.chg (Uk kd') t l A B := fun kd' A B => Stills.chg_same T C A B
  have cnn : ∀ kd' A B, 0 ≤ A → 0 ≤ Stills.chg (Uk kd') t l A B := fun kd' A B h0 => Stills.chg_nn h0 (fun d hd => Uk_mono hd (by omega)) t0 v0
  have tl2 : tb.length + 2 * r.length < 64 := by omega
  walk_at "rd"
  refine ⟨pc, _, rfl, SqL.of eC, ?_⟩
  intro cc ncc
  rw [show (1 : Int) = ((1 : Nat) : Int) from rfl, cutV_lo, ← List.map_drop]
  have s9 := same_new ncc (.lst ((cs.drop 1).map V.int))
  have k0 : (cs.map V.int)[0]? = some (.int (cs.getD 0 0)) := by
    rw [List.getElem?_map, List.getElem?_eq_getElem (by omega : 0 < cs.length), List.getD_eq_getElem?_getD, List.getElem?_eq_getElem (by omega : 0 < cs.length)]
    rfl
  obtain ⟨A, hA⟩ : ∃ A, cs[0]? = some A := ⟨_, List.getElem?_eq_getElem (by omega)⟩
  obtain ⟨B, hB⟩ : ∃ B, cs[cs.length - 1]? = some B := ⟨_, List.getElem?_eq_getElem (by omega)⟩
  have Ain := cin A (List.mem_of_getElem? hA)
  have Bin := cin B (List.mem_of_getElem? hB)
  have atA : atI (cs.map V.int) 0 = some (.int A) := atI_nat (j := 0) (by rw [List.getElem?_map, hA]; rfl)
  have atB : atI (cs.map V.int) (-1) = some (.int B) := at_last (by rw [List.getElem?_map, List.length_map, hB]; rfl) (by rw [List.length_map]; omega)
  have AB : A ≤ B := Stills.le_at cup hA hB (by omega)
  walk_at "rd"
  refine ⟨⟨_, s9.seq (SqL.of eC)⟩, ⟨_, SqL.of upd_same⟩, for_zip (xs := cs.map V.int) (ys := (cs.drop 1).map V.int) (fun i σ H' => ∃ (f : Int) (z3 z4 z5 : Option V), (Same M H' ∧ H' cc = some (.lst ((cs.drop 1).map V.int))) ∧ (∀ x, cs[i]? = some x → f = Stills.chg (Uk kd) t l A x) ∧ σ = [some (.ref a), some (.int near), some (.ref c), some (.ref p1), some (.ref p2), some (.ref lt), some (.ref p3), some (.ref qd), z8, some (.ref pc), some (.int f), z3, z4, z5, none, none])
    ⟨0, _, _, _, ⟨s9, upd_same⟩, fun x e => ?_, rfl⟩ ?_ ?_ ?_⟩
  · rw [hA] at e
    cases e
    exact (Stills.chg_le (Int.le_refl _)).symm
  · rintro i σ H' _ _ ⟨f, z3, z4, z5, ⟨sN, e2⟩, _⟩
    exact ⟨SqL.of (sN _ _ eC), SqL.of e2⟩
  · rintro i x y σ H' pp hx hy ⟨f, z3, z4, z5, ⟨sN, eD⟩, hf, rfl⟩ np
    rw [List.getElem?_map] at hx hy
    obtain ⟨x', hx', rfl⟩ := Option.map_eq_some_iff.mp hx
    obtain ⟨y', hy', rfl⟩ := Option.map_eq_some_iff.mp hy
    rw [List.getElem?_drop, Nat.add_comm] at hy'
    have xin := cin x' (List.mem_of_getElem? hx')
    have yin := cin y' (List.mem_of_getElem? hy')
    have xy := Stills.le_at cup hx' hy' (Nat.le_succ _)
    have Ax := Stills.le_at cup hA hx' (Nat.zero_le _)
    obtain rfl := hf x' hx'
    have add : Stills.chg (Uk kd) t l A y' = Stills.chg (Uk kd) t l A x' + Stills.chg (Uk kd) t l x' y' := Stills.chg_add Ax xy
    have nn := cnn kd x' y' xin.1
    have s6 := same_new np (.tup [.int x', .int y'])
    have sD := sN.trans s6
    have eD' := s6 _ _ eD
    refine ⟨pp, _, rfl, SqT.of upd_same, ?_⟩
    refine ⟨rfl, _, _, rfl, _, _, rfl, rfl, ?_⟩
    generalize upd H' pp (.tup [.int x', .int y']) = H2 at sD eD' ⊢
    have hcD := hcM.same sD
    have eZD := sD _ _ eZ
    have ePD := sD _ _ eP
    have rBD := rB.same sD
    have rRD := rR.same sD
    walk_at "rd"
    refine ⟨c, lt, p3, kd, zs, ws, tb, r, x', y', rfl, hcD, SqL.of eZD, rBD, SqL.of ePD, rRD, T.up, T.nn t0, J, tl2, ⟨xin.1, xin.2, yin.1, yin.2⟩, ?_⟩
    rw [chA]
    walk_at "rd"
    · exfalso
      omega
    · refine ⟨c, lt, p3, kd, zs, ws, tb, r, x', x', rfl, hcD, SqL.of eZD, rBD, SqL.of ePD, rRD, T.up, T.nn t0, J, tl2, ⟨xin.1, xin.2, xin.1, xin.2⟩, ?_⟩
      rw [Stills.chg_le (Int.le_refl _)]
      walk_at "rd"
      · refine ⟨c, lt, p3, kd, zs, ws, tb, r, y', x', rfl, hcD, SqL.of eZD, rBD, SqL.of ePD, rRD, T.up, T.nn t0, J, tl2, ⟨yin.1, yin.2, xin.1, xin.2⟩, ?_⟩
        rw [Stills.chg_le xy]
        walk_at "rd"
        refine ⟨_, _, _, _, ⟨sD, eD'⟩, fun z hz => ?_, rfl⟩
        rw [hy'] at hz
        cases hz
        exact add.symm
      · refine ⟨_, _, _, _, ⟨sD, eD'⟩, fun z hz => ?_, rfl⟩
        rw [hy'] at hz
        cases hz
        exact add.symm
  · rintro i σ H' _ _ hi ⟨f, z3, z4, z5, ⟨sN, eD⟩, hf, rfl⟩
    have il : i = cs.length - 1 := by
      rw [List.length_map, List.length_map, List.length_drop] at hi
      rename_i h1 h2
      rw [List.length_map, List.length_drop] at h2
      omega
    subst il
    obtain rfl := hf B hB
    have hcN := hcM.same sN
    have eZN := sN _ _ eZ
    have ePN := sN _ _ eP
    have rBN := rB.same sN
    have rRN := rR.same sN
    have eCN := sN _ _ eC
    walk_at "rd"
    refine ⟨pc, _, _, _, rfl, rfl, SqL.of eCN, atA, ?_⟩
    walk_at "rd"
    refine ⟨pc, _, _, _, rfl, rfl, SqL.of eCN, atB, ?_⟩
    walk_at "rd"
    refine ⟨c, lt, p3, kd, zs, ws, tb, r, A, B, rfl, hcN, SqL.of eZN, rBN, SqL.of ePN, rRN, T.up, T.nn t0, J, tl2, ⟨Ain.1, Ain.2, Bin.1, Bin.2⟩, ?_⟩
    rw [chA]
    walk_at "rd"
    intro y1 e1' ny1 nz1 me1
    obtain ⟨sy1, k1⟩ := new_cnt (K := K) .exact ny1 nz1 me1
    walk_at "rd"
    intro y2 e2' ny2 nz2 me2
    obtain ⟨sy2, k2⟩ := new_cnt (K := K) .plain ny2 nz2 me2
    walk_at "rd"
    intro y3 e3' ny3 nz3 me3
    obtain ⟨sy3, k3⟩ := new_cnt (K := K) .bank ny3 nz3 me3
    walk_at "rd"
    intro y4 e4' ny4 nz4 me4
    obtain ⟨sy4, k4⟩ := new_cnt (K := K) .thirty ny4 nz4 me4
    walk_at "rd"
    intro q2 nq2
    have sq2 := same_new nq2 (.lst [.ref y1, .ref y2, .ref y3, .ref y4])
    have sA := sy1.trans (sy2.trans (sy3.trans (sy4.trans sq2)))
    have sO := sN.trans sA
    have hSO := sO.seq hSM
    have k1' := k1.same (sy2.trans (sy3.trans (sy4.trans sq2)))
    have k2' := k2.same (sy3.trans (sy4.trans sq2))
    have k3' := k3.same (sy4.trans sq2)
    have k4' := k4.same sq2
    walk_at "rd"
    rename_i r5 r50 r51
    have f0 : 0 ≤ r5 % 4 := Int.emod_nonneg _ (by decide)
    have f1 : r5 % 4 < 4 := Int.emod_lt_of_pos _ (by decide)
    obtain ⟨v, hv, hm⟩ := at_mem (xs := [.ref y1, .ref y2, .ref y3, .ref y4]) f0 (by simpa using f1)
    obtain ⟨c5, kd5, rfl, hc5⟩ := (mem1 ⟨_, _, rfl, k1'⟩ (mem1 ⟨_, _, rfl, k2'⟩ (mem1 ⟨_, _, rfl, k3'⟩ (mem1 ⟨_, _, rfl, k4'⟩ mem0))) : ∀ v ∈ ([.ref y1, .ref y2, .ref y3, .ref y4] : List V), ∃ c kd, v = .ref c ∧ IsCnt K _ c kd) v hm
    refine ⟨q2, _, _, _, rfl, rfl, SqL.of upd_same, hv, ?_⟩
    clear hv hm k1 k2 k3 k4 k1' k2' k3' k4'
    generalize upd _ q2 (.lst [.ref y1, .ref y2, .ref y3, .ref y4]) = Z at hSO hc5 sO ⊢
    clear sq2 sy1 sy2 sy3 sy4 sA nq2 ny4 nz4 ny3 nz3 ny2 nz2
    have hcZ := hcM.same sO
    have eZZ := sO _ _ eZ
    have ePZ := sO _ _ eP
    have rBZ := rB.same sO
    have rRZ := rR.same sO
    have eCZ := sO _ _ eC
    have e1Z := sO _ _ e1
    have e2Z := sO _ _ e2
    have rTZ := rT.same sO
    have rLZ := rL.same sO
    walk_at "rd"
    refine ⟨pc, _, _, _, rfl, rfl, SqL.of eCZ, atA, ?_⟩
    walk_at "rd"
    refine ⟨pc, _, _, _, rfl, rfl, SqL.of eCZ, atB, ?_⟩
    walk_at "rd"
    refine ⟨c5, lt, p3, kd5, zs, ws, tb, r, A, B, rfl, hc5, SqL.of eZZ, rBZ, SqL.of ePZ, rRZ, T.up, T.nn t0, J, tl2, ⟨Ain.1, Ain.2, Bin.1, Bin.2⟩, ?_⟩
    rw [chA]
    walk_at "rd"
    refine ⟨pc, _, _, _, rfl, rfl, SqL.of eCZ, atA, ?_⟩
    walk_at "rd"
    refine ⟨pc, _, _, _, rfl, rfl, SqL.of eCZ, atB, ?_⟩
    walk_at "rd"
    refine ⟨c5, p1, p2, kd5, xs, ys, t, l, A, B, rfl, hc5, SqL.of e1Z, rTZ, SqL.of e2Z, rLZ, by omega, ⟨Ain.1, AB, Bin.2⟩, ?_⟩
    walk_at "rd"
    · exact absurd rfl (by assumption)
    · refine ⟨pc, _, _, _, rfl, rfl, SqL.of eCZ, atA, ?_⟩
      walk_at "rd"
      refine ⟨pc, _, _, _, rfl, rfl, SqL.of eCZ, atB, ?_⟩
      walk_at "rd"
      refine ⟨c, p1, p2, kd, xs, ys, t, l, A, B, rfl, hcZ, SqL.of e1Z, rTZ, SqL.of e2Z, rLZ, by omega, ⟨Ain.1, AB, Bin.2⟩, ?_⟩
      walk_at "rd"
      refine qb (h _) ?_
      simp
    · exact absurd rfl (by assumption)
end
theorem all_ok {K : PySem.W.Frag} {mg : Str → Option Value} (T : Txt K mg) (S_begun : Src K mg "begun" s_begun ["rows", "day"]) (S_breaks : Src K mg "breaks" s_breaks ["table", "spans", "a", "b"]) (S_is_leap : Src K mg "is_leap" s_is_leap ["year"]) (S_new_year : Src K mg "new_year" s_new_year ["year"]) (S__law_whole : Src K mg "_law_whole" s__law_whole ["_law_found"]) (S__law_draw : Src K mg "_law_draw" s__law_draw ["_law_script", "_law_k", "_law_many"]) (S__law_in : Src K mg "_law_in" s__law_in ["_law_spans", "_law_day_here"]) (S__law_value : Src K mg "_law_value" s__law_value ["_law_pairs", "_law_day_here"]) (S__law_day : Src K mg "_law_day" s__law_day ["_law_cell_here", "_law_near"]) (S_value_at : Src K mg "value_at" s_value_at ["table", "day"]) (S_moved : Src K mg "moved" s_moved ["spans", "day"]) (S_month_days : Src K mg "month_days" s_month_days ["year", "month"]) (S_year_of : Src K mg "year_of" s_year_of ["day"]) (S__law_cell : Src K mg "_law_cell" s__law_cell ["_law_script", "_law_k"]) (S__law_least : Src K mg "_law_least" s__law_least ["_law_spans"]) (S_stands : Src K mg "stands" s_stands ["spans", "day"]) (S_date_of : Src K mg "date_of" s_date_of ["day"]) (S__law_some : Src K mg "_law_some" s__law_some ["_law_script", "_law_near"]) (S__law_cuts : Src K mg "_law_cuts" s__law_cuts ["_law_script", "_law_days"]) (S_charge : Src K mg "charge" s_charge ["count", "table", "spans", "a", "b"]) (S__law_sum : Src K mg "_law_sum" s__law_sum ["_law_count", "_law_pairs", "_law_spans", "_law_a", "_law_b"]) (S_law : Src K mg "law" s_law ["_law_script"]) (S_plain_year : MethS K (cA K (Kd.cls .plain)) "year" "Count.year" s_Count_year ["self"]) (S_bank_year : MethS K (cA K (Kd.cls .bank)) "year" "Bank.year" s_Bank_year ["self"]) (S_thirty_year : MethS K (cA K (Kd.cls .thirty)) "year" "Thirty.year" s_Thirty_year ["self"]) (S_exact_year : MethS K (cA K (Kd.cls .exact)) "year" "Exact.year" s_Exact_year ["self"]) (S_plain_upto : MethS K (cA K (Kd.cls .plain)) "upto" "Count.upto" s_Count_upto ["self", "day"]) (S_bank_upto : MethS K (cA K (Kd.cls .bank)) "upto" "Count.upto" s_Count_upto ["self", "day"]) (S_thirty_upto : MethS K (cA K (Kd.cls .thirty)) "upto" "Thirty.upto" s_Thirty_upto ["self", "day"]) (S_exact_upto : MethS K (cA K (Kd.cls .exact)) "upto" "Exact.upto" s_Exact_upto ["self", "day"]) (S_plain_weight : MethS K (cA K (Kd.cls .plain)) "weight" "Count.weight" s_Count_weight ["self", "a", "b"]) (S_bank_weight : MethS K (cA K (Kd.cls .bank)) "weight" "Count.weight" s_Count_weight ["self", "a", "b"]) (S_thirty_weight : MethS K (cA K (Kd.cls .thirty)) "weight" "Count.weight" s_Count_weight ["self", "a", "b"]) (S_exact_weight : MethS K (cA K (Kd.cls .exact)) "weight" "Count.weight" s_Count_weight ["self", "a", "b"]) {P : Program} {w : World} {base : Heap} : Def P w K mg base 7 "law" ["_law_script"] (sp_law K) := by
  have D_begun := d_begun (P := P) (w := w) (base := base) S_begun T 
  have D_breaks := d_breaks (P := P) (w := w) (base := base) S_breaks T 
  have D_is_leap := d_is_leap (P := P) (w := w) (base := base) S_is_leap T 
  have D_new_year := d_new_year (P := P) (w := w) (base := base) S_new_year T 
  have D_m_year : ∀ kd : Kd, DefM P w K mg base 1 (cA K kd.cls) "year" ["self"] (sp_m_year kd K) := fun kd => by
    cases kd
    · exact d_Count_year .plain (by simp) S_plain_year T 
    · exact d_Bank_year .bank (by simp) S_bank_year T 
    · exact d_Thirty_year .thirty (by simp) S_thirty_year T 
    · exact d_Exact_year .exact (by simp) S_exact_year T 
  have D__law_whole := d__law_whole (P := P) (w := w) (base := base) S__law_whole T 
  have D__law_draw := d__law_draw (P := P) (w := w) (base := base) S__law_draw T 
  have D__law_in := d__law_in (P := P) (w := w) (base := base) S__law_in T 
  have D__law_value := d__law_value (P := P) (w := w) (base := base) S__law_value T 
  have D__law_day := d__law_day (P := P) (w := w) (base := base) S__law_day T 
  have D_value_at := d_value_at (P := P) (w := w) (base := base) S_value_at T D_begun
  have D_moved := d_moved (P := P) (w := w) (base := base) S_moved T D_begun
  have D_month_days := d_month_days (P := P) (w := w) (base := base) S_month_days T D_is_leap
  have D_year_of := d_year_of (P := P) (w := w) (base := base) S_year_of T D_new_year
  have D__law_cell := d__law_cell (P := P) (w := w) (base := base) S__law_cell T D__law_draw
  have D__law_least := d__law_least (P := P) (w := w) (base := base) S__law_least T D__law_in
  have D_stands := d_stands (P := P) (w := w) (base := base) S_stands T D_moved
  have D_date_of := d_date_of (P := P) (w := w) (base := base) S_date_of T D_year_of D_new_year D_month_days
  have D__law_some := d__law_some (P := P) (w := w) (base := base) S__law_some T D__law_cell D__law_day
  have D__law_cuts := d__law_cuts (P := P) (w := w) (base := base) S__law_cuts T D__law_cell
  have D_m_upto : ∀ kd : Kd, DefM P w K mg base 4 (cA K kd.cls) "upto" ["self", "day"] (sp_m_upto kd K) := fun kd => by
    cases kd
    · exact d_Count_upto .plain (by simp) S_plain_upto T 
    · exact d_Count_upto .bank (by simp) S_bank_upto T 
    · exact d_Thirty_upto .thirty (by simp) S_thirty_upto T D_date_of
    · exact d_Exact_upto .exact (by simp) S_exact_upto T D_year_of D_is_leap D_m_year D_new_year
  have D_m_weight : ∀ kd : Kd, DefM P w K mg base 5 (cA K kd.cls) "weight" ["self", "a", "b"] (sp_m_weight kd K) := fun kd => by
    cases kd
    · exact d_Count_weight .plain (by simp) S_plain_weight T D_m_upto
    · exact d_Count_weight .bank (by simp) S_bank_weight T D_m_upto
    · exact d_Count_weight .thirty (by simp) S_thirty_weight T D_m_upto
    · exact d_Count_weight .exact (by simp) S_exact_weight T D_m_upto
  have D_charge := d_charge (P := P) (w := w) (base := base) S_charge T D_breaks D_m_weight D_value_at D_stands
  have D__law_sum := d__law_sum (P := P) (w := w) (base := base) S__law_sum T D_m_weight D__law_value D__law_in
  have D_law := d_law (P := P) (w := w) (base := base) S_law T D__law_cell D__law_some D__law_value D__law_least D__law_cuts D_charge D__law_whole D__law_sum
  exact D_law
end My
def PySem.W.Fast.tw18361277588696275829 : Nat := 0
def PySem.W.Fast.tw15790143300463264716 : Nat := 0
def PySem.W.Fast.tw5199694412544679932 : Nat := 0
def PySem.W.Fast.tw1193534904474627525 : Nat := 0
def PySem.W.Fast.tw4827071993575034801 : Nat := 0
def PySem.W.Fast.tw5727122331919801385 : Nat := 0
def PySem.W.Fast.tw8854833904985191091 : Nat := 0
def PySem.W.Fast.tw3227540106971887590 : Nat := 0
def PySem.W.Fast.tw15247118766649932147 : Nat := 0
def PySem.W.Fast.tw13053131769649758581 : Nat := 0
def PySem.W.Fast.tw3628940813022136258 : Nat := 0
def PySem.W.Fast.tw5431271796693145876 : Nat := 0
def PySem.W.Fast.tw10824273050360924246 : Nat := 0
open PySem PySem.W PyProof.Rows
set_option maxRecDepth 100000 in
set_option maxHeartbeats 0 in
theorem PySem.Challenge.cw_loanroll_k25_charges_add_holds : PySem.Challenge.rw_loanroll_k25_charges_add.Holds := by
  w_on; o_law; k_head; (case hw => w_witness2)
  k_fill
  refine L2.walk_def (l := PySem.Challenge.rw_loanroll_k25_charges_add) (lv := 7) (sp := My.sp_law) (x := "_law_script") (st := My.s_law) rfl rfl rfl ⟨rfl, by decide, by decide⟩ (fun w h Y => PySem.W.kIn_of Y) ?F (fun K H a ns hl hS => ⟨a, ns, rfl, hS, hl, fun _ => rfl⟩)
  case F =>
    intro w mg h KX G
    have n_bool : mg "bool" = none := PySem.W.mg_none_of KX G (by k_is)
    have n_int : mg "int" = none := PySem.W.mg_none_of KX G (by k_is)
    have n_isinstance : mg "isinstance" = none := PySem.W.mg_none_of KX G (by k_is)
    have n_len : mg "len" = none := PySem.W.mg_none_of KX G (by k_is)
    have n_list : mg "list" = none := PySem.W.mg_none_of KX G (by k_is)
    have n_max : mg "max" = none := PySem.W.mg_none_of KX G (by k_is)
    have n_min : mg "min" = none := PySem.W.mg_none_of KX G (by k_is)
    have n_range : mg "range" = none := PySem.W.mg_none_of KX G (by k_is)
    have n_set : mg "set" = none := PySem.W.mg_none_of KX G (by k_is)
    have n_sorted : mg "sorted" = none := PySem.W.mg_none_of KX G (by k_is)
    have n_zip : mg "zip" = none := PySem.W.mg_none_of KX G (by k_is)
    have a_Bank := by
      refine' L2.nsHave (x := "Bank") KX ?a
      (case a => k_is)
    have a_Count := by
      refine' L2.nsHave (x := "Count") KX ?a
      (case a => k_is)
    have a_Exact := by
      refine' L2.nsHave (x := "Exact") KX ?a
      (case a => k_is)
    have a_Thirty := by
      refine' L2.nsHave (x := "Thirty") KX ?a
      (case a => k_is)
    have cls_Count := by
      refine' L2.cls_mk a_Count ?_ ?_ ?_ ?_
      all_goals k_is
    have mk0_Count := by
      refine' L2.mk0_mk a_Count ?_ ?_ ?_
      all_goals k_is
    have S_plain_year := by
      refine' L2.meth_mk (m := "year") (qual := "Count.year") (st := My.s_Count_year) (ps := ["self"]) a_Count ?xi ?xf ?xk ?xl ?xc ?xb
      (case xi => k_is); (case xf => k_is); (case xk => k_is); (case xl => k_is); (case xc => k_is)
      (case xb => exact fun us hl => match us, hl with | [_], _ => rfl)
    have S_plain_upto := by
      refine' L2.meth_mk (m := "upto") (qual := "Count.upto") (st := My.s_Count_upto) (ps := ["self", "day"]) a_Count ?xi ?xf ?xk ?xl ?xc ?xb
      (case xi => k_is); (case xf => k_is); (case xk => k_is); (case xl => k_is); (case xc => k_is)
      (case xb => exact fun us hl => match us, hl with | [_, _], _ => rfl)
    have S_plain_weight := by
      refine' L2.meth_mk (m := "weight") (qual := "Count.weight") (st := My.s_Count_weight) (ps := ["self", "a", "b"]) a_Count ?xi ?xf ?xk ?xl ?xc ?xb
      (case xi => k_is); (case xf => k_is); (case xk => k_is); (case xl => k_is); (case xc => k_is)
      (case xb => exact fun us hl => match us, hl with | [_, _, _], _ => rfl)
    have cls_Bank := by
      refine' L2.cls_mk a_Bank ?_ ?_ ?_ ?_
      all_goals k_is
    have mk0_Bank := by
      refine' L2.mk0_mk a_Bank ?_ ?_ ?_
      all_goals k_is
    have S_bank_year := by
      refine' L2.meth_mk (m := "year") (qual := "Bank.year") (st := My.s_Bank_year) (ps := ["self"]) a_Bank ?xi ?xf ?xk ?xl ?xc ?xb
      (case xi => k_is); (case xf => k_is); (case xk => k_is); (case xl => k_is); (case xc => k_is)
      (case xb => exact fun us hl => match us, hl with | [_], _ => rfl)
    have S_bank_upto := by
      refine' L2.meth_mk (m := "upto") (qual := "Count.upto") (st := My.s_Count_upto) (ps := ["self", "day"]) a_Bank ?xi ?xf ?xk ?xl ?xc ?xb
      (case xi => k_is); (case xf => k_is); (case xk => k_is); (case xl => k_is); (case xc => k_is)
      (case xb => exact fun us hl => match us, hl with | [_, _], _ => rfl)
    have S_bank_weight := by
      refine' L2.meth_mk (m := "weight") (qual := "Count.weight") (st := My.s_Count_weight) (ps := ["self", "a", "b"]) a_Bank ?xi ?xf ?xk ?xl ?xc ?xb
      (case xi => k_is); (case xf => k_is); (case xk => k_is); (case xl => k_is); (case xc => k_is)
      (case xb => exact fun us hl => match us, hl with | [_, _, _], _ => rfl)
    have cls_Thirty := by
      refine' L2.cls_mk a_Thirty ?_ ?_ ?_ ?_
      all_goals k_is
    have mk0_Thirty := by
      refine' L2.mk0_mk a_Thirty ?_ ?_ ?_
      all_goals k_is
    have S_thirty_year := by
      refine' L2.meth_mk (m := "year") (qual := "Thirty.year") (st := My.s_Thirty_year) (ps := ["self"]) a_Thirty ?xi ?xf ?xk ?xl ?xc ?xb
      (case xi => k_is); (case xf => k_is); (case xk => k_is); (case xl => k_is); (case xc => k_is)
      (case xb => exact fun us hl => match us, hl with | [_], _ => rfl)
    have S_thirty_upto := by
      refine' L2.meth_mk (m := "upto") (qual := "Thirty.upto") (st := My.s_Thirty_upto) (ps := ["self", "day"]) a_Thirty ?xi ?xf ?xk ?xl ?xc ?xb
      (case xi => k_is); (case xf => k_is); (case xk => k_is); (case xl => k_is); (case xc => k_is)
      (case xb => exact fun us hl => match us, hl with | [_, _], _ => rfl)
    have S_thirty_weight := by
      refine' L2.meth_mk (m := "weight") (qual := "Count.weight") (st := My.s_Count_weight) (ps := ["self", "a", "b"]) a_Thirty ?xi ?xf ?xk ?xl ?xc ?xb
      (case xi => k_is); (case xf => k_is); (case xk => k_is); (case xl => k_is); (case xc => k_is)
      (case xb => exact fun us hl => match us, hl with | [_, _, _], _ => rfl)
    have cls_Exact := by
      refine' L2.cls_mk a_Exact ?_ ?_ ?_ ?_
      all_goals k_is
    have mk0_Exact := by
      refine' L2.mk0_mk a_Exact ?_ ?_ ?_
      all_goals k_is
    have S_exact_year := by
      refine' L2.meth_mk (m := "year") (qual := "Exact.year") (st := My.s_Exact_year) (ps := ["self"]) a_Exact ?xi ?xf ?xk ?xl ?xc ?xb
      (case xi => k_is); (case xf => k_is); (case xk => k_is); (case xl => k_is); (case xc => k_is)
      (case xb => exact fun us hl => match us, hl with | [_], _ => rfl)
    have S_exact_upto := by
      refine' L2.meth_mk (m := "upto") (qual := "Exact.upto") (st := My.s_Exact_upto) (ps := ["self", "day"]) a_Exact ?xi ?xf ?xk ?xl ?xc ?xb
      (case xi => k_is); (case xf => k_is); (case xk => k_is); (case xl => k_is); (case xc => k_is)
      (case xb => exact fun us hl => match us, hl with | [_, _], _ => rfl)
    have S_exact_weight := by
      refine' L2.meth_mk (m := "weight") (qual := "Count.weight") (st := My.s_Count_weight) (ps := ["self", "a", "b"]) a_Exact ?xi ?xf ?xk ?xl ?xc ?xb
      (case xi => k_is); (case xf => k_is); (case xk => k_is); (case xl => k_is); (case xc => k_is)
      (case xb => exact fun us hl => match us, hl with | [_, _, _], _ => rfl)
    have m_Bank := L2.m_mk KX G a_Bank
    have m_Count := L2.m_mk KX G a_Count
    have m_Exact := L2.m_mk KX G a_Exact
    have m_Thirty := L2.m_mk KX G a_Thirty
    have g_FIRST_YEAR := by
      refine' L2.gint_mk (mg := mg) (x := "FIRST_YEAR") (i := 2000) KX G ?a
      (case a => k_is)
    have g_LENGTHS := by
      refine' L2.gtup_mk (mg := mg) (x := "LENGTHS") (xs := [.int 31, .int 28, .int 31, .int 30, .int 31, .int 30, .int 31, .int 31, .int 30, .int 31, .int 30, .int 31]) KX G ?a ?l ?r ?z
      (case a => k_is); (case l => k_is)
      (case r => repeat (first | exact .nil | refine .cons ⟨_, rfl⟩ ?_))
      (case z => decide)
    have g_ROUND_DAYS := by
      refine' L2.gint_mk (mg := mg) (x := "ROUND_DAYS") (i := 146097) KX G ?a
      (case a => k_is)
    have g_ROUND_YEARS := by
      refine' L2.gint_mk (mg := mg) (x := "ROUND_YEARS") (i := 400) KX G ?a
      (case a => k_is)
    have S_begun := by
      refine' L2.src_mk (mg := mg) (x := "begun") (st := My.s_begun) (ps := ["rows", "day"]) KX G ?a ?l ?c ?k ?b
      (case a => k_is); (case l => k_is); (case c => k_is); (case k => k_is)
      (case b => exact fun us hl => match us, hl with | [_, _], _ => rfl)
    have S_breaks := by
      refine' L2.src_mk (mg := mg) (x := "breaks") (st := My.s_breaks) (ps := ["table", "spans", "a", "b"]) KX G ?a ?l ?c ?k ?b
      (case a => k_is); (case l => k_is); (case c => k_is); (case k => k_is)
      (case b => exact fun us hl => match us, hl with | [_, _, _, _], _ => rfl)
    have S_is_leap := by
      refine' L2.src_mk (mg := mg) (x := "is_leap") (st := My.s_is_leap) (ps := ["year"]) KX G ?a ?l ?c ?k ?b
      (case a => k_is); (case l => k_is); (case c => k_is); (case k => k_is)
      (case b => exact fun us hl => match us, hl with | [_], _ => rfl)
    have S_new_year := by
      refine' L2.src_mk (mg := mg) (x := "new_year") (st := My.s_new_year) (ps := ["year"]) KX G ?a ?l ?c ?k ?b
      (case a => k_is); (case l => k_is); (case c => k_is); (case k => k_is)
      (case b => exact fun us hl => match us, hl with | [_], _ => rfl)
    have S__law_whole := by
      refine' L2.src_mk (mg := mg) (x := "_law_whole") (st := My.s__law_whole) (ps := ["_law_found"]) KX G ?a ?l ?c ?k ?b
      (case a => k_is); (case l => k_is); (case c => k_is); (case k => k_is)
      (case b => exact fun us hl => match us, hl with | [_], _ => rfl)
    have S__law_draw := by
      refine' L2.src_mk (mg := mg) (x := "_law_draw") (st := My.s__law_draw) (ps := ["_law_script", "_law_k", "_law_many"]) KX G ?a ?l ?c ?k ?b
      (case a => k_is); (case l => k_is); (case c => k_is); (case k => k_is)
      (case b => exact fun us hl => match us, hl with | [_, _, _], _ => rfl)
    have S__law_in := by
      refine' L2.src_mk (mg := mg) (x := "_law_in") (st := My.s__law_in) (ps := ["_law_spans", "_law_day_here"]) KX G ?a ?l ?c ?k ?b
      (case a => k_is); (case l => k_is); (case c => k_is); (case k => k_is)
      (case b => exact fun us hl => match us, hl with | [_, _], _ => rfl)
    have S__law_value := by
      refine' L2.src_mk (mg := mg) (x := "_law_value") (st := My.s__law_value) (ps := ["_law_pairs", "_law_day_here"]) KX G ?a ?l ?c ?k ?b
      (case a => k_is); (case l => k_is); (case c => k_is); (case k => k_is)
      (case b => exact fun us hl => match us, hl with | [_, _], _ => rfl)
    have S__law_day := by
      refine' L2.src_mk (mg := mg) (x := "_law_day") (st := My.s__law_day) (ps := ["_law_cell_here", "_law_near"]) KX G ?a ?l ?c ?k ?b
      (case a => k_is); (case l => k_is); (case c => k_is); (case k => k_is)
      (case b => exact fun us hl => match us, hl with | [_, _], _ => rfl)
    have S_value_at := by
      refine' L2.src_mk (mg := mg) (x := "value_at") (st := My.s_value_at) (ps := ["table", "day"]) KX G ?a ?l ?c ?k ?b
      (case a => k_is); (case l => k_is); (case c => k_is); (case k => k_is)
      (case b => exact fun us hl => match us, hl with | [_, _], _ => rfl)
    have S_moved := by
      refine' L2.src_mk (mg := mg) (x := "moved") (st := My.s_moved) (ps := ["spans", "day"]) KX G ?a ?l ?c ?k ?b
      (case a => k_is); (case l => k_is); (case c => k_is); (case k => k_is)
      (case b => exact fun us hl => match us, hl with | [_, _], _ => rfl)
    have S_month_days := by
      refine' L2.src_mk (mg := mg) (x := "month_days") (st := My.s_month_days) (ps := ["year", "month"]) KX G ?a ?l ?c ?k ?b
      (case a => k_is); (case l => k_is); (case c => k_is); (case k => k_is)
      (case b => exact fun us hl => match us, hl with | [_, _], _ => rfl)
    have S_year_of := by
      refine' L2.src_mk (mg := mg) (x := "year_of") (st := My.s_year_of) (ps := ["day"]) KX G ?a ?l ?c ?k ?b
      (case a => k_is); (case l => k_is); (case c => k_is); (case k => k_is)
      (case b => exact fun us hl => match us, hl with | [_], _ => rfl)
    have S__law_cell := by
      refine' L2.src_mk (mg := mg) (x := "_law_cell") (st := My.s__law_cell) (ps := ["_law_script", "_law_k"]) KX G ?a ?l ?c ?k ?b
      (case a => k_is); (case l => k_is); (case c => k_is); (case k => k_is)
      (case b => exact fun us hl => match us, hl with | [_, _], _ => rfl)
    have S__law_least := by
      refine' L2.src_mk (mg := mg) (x := "_law_least") (st := My.s__law_least) (ps := ["_law_spans"]) KX G ?a ?l ?c ?k ?b
      (case a => k_is); (case l => k_is); (case c => k_is); (case k => k_is)
      (case b => exact fun us hl => match us, hl with | [_], _ => rfl)
    have S_stands := by
      refine' L2.src_mk (mg := mg) (x := "stands") (st := My.s_stands) (ps := ["spans", "day"]) KX G ?a ?l ?c ?k ?b
      (case a => k_is); (case l => k_is); (case c => k_is); (case k => k_is)
      (case b => exact fun us hl => match us, hl with | [_, _], _ => rfl)
    have S_date_of := by
      refine' L2.src_mk (mg := mg) (x := "date_of") (st := My.s_date_of) (ps := ["day"]) KX G ?a ?l ?c ?k ?b
      (case a => k_is); (case l => k_is); (case c => k_is); (case k => k_is)
      (case b => exact fun us hl => match us, hl with | [_], _ => rfl)
    have S__law_some := by
      refine' L2.src_mk (mg := mg) (x := "_law_some") (st := My.s__law_some) (ps := ["_law_script", "_law_near"]) KX G ?a ?l ?c ?k ?b
      (case a => k_is); (case l => k_is); (case c => k_is); (case k => k_is)
      (case b => exact fun us hl => match us, hl with | [_, _], _ => rfl)
    have S__law_cuts := by
      refine' L2.src_mk (mg := mg) (x := "_law_cuts") (st := My.s__law_cuts) (ps := ["_law_script", "_law_days"]) KX G ?a ?l ?c ?k ?b
      (case a => k_is); (case l => k_is); (case c => k_is); (case k => k_is)
      (case b => exact fun us hl => match us, hl with | [_, _], _ => rfl)
    have S_charge := by
      refine' L2.src_mk (mg := mg) (x := "charge") (st := My.s_charge) (ps := ["count", "table", "spans", "a", "b"]) KX G ?a ?l ?c ?k ?b
      (case a => k_is); (case l => k_is); (case c => k_is); (case k => k_is)
      (case b => exact fun us hl => match us, hl with | [_, _, _, _, _], _ => rfl)
    have S__law_sum := by
      refine' L2.src_mk (mg := mg) (x := "_law_sum") (st := My.s__law_sum) (ps := ["_law_count", "_law_pairs", "_law_spans", "_law_a", "_law_b"]) KX G ?a ?l ?c ?k ?b
      (case a => k_is); (case l => k_is); (case c => k_is); (case k => k_is)
      (case b => exact fun us hl => match us, hl with | [_, _, _, _, _], _ => rfl)
    have S_law := by
      refine' L2.src_mk (mg := mg) (x := "law") (st := My.s_law) (ps := ["_law_script"]) KX G ?a ?l ?c ?k ?b
      (case a => k_is); (case l => k_is); (case c => k_is); (case k => k_is)
      (case b => exact fun us hl => match us, hl with | [_], _ => rfl)
    exact ⟨S_law, fun base => My.all_ok (⟨n_bool, n_int, n_isinstance, n_len, n_list, n_max, n_min, n_range, n_set, n_sorted, n_zip, (fun kd => match kd with | .plain => cls_Count | .bank => cls_Bank | .thirty => cls_Thirty | .exact => cls_Exact), (fun kd => match kd with | .plain => mk0_Count | .bank => mk0_Bank | .thirty => mk0_Thirty | .exact => mk0_Exact), m_Bank, m_Count, m_Exact, m_Thirty, g_FIRST_YEAR, g_LENGTHS, g_ROUND_DAYS, g_ROUND_YEARS⟩ : My.Txt _ mg) S_begun S_breaks S_is_leap S_new_year S__law_whole S__law_draw S__law_in S__law_value S__law_day S_value_at S_moved S_month_days S_year_of S__law_cell S__law_least S_stands S_date_of S__law_some S__law_cuts S_charge S__law_sum S_law S_plain_year S_bank_year S_thirty_year S_exact_year S_plain_upto S_bank_upto S_thirty_upto S_exact_upto S_plain_weight S_bank_weight S_thirty_weight S_exact_weight⟩

