import PyProof.Rows.All
import Wide.All
import OpenK.AllK
import Wide.FinOn
import Lean
import PyProof.EqAt
import PyProof.EqKinds
import PyProof.TupleCall
import PySem.Challenge.RW_loanroll_k32_no_entry
set_option Elab.async false
set_option linter.all false
set_option maxRecDepth 100000
set_option maxHeartbeats 20000000
/-! THE HAND LAYER, for ints, bools, texts, own classes, LISTS and tuples (index, slices, in, append, pop ..), calls, loops. Paste it whole ahead of your own text; what your proof does not reach may be deleted. -/
namespace L2
open PySem PySem.Spec PyProof.Rows

/-- a key: an int or a str -/
abbrev Key := Sum Int Str
def keyIs : Key → Value → Bool
  | .inl k, v => Value.isInt k v
  | .inr x, v => Value.isStrOf x v
def keyH (w : World) : Key → Int
  | .inl k => hashInt k
  | .inr x => hashStr w x
theorem keyIs_shape : ∀ {k : Key} {v : Value}, keyIs k v = true → (∃ i t, k = Sum.inl i ∧ v = Value.int i t) ∨ (∃ x t, k = Sum.inr x ∧ v = Value.str x t)
  | .inl i, v, h => by
    obtain ⟨t, e⟩ := Value.isInt_shape (k := i) (v := v) h
    exact .inl ⟨i, t, rfl, e⟩
  | .inr x, v, h => by
    obtain ⟨t, e⟩ := Value.isStrOf_shape (x := x) (v := v) h
    exact .inr ⟨x, t, rfl, e⟩
theorem key_ll (a b : Int) : decide ((Sum.inl a : Key) = Sum.inl b) = (a == b) := by
  by_cases e : a = b
  · subst e; simp
  · have h : ¬ (Sum.inl a : Key) = Sum.inl b := fun q => e (Sum.inl.inj q)
    rw [decide_eq_false h]
    exact (beq_eq_false_iff_ne.mpr e).symm
theorem key_rr (a b : Str) : decide ((Sum.inr a : Key) = Sum.inr b) = decide (a = b) := by
  by_cases e : a = b
  · subst e; simp
  · have h : ¬ (Sum.inr a : Key) = Sum.inr b := fun q => e (Sum.inr.inj q)
    rw [decide_eq_false h, decide_eq_false e]
theorem key_lr (a : Int) (b : Str) : decide ((Sum.inl a : Key) = Sum.inr b) = false := decide_eq_false (fun q => nomatch q)
theorem key_rl (a : Str) (b : Int) : decide ((Sum.inr a : Key) = Sum.inl b) = false := decide_eq_false (fun q => nomatch q)

def mixKind (prog : Program) (w : World) : PySem.KeyKind prog w Key where
  is := keyIs
  hash := keyH w
  inj := fun v a b ha hb => by
    rcases keyIs_shape ha with ⟨i, t, rfl, rfl⟩ | ⟨x, t, rfl, rfl⟩
    · rcases keyIs_shape hb with ⟨j, u, rfl, e⟩ | ⟨y, u, rfl, e⟩
      · injection e with e1 _; rw [e1]
      · exact nomatch e
    · rcases keyIs_shape hb with ⟨j, u, rfl, e⟩ | ⟨y, u, rfl, e⟩
      · exact nomatch e
      · injection e with e1 _; rw [e1]
  byValue := fun k v h => by
    rcases keyIs_shape h with ⟨i, t, rfl, rfl⟩ | ⟨x, t, rfl, rfl⟩ <;> rfl
  pyHash := fun hv h => by
    rcases keyIs_shape hv with ⟨i, t, rfl, rfl⟩ | ⟨x, t, rfl, rfl⟩
    · exact wpAny_pyHash_int h
    · exact wpAny_pyHash_str h
  eqBool := fun hu hv h => by
    rcases keyIs_shape hu with ⟨i, t, rfl, rfl⟩ | ⟨x, t, rfl, rfl⟩
    · rcases keyIs_shape hv with ⟨j, u, rfl, rfl⟩ | ⟨y, u, rfl, rfl⟩
      · rw [key_ll] at h; exact wpAny_eqBool_int h
      · rw [key_lr] at h; exact SeqAt.EqAt.int_str i t y u _ _ _ _ h
    · rcases keyIs_shape hv with ⟨j, u, rfl, rfl⟩ | ⟨y, u, rfl, rfl⟩
      · rw [key_rl] at h; exact SeqAt.EqAt.str_int x t j u _ _ _ _ h
      · rw [key_rr] at h; exact wpAny_eqBool_str h
  «strs» := fun k x t v h => by
    rcases keyIs_shape h with ⟨i, u, rfl, e⟩ | ⟨y, u, rfl, e⟩
    · exact nomatch e
    · injection e with e1 _
      subst e1
      cases v <;> rfl

end L2

namespace L2
open PySem PySem.Spec PyProof.Rows

/-- a value, without the heap -/
inductive V where
  | non | bl (b : Bool) | int (i : Int) | str (x : Str) | byt (b : Array UInt8) | flt (b : UInt64) | ref (a : Addr) | ty (n : String)
  deriving DecidableEq

def RelV : V → Value → Prop
  | .non, u => u = Value.none
  | .bl b, u => u = Value.bool b
  | .int i, u => ∃ t, u = Value.int i t
  | .str x, u => ∃ t, u = Value.str x t
  | .byt b, u => ∃ t, u = Value.bytes b t
  | .flt b, u => ∃ t, u = Value.float b t
  | .ref a, u => u = Value.ref a
  | .ty n, u => u = Value.type n

abbrev Vals : List V → List Value → Prop := Paired RelV
theorem Vals.length {xs : List V} {us : List Value} (r : Vals xs us) : xs.length = us.length := Paired.length r
theorem Vals.get : ∀ {xs : List V} {us : List Value} {i : Nat} {x : V}, Vals xs us → xs[i]? = some x → ∃ u, us[i]? = some u ∧ RelV x u
  | _, _, _, _, .nil, e => by simp at e
  | _, _, 0, _, .cons r _, e => by simp at e; subst e; exact ⟨_, rfl, r⟩
  | _, _, i + 1, x, .cons _ t, e => by
    obtain ⟨u, h1, h2⟩ := Vals.get (i := i) (x := x) t (by simpa using e)
    exact ⟨u, by simpa using h1, h2⟩
theorem Vals.set {x : V} {u : Value} (r : RelV x u) : ∀ {xs : List V} {us : List Value} (i : Nat), Vals xs us → Vals (xs.set i x) (us.set i u)
  | _, _, _, .nil => .nil
  | _, _, 0, .cons _ t => .cons r t
  | _, _, i + 1, .cons q t => .cons q (Vals.set r i t)
theorem Vals.append : ∀ {xs ys : List V} {us ws : List Value}, Vals xs us → Vals ys ws → Vals (xs ++ ys) (us ++ ws)
  | _, _, _, _, .nil, s => s
  | _, _, _, _, .cons r t, s => .cons r (Vals.append t s)
theorem Vals.take : ∀ {xs : List V} {us : List Value} (n : Nat), Vals xs us → Vals (xs.take n) (us.take n)
  | _, _, 0, _ => .nil
  | _, _, _ + 1, .nil => .nil
  | _, _, n + 1, .cons r t => .cons r (Vals.take n t)
theorem Vals.drop : ∀ {xs : List V} {us : List Value} (n : Nat), Vals xs us → Vals (xs.drop n) (us.drop n)
  | _, _, 0, r => r
  | _, _, _ + 1, .nil => .nil
  | _, _, n + 1, .cons _ t => Vals.drop n t
theorem Vals.none_of : ∀ {xs : List V} {us : List Value} {i : Nat}, Vals xs us → xs[i]? = none → us[i]? = none := fun {xs us i} r e => by
  have h1 := r.length
  have h2 : xs.length ≤ i := List.getElem?_eq_none_iff.mp e
  exact List.getElem?_eq_none_iff.mpr (by omega)

def RelO : Option V → Option Value → Prop
  | some v, some u => RelV v u
  | none, none => True
  | _, _ => False
def KV {κ : Type} : List (κ × V) → List (κ × Value) → Prop := Paired fun (p : κ × V) (q : κ × Value) => p.1 = q.1 ∧ RelV p.2 q.2

/-- a key of a dict (00_mix): an int or a text -/
def kV : Key → V
  | .inl i => .int i
  | .inr x => .str x

/-- what stands at a tracked address -/
inductive HO where
  /-- a list -/
  | lst (xs : List V)
  /-- a tuple (never changes) -/
  | tup (xs : List V)
  /-- a dict whose keys are ints and texts; one whose keys are tuples of ints and texts (the empty one is both) -/
  | dK (kvs : List (Key × V))
  /-- a set of ints: its members, its size -/
  | set (S : Int → Bool) (n : Nat)
  /-- an instance of the class at C, its dict at dx, its attributes -/
  | ins (C dx : Addr) (fs : List (Str × V))
  /-- the dict of the instance at x -/
  | own (x : Addr)
  /-- the dict of an exception -/
  | xd (fs : List (Str × V))
  /-- a bound method, f of x -/
  | met (f x : Addr)
  /-- a range object lo, lo + 1, .. below hi -/
  | rng (lo hi : Int)
  /-- a thing that is known to the object (the script; a dict while a loop walks it): read, never written while it is so -/
  | frz (o : Obj) (u : HO)
  /-- a code object's table -/
  | tbl (ps : Array Value)
  /-- any other thing, by what is true of its one object (a def of one's own: SetO a S n := HO.ext fun h => ..) -/
  | ext (φ : Heap → Prop)

abbrev Hp := Addr → Option HO
def upd (H : Hp) (a : Addr) (o : HO) : Hp := fun b => if b = a then some o else H b
theorem upd_same {H : Hp} {a : Addr} {o : HO} : upd H a o a = some o := by unfold upd; rw [if_pos rfl]
theorem upd_ne {H : Hp} {a b : Addr} {o : HO} (h : b ≠ a) : upd H a o b = H b := by unfold upd; rw [if_neg h]
theorem upd_upd {H : Hp} {a : Addr} {o u : HO} : upd (upd H a o) a u = upd H a u := by
  funext b; unfold upd; split <;> rfl
/-- two objects of different content stand apart -/
theorem ne_of {H : Hp} {a b : Addr} {o u : HO} (h : H a = some o) (h' : H b = some u) (d : o ≠ u) : a ≠ b := by
  intro e; subst e; rw [h] at h'; exact d (Option.some.inj h')
theorem ne_of_none {H : Hp} {a b : Addr} {o : HO} (h : H a = some o) (h' : H b = none) : a ≠ b := by
  intro e; subst e; rw [h] at h'; cases h'

section
variable (P : Program) (w : World)
def ObjOk (H : Hp) (h : Heap) (a : Addr) : HO → Prop
  | .lst xs => xs.length ≤ sizeLine ∧ ∃ (its : List Value) (n : Nat), Vals xs its ∧ h.get? a = some { cls := .type "list", data := .seq its.toArray n }
  | .tup xs => xs.length ≤ sizeLine ∧ ∃ its : List Value, Vals xs its ∧ IsTup h a its.toArray
  | .dK kvs => kvs.length ≤ sizeLine ∧ (a == sysModules) = false ∧ ∃ vs, KV kvs vs ∧ h.DictOf (mixKind P w) a vs
  | .set S n => h.SetOf (intKind P w) a S n
  | .ins C dx fs => H dx = some (.own a) ∧ fs.length ≤ 1000 ∧ dx ≠ a ∧ h.get? a = some (PySem.W.instObj C dx) ∧
      ∃ mA, h.Ns1 dx mA ∧ (∀ f, RelO (fs.lookup f) (mA f)) ∧ PySem.Within mA (fs.map (·.1))
  | .own _ => ∃ o, h.get? a = some o
  | .xd fs => ∃ mA, h.Ns1 a mA ∧ ∀ f, RelO (fs.lookup f) (mA f)
  | .rng lo hi => ∃ t u v, h.get? a = some { cls := .type "range", data := .fields #[.int lo t, .int hi u, .int 1 v] }
  | .frz o u => h.get? a = some o ∧ ObjOk H h a u
  | .tbl ps => h.get? a = some { cls := .none, data := .fields ps }
  | .met f x => h.get? a = some (PySem.W.methodObj (.ref f) (.ref x))
  | .ext φ => φ h ∧ (∃ o, h.get? a = some o) ∧ ∀ h1 h2 : Heap, φ h1 → (∀ o, h1.get? a = some o → h2.get? a = some o) → φ h2
/-- the abstract heap is held -/
def HOk (H : Hp) (h : Heap) : Prop := ∀ a o, H a = some o → ObjOk P w H h a o
end

section
variable {P : Program} {w : World} {H H' : Hp} {h h' : Heap} {a : Addr} {o : HO}
theorem ObjOk.lt (x : ObjOk P w H h a o) : a < h.objs.size := by
  cases o with
  | lst xs => obtain ⟨_, _, _, _, e⟩ := x; exact Heap.lt_size e
  | tup xs => obtain ⟨_, _, _, p⟩ := x; exact p.lt
  | dK kvs => obtain ⟨_, _, _, _, o, _, _, e, _⟩ := x; exact Heap.lt_size e
  | set S n => obtain ⟨o, _, _, _, e, _⟩ := x; exact Heap.lt_size e
  | ins C dx fs => obtain ⟨_, _, _, e, _⟩ := x; exact Heap.lt_size e
  | own y => obtain ⟨_, e⟩ := x; exact Heap.lt_size e
  | xd fs => obtain ⟨_, ⟨_, _, _, e, _⟩, _⟩ := x; exact Heap.lt_size e
  | rng lo hi => obtain ⟨_, _, _, e⟩ := x; exact Heap.lt_size e
  | frz ob u => obtain ⟨e, _⟩ := x; exact Heap.lt_size e
  | tbl ps => exact Heap.lt_size (show h.get? a = some _ from x)
  | met f y => exact Heap.lt_size (show h.get? a = some _ from x)
  | ext φ => obtain ⟨_, ⟨_, e⟩, _⟩ := x; exact Heap.lt_size e
/-- what an object's description leans on: its own object, its own dict, the tuples -/
theorem ObjOk.stay (x : ObjOk P w H h a o) (k : ∀ b u, (b = a ∨ H b = some (.own a)) → h.get? b = some u → h'.get? b = some u)
    (ho : ∀ b, H b = some (.own a) → H' b = some (.own a)) (ht : ∀ b xs, H b = some (.tup xs) → H' b = some (.tup xs)) : ObjOk P w H' h' a o := by
  induction o with
  | lst xs => obtain ⟨z, its, n, r, e⟩ := x; exact ⟨z, its, n, r, k _ _ (.inl rfl) e⟩
  | tup xs => obtain ⟨z, its, r, ob, e, c⟩ := x; exact ⟨z, its, r, ob, k _ _ (.inl rfl) e, c⟩
  | dK kvs => obtain ⟨z, y, vs, r, ob, es, ep, e, c⟩ := x; exact ⟨z, y, vs, r, ob, es, ep, k _ _ (.inl rfl) e, c⟩
  | set S n => obtain ⟨ob, es, ep, t, e, c⟩ := x; exact ⟨ob, es, ep, t, k _ _ (.inl rfl) e, c⟩
  | ins C dx fs =>
    obtain ⟨d, z, ne, e, mA, ⟨od, es, ep, e2, c⟩, r⟩ := x
    exact ⟨ho _ d, z, ne, k _ _ (.inl rfl) e, mA, ⟨od, es, ep, k _ _ (.inr d) e2, c⟩, r⟩
  | own y => obtain ⟨ob, e⟩ := x; exact ⟨ob, k _ _ (.inl rfl) e⟩
  | xd fs => obtain ⟨mA, ⟨od, es, ep, e, c⟩, r⟩ := x; exact ⟨mA, ⟨od, es, ep, k _ _ (.inl rfl) e, c⟩, r⟩
  | rng lo hi => obtain ⟨t, u, v, e⟩ := x; exact ⟨t, u, v, k _ _ (.inl rfl) e⟩
  | frz ob u ih => obtain ⟨e, q⟩ := x; exact ⟨k _ _ (.inl rfl) e, ih q⟩
  | tbl ps =>
    have e : h.get? a = some { cls := .none, data := .fields ps } := x
    show h'.get? a = some { cls := .none, data := .fields ps }
    exact k a _ (.inl rfl) e
  | met f y =>
    have e : h.get? a = some (PySem.W.methodObj (.ref f) (.ref y)) := x
    show h'.get? a = some (PySem.W.methodObj (.ref f) (.ref y))
    exact k a _ (.inl rfl) e
  | ext φ => obtain ⟨p, ⟨o, e⟩, st⟩ := x; exact ⟨st _ _ p fun o q => k _ _ (.inl rfl) q, ⟨o, k _ _ (.inl rfl) e⟩, st⟩
theorem HOk.lt (x : HOk P w H h) (e : H a = some o) : a < h.objs.size := (x a o e).lt
theorem HOk.fresh (x : HOk P w H h) (e : h.objs.size ≤ a) : H a = none := by
  cases q : H a with
  | none => rfl
  | some u => exact absurd (Nat.lt_of_lt_of_le (x.lt q) e) (Nat.lt_irrefl _)
/-- every object of the heap is kept -/
theorem HOk.kept (x : HOk P w H h) (k : ∀ b u, h.get? b = some u → h'.get? b = some u) : HOk P w H h' := fun a o e =>
  (x a o e).stay (fun b u _ q => k b u q) (fun _ q => q) fun _ _ q => q
/-- a new object is laid and tracked -/
theorem HOk.laid (x : HOk P w H h) (k : ∀ b u, h.get? b = some u → h'.get? b = some u) (hp : h.objs.size ≤ a) (new : ObjOk P w (upd H a o) h' a o) : HOk P w (upd H a o) h' := fun b u e => by
  have hn := x.fresh hp
  by_cases hb : b = a
  · subst hb; rw [upd_same] at e; cases e; exact new
  · rw [upd_ne hb] at e
    exact (x b u e).stay (fun c v _ q => k c v q) (fun c q => by rw [upd_ne (ne_of_none q hn)]; exact q) fun c xs q => by rw [upd_ne (ne_of_none q hn)]; exact q
end

/-- what may be read as u: it is u, or a known u -/
def Rd (H : Hp) (a : Addr) (u : HO) : Prop := H a = some u ∨ ∃ o, H a = some (.frz o u)
theorem Rd.of {H : Hp} {a : Addr} {u : HO} (h : H a = some u) : Rd H a u := .inl h
theorem Rd.ok {P : Program} {w : World} {H : Hp} {h : Heap} {a : Addr} {u : HO} (r : Rd H a u) (x : HOk P w H h) : ObjOk P w H h a u := by
  rcases r with r | ⟨o, r⟩
  · exact x a u r
  · obtain ⟨_, q⟩ := x a _ r
    exact q
/-- what may be written -/
def Mut : Option HO → Prop
  | some (.lst _) => True
  | some (.dK _) => True
  | some (.set _ _) => True
  | some (.ins _ _ _) => True
  | some (.ext _) => True
  | _ => False
section
variable {P : Program} {w : World} {H : Hp} {h h' : Heap} {x e : Addr} {o' : HO}
/-- the object at e is changed: x itself, or the dict of the instance x -/
theorem HOk.write (ok : HOk P w H h) (mu : Mut (H x)) (he : e = x ∨ H e = some (.own x)) (k : ∀ b u, b ≠ e → h.get? b = some u → h'.get? b = some u) (heo : ∃ u, h'.get? e = some u)
    (new : ObjOk P w (upd H x o') h' x o') : HOk P w (upd H x o') h' := fun b u q => by
  have nown : ∀ c y, H c = some (.own y) → c ≠ x := fun c y r z => by subst z; rw [r] at mu; exact mu
  have ntup : ∀ c xs, H c = some (.tup xs) → c ≠ x := fun c xs r z => by subst z; rw [r] at mu; exact mu
  by_cases hb : b = x
  · subst hb; rw [upd_same] at q; cases q; exact new
  · rw [upd_ne hb] at q
    by_cases hbe : b = e
    · have q' : H b = some (.own x) := by
        rcases he with z | z
        · exact absurd (hbe.trans z) hb
        · rw [hbe]; exact z
      rw [q] at q'; cases q'
      obtain ⟨v, hv⟩ := heo
      exact ⟨v, by rw [hbe]; exact hv⟩
    · refine (ok b u q).stay (fun c v hc r => k c v ?_ r) (fun c r => by rw [upd_ne (nown c b r)]; exact r) fun c xs r => by rw [upd_ne (ntup c xs r)]; exact r
      rcases hc with rfl | hc
      · exact hbe
      · rintro rfl
        rcases he with z | z
        · exact nown c b hc z
        · rw [hc] at z; cases z; exact hb rfl
end

/-! ### kept unless tracked; of the frames at fs (the callers') the slots may change (an exception that passes writes there); of the records at ex (iterators) nothing is said -/
structure Un (fs ex : List Addr) (H H' : Hp) (h h' : Heap) : Prop where
  keep : ∀ b o, h.get? b = some o → H b = none → b ∉ fs → b ∉ ex → h'.get? b = some o
  slot : ∀ b o, h.get? b = some o → H b = none → b ∈ fs → b ∉ ex → ∃ sl, h'.get? b = some { o with slots := sl }
  free : ∀ b o, h.get? b = some o → H b = none → b ∉ ex → H' b = none
  there : ∀ b o, h.get? b = some o → b ∉ ex → ∃ o', h'.get? b = some o'
  tups : ∀ b xs, H b = some (.tup xs) → H' b = some (.tup xs)
  frzs : ∀ b o u, H b = some (.frz o u) → H' b = some (.frz o u)
  tbls : ∀ b ps, H b = some (.tbl ps) → ∃ more, H' b = some (.tbl (ps ++ more))
section
variable {fs fs' ex ex' : List Addr} {H H1 H2 : Hp} {h h1 h2 h' : Heap} {a x e : Addr} {o : HO}
theorem Un.any (u : Un fs ex H H1 h h1) {b : Addr} {ob : Obj} (q : h.get? b = some ob) (n : H b = none) (hx : b ∉ ex) : ∃ sl, h1.get? b = some { ob with slots := sl } := by
  by_cases hb : b ∈ fs
  · exact u.slot b ob q n hb hx
  · exact ⟨ob.slots, u.keep b ob q n hb hx⟩
theorem Un.trans (a : Un fs ex H H1 h h1) (b : Un fs ex H1 H2 h1 h2) : Un fs ex H H2 h h2 where
  keep := fun c ob q n hc hx => b.keep c ob (a.keep c ob q n hc hx) (a.free c ob q n hx) hc hx
  slot := fun c ob q n hc hx => by
    obtain ⟨sl, e1⟩ := a.slot c ob q n hc hx
    obtain ⟨sl', e2⟩ := b.slot c _ e1 (a.free c ob q n hx) hc hx
    exact ⟨sl', e2⟩
  free := fun c ob q n hx => by
    obtain ⟨o', e1⟩ := a.there c ob q hx
    exact b.free c o' e1 (a.free c ob q n hx) hx
  there := fun c ob q hx => by
    obtain ⟨o', e1⟩ := a.there c ob q hx
    exact b.there c o' e1 hx
  tups := fun c xs q => b.tups c xs (a.tups c xs q)
  frzs := fun c ob xs q => b.frzs c ob xs (a.frzs c ob xs q)
  tbls := fun c ps q => by
    obtain ⟨m1, e1⟩ := a.tbls c ps q
    obtain ⟨m2, e2⟩ := b.tbls c _ e1
    exact ⟨m1 ++ m2, by rw [e2, Array.append_assoc]⟩
theorem Un.kept (k : ∀ b u, h.get? b = some u → h'.get? b = some u) : Un fs ex H H h h' :=
  ⟨fun b ob q _ _ _ => k b ob q, fun b ob q _ _ _ => ⟨ob.slots, k b ob q⟩, fun _ _ _ n _ => n, fun b ob q _ => ⟨ob, k b ob q⟩, fun _ _ q => q, fun _ _ _ q => q, fun _ ps q => ⟨#[], by rw [q]; simp⟩⟩
theorem Un.refl : Un fs ex H H h h := Un.kept fun _ _ q => q
theorem Un.laid (k : ∀ b u, h.get? b = some u → h'.get? b = some u) (hp : h.objs.size ≤ a) (hn : H a = none) : Un fs ex H (upd H a o) h h' where
  keep := fun b u q _ _ _ => k b u q
  slot := fun b u q _ _ _ => ⟨u.slots, k b u q⟩
  free := fun b u q n _ => by rw [upd_ne (Nat.ne_of_lt (Nat.lt_of_lt_of_le (Heap.lt_size q) hp))]; exact n
  there := fun b u q _ => ⟨u, k b u q⟩
  tups := fun b xs q => by rw [upd_ne (ne_of_none q hn)]; exact q
  frzs := fun b u xs q => by rw [upd_ne (ne_of_none q hn)]; exact q
  tbls := fun b ps q => ⟨#[], by rw [upd_ne (ne_of_none q hn), q]; simp⟩
theorem Un.write (mu : Mut (H x)) (he : e = x ∨ H e = some (.own x)) (k : ∀ b u, b ≠ e → h.get? b = some u → h'.get? b = some u) (heo : ∃ u, h'.get? e = some u) : Un fs ex H (upd H x o) h h' := by
  have hx : ∀ b, H b = none → b ≠ x := fun b n z => by subst z; rw [n] at mu; exact mu
  have hb : ∀ b, H b = none → b ≠ e := fun b n z => by
    subst z
    rcases he with r | r
    · exact hx b n r
    · rw [n] at r; cases r
  have hm : ∀ b u, H b = some u → ¬ Mut (some u) → b ≠ x := fun b u q nm z => by subst z; rw [q] at mu; exact nm mu
  refine ⟨fun b u q n _ _ => k b u (hb b n) q, fun b u q n _ _ => ⟨u.slots, k b u (hb b n) q⟩, fun b u q n _ => by rw [upd_ne (hx b n)]; exact n, fun b u q _ => ?_,
    fun b xs q => by rw [upd_ne (hm b _ q fun z => z)]; exact q, fun b u xs q => by rw [upd_ne (hm b _ q fun z => z)]; exact q, fun b ps q => ⟨#[], by rw [upd_ne (hm b _ q fun z => z), q]; simp⟩⟩
  by_cases hbe : b = e
  · subst hbe; exact heo
  · exact ⟨u, k b u hbe q⟩
theorem Un.mono (u : Un fs ex H H1 h h1) (hs : ∀ b ∈ fs, b ∈ fs') (hx : ∀ b ∈ ex, b ∈ ex') : Un fs' ex' H H1 h h1 :=
  ⟨fun b ob q n hb he => u.keep b ob q n (fun z => hb (hs b z)) fun z => he (hx b z), fun _ _ q n _ he => u.any q n fun z => he (hx _ z), fun b ob q n he => u.free b ob q n fun z => he (hx b z), fun b ob q he => u.there b ob q fun z => he (hx b z), u.tups, u.frzs, u.tbls⟩
end

/-! ### the heap without what is tracked -/
def trk (h : Heap) (H : Hp) : List Addr := (List.range h.objs.size).filter fun a => (H a).isSome
def hidT (h : Heap) (H : Hp) : Heap := PySem.W.hideAll h (trk h H)
theorem hidT_size (h : Heap) (H : Hp) : (hidT h H).objs.size = h.objs.size := PySem.W.hideAll_size _ _
theorem hidT_get {h : Heap} {H : Hp} {b : Addr} {o : Obj} (e : h.get? b = some o) (n : H b = none) : (hidT h H).get? b = some o :=
  PySem.W.hideAll_get _ e fun hm => by
    have q : (H b).isSome = true := (List.mem_filter.mp hm).2
    rw [n] at q; simp at q
theorem of_hidT {h : Heap} {H : Hp} {b : Addr} {o : Obj} (e : (hidT h H).get? b = some o) : h.get? b = some o ∧ H b = none := by
  have e' : h.get? b = some o := PySem.W.of_hideAll (trk h H) e
  refine ⟨e', ?_⟩
  cases q : H b with
  | none => rfl
  | some x =>
    have hm : b ∈ trk h H := List.mem_filter.mpr ⟨List.mem_range.mpr (Heap.lt_size e'), by simp [q]⟩
    have z : (hidT h H).get? b = none := PySem.W.hideAll_none (trk h H) hm
    rw [z] at e; cases e

/-! ### OpenK's ledger, filled with every new object but one -/
def allNews (g h : Heap) (L : Addr) : List (Addr × Obj) := (List.range h.objs.size).filterMap fun a => if a = L ∨ (g.get? a).isSome = true then none else (h.get? a).map fun o => (a, o)
def rest (g h : Heap) (L d : Addr) : List (Addr × Obj) := (allNews g h L).filter fun p => decide (p.1 ≠ d)
end L2

namespace L2
open PySem PySem.Spec PyProof.Rows

/-- the module's facts, over the base: the heap at the law's entry without what is tracked there -/
structure Mod (K : PySem.W.Frag) (mg : Str → Option Value) (base : Heap) : Prop where
  kin : K.In base
  glob : base.Ns mainGlobals mg
  blt : ∃ mb, base.Ns builtinsNs mb ∧ ∀ x : Str, x ≠ "__name__" → mb x = bootBuiltins x
  nolimit : base.NoLimit

/-- the context: a def's body (or a comprehension's block) running. base: fixed through the whole law; s₀, H₀: the entry; outer: the frames whose slots others may change (a def's callers); stack: all frames that run;
   ex: iterators that were made ahead of the entry and are walked here (a comprehension's); fn: the names whose cells were made at the entry (a def: all; a comprehension's block: its own); calm: not within an except suite; pn: pins that every state bears; xe: what is wanted of an exception that leaves the code -/
structure Cx where
  prog : Program
  w : World
  K : PySem.W.Frag
  mg : Str → Option Value
  base : Heap
  A : Around
  N : List Str
  s₀ : Shared
  H₀ : Hp
  env : Env
  outer : List Env
  stack : List Env
  ex : List Addr
  fn : Str → Bool
  calm : Bool
  pn : List (Addr × Obj)
  xe : Value → Shared → Prop
/-- the callers' frames -/
def frs (l : List Env) : List Addr := l.filterMap (·.frame)
abbrev Cx.fs (X : Cx) : List Addr := frs X.outer

def Vis (sc : Scope) (x : Str) : Prop := sc.names.lookup x = some .local ∨ sc.names.lookup x = some .cell ∨ sc.names.lookup x = some .free
def Loc (sc : Scope) (x : Str) : Prop := sc.names.lookup x = some .local ∨ sc.names.lookup x = some .cell
def Look (env : Env) (h : Heap) (m : Str → Option Value) (x : Str) (u : Value) : Prop :=
  (env.kindOf x = some .local ∧ m x = some u) ∨ ((env.kindOf x = some .cell ∨ env.kindOf x = some .free) ∧ ∃ c, env.cells.lookup x = some c ∧ h.IsCell c (some u))

structure Cx.Ok (X : Cx) : Prop where
  mod : Mod X.K X.mg X.base
  kind : X.env.scope.kind = .function
  glob : X.env.globals = mainGlobals
  blt : X.env.builtins = builtinsNs
  above : X.s₀.heap.objs.size ≤ X.env.locals
  inj : ∀ x y c, X.env.cells.lookup x = some c → X.env.cells.lookup y = some c → x = y
  has : ∀ x, (X.env.kindOf x = some .cell ∨ X.env.kindOf x = some .free) → ∃ c, X.env.cells.lookup x = some c
  cab : ∀ x c, X.fn x = true → X.env.cells.lookup x = some c → X.s₀.heap.objs.size ≤ c
  hd : X.calm = true → X.A.handled = none
  frames : X.A.frames = some X.stack
  stk : X.stack = X.outer ∨ (X.stack = X.env :: X.outer ∧ X.env.frame = some X.env.locals)
  exf : ∀ b ∈ X.ex, b ≠ X.env.locals ∧ ∀ x c, X.env.cells.lookup x = some c → c ≠ b
  bs : ∀ b o, X.base.get? b = some o → X.s₀.heap.get? b = some o ∧ X.H₀ b = none
  bsz : X.base.objs.size ≤ X.s₀.heap.objs.size
  noex : ∀ b o, X.base.get? b = some o → b ∉ X.ex
  exfs : ∀ b ∈ X.ex, b ∉ X.fs
  funs : X.s₀.heap.FunFrames X.base X.outer
  frf : ∀ b ∈ X.fs, X.H₀ b = none

structure Inv (X : Cx) (pins : List (Addr × Obj)) (σ : List (Option V)) (H : Hp) (s : Shared) : Prop where
  ok : X.Ok
  os : s.os = X.s₀.os
  bare : AllBare s.gens
  base : Un X.fs X.ex X.H₀ H X.s₀.heap s.heap
  loc : ∃ m, s.heap.Ns X.env.locals m ∧ ∀ (i : Nat) (x : Str) (v : V), X.N[i]? = some x → σ[i]? = some (some v) → Vis X.env.scope x → ∃ u, RelV v u ∧ Look X.env s.heap m x u
  cell : ∀ x c, X.env.cells.lookup x = some c → ∃ v, s.heap.IsCell c v
  free : H X.env.locals = none
  freeC : ∀ x c, X.env.cells.lookup x = some c → H c = none
  pin : ∀ p ∈ X.pn ++ pins, s.heap.get? p.1 = some p.2 ∧ H p.1 = none ∧ p.1 ≠ X.env.locals ∧ p.1 ∉ X.fs ∧ ∀ v, p.2.data ≠ .cell v
  hok : HOk X.prog X.w H s.heap
  len : σ.length = X.N.length

section
variable {X : Cx} {pins : List (Addr × Obj)} {σ : List (Option V)} {H H' : Hp} {s : Shared} {h' : Heap}

theorem Cx.Ok.nofr (ok : X.Ok) {b : Addr} {o : Obj} (e : X.base.get? b = some o) : b ∉ X.fs := fun hb => by
  have := (ok.funs.mem hb).1
  rw [e] at this; cases this
theorem Inv.bs (I : Inv X pins σ H s) : ∀ b o, X.base.get? b = some o → s.heap.get? b = some o ∧ H b = none := fun b o e =>
  ⟨I.base.keep b o (I.ok.bs b o e).1 (I.ok.bs b o e).2 (I.ok.nofr e) (I.ok.noex b o e), I.base.free b o (I.ok.bs b o e).1 (I.ok.bs b o e).2 (I.ok.noex b o e)⟩
theorem Inv.bk (I : Inv X pins σ H s) : ∀ b o, X.base.get? b = some o → s.heap.get? b = some o := fun b o e => (I.bs b o e).1
theorem Inv.mod (I : Inv X pins σ H s) : Mod X.K X.mg X.base := I.ok.mod
theorem Inv.kIn (I : Inv X pins σ H s) : X.K.In s.heap := I.ok.mod.kin.keeps I.bk
theorem Inv.nolimit (I : Inv X pins σ H s) : s.heap.NoLimit := I.ok.mod.nolimit.keeps I.bk
/-- the frame over the base: for OpenK's rules (K.In X.base is I.mod.kin) -/
theorem Inv.fr (I : Inv X pins σ H s) : ∃ m, Fr X.base X.env.locals s.heap m :=
  let ⟨m, hn, _⟩ := I.loc
  ⟨m, hn, I.bk, Nat.le_trans I.ok.bsz I.ok.above⟩
theorem Inv.lt (I : Inv X pins σ H s) : X.env.locals < s.heap.objs.size := let ⟨_, hn, _⟩ := I.loc; hn.lt
theorem Inv.sz (I : Inv X pins σ H s) : X.s₀.heap.objs.size ≤ s.heap.objs.size := Nat.le_trans I.ok.above (Nat.le_of_lt I.lt)
theorem Inv.nofs (I : Inv X pins σ H s) {a : Addr} (h : s.heap.objs.size ≤ a) : a ∉ X.fs := fun hb => by
  obtain ⟨_, o, ho, _⟩ := I.ok.funs.mem hb
  exact absurd (Nat.lt_of_lt_of_le (Heap.lt_size ho) (Nat.le_trans I.sz h)) (Nat.lt_irrefl _)
theorem Inv.cne (I : Inv X pins σ H s) : ∀ x c, X.env.cells.lookup x = some c → c ≠ X.env.locals := fun x c e z => by
  obtain ⟨v, o, ho, hd⟩ := I.cell x c e
  obtain ⟨m, ⟨o', es, ep, ho', hd', _⟩, _⟩ := I.loc
  rw [z, ho'] at ho; cases ho; rw [hd'] at hd; cases hd
theorem Inv.funs (I : Inv X pins σ H s) : s.heap.FunFrames X.base X.outer := by
  have all : ∀ (l : List Env), (∀ b ∈ frs l, b ∈ X.fs) → X.s₀.heap.FunFrames X.base l → s.heap.FunFrames X.base l := by
    intro l
    induction l with
    | nil => intro _ _; trivial
    | cons env r ih =>
      intro hs hl
      obtain ⟨hk, ⟨L, o, hf, hn, ho, hd⟩, hr⟩ := hl
      have hL : L ∈ X.fs := hs L (by unfold frs; rw [List.filterMap_cons, hf]; exact List.mem_cons_self)
      obtain ⟨sl, e⟩ := I.base.slot L o ho (I.ok.frf L hL) hL fun z => I.ok.exfs L z hL
      exact ⟨hk, ⟨L, _, hf, hn, e, hd⟩, ih (fun b hb => hs b (by unfold frs; rw [List.filterMap_cons, hf]; exact List.mem_cons_of_mem _ hb)) hr⟩
  exact all X.outer (fun _ hb => hb) I.ok.funs

/-- the frames that run, for a call -/
theorem Inv.stack (I : Inv X pins σ H s) : s.heap.FunFrames X.base X.stack := by
  rcases I.ok.stk with e | ⟨e, hf⟩
  · rw [e]; exact I.funs
  · rw [e]
    obtain ⟨m, hn, _⟩ := I.loc
    refine .cons (by rw [I.ok.kind]; decide) hf hn ?_ I.funs
    exact Heap.get?_none_of_le (Nat.le_trans I.ok.bsz I.ok.above)
theorem Inv.stkSub (I : Inv X pins σ H s) : ∀ b ∈ frs X.stack, b ∈ X.env.locals :: X.fs := fun b hb => by
  rcases I.ok.stk with e | ⟨e, hf⟩
  · rw [e] at hb; exact List.mem_cons_of_mem _ hb
  · rw [e] at hb
    unfold frs at hb
    rw [List.filterMap_cons, hf] at hb
    exact hb
theorem Inv.stkFree (I : Inv X pins σ H s) : ∀ b ∈ frs X.stack, H b = none := fun b hb => by
  rcases List.mem_cons.mp (I.stkSub b hb) with e | hb
  · rw [e]; exact I.free
  · obtain ⟨_, o, ho, _⟩ := I.ok.funs.mem hb
    exact I.base.free b o ho (I.ok.frf b hb) fun z => I.ok.exfs b z hb

/-- THE STEP: the untracked objects but the frame and the records at ch are kept (the callers' frames up to slots), the frame's map is kept, the new abstract heap is held -/
theorem Inv.step {g' : Array GenState} {t' : Nat} {d' : Drawn} {ch : List Addr} (I : Inv X pins σ H s)
    (hch : ∀ b ∈ ch, (b ∈ X.ex ∨ X.s₀.heap.objs.size ≤ b) ∧ b ≠ X.env.locals ∧ (∀ x c, X.env.cells.lookup x = some c → c ≠ b) ∧ ∀ p ∈ X.pn ++ pins, p.1 ≠ b)
    (keep : ∀ b o, b ≠ X.env.locals → b ∉ X.fs → b ∉ ch → s.heap.get? b = some o → H b = none → h'.get? b = some o)
    (slot : ∀ b o, b ≠ X.env.locals → b ∈ X.fs → b ∉ ch → s.heap.get? b = some o → H b = none → ∃ sl, h'.get? b = some { o with slots := sl }) (free : ∀ b o, b ∉ ch → s.heap.get? b = some o → H b = none → H' b = none)
    (there : ∀ b o, b ∉ ch → s.heap.get? b = some o → ∃ o', h'.get? b = some o')
    (tups : ∀ b xs, H b = some (.tup xs) → H' b = some (.tup xs)) (frzs : ∀ b o u, H b = some (.frz o u) → H' b = some (.frz o u)) (tbls : ∀ b ps, H b = some (.tbl ps) → ∃ more, H' b = some (.tbl (ps ++ more)))
    (ns : ∀ m, s.heap.Ns X.env.locals m → h'.Ns X.env.locals m) (hok : HOk X.prog X.w H' h') (hg : AllBare g') :
    Inv X pins σ H' { s with heap := h', gens := g', drawn := d', toks := t' } := by
  have neL : ∀ b o, X.s₀.heap.get? b = some o → b ≠ X.env.locals := fun b o e => Nat.ne_of_lt (Nat.lt_of_lt_of_le (Heap.lt_size e) I.ok.above)
  have neC : ∀ b o, X.s₀.heap.get? b = some o → b ∉ X.ex → b ∉ ch := fun b o e hx hb => by
    rcases (hch b hb).1 with z | z
    · exact hx z
    · exact absurd (Nat.lt_of_lt_of_le (Heap.lt_size e) z) (Nat.lt_irrefl _)
  have cellK : ∀ x c, X.env.cells.lookup x = some c → ∀ v, s.heap.IsCell c v → h'.IsCell c v := fun x c e v ⟨o, ho, hd⟩ => by
    have nch : c ∉ ch := fun z => (hch c z).2.2.1 x c e rfl
    by_cases hc : c ∈ X.fs
    · obtain ⟨sl, q⟩ := slot c o (I.cne x c e) hc nch ho (I.freeC x c e)
      exact ⟨_, q, hd⟩
    · exact ⟨o, keep c o (I.cne x c e) hc nch ho (I.freeC x c e), hd⟩
  refine ⟨I.ok, I.os, hg, ⟨fun b o e n hb hx => ?_, fun b o e n hb hx => ?_, fun b o e n hx => ?_, fun b o e hx => ?_, fun b xs e => tups b xs (I.base.tups b xs e), fun b o xs e => frzs b o xs (I.base.frzs b o xs e), fun b ps e => ?_⟩, ?_, fun x c e => ?_, ?_, fun x c e => ?_, fun p hp => ?_, hok, I.len⟩
  · exact keep b o (neL b o e) hb (neC b o e hx) (I.base.keep b o e n hb hx) (I.base.free b o e n hx)
  · obtain ⟨sl, e1⟩ := I.base.slot b o e n hb hx
    obtain ⟨sl', e2⟩ := slot b _ (neL b o e) hb (neC b o e hx) e1 (I.base.free b o e n hx)
    exact ⟨sl', e2⟩
  · obtain ⟨o', e1⟩ := I.base.there b o e hx
    exact free b o' (neC b o e hx) e1 (I.base.free b o e n hx)
  · obtain ⟨o', e1⟩ := I.base.there b o e hx
    exact there b o' (neC b o e hx) e1
  · obtain ⟨m1, e1⟩ := I.base.tbls b ps e
    obtain ⟨m2, e2⟩ := tbls b _ e1
    exact ⟨m1 ++ m2, by rw [e2, Array.append_assoc]⟩
  · obtain ⟨m, hn, hl⟩ := I.loc
    refine ⟨m, ns m hn, fun i x v e1 e2 e3 => ?_⟩
    obtain ⟨u, r, l⟩ := hl i x v e1 e2 e3
    refine ⟨u, r, ?_⟩
    rcases l with l | ⟨k, c, e, z⟩
    · exact .inl l
    · exact .inr ⟨k, c, e, cellK x c e _ z⟩
  · obtain ⟨v, z⟩ := I.cell x c e
    exact ⟨v, cellK x c e v z⟩
  · obtain ⟨m, ⟨o, _, _, ho, _⟩, _⟩ := I.loc
    exact free _ o (fun z => (hch _ z).2.1 rfl) ho I.free
  · obtain ⟨v, o, ho, hd⟩ := I.cell x c e
    exact free c o (fun z => (hch c z).2.2.1 x c e rfl) ho (I.freeC x c e)
  · obtain ⟨e, n, ne, nf, d⟩ := I.pin p hp
    have nch : p.1 ∉ ch := fun z => (hch p.1 z).2.2.2 p hp rfl
    exact ⟨keep p.1 p.2 ne nf nch e n, free p.1 p.2 nch e n, ne, nf, d⟩
/-- .. where the frame's own object is kept too -/
theorem Inv.un {t' : Nat} (I : Inv X pins σ H s) (u : Un X.fs [] H H' s.heap h') (hok : HOk X.prog X.w H' h') : Inv X pins σ H' { s with heap := h', toks := t' } := by
  obtain ⟨m, ⟨o, es, ep, ho, r⟩, _⟩ := id I.loc
  obtain ⟨sl, hL⟩ := u.any ho I.free (by simp)
  exact I.step (g' := s.gens) (d' := s.drawn) (ch := []) (fun _ z => nomatch z) (fun b o _ hb _ e n => u.keep b o e n hb (by simp)) (fun b o _ hb _ e n => u.slot b o e n hb (by simp)) (fun b o _ e n => u.free b o e n (by simp)) (fun b o _ e => u.there b o e (by simp)) u.tups u.frzs u.tbls (fun m' hm => by
    obtain ⟨o', es', ep', ho', r'⟩ := hm
    rw [ho] at ho'; cases ho'
    exact ⟨_, es', ep', hL, r'⟩) hok I.bare
/-- behind a call (or a comprehension's block): the slots of this frame may have changed too, the records at ch may have turned -/
theorem Inv.call {g' : Array GenState} {t' : Nat} {d' : Drawn} {ch : List Addr} (I : Inv X pins σ H s) (u : Un (frs X.stack) ch H H' s.heap h') (hok : HOk X.prog X.w H' h') (hg : AllBare g')
    (hch : ∀ b ∈ ch, (b ∈ X.ex ∨ X.s₀.heap.objs.size ≤ b) ∧ b ≠ X.env.locals ∧ (∀ x c, X.env.cells.lookup x = some c → c ≠ b) ∧ ∀ p ∈ X.pn ++ pins, p.1 ≠ b) :
    Inv X pins σ H' { s with heap := h', gens := g', drawn := d', toks := t' } := by
  obtain ⟨m, ⟨o, es, ep, ho, r⟩, _⟩ := id I.loc
  obtain ⟨sl, hL⟩ := u.any ho I.free fun z => (hch _ z).2.1 rfl
  exact I.step (ch := ch) hch (fun b o hL hb hc e n => u.keep b o e n (fun z => (List.mem_cons.mp (I.stkSub b z)).elim hL hb) hc) (fun b o _ _ hc e n => u.any e n hc) (fun b o hc e n => u.free b o e n hc) (fun b o hc e => u.there b o e hc) u.tups u.frzs u.tbls (fun m' hm => by
    obtain ⟨o', es', ep', ho', r'⟩ := hm
    rw [ho] at ho'; cases ho'
    exact ⟨_, es', ep', hL, r'⟩) hok hg
/-- an untracked record of ours (an iterator) has turned -/
theorem Inv.turned {t' : Nat} {it : Addr} (I : Inv X pins σ H s) (k : ∀ b o, b ≠ it → s.heap.get? b = some o → h'.get? b = some o) (hn : H it = none) (hL : it ≠ X.env.locals)
    (h1 : it ∈ X.ex ∨ X.s₀.heap.objs.size ≤ it) (h2 : ∀ x c, X.env.cells.lookup x = some c → c ≠ it) (h3 : ∀ p ∈ X.pn ++ pins, p.1 ≠ it) : Inv X pins σ H { s with heap := h', toks := t' } := by
  have nit : ∀ b u, H b = some u → b ≠ it := fun b u e z => by rw [z, hn] at e; cases e
  refine I.step (g' := s.gens) (d' := s.drawn) (ch := [it]) (fun b hb => ?_) (fun b o _ _ hc e _ => k b o (fun z => hc (by simp [z])) e) (fun b o _ _ hc e _ => ⟨o.slots, k b o (fun z => hc (by simp [z])) e⟩) (fun _ _ _ _ n => n)
    (fun b o hc e => ⟨o, k b o (fun z => hc (by simp [z])) e⟩) (fun _ _ e => e) (fun _ _ _ e => e) (fun b ps e => ⟨#[], by rw [e]; simp⟩) (fun m hm => ?_) (fun b u e => ?_) I.bare
  · have e : b = it := by simpa using hb
    subst e
    exact ⟨h1, hL, h2, h3⟩
  · obtain ⟨o, es, ep, ho, r⟩ := hm
    exact ⟨o, es, ep, k _ o (Ne.symm hL) ho, r⟩
  · refine (I.hok b u e).stay (fun c v hc q => k c v ?_ q) (fun _ q => q) fun _ _ q => q
    rcases hc with z | z
    · rw [z]; exact nit b u e
    · exact nit c _ z
theorem Inv.tok (I : Inv X pins σ H s) (t : Nat) : Inv X pins σ H { s with toks := t } := I.un (h' := s.heap) (t' := t) Un.refl I.hok
/-- all objects kept -/
theorem Inv.kept {t' : Nat} (I : Inv X pins σ H s) (k : ∀ b u, s.heap.get? b = some u → h'.get? b = some u) : Inv X pins σ H { s with heap := h', toks := t' } := I.un (Un.kept k) (I.hok.kept k)
/-- a new object laid and tracked -/
theorem Inv.laid {a : Addr} {o : HO} {t' : Nat} (I : Inv X pins σ H s) (k : ∀ b u, s.heap.get? b = some u → h'.get? b = some u) (hp : s.heap.objs.size ≤ a) (new : ObjOk X.prog X.w (upd H a o) h' a o) :
    Inv X pins σ (upd H a o) { s with heap := h', toks := t' } := I.un (Un.laid k hp (I.hok.fresh hp)) (I.hok.laid k hp new)
/-- an object written -/
theorem Inv.write {x e : Addr} {o : HO} {t' : Nat} (I : Inv X pins σ H s) (mu : Mut (H x)) (he : e = x ∨ H e = some (.own x)) (k : ∀ b u, b ≠ e → s.heap.get? b = some u → h'.get? b = some u) (heo : ∃ u, h'.get? e = some u)
    (new : ObjOk X.prog X.w (upd H x o) h' x o) : Inv X pins σ (upd H x o) { s with heap := h', toks := t' } := I.un (Un.write mu he k heo) (I.hok.write mu he k heo new)
theorem Inv.pins_of {pins' : List (Addr × Obj)} (I : Inv X pins σ H s) (h : ∀ p ∈ pins', s.heap.get? p.1 = some p.2 ∧ H p.1 = none ∧ p.1 ≠ X.env.locals ∧ p.1 ∉ X.fs ∧ ∀ v, p.2.data ≠ .cell v) : Inv X pins' σ H s :=
  ⟨I.ok, I.os, I.bare, I.base, I.loc, I.cell, I.free, I.freeC, fun p hp => (List.mem_append.mp hp).elim (fun z => I.pin p (List.mem_append_left _ z)) (h p), I.hok, I.len⟩

theorem nodup_ix {N : List Str} (hN : N.Nodup) {i j : Nat} {x : Str} (a : N[i]? = some x) (b : N[j]? = some x) : i = j := by
  obtain ⟨h1, e1⟩ := List.getElem?_eq_some_iff.mp a
  obtain ⟨h2, e2⟩ := List.getElem?_eq_some_iff.mp b
  exact (List.getElem_inj hN).mp (e1.trans e2.symm)

/-- a name is stored; what changed -/
theorem store_ok2 {M : Model} {A : Around} {E : Value → Shared → Prop} {i : Nat} {x : Str} {v : V} {u : Value} {Q : Unit → Shared → Prop} (I : Inv X pins σ H s) (hN : X.N.Nodup) (hi : X.N[i]? = some x) (hx : Loc X.env.scope x) (r : RelV v u)
    (h : ∀ s', Inv X pins (σ.set i (some v)) H s' → (∃ a, Heap.SameBut a s.heap s'.heap ∧ (a = X.env.locals ∨ X.env.cells.lookup x = some a)) → Q () s') (hf : X.fn x = true ∨ X.env.scope.names.lookup x = some .local := by first | exact .inl rfl | exact .inr rfl | assumption) : wpAny M A (storeName X.env x u) Q E s := by
  obtain ⟨m, hn, hl⟩ := id I.loc
  have hcls : (X.env.scope.kind == .class || (X.env.scope.kind == .module && X.env.locals != X.env.globals)) = false := by rw [I.ok.kind]; rfl
  have hiσ : i < σ.length := by rw [I.len]; exact (List.getElem?_eq_some_iff.mp hi).1
  have cne := I.cne
  have tracked : ∀ {a : Addr} {h' : Heap}, (∃ o, s.heap.get? a = some o ∧ H a = none) → Heap.SameBut a s.heap h' → HOk X.prog X.w H h' := fun {a h'} ha hs b ob e => by
    obtain ⟨_, _, hfree⟩ := ha
    refine (I.hok b ob e).stay (fun c w' hc q => (hs.2 c ?_).trans q) (fun _ q => q) fun _ _ q => q
    rintro rfl
    rcases hc with rfl | hc
    · rw [hfree] at e; cases e
    · rw [hfree] at hc; cases hc
  rcases hx with hk | hk
  · refine wpAny_storeName_local hk hn (fun h' hn' hs => ?_) hcls
    obtain ⟨oL, _, _, hoL, _⟩ := id hn
    refine h _ ⟨I.ok, I.os, I.bare, ⟨fun b o e n hb hx => ?_, fun b o e n hb hx => ?_, I.base.free, fun b o e hx => ?_, I.base.tups, I.base.frzs, I.base.tbls⟩, ⟨_, hn', fun j y v' e1 e2 e3 => ?_⟩, fun y c e => ?_, I.free, I.freeC, fun p hp => ?_, tracked ⟨oL, hoL, I.free⟩ hs, by simpa using I.len⟩ ⟨_, hs, .inl rfl⟩
    · exact (hs.2 b (Nat.ne_of_lt (Nat.lt_of_lt_of_le (Heap.lt_size e) I.ok.above))).trans (I.base.keep b o e n hb hx)
    · obtain ⟨sl, e1⟩ := I.base.slot b o e n hb hx
      exact ⟨sl, (hs.2 b (Nat.ne_of_lt (Nat.lt_of_lt_of_le (Heap.lt_size e) I.ok.above))).trans e1⟩
    · obtain ⟨o', e1⟩ := I.base.there b o e hx
      exact ⟨o', (hs.2 b (Nat.ne_of_lt (Nat.lt_of_lt_of_le (Heap.lt_size e) I.ok.above))).trans e1⟩
    · by_cases hj : j = i
      · subst hj
        rw [hi] at e1; cases e1
        rw [List.getElem?_set_self hiσ] at e2
        cases e2
        exact ⟨u, r, .inl ⟨hk, by simp⟩⟩
      · rw [List.getElem?_set_ne (Ne.symm hj)] at e2
        obtain ⟨u', r', q⟩ := hl j y v' e1 e2 e3
        refine ⟨u', r', ?_⟩
        rcases q with ⟨k, e⟩ | ⟨k, c, e, z⟩
        · refine .inl ⟨k, ?_⟩
          have : y ≠ x := fun e => hj (nodup_ix hN e1 (e ▸ hi))
          simp [this, e]
        · exact .inr ⟨k, c, e, z.sameBut hs (cne y c e)⟩
    · obtain ⟨w', z⟩ := I.cell y c e
      exact ⟨w', z.sameBut hs (cne y c e)⟩
    · obtain ⟨e, n, ne, nf, d⟩ := I.pin p hp
      exact ⟨(hs.2 p.1 ne).trans e, n, ne, nf, d⟩
  · have hfn : X.fn x = true := by
      rcases hf with z | z
      · exact z
      · rw [z] at hk; cases hk
    obtain ⟨c, hc⟩ := I.ok.has x (.inl hk)
    obtain ⟨w', z⟩ := I.cell x c hc
    refine wpAny_storeName_cell I.ok.kind hk hc z (fun h' hc' hs => ?_)
    obtain ⟨oc, hoc, hocd⟩ := id z
    refine h { s with heap := h' } ⟨I.ok, I.os, I.bare, ⟨fun b o e n hb hx => ?_, fun b o e n hb hx => ?_, I.base.free, fun b o e hx => ?_, I.base.tups, I.base.frzs, I.base.tbls⟩, ⟨m, hn.sameBut hs (Ne.symm (cne x c hc)), fun j y v' e1 e2 e3 => ?_⟩, fun y c' e => ?_, I.free, I.freeC, fun p hp => ?_, tracked ⟨oc, hoc, I.freeC x c hc⟩ hs, by simpa using I.len⟩ ⟨c, hs, .inr hc⟩
    · exact (hs.2 b (Nat.ne_of_lt (Nat.lt_of_lt_of_le (Heap.lt_size e) (I.ok.cab x c hfn hc)))).trans (I.base.keep b o e n hb hx)
    · obtain ⟨sl, e1⟩ := I.base.slot b o e n hb hx
      exact ⟨sl, (hs.2 b (Nat.ne_of_lt (Nat.lt_of_lt_of_le (Heap.lt_size e) (I.ok.cab x c hfn hc)))).trans e1⟩
    · obtain ⟨o', e1⟩ := I.base.there b o e hx
      exact ⟨o', (hs.2 b (Nat.ne_of_lt (Nat.lt_of_lt_of_le (Heap.lt_size e) (I.ok.cab x c hfn hc)))).trans e1⟩
    · by_cases hj : j = i
      · subst hj
        rw [hi] at e1; cases e1
        rw [List.getElem?_set_self hiσ] at e2
        cases e2
        exact ⟨u, r, .inr ⟨.inl hk, c, hc, hc'⟩⟩
      · rw [List.getElem?_set_ne (Ne.symm hj)] at e2
        obtain ⟨u', r', q⟩ := hl j y v' e1 e2 e3
        refine ⟨u', r', ?_⟩
        rcases q with q | ⟨k, c', e, z'⟩
        · exact .inl q
        · refine .inr ⟨k, c', e, z'.sameBut hs ?_⟩
          rintro rfl
          exact hj (nodup_ix hN e1 (I.ok.inj _ _ _ e hc ▸ hi))
    · by_cases hcc : c' = c
      · subst hcc; exact ⟨_, hc'⟩
      · obtain ⟨w2, z2⟩ := I.cell y c' e
        exact ⟨w2, z2.sameBut hs hcc⟩
    · obtain ⟨e, n, ne, nf, d⟩ := I.pin p hp
      refine ⟨(hs.2 p.1 ?_).trans e, n, ne, nf, d⟩
      intro q
      rw [q, hoc] at e
      have q' : oc = p.2 := Option.some.inj e
      exact d w' (by rw [← q']; exact hocd)
theorem store_ok {M : Model} {A : Around} {E : Value → Shared → Prop} {i : Nat} {x : Str} {v : V} {u : Value} {Q : Unit → Shared → Prop} (I : Inv X pins σ H s) (hN : X.N.Nodup) (hi : X.N[i]? = some x) (hx : Loc X.env.scope x) (r : RelV v u)
    (h : ∀ s', Inv X pins (σ.set i (some v)) H s' → Q () s') (hf : X.fn x = true ∨ X.env.scope.names.lookup x = some .local := by first | exact .inl rfl | exact .inr rfl | assumption) : wpAny M A (storeName X.env x u) Q E s :=
  store_ok2 I hN hi hx r (fun s' I' _ => h s' I') hf
/-- behind a call or a block, the state as it is -/
theorem Inv.call' {s' : Shared} {ch : List Addr} (I : Inv X pins σ H s) (ho : s'.os = s.os) (u : Un (frs X.stack) ch H H' s.heap s'.heap) (hok : HOk X.prog X.w H' s'.heap) (hg : AllBare s'.gens)
    (hch : ∀ b ∈ ch, (b ∈ X.ex ∨ X.s₀.heap.objs.size ≤ b) ∧ b ≠ X.env.locals ∧ (∀ x c, X.env.cells.lookup x = some c → c ≠ b) ∧ ∀ p ∈ X.pn ++ pins, p.1 ≠ b) : Inv X pins σ H' s' := by
  obtain ⟨h', g', d', t', o'⟩ := s'
  have e : o' = s.os := ho
  subst e
  exact I.call (g' := g') (t' := t') (d' := d') u hok hg hch
end

/-! ### the judgements -/
/-- an exception: its class, its own dict's address (where it has one), the abstract heap behind it -/
abbrev XK := Value → Option Addr → Hp → Prop
abbrev St := List (Option V)
abbrev VK := V → Hp → Prop
/-- an expression's reading; a test's; an argument list's -/
abbrev TE := St → Hp → VK → Prop
abbrev TT := St → Hp → (Bool → Hp → Prop) → Prop
abbrev TA := St → Hp → (List V → Hp → Prop) → Prop
/-- what is wanted behind a statement -/
structure Ends where
  nx : St → Hp → Prop
  rt : VK
  bk : St → Hp → Prop := fun _ _ => False
  ct : St → Hp → Prop := fun _ _ => False
abbrev TS := Ends → St → Hp → Prop

def EP (X : Cx) (pins : List (Addr × Obj)) (σ : St) (Q : VK) (u : Value) (s' : Shared) : Prop := ∃ v H', Inv X pins σ H' s' ∧ RelV v u ∧ Q v H'
def TP (X : Cx) (pins : List (Addr × Obj)) (σ : St) (Q : Bool → Hp → Prop) (b : Bool) (s' : Shared) : Prop := ∃ H', Inv X pins σ H' s' ∧ Q b H'
def AP (X : Cx) (pins : List (Addr × Obj)) (σ : St) (Q : List V → Hp → Prop) (us : List Value) (s' : Shared) : Prop := ∃ vs H', Inv X pins σ H' s' ∧ Vals vs us ∧ Q vs H'
def SP (X : Cx) (pins : List (Addr × Obj)) (D : Ends) (f : Flow) (s' : Shared) : Prop :=
  match f with
  | .next => ∃ σ' H', Inv X pins σ' H' s' ∧ D.nx σ' H'
  | .brk => ∃ σ' H', Inv X pins σ' H' s' ∧ D.bk σ' H'
  | .cont => ∃ σ' H', Inv X pins σ' H' s' ∧ D.ct σ' H'
  | .ret u => ∃ v σ' H', Inv X pins σ' H' s' ∧ RelV v u ∧ D.rt v H'

def PE (X : Cx) (e : Expr) (t : TE) : Prop :=
  ∀ (pins : List (Addr × Obj)) (s : Shared) (σ : St) (H : Hp) (Q : VK), Inv X pins σ H s → t σ H Q → wpAny (model X.prog X.w) X.A (eval e X.env) (EP X pins σ Q) X.xe s
def PT (X : Cx) (e : Expr) (t : TT) : Prop :=
  ∀ (pins : List (Addr × Obj)) (s : Shared) (σ : St) (H : Hp) (Q : Bool → Hp → Prop), Inv X pins σ H s → t σ H Q → wpAny (model X.prog X.w) X.A (isTrue e X.env (eval e X.env)) (TP X pins σ Q) X.xe s
/-- a test whatever its 'whole' is (and, or) -/
def PW (X : Cx) (e : Expr) (t : TT) : Prop :=
  ∀ (whole : Sem Value) (pins : List (Addr × Obj)) (s : Shared) (σ : St) (H : Hp) (Q : Bool → Hp → Prop), Inv X pins σ H s → t σ H Q → wpAny (model X.prog X.w) X.A (isTrue e X.env whole) (TP X pins σ Q) X.xe s
theorem PW.pt {X : Cx} {e : Expr} {t : TT} (h : PW X e t) : PT X e t := h _
/-- an argument list (no star), from the left -/
def PA (X : Cx) (es : List Expr) (t : TA) : Prop :=
  ∀ (pos : Pos) (pins : List (Addr × Obj)) (s : Shared) (σ : St) (H : Hp) (Q : List V → Hp → Prop), Inv X pins σ H s → t σ H Q → wpAny (model X.prog X.w) X.A (spliced (backTo pos (starEach es X.env))) (AP X pins σ Q) X.xe s
def PS (X : Cx) (st : Stmt) (t : TS) : Prop :=
  ∀ (pins : List (Addr × Obj)) (s : Shared) (σ : St) (H : Hp) (D : Ends), Inv X pins σ H s → t D σ H → wpAny (model X.prog X.w) X.A (exec st X.env) (SP X pins D) X.xe s
def PSs (X : Cx) (st : List Stmt) (t : TS) : Prop :=
  ∀ (pins : List (Addr × Obj)) (s : Shared) (σ : St) (H : Hp) (D : Ends), Inv X pins σ H s → t D σ H → wpAny (model X.prog X.w) X.A (execs st X.env) (SP X pins D) X.xe s
/-- weaken the end -/
theorem thn {α : Type} {t : Sem α} {Q Q' : α → Shared → Prop} {M : Model} {A : Around} {E : Value → Shared → Prop} {s : Shared} (h : wpAny M A t Q E s) (hQ : ∀ a s, Q a s → Q' a s) : wpAny M A t Q' E s := wpAny_mono h hQ fun _ _ x => x
end L2

namespace L2
open PySem PySem.Spec PyProof.Rows
section
variable {X : Cx}

/-! ### names and constants -/
def tVar (i : Nat) : TE := fun σ H Q => ∃ v, σ[i]? = some (some v) ∧ Q v H
def tC (v : V) : TE := fun _ H Q => Q v H
theorem pe_var {i : Nat} {x : Str} {pos : Pos} (hN : X.N[i]? = some x) (hv : Vis X.env.scope x) (hd : (x == ("__debug__" : Str)) = false := by decide) (hcd : (x == ("__classdict__" : Str)) = false := by decide) : PE X (.Name x pos) (tVar i) := by
  intro pins s σ H Q I h
  obtain ⟨v, e, h⟩ := h
  obtain ⟨m, hn, hl⟩ := I.loc
  obtain ⟨u, r, l⟩ := hl i x v hN e hv
  have fin : EP X pins σ Q u s := ⟨v, H, I, r, h⟩
  rcases l with ⟨hk, hm⟩ | ⟨hk, c, hc, hcell⟩
  · exact wpAny_Name (wpAny_loadName_local I.ok.kind hk hn hm fin) hd
  · rcases hk with hk | hk
    · exact wpAny_Name (wpAny_loadName_cell I.ok.kind hk hc hcell fin) hd
    · exact wpAny_Name (wpAny_loadName_free I.ok.kind hk hc hcell fin hcd) hd
theorem pe_int {i j pos} : PE X (.Constant (.int i) j pos) (tC (.int i)) := fun _ _ _ H _ I h => wpAny_Constant_int ⟨.int i, H, I.tok _, ⟨_, rfl⟩, h⟩
theorem pe_bl {b j pos} : PE X (.Constant (.bool b) j pos) (tC (.bl b)) := fun _ _ _ H _ I h => Constant_bool ⟨.bl b, H, I, rfl, h⟩
theorem pe_non {j pos} : PE X (.Constant .none j pos) (tC .non) := fun _ _ _ H _ I h => Constant_none ⟨.non, H, I, rfl, h⟩
theorem pe_str {x j pos} : PE X (.Constant (.str x) j pos) (tC (.str x)) := fun _ _ _ H _ I h => Calls.Constant_str ⟨.str x, H, I.tok _, ⟨_, rfl⟩, h⟩

/-- a global name of the def -/
def Gl (X : Cx) (x : Str) : Prop := X.env.kindOf x = some .globalImplicit
theorem ld_glob {E : Value → Shared → Prop} {pins : List (Addr × Obj)} {s : Shared} {σ : St} {H : Hp} {x : Str} {u : Value} {pos : Pos} {Q : Value → Shared → Prop} (I : Inv X pins σ H s) (hg : Gl X x) (hm : X.mg x = some u) (h : Q u s)
    (hd : (x == ("__debug__" : Str)) = false := by decide) : wpAny (model X.prog X.w) X.A (eval (.Name x pos) X.env) Q E s :=
  Calls.Name_function_global I.ok.kind hg (Calls.loadGlobal_global (by rw [I.ok.glob]; exact I.mod.glob.keeps I.bk) hm h) hd
theorem ld_blt {E : Value → Shared → Prop} {pins : List (Addr × Obj)} {s : Shared} {σ : St} {H : Hp} {x : Str} {u : Value} {pos : Pos} {Q : Value → Shared → Prop} (I : Inv X pins σ H s) (hg : Gl X x) (hm : X.mg x = none) (hv : bootBuiltins x = some u) (h : Q u s)
    (hn : x ≠ "__name__" := by decide) (hd : (x == ("__debug__" : Str)) = false := by decide) : wpAny (model X.prog X.w) X.A (eval (.Name x pos) X.env) Q E s := by
  obtain ⟨mb, h1, h2⟩ := I.mod.blt
  exact Calls.Name_function_global I.ok.kind hg (Calls.loadGlobal_builtin (by rw [I.ok.glob]; exact I.mod.glob.keeps I.bk) hm (by rw [I.ok.blt]; exact h1.keeps I.bk) ((h2 x hn).trans hv) h) hd
/-- a module's constant, a class, a function, as a value -/
theorem pe_glob {x : Str} {v : V} {u : Value} {pos : Pos} (hg : Gl X x) (hm : X.mg x = some u) (r : RelV v u) (hd : (x == ("__debug__" : Str)) = false := by decide) : PE X (.Name x pos) (tC v) :=
  fun _ _ _ H _ I h => ld_glob I hg hm ⟨v, H, I, r, h⟩ hd
theorem pe_bltn {x : Str} {v : V} {u : Value} {pos : Pos} (hg : Gl X x) (hm : X.mg x = none) (hv : bootBuiltins x = some u) (r : RelV v u) (hn : x ≠ "__name__" := by decide) (hd : (x == ("__debug__" : Str)) = false := by decide) : PE X (.Name x pos) (tC v) :=
  fun _ _ _ H _ I h => ld_blt I hg hm hv ⟨v, H, I, r, h⟩ hn hd

/-! ### arithmetic -/
/-- two ints -/
def t2I (ta tb : TE) (k : Int → Int → Hp → Prop) : St → Hp → Prop := fun σ H => ta σ H fun x H1 => tb σ H1 fun y H2 => ∃ i j, x = .int i ∧ y = .int j ∧ k i j H2
def tAdd (ta tb : TE) : TE := fun σ H Q => t2I ta tb (fun i j H2 => Q (.int (i + j)) H2) σ H
def tSub (ta tb : TE) : TE := fun σ H Q => t2I ta tb (fun i j H2 => Q (.int (i - j)) H2) σ H
/-- the left factor below 2^64 -/
def tMul (ta tb : TE) : TE := fun σ H Q => t2I ta tb (fun i j H2 => (-(2 ^ 64) < i ∧ i < 2 ^ 64) ∧ Q (.int (i * j)) H2) σ H
variable {a b : Expr} {ta tb : TE} {pos : Pos}
/-! ### comparisons -/
def PC (X : Cx) (op : CmpOp) (a b : Expr) (t : TE) : Prop :=
  ∀ (pins : List (Addr × Obj)) (s : Shared) (σ : St) (H : Hp) (Q : VK), Inv X pins σ H s → t σ H Q →
    wpAny (model X.prog X.w) X.A (eval a X.env) (fun v s₁ => wpAny (model X.prog X.w) X.A (eval b X.env) (fun u s₂ => wpAny (model X.prog X.w) X.A (compareOp op v u) (EP X pins σ Q) X.xe s₂) X.xe s₁) X.xe s
def tCmp (p : Int → Int → Bool) (ta tb : TE) : TE := fun σ H Q => t2I ta tb (fun i j H2 => Q (.bl (p i j)) H2) σ H
abbrev tLt : TE → TE → TE := tCmp fun i j => decide (i < j)
abbrev tLe : TE → TE → TE := tCmp fun i j => decide (i ≤ j)
abbrev tGt : TE → TE → TE := tCmp fun i j => decide (j < i)
abbrev tGe : TE → TE → TE := tCmp fun i j => decide (j ≤ i)
abbrev tEqI : TE → TE → TE := tCmp fun i j => decide (i = j)
abbrev tNeI : TE → TE → TE := tCmp fun i j => !decide (i = j)
/-- is None -/
def tIsN (ta : TE) : TE := fun σ H Q => ta σ H fun x H1 => Q (.bl (decide (x = .non))) H1
def tNotN (ta : TE) : TE := fun σ H Q => ta σ H fun x H1 => Q (.bl (!decide (x = .non))) H1
/-- a comparison as a value, as a test -/
def tB (t : TE) : TT := fun σ H Q => t σ H fun x H1 => ∃ c, x = .bl c ∧ Q c H1
/-- an expression whose value is a bool, as a test -/
theorem pt_val {e : Expr} {t : TE} (h : PE X e t) (he : ∀ whole, isTrue e X.env whole = (do let v ← whole; standAt e.pos; holding [v] (truthy v)) := by intro _; rfl) : PT X e (tB t) := by
  intro pins s σ H Q I hw
  refine isTrue_plain (thn (h pins s σ H _ I hw) fun v s1 ⟨x, H1, I1, r1, q1⟩ => ?_) (he _)
  obtain ⟨d, rfl, q⟩ := q1
  cases r1
  exact wpAny_truthy_bool ⟨H1, I1, q⟩

/-! ### and, or, not -/
variable {tA tB' : TT} {rest : List Expr}
def tAnd (t u : TT) : TT := fun σ H Q => t σ H fun c H1 => if c = true then u σ H1 Q else Q false H1
def tOr (t u : TT) : TT := fun σ H Q => t σ H fun c H1 => if c = true then Q true H1 else u σ H1 Q
def tNot (t : TT) : TT := fun σ H Q => t σ H fun c H1 => Q (!c) H1
theorem pw_and1 (ha : PT X a tA) : PW X (.BoolOp .And [a] pos) tA := by
  intro wh pins s σ H Q I h
  refine isTrue_and (thn (ha pins s σ H Q I h) fun c s1 e => ?_)
  cases c with
  | true => exact isTrue_and_nil e
  | false => exact e
theorem pw_or1 (ha : PT X a tA) : PW X (.BoolOp .Or [a] pos) tA := by
  intro wh pins s σ H Q I h
  refine isTrue_or (thn (ha pins s σ H Q I h) fun c s1 e => ?_)
  cases c with
  | false => exact isTrue_or_nil e
  | true => exact e
theorem pw_and (ha : PT X a tA) (hb : PW X (.BoolOp .And (b :: rest) pos) tB') : PW X (.BoolOp .And (a :: b :: rest) pos) (tAnd tA tB') := by
  intro wh pins s σ H Q I h
  refine isTrue_and (thn (ha pins s σ H _ I h) fun c s1 ⟨H1, I1, q1⟩ => ?_)
  cases c with
  | true => exact hb wh pins s1 σ H1 Q I1 q1
  | false => exact ⟨H1, I1, q1⟩
theorem pw_or (ha : PT X a tA) (hb : PW X (.BoolOp .Or (b :: rest) pos) tB') : PW X (.BoolOp .Or (a :: b :: rest) pos) (tOr tA tB') := by
  intro wh pins s σ H Q I h
  refine isTrue_or (thn (ha pins s σ H _ I h) fun c s1 ⟨H1, I1, q1⟩ => ?_)
  cases c with
  | true => exact ⟨H1, I1, q1⟩
  | false => exact hb wh pins s1 σ H1 Q I1 q1
theorem pt_not (ha : PT X a tA) : PT X (.UnaryOp .Not a pos) (tNot tA) := by
  intro pins s σ H Q I h
  exact isTrue_not (ha pins s σ H (fun c H1 => Q (!c) H1) I h)
/-- .. as values (bools) -/
def tAndV (ta tb : TE) : TE := fun σ H Q => ta σ H fun x H1 => ∃ c, x = .bl c ∧ if c = true then tb σ H1 Q else Q (.bl false) H1
def tOrV (ta tb : TE) : TE := fun σ H Q => ta σ H fun x H1 => ∃ c, x = .bl c ∧ if c = true then Q (.bl true) H1 else tb σ H1 Q
def tNotV (ta : TE) : TE := fun σ H Q => ta σ H fun x H1 => ∃ c, x = .bl c ∧ Q (.bl (!c)) H1
theorem pe_one {op} {t : TE} (h : PE X a t) : PE X (.BoolOp op [a] pos) t := fun pins s σ H Q I hw => BoolOp_one (h pins s σ H Q I hw)
theorem pe_and (ha : PE X a ta) (hb : PE X (.BoolOp .And (b :: rest) pos) tb) : PE X (.BoolOp .And (a :: b :: rest) pos) (tAndV ta tb) := by
  intro pins s σ H Q I h
  refine BoolOp_and (thn (ha pins s σ H _ I h) fun v s1 ⟨x, H1, I1, r1, q1⟩ => ?_)
  obtain ⟨c, rfl, q1⟩ := q1
  cases r1
  refine wpAny_truthy_bool ?_
  cases c with
  | true => exact hb pins s1 σ H1 Q I1 q1
  | false => exact ⟨.bl false, H1, I1, rfl, q1⟩
theorem pe_not (ha : PE X a ta) : PE X (.UnaryOp .Not a pos) (tNotV ta) := by
  intro pins s σ H Q I h
  refine UnaryOp_ (thn (ha pins s σ H _ I h) fun v s1 ⟨x, H1, I1, r1, q1⟩ => ?_)
  obtain ⟨c, rfl, q1⟩ := q1
  cases r1
  exact not_of (wpAny_truthy_bool ⟨.bl (!c), H1, I1, rfl, q1⟩)
/-- a if t else b -/
def tIf (t : TT) (ta tb : TE) : TE := fun σ H Q => t σ H fun c H1 => if c = true then ta σ H1 Q else tb σ H1 Q
theorem pe_ifExp {c : Expr} (hc : PT X c tA) (ha : PE X a ta) (hb : PE X b tb) : PE X (.IfExp c a b pos) (tIf tA ta tb) := by
  intro pins s σ H Q I h
  refine wpAny_IfExp (thn (hc pins s σ H _ I h) fun d s1 ⟨H1, I1, q1⟩ => ?_)
  cases d with
  | true => exact ha pins s1 σ H1 Q I1 q1
  | false => exact hb pins s1 σ H1 Q I1 q1
end
end L2

namespace L2
open PySem PySem.Spec PyProof.Rows

/-! ### a list, a tuple that is read: tracked, frozen, or an object of the module -/
def SqL (K : PySem.W.Frag) (H : Hp) (a : Addr) (xs : List V) : Prop :=
  Rd H a (.lst xs) ∨
    ∃ (o : Obj) (its : Array Value) (n : Nat), K.lookup a = some o ∧ o.cls = .type "list" ∧ o.dict = none ∧ o.data = .seq its n ∧ its.size ≤ sizeLine ∧ Vals xs its.toList
def SqT (K : PySem.W.Frag) (H : Hp) (a : Addr) (xs : List V) : Prop :=
  Rd H a (.tup xs) ∨
    ∃ (o : Obj) (its : Array Value) (n : Nat), K.lookup a = some o ∧ o.cls = .type "tuple" ∧ o.data = .seq its n ∧ its.size ≤ sizeLine ∧ Vals xs its.toList
def absV : Value → Option V
  | .none => some .non
  | .bool b => some (.bl b)
  | .int i _ => some (.int i)
  | .str x _ => some (.str x)
  | .bytes b _ => some (.byt b)
  | .float b _ => some (.flt b)
  | .ref a => some (.ref a)
  | .type n => some (.ty n)
  | _ => none
theorem RelV.abs {x : V} {u : Value} (r : RelV x u) : absV u = some x := by
  cases x with
  | non => cases r; rfl
  | bl _ => cases r; rfl
  | int _ => obtain ⟨t, rfl⟩ := r; rfl
  | str _ => obtain ⟨t, rfl⟩ := r; rfl
  | byt _ => obtain ⟨t, rfl⟩ := r; rfl
  | flt _ => obtain ⟨t, rfl⟩ := r; rfl
  | ref _ => cases r; rfl
  | ty _ => cases r; rfl
theorem RelV.inj {x y : V} {u : Value} (r : RelV x u) (q : RelV y u) : x = y := Option.some.inj (r.abs.symm.trans q.abs)
theorem Vals.inj : ∀ {xs ys : List V} {us : List Value}, Vals xs us → Vals ys us → xs = ys
  | _, _, _, .nil, .nil => rfl
  | _, _, _, .cons r t, .cons r' t' => by rw [r.inj r', Vals.inj t t']
section
variable {X : Cx} {pins : List (Addr × Obj)} {σ : St} {H : Hp} {s : Shared} {a : Addr} {xs ys : List V}
theorem SqL.of {K : PySem.W.Frag} (h : H a = some (.lst xs)) : SqL K H a xs := .inl (.inl h)
theorem SqT.of {K : PySem.W.Frag} (h : H a = some (.tup xs)) : SqT K H a xs := .inl (.inl h)
theorem Inv.list (I : Inv X pins σ H s) (h : SqL X.K H a xs) : ∃ its : List Value, Vals xs its ∧ PlainL s.heap a its.toArray ∧ xs.length ≤ sizeLine := by
  rcases h with h | ⟨o, its, n, hk, hc, hd, hs, hz, r⟩
  · obtain ⟨z, its, n, r, e⟩ := h.ok I.hok
    exact ⟨its, r, ⟨_, n, e, rfl, rfl, rfl⟩, z⟩
  · refine ⟨its.toList, r, ⟨o, n, I.kIn a o hk, hc, hd, by simpa using hs⟩, ?_⟩
    have e := r.length
    simp only [Array.length_toList] at e
    omega
theorem Inv.tuple (I : Inv X pins σ H s) (h : SqT X.K H a xs) : ∃ its : List Value, Vals xs its ∧ IsTup s.heap a its.toArray ∧ xs.length ≤ sizeLine := by
  rcases h with h | ⟨o, its, n, hk, hc, hs, hz, r⟩
  · obtain ⟨z, its, r, p⟩ := h.ok I.hok
    exact ⟨its, r, p, z⟩
  · refine ⟨its.toList, r, ⟨o, I.kIn a o hk, hc, n, by simpa using hs⟩, ?_⟩
    have e := r.length
    simp only [Array.length_toList] at e
    omega
end

/-! ### another wish about exceptions -/
abbrev Cx.wish (X : Cx) (E : Value → Shared → Prop) : Cx := { X with xe := E }
/-- no exception leaves -/
abbrev Cx.nox (X : Cx) : Cx := X.wish fun _ _ => False
theorem Cx.Ok.wish {X : Cx} (ok : X.Ok) (E : Value → Shared → Prop) : (X.wish E).Ok :=
  ⟨ok.mod, ok.kind, ok.glob, ok.blt, ok.above, ok.inj, ok.has, ok.cab, ok.hd, ok.frames, ok.stk, ok.exf, ok.bs, ok.bsz, ok.noex, ok.exfs, ok.funs, ok.frf⟩
theorem Cx.Ok.unwish {X : Cx} {E : Value → Shared → Prop} (ok : (X.wish E).Ok) : X.Ok :=
  ⟨ok.mod, ok.kind, ok.glob, ok.blt, ok.above, ok.inj, ok.has, ok.cab, ok.hd, ok.frames, ok.stk, ok.exf, ok.bs, ok.bsz, ok.noex, ok.exfs, ok.funs, ok.frf⟩
section
variable {X : Cx} {pins : List (Addr × Obj)} {σ : St} {H : Hp} {s : Shared} {E : Value → Shared → Prop}
theorem Inv.wish (I : Inv X pins σ H s) (E : Value → Shared → Prop) : Inv (X.wish E) pins σ H s := ⟨I.ok.wish E, I.os, I.bare, I.base, I.loc, I.cell, I.free, I.freeC, I.pin, I.hok, I.len⟩
theorem Inv.unwish (I : Inv (X.wish E) pins σ H s) : Inv X pins σ H s := ⟨I.ok.unwish, I.os, I.bare, I.base, I.loc, I.cell, I.free, I.freeC, I.pin, I.hok, I.len⟩
theorem SP.unwish {D : Ends} {f : Flow} {s' : Shared} (h : SP (X.wish E) pins D f s') : SP X pins D f s' := by
  cases f with
  | next => obtain ⟨σ', H', I, q⟩ := h; exact ⟨σ', H', I.unwish, q⟩
  | brk => obtain ⟨σ', H', I, q⟩ := h; exact ⟨σ', H', I.unwish, q⟩
  | cont => obtain ⟨σ', H', I, q⟩ := h; exact ⟨σ', H', I.unwish, q⟩
  | ret u => obtain ⟨v, σ', H', I, r, q⟩ := h; exact ⟨v, σ', H', I.unwish, r, q⟩
theorem PE.nox {e : Expr} {t : TE} (h : PE X.nox e t) : PE X e t := fun pins s σ H Q I hw =>
  wpAny_mono (h pins s σ H Q (I.wish _) hw) (fun _ _ ⟨v, H', I', r, q⟩ => ⟨v, H', I'.unwish, r, q⟩) fun _ _ z => False.elim z
theorem PT.nox {e : Expr} {t : TT} (h : PT X.nox e t) : PT X e t := fun pins s σ H Q I hw =>
  wpAny_mono (h pins s σ H Q (I.wish _) hw) (fun _ _ ⟨H', I', q⟩ => ⟨H', I'.unwish, q⟩) fun _ _ z => False.elim z
theorem PSs.nox {st : List Stmt} {t : TS} (h : PSs X.nox st t) : PSs X st t := fun pins s σ H D I hw =>
  wpAny_mono (h pins s σ H D (I.wish _) hw) (fun _ _ q => q.unwish) fun _ _ z => False.elim z
end

/-! ### blocks and small statements -/
section
variable {X : Cx} {st : Stmt} {rest : List Stmt} {t u : TS} {e : Expr} {te : TE} {pos : Pos}
def tNext : TS := fun D σ H => D.nx σ H
def tSeq (t u : TS) : TS := fun D σ H => t { D with nx := u D } σ H
theorem pss_nil : PSs X [] tNext := fun _ _ σ H _ I h => wpAny_execs_nil ⟨σ, H, I, h⟩
theorem pss_cons (h1 : PS X st t) (h2 : PSs X rest u) : PSs X (st :: rest) (tSeq t u) := by
  intro pins s σ H D I h
  refine wpAny_execs_cons (thn (h1 pins s σ H { D with nx := u D } I h) fun f s1 q => ?_)
  cases f with
  | next =>
    obtain ⟨σ', H', I', q⟩ := q
    exact h2 pins s1 σ' H' D I' q
  | ret v => exact q
  | brk => exact q
  | cont => exact q
theorem pss_one (h1 : PS X st t) : PSs X [st] t := by
  intro pins s σ H D I h
  refine wpAny_execs_cons (thn (h1 pins s σ H D I h) fun f s1 q => ?_)
  cases f with
  | next => exact wpAny_execs_nil q
  | ret v => exact q
  | brk => exact q
  | cont => exact q
def tBreak : TS := fun D σ H => D.bk σ H
def tCont : TS := fun D σ H => D.ct σ H
/-- in a def's body nothing is shown -/
theorem Inv.quiet {pins : List (Addr × Obj)} {σ : St} {H : Hp} {s : Shared} (I : Inv X pins σ H s) : interactive X.env = false := by simp [interactive, I.ok.kind]
/-- an expression whose value is dropped -/
def tDrop (te : TE) : TS := fun D σ H => te σ H fun _ H1 => D.nx σ H1
theorem ps_expr (he : PE X e te) (hs : swapsWith e none pos.line X.env = pure false := by rfl) : PS X (.Expr e pos) (tDrop te) := by
  intro pins s σ H D I h
  exact wpAny_Expr_any (thn (he pins s σ H _ I h) fun v s1 ⟨x, H1, I1, r1, q1⟩ => ⟨σ, H1, I1, q1⟩) I.quiet hs
def tRet (te : TE) : TS := fun D σ H => te σ H D.rt
theorem ps_ret (he : PE X e te) : PS X (.Return (some e) pos) (tRet te) := by
  intro pins s σ H D I h
  exact wpAny_Return_some (thn (he pins s σ H _ I h) fun v s1 ⟨x, H1, I1, r1, q1⟩ => ⟨x, σ, H1, I1, r1, q1⟩)
def tRetN : TS := fun D _ H => D.rt .non H
def tIfS (c : TT) (t u : TS) : TS := fun D σ H => c σ H fun b H1 => if b = true then t D σ H1 else u D σ H1
theorem ps_if {c : Expr} {a b : List Stmt} {tc : TT} (hc : PT X c tc) (ha : PSs X a t) (hb : PSs X b u) : PS X (.If c a b pos) (tIfS tc t u) := by
  intro pins s σ H D I h
  refine wpAny_If (thn (hc pins s σ H _ I h) fun d s1 ⟨H1, I1, q1⟩ => ?_)
  cases d with
  | true => exact ha pins s1 σ H1 D I1 q1
  | false => exact hb pins s1 σ H1 D I1 q1
/-- code that the proof never comes to -/
def tNever : TS := fun _ _ _ => False
end

/-! ### targets -/
abbrev TG := V → St → Hp → (St → Hp → Prop) → Prop
abbrev TGs := List V → St → Hp → (St → Hp → Prop) → Prop
def PG (X : Cx) (target : Expr) (t : TG) : Prop :=
  ∀ (pins : List (Addr × Obj)) (s : Shared) (σ : St) (H : Hp) (v : V) (u : Value) (Q : St → Hp → Prop), Inv X pins σ H s → RelV v u → t v σ H Q →
    wpAny (model X.prog X.w) X.A (assign target X.env u) (fun _ s' => ∃ σ' H', Inv X pins σ' H' s' ∧ Q σ' H') X.xe s
/-- several targets, one after another -/
def PGs (X : Cx) (ts : List Expr) (t : TGs) : Prop :=
  ∀ (pins : List (Addr × Obj)) (s : Shared) (σ : St) (H : Hp) (vs : List V) (us : List Value) (Q : St → Hp → Prop), Inv X pins σ H s → Vals vs us → t vs σ H Q →
    wpAny (model X.prog X.w) X.A (assignInOrder ((assignEach ts X.env).map (·.2)) us) (fun _ s' => ∃ σ' H', Inv X pins σ' H' s' ∧ Q σ' H') X.xe s
/-- o[i] = v, by values -/
abbrev TSet := V → V → V → Hp → (Hp → Prop) → Prop
def PSet (X : Cx) (t : TSet) : Prop :=
  ∀ (pins : List (Addr × Obj)) (s : Shared) (σ : St) (H : Hp) (o i v : V) (ov iv u : Value) (Q : Hp → Prop), Inv X pins σ H s → RelV o ov → RelV i iv → RelV v u → t o i v H Q →
    wpAny (model X.prog X.w) X.A (setItem ov iv u) (fun _ s' => ∃ H', Inv X pins σ H' s' ∧ Q H') X.xe s
/-- a op= b, by values -/
abbrev TIp := V → V → Hp → VK → Prop
def PIp (X : Cx) (op : Operator) (t : TIp) : Prop :=
  ∀ (pins : List (Addr × Obj)) (s : Shared) (σ : St) (H : Hp) (x y : V) (v u : Value) (Q : VK), Inv X pins σ H s → RelV x v → RelV y u → t x y H Q →
    wpAny (model X.prog X.w) X.A (inplaceOp op v u) (EP X pins σ Q) X.xe s
section
variable {X : Cx} {pos : Pos}
def gName (i : Nat) : TG := fun v σ H Q => Q (σ.set i (some v)) H
theorem pg_name {i : Nat} {x : Str} (hN : X.N.Nodup) (hi : X.N[i]? = some x) (hx : Loc X.env.scope x) (hf : X.fn x = true ∨ X.env.scope.names.lookup x = some .local := by first | exact .inl rfl | exact .inr rfl | assumption) : PG X (.Name x pos) (gName i) := by
  intro pins s σ H v u Q I r h
  exact wpAny_assign_Name (store_ok I hN hi hx r (fun s' I' => ⟨_, H, I', h⟩) hf)
def gNil : TGs := fun vs σ H Q => vs = [] ∧ Q σ H
def gCons (t : TG) (u : TGs) : TGs := fun vs σ H Q => ∃ v r, vs = v :: r ∧ t v σ H fun σ' H' => u r σ' H' Q
theorem pgs_nil : PGs X [] gNil := by
  intro pins s σ H vs us Q I r h
  obtain ⟨e, h⟩ := h
  subst e
  cases r
  exact assignInOrder_nil ⟨σ, H, I, h⟩
theorem pgs_cons {e : Expr} {es : List Expr} {t : TG} {u : TGs} (h1 : PG X e t) (h2 : PGs X es u)
    (hs : (assignEach (e :: es) X.env).map (·.2) = assign e X.env :: (assignEach es X.env).map (·.2) := by rfl) : PGs X (e :: es) (gCons t u) := by
  intro pins s σ H vs us Q I r h
  obtain ⟨v, vr, e1, h⟩ := h
  subst e1
  cases r with
  | cons r rr =>
    rw [hs]
    refine assignInOrder_cons (thn (h1 pins s σ H _ _ _ I r h) fun _ s1 ⟨σ1, H1, I1, q1⟩ => ?_)
    exact h2 pins s1 σ1 H1 _ _ Q I1 rr q1
/-- (a, b, ..) = a tuple of that length -/
def gTup (K : PySem.W.Frag) (n : Nat) (t : TGs) : TG := fun v σ H Q => ∃ a xs, v = .ref a ∧ SqT K H a xs ∧ xs.length = n ∧ t xs σ H Q
theorem pg_tup {es : List Expr} {k : Nat} {t : TGs} {n : Nat} (hc : X.calm = true) (h : PGs X es t)
    (hn : (assignEach es X.env).length = n := by rfl) (hst : (assignEach es X.env).findIdx? (·.1) = none := by rfl) : PG X (.Tuple es k pos) (gTup X.K n t) := by
  intro pins s σ H v u Q I r hw
  obtain ⟨a, xs, e1, hq, hl, hw⟩ := hw
  subst e1
  cases r
  obtain ⟨its, rv, ht, hz⟩ := I.tuple hq
  refine assign_Tuple_tuple (I.ok.hd hc) ht (by simp [hn, ← hl, rv.length]) hst fun h' hx => ?_
  have I1 : Inv X pins σ H { s with heap := h' } := I.kept (t' := s.toks) fun b o e => hx b o (Nat.ne_of_lt (Heap.lt_size e)) e
  exact h pins _ σ H xs _ Q I1 (by simpa using rv) hw
/-- o[i] = .. -/
def gSub (to ti : TE) (t : TSet) : TG := fun v σ H Q => to σ H fun o H1 => ti σ H1 fun i H2 => t o i v H2 fun H3 => Q σ H3
/-- target = value -/
def tAsg (te : TE) (g : TG) : TS := fun D σ H => te σ H fun x H1 => g x σ H1 D.nx
theorem ps_asg {tg e : Expr} {te : TE} {g : TG} (he : PE X e te) (hg : PG X tg g) (hs : swapsWithSole [tg] e pos.line X.env = pure false := by rfl) (hw : swappedStores [tg] e X.env = pure none := by rfl)
    (h1 : (assignEach [tg] X.env).map (·.2) = [assign tg X.env] := by rfl) : PS X (.Assign [tg] e pos) (tAsg te g) := by
  intro pins s σ H D I h
  refine wpAny_Assign_stores (thn (he pins s σ H _ I h) fun v s1 ⟨x, H1, I1, r1, q1⟩ => ?_) hs hw
  rw [h1]
  exact thn (hg pins s1 σ H1 x v _ I1 r1 q1) fun _ s2 q => q
/-- name = value -/
theorem ps_set {i : Nat} {x : Str} {e : Expr} {te : TE} {pos' : Pos} (hN : X.N.Nodup) (hi : X.N[i]? = some x) (hx : Loc X.env.scope x) (he : PE X e te) (hs : swapsWith e (some (.Name x pos')) pos.line X.env = pure false := by rfl) (hf : X.fn x = true ∨ X.env.scope.names.lookup x = some .local := by first | exact .inl rfl | exact .inr rfl | assumption) :
    PS X (.Assign [.Name x pos'] e pos) (tAsg te (gName i)) := by
  intro pins s σ H D I h
  refine wpAny_Assign_Name (thn (he pins s σ H _ I h) fun v s1 ⟨y, H1, I1, r1, q1⟩ => ?_) hs
  exact store_ok I1 hN hi hx r1 (fun s2 I2 => ⟨_, H1, I2, q1⟩) hf
/-- a, b = x, y with plain local names: stored from the right; the pair itself is not tracked (the opening rows as in PyProof/Rows/TupAssign.lean:23) -/
def tPar (i j : Nat) (ta : TA) : TS := fun D σ H => ta σ H fun vs H1 => ∃ v w, vs = [v, w] ∧ D.nx ((σ.set i (some v)).set j (some w)) H1
/-- name op= e -/
def tAug (i : Nat) (te : TE) (ti : TIp) : TS := fun D σ H => ∃ x, σ[i]? = some (some x) ∧ te σ H fun y H1 => ti x y H1 fun z H2 => D.nx (σ.set i (some z)) H2
/-- o[i] op= e -/
def tAugS (to ti te : TE) (tget : V → V → Hp → VK → Prop) (tip : TIp) (tset : TSet) : TS := fun D σ H => to σ H fun o H1 => ti σ H1 fun i H2 => tget o i H2 fun x H3 => te σ H3 fun y H4 => tip x y H4 fun z H5 => tset o i z H5 fun H6 => D.nx σ H6
/-- o[i], by values -/
def PGet (X : Cx) (t : V → V → Hp → VK → Prop) : Prop :=
  ∀ (pins : List (Addr × Obj)) (s : Shared) (σ : St) (H : Hp) (o i : V) (ov iv : Value) (Q : VK), Inv X pins σ H s → RelV o ov → RelV i iv → t o i H Q →
    wpAny (model X.prog X.w) X.A (getItem ov iv) (EP X pins σ Q) X.xe s
/-- ints -/
def ipI (f : Int → Int → Int) : TIp := fun x y H Q => ∃ i j, x = .int i ∧ y = .int j ∧ Q (.int (f i j)) H
end

/-! ### while -/
section
variable {X : Cx} {pos : Pos}
/-- the invariant W with its measure -/
def tWhile (c : TT) (tb : TS) : TS := fun D σ H => ∃ W : Nat → St → Hp → Prop, (∃ m, W m σ H) ∧ ∀ m σ H, W m σ H →
  c σ H fun b H1 => if b = true then ∃ N : St → Hp → Prop, (∀ σ' H', N σ' H' → ∃ m', m' < m ∧ W m' σ' H') ∧ tb { D with nx := N, ct := N, bk := D.nx } σ H1 else D.nx σ H1
end

/-! ### what a loop or a comprehension walks -/
/-- at turn i: it yields x (the heap may grow), or it stops -/
structure It where
  go : Nat → Hp → Prop
  yld : Nat → Hp → V → Hp → Prop
  stop : Nat → Hp → Prop
/-- the iterator's own objects may turn: they are not the frame's, not pinned, younger than the entry (or a comprehension's own) -/
def FpOk (X : Cx) (pins : List (Addr × Obj)) (H : Hp) (b : Addr) : Prop :=
  H b = none ∧ b ≠ X.env.locals ∧ b ∉ X.fs ∧ (b ∈ X.ex ∨ X.s₀.heap.objs.size ≤ b) ∧ (∀ x c, X.env.cells.lookup x = some c → c ≠ b) ∧ ∀ p ∈ X.pn ++ pins, p.1 ≠ b
theorem Inv.fpOk {X : Cx} {pins : List (Addr × Obj)} {σ : St} {H H' : Hp} {s : Shared} {b : Addr} (I : Inv X pins σ H s) (hb : s.heap.objs.size ≤ b) (hn : H' b = none) : FpOk X pins H' b := by
  refine ⟨hn, Nat.ne_of_gt (Nat.lt_of_lt_of_le I.lt hb), I.nofs hb, .inr (Nat.le_trans I.sz hb), fun x c e z => ?_, fun p hp z => ?_⟩
  · obtain ⟨v, q⟩ := I.cell x c e
    exact absurd (Nat.lt_of_lt_of_le q.lt (by rw [z]; exact hb)) (Nat.lt_irrefl _)
  · exact absurd (Nat.lt_of_lt_of_le (Heap.lt_size (I.pin p hp).1) (by rw [z]; exact hb)) (Nat.lt_irrefl _)
structure Turn (P : Program) (w : World) (K : PySem.W.Frag) (tg : Expr) (J : It) (fp : List Addr) (it : Addr) (tn : Nat → Heap → Prop) : Prop where
  mem : it ∈ fp
  obj : ∀ i h, tn i h → ∀ b ∈ fp, ∃ o, h.get? b = some o ∧ ∀ v, o.data ≠ .cell v
  keep : ∀ i h h', tn i h → (∀ b ∈ fp, ∀ o, h.get? b = some o → h'.get? b = some o) → tn i h'
  item : ∀ (X : Cx), X.prog = P → X.w = w → X.K = K → X.calm = true → ∀ (i : Nat) (pins : List (Addr × Obj)) (s : Shared) (σ : St) (H : Hp) (E : Value → Shared → Prop), Inv X pins σ H s → (∀ b ∈ fp, FpOk X pins H b) → tn i s.heap → J.go i H →
    wpAny (model P w) X.A (pyNext (.ref it)) (fun r s1 => ∃ u, r = some u ∧
      wpAny (model P w) X.A (letOwnedTupleGo tg (.ref it) u) (fun _ s2 => ∃ x H', Inv X pins σ H' s2 ∧ RelV x u ∧ J.yld i H x H' ∧ tn (i + 1) s2.heap ∧ ∀ b ∈ fp, H' b = none) E s1) E s
  done : ∀ (X : Cx), X.prog = P → X.w = w → X.K = K → X.calm = true → ∀ (i : Nat) (pins : List (Addr × Obj)) (s : Shared) (σ : St) (H : Hp) (E : Value → Shared → Prop), Inv X pins σ H s → (∀ b ∈ fp, FpOk X pins H b) → tn i s.heap → J.stop i H →
    wpAny (model P w) X.A (pyNext (.ref it)) (fun r s1 => r = none ∧ Inv X pins σ H s1) E s
  self : ∀ (A : Around) (i : Nat) (s : Shared) (Q : Value → Shared → Prop) (E : Value → Shared → Prop), tn i s.heap → Q (.ref it) s → wpAny (model P w) A (pyIter (.ref it)) Q E s
abbrev TI := St → Hp → (It → Hp → Prop) → Prop
/-- an iterator has come -/
def PIE (X : Cx) (pins : List (Addr × Obj)) (σ : St) (tg : Expr) (R : It → Hp → Prop) (itv : Value) (s2 : Shared) : Prop :=
  ∃ (it : Addr) (fp : List Addr) (tn : Nat → Heap → Prop) (J : It) (H' : Hp), itv = .ref it ∧ Inv X pins σ H' s2 ∧ Turn X.prog X.w X.K tg J fp it tn ∧ tn 0 s2.heap ∧ (∀ b ∈ fp, FpOk X pins H' b) ∧ R J H'
def PI (X : Cx) (tg iter : Expr) (wi : TI) : Prop :=
  ∀ (pins : List (Addr × Obj)) (s : Shared) (σ : St) (H : Hp) (R : It → Hp → Prop), Inv X pins σ H s → wi σ H R →
    wpAny (model X.prog X.w) X.A (eval iter X.env) (fun v s1 => wpAny (model X.prog X.w) X.A (pyIter v) (PIE X pins σ tg R) X.xe s1) X.xe s

/-- the step ahead of the store is nothing for an iterator that keeps no tuple -/
theorem go_of {M : Model} {A : Around} {E : Value → Shared → Prop} {s : Shared} {tg : Expr} {it : Addr} {u : Value} {o : Obj} {n : String} {vs : Array Value} {Q : Unit → Shared → Prop} (ho : s.heap.get? it = some o) (hc : o.cls = .type n) (hd : o.data = .fields vs)
    (hn : ["enumerate", "zip", "dict_itemiterator", "dict_reverseitemiterator", "odict_iterator", "itertools.zip_longest", "itertools.pairwise"].contains n = false) (hQ : Q () s) : wpAny M A (letOwnedTupleGo tg (.ref it) u) Q E s := by
  unfold letOwnedTupleGo
  cases tg <;> first
    | exact wpAny_pure hQ
    | (cases u <;> first
        | exact wpAny_pure hQ
        | (refine wpAny_bind (wpAny_load ho ?_)
           rw [hc, hd]
           show wpAny M A (if (["enumerate", "zip", "dict_itemiterator", "dict_reverseitemiterator", "odict_iterator", "itertools.zip_longest", "itertools.pairwise"].contains n && vs[0]? == some (rawInt _)) = true then _ else _) Q E s
           rw [if_neg (by intro h; rw [hn, Bool.false_and] at h; cases h)]
           exact wpAny_pure hQ))

/-- the list at a, as it stands at each turn (a loop may append to it) -/
def Itl (K : PySem.W.Frag) (a : Addr) : It :=
  ⟨fun i H => ∃ xs x, SqL K H a xs ∧ xs[i]? = some x, fun i H x H' => H' = H ∧ ∀ xs, SqL K H a xs → xs[i]? = some x, fun i H => ∃ xs, SqL K H a xs ∧ xs.length ≤ i⟩
def Itt (K : PySem.W.Frag) (a : Addr) : It :=
  ⟨fun i H => ∃ xs x, SqT K H a xs ∧ xs[i]? = some x, fun i H x H' => H' = H ∧ ∀ xs, SqT K H a xs → xs[i]? = some x, fun i H => ∃ xs, SqT K H a xs ∧ xs.length ≤ i⟩
/-- lo, lo + 1, .. (n of them) -/
def Itr (lo : Int) (n : Nat) : It := ⟨fun i _ => i < n, fun i H x H' => H' = H ∧ x = .int (lo + i), fun i _ => n ≤ i⟩
theorem turn_range {P : Program} {w : World} {K : PySem.W.Frag} {tg : Expr} (it : Addr) (lo : Int) (n : Nat) : Turn P w K tg (Itr lo n) [it] it (fun i h => IsRangeIter h it (lo + (i : Nat) * 1) ((n : Int) - (i : Nat)) 1) where
  mem := by simp
  obj := fun i h st b hb => by
    have e : b = it := by simpa using hb
    subst e
    exact ⟨_, st, fun v z => by
      have z' : Data.fields _ = Data.cell v := z
      cases z'⟩
  keep := fun i h h' st k => k it (by simp) _ st
  item := by
    intro X hP hw hK hc i pins s σ H E I hf st hg
    subst hP hw hK
    obtain ⟨f0, f1, f2, f3, f4, f5⟩ := hf it (by simp)
    have W := Walks.range (prog := X.prog) (w := X.w) (I.ok.hd hc) it lo 1 n
    refine W.item i s _ _ hg st fun v h' tk hv st' kk => ?_
    obtain ⟨t, rfl⟩ := hv
    have I1 : Inv X pins σ H { s with heap := h', toks := tk } := I.turned (fun b o hb e => kk b o (by simpa using hb) e) f0 f1 f3 f4 f5
    refine ⟨_, rfl, go_of (s := { s with heap := h', toks := tk }) (n := "range_iterator") st' rfl rfl (by decide) ⟨.int (lo + i), H, I1, ⟨t, ?_⟩, ⟨rfl, rfl⟩, st', fun b hb => (hf b hb).1⟩⟩
    rw [Int.mul_one]
  done := by
    intro X hP hw hK hc i pins s σ H E I hf st hg
    subst hP hw hK
    obtain ⟨f0, f1, f2, f3, f4, f5⟩ := hf it (by simp)
    exact wpAny_pyNext_range_end (I.ok.hd hc) st (by have : n ≤ i := hg; omega) fun h' eb => ⟨rfl, I.turned (t' := s.toks) (fun b o hb e => eb b o hb e) f0 f1 f3 f4 f5⟩
  self := fun _ _ _ _ _ st h => wpAny_pyIter_rangeiter st h
end L2

namespace L2
open PySem PySem.Spec PyProof.Rows
section
variable {X : Cx} {tg : Expr}
def iList (K : PySem.W.Frag) (tl : TE) : TI := fun σ H R => tl σ H fun x H1 => ∃ a, x = .ref a ∧ (∃ xs, SqL K H1 a xs) ∧ R (Itl K a) H1
def iTup (K : PySem.W.Frag) (tl : TE) : TI := fun σ H R => tl σ H fun x H1 => ∃ a, x = .ref a ∧ (∃ xs, SqT K H1 a xs) ∧ R (Itt K a) H1
/-- a range object just made, walked -/
theorem range_it {pins : List (Addr × Obj)} {σ : St} {H : Hp} {s : Shared} {R : It → Hp → Prop} {E : Value → Shared → Prop} {lo hi : Int} {t u v : Tok} {tk : Nat} (I : Inv X pins σ H s) (h1 : -(2 ^ 62) ≤ lo) (h2 : lo < 2 ^ 62) (h3 : -(2 ^ 62) ≤ hi) (h4 : hi < 2 ^ 62)
    (q : R (Itr lo (hi - lo).toNat) H) : wpAny (model X.prog X.w) X.A (pyIter (.ref s.heap.objs.size)) (PIE X pins σ tg R) E { s with heap := s.heap.push { cls := .type "range", data := .fields #[.int lo t, .int hi u, .int 1 v] }, toks := tk } := by
  refine wpAny_pyIter_range (IsRange.new ..) (small_one h1 h2 h3 h4) ?_
  have I1 : Inv X pins σ H { s with heap := s.heap.push { cls := .type "range", data := .fields #[.int lo t, .int hi u, .int 1 v] }, toks := tk } := I.kept fun b o e => Heap.get?_push_of_some _ e
  refine ⟨(s.heap.push { cls := .type "range", data := .fields #[.int lo t, .int hi u, .int 1 v] }).objs.size, [(s.heap.push { cls := .type "range", data := .fields #[.int lo t, .int hi u, .int 1 v] }).objs.size], _, _, H, rfl,
    I1.kept (t' := tk) fun b o e => Heap.get?_push_of_some _ e, turn_range _ lo (hi - lo).toNat, ?_, fun b hb => ?_, q⟩
  · have e1 : lo + ((0 : Nat) : Int) * 1 = lo := by simp
    have e2 : (((hi - lo).toNat : Nat) : Int) - ((0 : Nat) : Int) = Builtin.Range.rangeSize lo hi 1 := by rw [rangeSize_one]; split <;> omega
    show IsRangeIter _ _ (lo + ((0 : Nat) : Int) * 1) ((((hi - lo).toNat : Nat) : Int) - ((0 : Nat) : Int)) 1
    rw [e1, e2]
    exact Heap.get?_push_size _ rfl
  · have e : b = (s.heap.push { cls := .type "range", data := .fields #[.int lo t, .int hi u, .int 1 v] }).objs.size := by simpa using hb
    subst e
    exact I1.fpOk (Nat.le_refl _) (I1.hok.fresh (Nat.le_refl _))
def iRng1 (ta : TA) : TI := fun σ H R => ta σ H fun vs H1 => ∃ j : Int, vs = [.int j] ∧ -(2 ^ 62) ≤ j ∧ j < 2 ^ 62 ∧ R (Itr 0 j.toNat) H1
def iRng2 (ta : TA) : TI := fun σ H R => ta σ H fun vs H1 => ∃ i j : Int, vs = [.int i, .int j] ∧ (-(2 ^ 62) ≤ i ∧ i < 2 ^ 62 ∧ -(2 ^ 62) ≤ j ∧ j < 2 ^ 62) ∧ R (Itr i (j - i).toNat) H1
theorem pi_range1 {a : Expr} {ta : TA} {p pos : Pos} (hg : Gl X "range") (hm : X.mg "range" = none) (ha : PA X [a] ta) (hs : starEach [a] X.env = [(false, eval a X.env)] := by rfl) : PI X tg (.Call (.Name "range" p) [a] [] pos) (iRng1 ta) := by
  intro pins s σ H R I h
  refine Call_ (ld_blt I hg hm boot_range (PyProof.Rows.callWith_type1 (thn (ha pos pins s σ H _ I h) fun us s1 ⟨vs, H1, I1, r1, q1⟩ => ?_) hs rfl))
  obtain ⟨j, e, q1, q2, q⟩ := q1
  subst e
  cases r1 with
  | cons r rr =>
    cases rr
    obtain ⟨t, rfl⟩ := r
    exact call_range_1 (range_it I1 (by omega) (by omega) q1 q2 (by simpa using q))
/-! ### for -/
/-- W: the invariant by the turn and a measure; N: what the body is to reach -/
def tFor (wi : TI) (g : TG) (tb : TS) : TS := fun D σ H => wi σ H fun J H1 => ∃ W : Nat → Nat → St → Hp → Prop, (∃ m, W 0 m σ H1) ∧ ∀ i m σ H, W i m σ H →
  (J.stop i H ∧ D.nx σ H) ∨ (J.go i H ∧ ∃ N : St → Hp → Prop, (∀ σ' H', N σ' H' → ∃ m', m' < m ∧ W (i + 1) m' σ' H') ∧ ∀ x H', J.yld i H x H' → g x σ H' fun σ2 H2 => tb { D with nx := N, ct := N, bk := D.nx } σ2 H2)
/-- the records at fp as they stand -/
def pinsAt (fp : List Addr) (h : Heap) : List (Addr × Obj) := fp.filterMap fun b => (h.get? b).map fun o => (b, o)
theorem mem_pinsAt {fp : List Addr} {h : Heap} {b : Addr} {o : Obj} (hb : b ∈ fp) (e : h.get? b = some o) : (b, o) ∈ pinsAt fp h := List.mem_filterMap.mpr ⟨b, hb, by rw [e]; rfl⟩
theorem of_pinsAt {fp : List Addr} {h : Heap} {p : Addr × Obj} (hp : p ∈ pinsAt fp h) : p.1 ∈ fp ∧ h.get? p.1 = some p.2 := by
  obtain ⟨b, hb, e⟩ := List.mem_filterMap.mp hp
  cases q : h.get? b with
  | none => rw [q] at e; cases e
  | some o =>
    rw [q] at e
    have e' : (b, o) = p := Option.some.inj e
    subst e'
    exact ⟨hb, q⟩
theorem Inv.pinned {pins : List (Addr × Obj)} {σ : St} {H : Hp} {s : Shared} {fp : List Addr} (I : Inv X pins σ H s) (hf : ∀ b ∈ fp, FpOk X pins H b) (ho : ∀ b ∈ fp, ∃ o, s.heap.get? b = some o ∧ ∀ v, o.data ≠ .cell v) : Inv X (pins ++ pinsAt fp s.heap) σ H s :=
  I.pins_of fun p hp => (List.mem_append.mp hp).elim (fun z => I.pin p (List.mem_append_right _ z)) fun z => by
    obtain ⟨hb, e⟩ := of_pinsAt z
    obtain ⟨f0, f1, f2, _⟩ := hf p.1 hb
    obtain ⟨o, e', d⟩ := ho p.1 hb
    rw [e] at e'; cases e'
    exact ⟨e, f0, f1, f2, d⟩
theorem Inv.unpinned {pins pl : List (Addr × Obj)} {σ : St} {H : Hp} {s : Shared} (I : Inv X (pins ++ pl) σ H s) : Inv X pins σ H s := I.pins_of fun p hp => I.pin p (List.mem_append_right _ (List.mem_append_left _ hp))
theorem ps_for {iter : Expr} {body : List Stmt} {wi : TI} {g : TG} {tb : TS} {pos : Pos} (hp : PassesOwn (model X.prog X.w) X.A X.env X.xe) (hc : X.calm = true) (hi : PI X tg iter wi) (hg : PG X tg g) (hb : PSs X body tb)
    (hs : ∀ x, foldedSetIterable iter X.env x = pure x := by intro _; rfl) : PS X (.For tg iter body [] pos) (tFor wi g tb) := by
  intro pins s σ H D I h
  refine wpAny_For (thn (hi pins s σ H _ I h) fun v s1 h1 => thn h1 fun itv s2 h2 => ?_) hs
  obtain ⟨it, fp, tn, J, H2, e, I2, T, st2, f2, W, ⟨m0, w0⟩, turn⟩ := h2
  subst e
  -- what stays true of the iterator's objects through the loop
  have stat : ∀ {H' : Hp}, (∀ b ∈ fp, H' b = none) → ∀ b ∈ fp, FpOk X pins H' b := fun hn b hb => ⟨hn b hb, (f2 b hb).2⟩
  refine codeAny_forLoop_any (fun n s' => ∃ i σ' H', Inv X pins σ' H' s' ∧ tn i s'.heap ∧ (∀ b ∈ fp, H' b = none) ∧ W i n σ' H') ?_ m0 ⟨0, σ, H2, I2, st2, fun b hb => (f2 b hb).1, w0⟩
  rintro n s3 ⟨i, σ3, H3, I3, st3, fr3, w3⟩
  rcases turn i n σ3 H3 w3 with ⟨stop, qn⟩ | ⟨go, N, hN, step⟩
  · refine wpAny_passesOwn hp (thn (T.done X rfl rfl rfl hc i pins s3 σ3 H3 X.xe I3 (stat fr3) st3 stop) fun r s4 ⟨hr, I4⟩ => ?_)
    subst hr
    exact wpAny_execs_nil ⟨σ3, H3, I4, qn⟩
  · refine wpAny_passesOwn hp (thn (T.item X rfl rfl rfl hc i pins s3 σ3 H3 X.xe I3 (stat fr3) st3 go) fun r s4 ⟨u, hr, h4⟩ => ?_)
    subst hr
    refine wpAny_passesOwn hp (thn h4 fun _ s5 ⟨x, H5, I5, r5, y5, st5, fr5⟩ => ?_)
    have I5' := I5.pinned (stat fr5) (T.obj _ _ st5)
    refine wpAny_passesOwn hp (thn (hg _ s5 σ3 H5 x u _ I5' r5 (step x H5 y5)) fun _ s6 ⟨σ6, H6, I6, q6⟩ => ?_)
    refine wpAny_passesOwn hp (thn (hb _ s6 σ6 H6 _ I6 q6) fun f s7 q7 => ?_)
    have again : ∀ {σ7 : St} {H7 : Hp}, Inv X (pins ++ pinsAt fp s5.heap) σ7 H7 s7 → N σ7 H7 → ∃ m, m < n ∧ ∃ i σ' H', Inv X pins σ' H' s7 ∧ tn i s7.heap ∧ (∀ b ∈ fp, H' b = none) ∧ W i m σ' H' := fun {σ7 H7} I7 n7 => by
      obtain ⟨m', hm, w7⟩ := hN σ7 H7 n7
      refine ⟨m', hm, i + 1, σ7, H7, I7.unpinned, T.keep _ _ _ st5 fun b hb o e => (I7.pin (b, o) (List.mem_append_right _ (List.mem_append_right _ (mem_pinsAt hb e)))).1, fun b hb => ?_, w7⟩
      obtain ⟨o, e, d⟩ := T.obj _ _ st5 b hb
      exact (I7.pin (b, o) (List.mem_append_right _ (List.mem_append_right _ (mem_pinsAt hb e)))).2.1
    cases f with
    | next => obtain ⟨σ7, H7, I7, n7⟩ := q7; exact again I7 n7
    | cont => obtain ⟨σ7, H7, I7, n7⟩ := q7; exact again I7 n7
    | brk => obtain ⟨σ7, H7, I7, q7⟩ := q7; exact ⟨σ7, H7, I7.unpinned, q7⟩
    | ret v => obtain ⟨x7, σ7, H7, I7, r7, q7⟩ := q7; exact ⟨x7, σ7, H7, I7.unpinned, r7, q7⟩
end

theorem for_range {lo : Int} {n : Nat} {g : TG} {tb : TS} {D : Ends} {σ : St} {H : Hp} (Pv : Nat → St → Hp → Prop) (h0 : Pv 0 σ H)
    (hs : ∀ i σ H, i < n → Pv i σ H → g (.int (lo + i)) σ H fun σ2 H2 => tb { D with nx := Pv (i + 1), ct := Pv (i + 1), bk := D.nx } σ2 H2) (hd : ∀ σ H, Pv n σ H → D.nx σ H) :
    ∃ W : Nat → Nat → St → Hp → Prop, (∃ m, W 0 m σ H) ∧ ∀ i m σ H, W i m σ H →
      ((Itr lo n).stop i H ∧ D.nx σ H) ∨ ((Itr lo n).go i H ∧ ∃ N : St → Hp → Prop, (∀ σ' H', N σ' H' → ∃ m', m' < m ∧ W (i + 1) m' σ' H') ∧ ∀ x H', (Itr lo n).yld i H x H' → g x σ H' fun σ2 H2 => tb { D with nx := N, ct := N, bk := D.nx } σ2 H2) := by
  refine ⟨fun i m σ H => m = n - i ∧ i ≤ n ∧ Pv i σ H, ⟨n, by simp, Nat.zero_le _, h0⟩, ?_⟩
  rintro i m σ H ⟨rfl, hi, p⟩
  by_cases hlt : i < n
  · refine .inr ⟨hlt, Pv (i + 1), fun σ' H' p' => ⟨n - (i + 1), by omega, rfl, hlt, p'⟩, fun x H' y => ?_⟩
    obtain ⟨e, y⟩ := y
    subst e y
    exact hs i σ _ hlt p
  · have e : i = n := by omega
    subst e
    exact .inl ⟨Nat.le_refl _, hd σ H p⟩
end L2

namespace L2
open PySem PySem.Spec PyProof.Rows

abbrev R2 := V → V → Hp → VK → Prop
/-- a two-place operation on values: f is binaryOp op, inplaceOp op or compareOp op -/
def OpR (X : Cx) (f : Value → Value → Sem Value) (r : R2) : Prop :=
  ∀ (pins : List (Addr × Obj)) (s : Shared) (σ : St) (H : Hp) (x y : V) (v u : Value) (Q : VK), Inv X pins σ H s → RelV x v → RelV y u → r x y H Q →
    wpAny (model X.prog X.w) X.A (f v u) (EP X pins σ Q) X.xe s
/-- a one-place operation -/
def UnR (X : Cx) (f : Value → Sem Value) (r : V → Hp → VK → Prop) : Prop :=
  ∀ (pins : List (Addr × Obj)) (s : Shared) (σ : St) (H : Hp) (x : V) (v : Value) (Q : VK), Inv X pins σ H s → RelV x v → r x H Q →
    wpAny (model X.prog X.w) X.A (f v) (EP X pins σ Q) X.xe s
/-- a call of a value that is known (a builtin, a type) with values -/
def CallR (X : Cx) (f : Value) (r : List V → Hp → VK → Prop) : Prop :=
  ∀ (pins : List (Addr × Obj)) (s : Shared) (σ : St) (H : Hp) (xs : List V) (us : List Value) (Q : VK), Inv X pins σ H s → Vals xs us → r xs H Q →
    wpAny (model X.prog X.w) X.A (call f us) (EP X pins σ Q) X.xe s
/-- a value's truth -/
def TruR (X : Cx) (r : V → Hp → (Bool → Hp → Prop) → Prop) : Prop :=
  ∀ (pins : List (Addr × Obj)) (s : Shared) (σ : St) (H : Hp) (x : V) (v : Value) (Q : Bool → Hp → Prop), Inv X pins σ H s → RelV x v → r x H Q →
    wpAny (model X.prog X.w) X.A (truthy v) (TP X pins σ Q) X.xe s

def tOp (r : R2) (ta tb : TE) : TE := fun σ H Q => ta σ H fun x H1 => tb σ H1 fun y H2 => r x y H2 Q
def tUn (r : V → Hp → VK → Prop) (ta : TE) : TE := fun σ H Q => ta σ H fun x H1 => r x H1 Q
/-- ints in, under C, and a value out -/
def rI (C : Int → Int → Prop) (g : Int → Int → V) : R2 := fun x y H Q => ∃ i j, x = .int i ∧ y = .int j ∧ C i j ∧ Q (g i j) H
def rI0 (g : Int → Int → V) : R2 := fun x y H Q => ∃ i j, x = .int i ∧ y = .int j ∧ Q (g i j) H
def rU (g : Int → V) : V → Hp → VK → Prop := fun x H Q => ∃ i, x = .int i ∧ Q (g i) H

section
variable {X : Cx} {a b c : Expr} {ta tb tc : TE} {pos : Pos}

theorem binT (ha : PE X a ta) (hb : PE X b tb) {pins : List (Addr × Obj)} {s : Shared} {σ : St} {H : Hp} {R : V → V → Hp → Prop} (I : Inv X pins σ H s)
    (h : ta σ H fun x H1 => tb σ H1 fun y H2 => R x y H2) {Q : Value → Shared → Prop} {f : Value → Value → Sem Value}
    (hf : ∀ v u s2 x y H2, Inv X pins σ H2 s2 → RelV x v → RelV y u → R x y H2 → wpAny (model X.prog X.w) X.A (f v u) Q X.xe s2) :
    wpAny (model X.prog X.w) X.A (eval a X.env) (fun v s₁ => wpAny (model X.prog X.w) X.A (eval b X.env) (fun u s₂ => wpAny (model X.prog X.w) X.A (f v u) Q X.xe s₂) X.xe s₁) X.xe s := by
  refine thn (ha pins s σ H _ I h) fun v s1 ⟨x, H1, I1, r1, q1⟩ => ?_
  refine thn (hb pins s1 σ H1 _ I1 q1) fun u s2 ⟨y, H2, I2, r2, q2⟩ => ?_
  exact hf v u s2 x y H2 I2 r1 r2 q2

theorem pe_op {op : Operator} {r : R2} (ho : OpR X (binaryOp op) r) (ha : PE X a ta) (hb : PE X b tb) : PE X (.BinOp a op b pos) (tOp r ta tb) := by
  intro pins s σ H Q I h
  exact wpAny_BinOp (binT ha hb I h fun v u s2 x y H2 I2 rx ry q => ho pins s2 σ H2 x y v u Q I2 rx ry q)
theorem pe_un {op : UnaryOp} {r : V → Hp → VK → Prop} (ho : UnR X (unaryOp op) r) (ha : PE X a ta) : PE X (.UnaryOp op a pos) (tUn r ta) := by
  intro pins s σ H Q I h
  exact UnaryOp_ (thn (ha pins s σ H _ I h) fun v s1 ⟨x, H1, I1, r1, q1⟩ => ho pins s1 σ H1 x v Q I1 r1 q1)
/-! ### ints -/
theorem opI {f : Value → Value → Sem Value} {C : Int → Int → Prop} {g : Int → Int → Int}
    (rule : ∀ (i j : Int) (t u : Tok) (s : Shared) (Q : Value → Shared → Prop) (E : Value → Shared → Prop), C i j → Q (.int (g i j) s.toks) { s with toks := s.toks + 1 } → wpAny (model X.prog X.w) X.A (f (.int i t) (.int j u)) Q E s) :
    OpR X f (rI C fun i j => .int (g i j)) := by
  intro pins s σ H x y v u Q I rx ry h
  obtain ⟨i, j, rfl, rfl, hc, q⟩ := h
  obtain ⟨t, rfl⟩ := rx
  obtain ⟨t', rfl⟩ := ry
  exact rule i j t t' s _ _ hc ⟨.int (g i j), H, I.tok _, ⟨_, rfl⟩, q⟩
theorem opI0 {f : Value → Value → Sem Value} {g : Int → Int → Int}
    (rule : ∀ (i j : Int) (t u : Tok) (s : Shared) (Q : Value → Shared → Prop) (E : Value → Shared → Prop), Q (.int (g i j) s.toks) { s with toks := s.toks + 1 } → wpAny (model X.prog X.w) X.A (f (.int i t) (.int j u)) Q E s) :
    OpR X f (rI0 fun i j => .int (g i j)) := by
  intro pins s σ H x y v u Q I rx ry h
  obtain ⟨i, j, rfl, rfl, q⟩ := h
  obtain ⟨t, rfl⟩ := rx
  obtain ⟨t', rfl⟩ := ry
  exact rule i j t t' s _ _ ⟨.int (g i j), H, I.tok _, ⟨_, rfl⟩, q⟩
theorem opB0 {f : Value → Value → Sem Value} {g : Int → Int → Bool}
    (rule : ∀ (i j : Int) (t u : Tok) (s : Shared) (Q : Value → Shared → Prop) (E : Value → Shared → Prop), Q (.bool (g i j)) s → wpAny (model X.prog X.w) X.A (f (.int i t) (.int j u)) Q E s) :
    OpR X f (rI0 fun i j => .bl (g i j)) := by
  intro pins s σ H x y v u Q I rx ry h
  obtain ⟨i, j, rfl, rfl, q⟩ := h
  obtain ⟨t, rfl⟩ := rx
  obtain ⟨t', rfl⟩ := ry
  exact rule i j t t' s _ _ ⟨.bl (g i j), H, I, rfl, q⟩

def CDiv (i j : Int) : Prop := 0 < j ∧ j < 1073741824
def CDivN (i j : Int) : Prop := j ≠ 0 ∧ j.natAbs < 1073741824
def CPow (i j : Int) : Prop := 0 ≤ j ∧ j ≤ 1000000 ∧ i.natAbs < 2 ^ 64
def CMul (i j : Int) : Prop := (-(2 ^ 64) < i ∧ i < 2 ^ 64) ∨ (-(2 ^ 64) < j ∧ j < 2 ^ 64)
theorem CMul.ok {i j : Int} (h : CMul i j) : IntMulOk i j := by
  rcases h with ⟨h1, h2⟩ | ⟨h1, h2⟩
  · exact .of_left (intBits_le_64 h1 h2)
  · exact .of_right (intBits_le_64 h1 h2)
theorem op_add : OpR X (binaryOp .Add) (rI0 fun i j => .int (i + j)) := opI0 fun _ _ _ _ _ _ _ q => add_int q
theorem op_sub : OpR X (binaryOp .Sub) (rI0 fun i j => .int (i - j)) := opI0 fun _ _ _ _ _ _ _ q => sub_int q
theorem op_mul : OpR X (binaryOp .Mult) (rI CMul fun i j => .int (i * j)) := opI fun _ _ _ _ _ _ _ hc q => mul_int q hc.ok
/-- // by a positive divisor -/
theorem op_fdiv : OpR X (binaryOp .FloorDiv) (rI CDiv fun i j => .int (i / j)) := opI fun i j _ _ _ _ _ hc q => by
  have h1 : (0 : Int) < j := hc.1
  have h2 : j < 1073741824 := hc.2
  exact floordiv_int (by omega) (by rw [Int.fdiv_eq_ediv_of_nonneg i (by omega)]; exact q) (.inl (PyProof.noPylong_small (by omega)))
/-- % by a positive divisor of any size -/
theorem op_mod : OpR X (binaryOp .Mod) (rI (fun _ j => 0 < j) fun i j => .int (i % j)) := opI fun i j _ _ _ _ _ hc q => by
  have h1 : (0 : Int) < j := hc
  exact mod_int' (by omega) (by rw [Int.fmod_eq_emod_of_nonneg i (by omega)]; exact q)
theorem op_pow : OpR X (binaryOp .Pow) (rI CPow fun i j => .int (i ^ j.toNat)) := opI fun _ _ _ _ _ _ _ hc q => pow_int_small hc.1 hc.2.1 hc.2.2 q
theorem unI {f : Value → Sem Value} {g : Int → Int}
    (rule : ∀ (i : Int) (t : Tok) (s : Shared) (Q : Value → Shared → Prop) (E : Value → Shared → Prop), Q (.int (g i) s.toks) { s with toks := s.toks + 1 } → wpAny (model X.prog X.w) X.A (f (.int i t)) Q E s) :
    UnR X f (rU fun i => .int (g i)) := by
  intro pins s σ H x v Q I rx h
  obtain ⟨i, rfl, q⟩ := h
  obtain ⟨t, rfl⟩ := rx
  exact rule i t s _ _ ⟨.int (g i), H, I.tok _, ⟨_, rfl⟩, q⟩
theorem un_neg : UnR X (unaryOp .USub) (rU fun i => .int (-i)) := unI fun _ _ _ _ _ q => neg_int q
end

/-! ### comparisons -/
/-- the scalars that == tells apart as data does -/
def scal : V → V → Bool
  | .non, .non => true | .non, .int _ => true | .int _, .non => true | .non, .bl _ => true | .bl _, .non => true | .non, .str _ => true | .str _, .non => true
  | .int _, .int _ => true | .bl _, .bl _ => true | .str _, .str _ => true | .byt _, .byt _ => true
  | .int _, .str _ => true | .str _, .int _ => true | .bl _, .str _ => true | .str _, .bl _ => true
  | _, _ => false
def rEq : R2 := fun x y H Q => scal x y = true ∧ Q (.bl (decide (x = y))) H
def rNe : R2 := fun x y H Q => scal x y = true ∧ Q (.bl (!decide (x = y))) H

theorem dec_int {i j : Int} : decide (V.int i = V.int j) = (i == j) := by
  rw [Bool.eq_iff_iff]
  simp
theorem dec_bl {i j : Bool} : decide (V.bl i = V.bl j) = (i == j) := by
  rw [Bool.eq_iff_iff]
  simp
theorem dec_str {i j : Str} : decide (V.str i = V.str j) = (i == j) := by
  rw [Bool.eq_iff_iff]
  simp
theorem dec_byt {i j : Array UInt8} : decide (V.byt i = V.byt j) = (i.toList == j.toList) := by
  rw [Bool.eq_iff_iff]
  cases i
  cases j
  simp

section
variable {X : Cx} {a b c : Expr} {ta tb tc : TE} {pos : Pos}
theorem fin_bl {pins : List (Addr × Obj)} {σ : St} {H : Hp} {s : Shared} {Q : VK} {k k' : Bool} (I : Inv X pins σ H s) (q : Q (.bl k) H) (e : k = k') : EP X pins σ Q (.bool k') s := by
  subst e
  exact ⟨.bl k, H, I, rfl, q⟩
theorem op_eq : OpR X (compareOp .Eq) rEq := by
  intro pins s σ H x y v u Q I rx ry h
  obtain ⟨hs, q⟩ := h
  cases x with
  | non =>
    cases rx
    cases y with
    | non => cases ry; exact PySem.EqNone.eq_none_none (fin_bl I q (by simp))
    | bl j => cases ry; exact PySem.EqNone.eq_none_bool (fin_bl I q (by simp))
    | int j => obtain ⟨t', rfl⟩ := ry; exact PySem.EqNone.eq_none_int (fin_bl I q (by simp))
    | str j => obtain ⟨t', rfl⟩ := ry; exact PySem.EqNone.eq_none_str (fin_bl I q (by simp))
    | _ => exact absurd (show false = true from hs) Bool.false_ne_true
  | bl i =>
    cases rx
    cases y with
    | non => cases ry; exact PySem.EqNone.eq_bool_none (fin_bl I q (by simp))
    | bl j => cases ry; exact eq_bool (fin_bl I q dec_bl)
    | str j => obtain ⟨t', rfl⟩ := ry; exact PySem.EqMixed.eq_bool_str (fin_bl I q (by simp))
    | _ => exact absurd (show false = true from hs) Bool.false_ne_true
  | int i =>
    obtain ⟨t, rfl⟩ := rx
    cases y with
    | non => cases ry; exact PySem.EqNone.eq_int_none (fin_bl I q (by simp))
    | int j => obtain ⟨t', rfl⟩ := ry; exact eq_int (fin_bl I q dec_int)
    | str j => obtain ⟨t', rfl⟩ := ry; exact PySem.EqMixed.eq_int_str (fin_bl I q (by simp))
    | _ => exact absurd (show false = true from hs) Bool.false_ne_true
  | str i =>
    obtain ⟨t, rfl⟩ := rx
    cases y with
    | non => cases ry; exact PySem.EqNone.eq_str_none (fin_bl I q (by simp))
    | bl j => cases ry; exact PySem.EqMixed.eq_str_bool (fin_bl I q (by simp))
    | int j => obtain ⟨t', rfl⟩ := ry; exact PySem.EqMixed.eq_str_int (fin_bl I q (by simp))
    | str j => obtain ⟨t', rfl⟩ := ry; exact eq_str (fin_bl I q dec_str)
    | _ => exact absurd (show false = true from hs) Bool.false_ne_true
  | byt i =>
    obtain ⟨t, rfl⟩ := rx
    cases y with
    | byt j => obtain ⟨t', rfl⟩ := ry; exact PySem.W.eq_bytes (fin_bl I q dec_byt)
    | _ => exact absurd (show false = true from hs) Bool.false_ne_true
  | _ => cases y <;> exact absurd (show false = true from hs) Bool.false_ne_true
theorem op_ne : OpR X (compareOp .NotEq) rNe := by
  intro pins s σ H x y v u Q I rx ry h
  obtain ⟨hs, q⟩ := h
  cases x with
  | non =>
    cases rx
    cases y with
    | non => cases ry; exact PySem.EqNone.ne_none_none (fin_bl I q (by simp))
    | bl j => cases ry; exact PySem.EqNone.ne_none_bool (fin_bl I q (by simp))
    | int j => obtain ⟨t', rfl⟩ := ry; exact PySem.EqNone.ne_none_int (fin_bl I q (by simp))
    | str j => obtain ⟨t', rfl⟩ := ry; exact PySem.EqNone.ne_none_str (fin_bl I q (by simp))
    | _ => exact absurd (show false = true from hs) Bool.false_ne_true
  | bl i =>
    cases rx
    cases y with
    | non => cases ry; exact PySem.EqNone.ne_bool_none (fin_bl I q (by simp))
    | bl j => cases ry; exact ne_bool (fin_bl I q (congrArg not dec_bl))
    | str j => obtain ⟨t', rfl⟩ := ry; exact PySem.EqMixed.ne_bool_str (fin_bl I q (by simp))
    | _ => exact absurd (show false = true from hs) Bool.false_ne_true
  | int i =>
    obtain ⟨t, rfl⟩ := rx
    cases y with
    | non => cases ry; exact PySem.EqNone.ne_int_none (fin_bl I q (by simp))
    | int j => obtain ⟨t', rfl⟩ := ry; exact ne_int (fin_bl I q (congrArg not dec_int))
    | str j => obtain ⟨t', rfl⟩ := ry; exact PySem.EqMixed.ne_int_str (fin_bl I q (by simp))
    | _ => exact absurd (show false = true from hs) Bool.false_ne_true
  | str i =>
    obtain ⟨t, rfl⟩ := rx
    cases y with
    | non => cases ry; exact PySem.EqNone.ne_str_none (fin_bl I q (by simp))
    | bl j => cases ry; exact PySem.EqMixed.ne_str_bool (fin_bl I q (by simp))
    | int j => obtain ⟨t', rfl⟩ := ry; exact PySem.EqMixed.ne_str_int (fin_bl I q (by simp))
    | str j => obtain ⟨t', rfl⟩ := ry; exact ne_str (fin_bl I q (congrArg not dec_str))
    | _ => exact absurd (show false = true from hs) Bool.false_ne_true
  | byt i =>
    obtain ⟨t, rfl⟩ := rx
    cases y with
    | byt j => obtain ⟨t', rfl⟩ := ry; exact PySem.W.ne_bytes (fin_bl I q (congrArg not dec_byt))
    | _ => exact absurd (show false = true from hs) Bool.false_ne_true
  | _ => cases y <;> exact absurd (show false = true from hs) Bool.false_ne_true

theorem op_lt : OpR X (compareOp .Lt) (rI0 fun i j => .bl (decide (i < j))) := opB0 fun _ _ _ _ _ _ _ q => lt_int q
theorem op_le : OpR X (compareOp .LtE) (rI0 fun i j => .bl (decide (i ≤ j))) := opB0 fun _ _ _ _ _ _ _ q => le_int q
theorem op_gt : OpR X (compareOp .Gt) (rI0 fun i j => .bl (decide (j < i))) := opB0 fun _ _ _ _ _ _ _ q => gt_int q
/-- is, is not of two objects that are tracked lists or instances -/
def isObj : HO → Bool
  | .lst _ => true
  | .ins _ _ _ => true
  | _ => false
/-- two rules for one operation: by cases -/
theorem OpR.or {f : Value → Value → Sem Value} {r r' : R2} (h : OpR X f r) (h' : OpR X f r') : OpR X f (fun x y H Q => r x y H Q ∨ r' x y H Q) := by
  intro pins s σ H x y v u Q I rx ry q
  rcases q with q | q
  · exact h pins s σ H x y v u Q I rx ry q
  · exact h' pins s σ H x y v u Q I rx ry q

theorem nomark (b : Expr) {op : CmpOp} (h : op ≠ .In := by decide) (h2 : op ≠ .NotIn := by decide) : behindInMarks op b = false := by
  have e1 : (op == CmpOp.In) = false := by cases op <;> first | rfl | exact absurd rfl h
  have e2 : (op == CmpOp.NotIn) = false := by cases op <;> first | rfl | exact absurd rfl h2
  cases b <;> simp [behindInMarks, e1, e2]
/-- a comparison as a value; hm: nomark b, or (for in, not in) by with_unfolding_all rfl -/
theorem pe_cmpR {op : CmpOp} {r : R2} (ho : OpR X (compareOp op) r) (ha : PE X a ta) (hb : PE X b tb) (hm : behindInMarks op b = false) : PE X (.Compare a [op] [b] pos) (tOp r ta tb) := by
  intro pins s σ H Q I h
  exact wpAny_Compare1 (binT ha hb I h fun v u s2 x y H2 I2 rx ry q => ho pins s2 σ H2 x y v u Q I2 rx ry q) hm
/-- a reading of a value as a test -/
def tTest (t : TE) : TT := fun σ H Q => t σ H fun x H' => ∃ k, x = .bl k ∧ Q k H'
theorem pt_cmpR {op : CmpOp} {r : R2} (ho : OpR X (compareOp op) r) (ha : PE X a ta) (hb : PE X b tb) (hm : behindInMarks op b = false) : PT X (.Compare a [op] [b] pos) (tTest (tOp r ta tb)) := by
  intro pins s σ H Q I h
  refine wpAny_isTrue_Compare1 (thn (ha pins s σ H _ I h) fun v s1 ⟨x, H1, I1, r1, q1⟩ => thn (hb pins s1 σ H1 _ I1 q1) fun u s2 ⟨y, H2, I2, r2, q2⟩ =>
    thn (ho pins s2 σ H2 x y v u _ I2 r1 r2 q2) fun c s3 ⟨z, H3, I3, r3, k, e, q3⟩ => ?_) hm
  subst e
  cases r3
  exact wpAny_truthy_bool ⟨H3, I3, q3⟩
/-- a op1 b op2 c -/
def tChain (r r' : R2) (ta tb tc : TE) : TE := fun σ H Q => ta σ H fun x H1 => tb σ H1 fun y H2 => r x y H2 fun z H3 => ∃ k, z = .bl k ∧
  (if k = true then tc σ H3 fun w' H4 => r' y w' H4 Q else Q (.bl false) H3)
theorem pe_chain {op op' : CmpOp} {r r' : R2} (ho : OpR X (compareOp op) r) (ho' : OpR X (compareOp op') r') (ha : PE X a ta) (hb : PE X b tb) (hc : PE X c tc)
    (hm : lastMarks [op, op'] [b, c] = false := by with_unfolding_all rfl) : PE X (.Compare a [op, op'] [b, c] pos) (tChain r r' ta tb tc) := by
  intro pins s σ H Q I h
  refine Compare_chain (thn (ha pins s σ H _ I h) fun v s1 ⟨x, H1, I1, r1, q1⟩ => chain_link (thn (hb pins s1 σ H1 _ I1 q1) fun u s2 ⟨y, H2, I2, r2, q2⟩ =>
    thn (ho pins s2 σ H2 x y v u _ I2 r1 r2 q2) fun d s3 ⟨z, H3, I3, r3, k, e, q3⟩ => ?_)) hm
  subst e
  cases r3
  refine wpAny_truthy_bool ?_
  cases k with
  | false => exact ite_ff ⟨.bl false, H3, I3, rfl, q3⟩
  | true => exact ite_tt (chain_last (thn (hc pins s3 σ H3 _ I3 q3) fun w' s4 ⟨z', H4, I4, r4, q4⟩ => ho' pins s4 σ H4 y z' u w' Q I4 r2 r4 q4))
/-! ### truth -/
/-- a value's truth by the abstract heap -/
def TruV (K : PySem.W.Frag) (x : V) (H : Hp) (k : Bool) : Prop :=
  match x with
  | .non => k = false
  | .bl b => k = b
  | .int i => k = (i != 0)
  | .str y => y.length ≤ sizeLine ∧ k = ((y.length : Int) != 0)
  | .byt y => y.size ≤ sizeLine ∧ k = ((y.size : Int) != 0)
  | .ref p => (∃ xs, SqL K H p xs ∧ k = !xs.isEmpty) ∨ (∃ xs, SqT K H p xs ∧ k = !xs.isEmpty) ∨ ∃ kvs, H p = some (.dK kvs) ∧ k = !kvs.isEmpty
  | _ => False
theorem line63 : (sizeLine : Nat) < 2 ^ 63 := by rw [sizeLine_eq]; decide
def PlainIxT (b : Expr) : Prop := ∀ o i, subscripted b false o i = operate [o, i] (getItem o i)
/-! ### scalar builtins, by CallR -/
theorem vals1 {x : V} {us : List Value} (r : Vals [x] us) : ∃ u, us = [u] ∧ RelV x u := by
  cases r with
  | cons r1 r2 => cases r2; exact ⟨_, rfl, r1⟩
theorem vals2 {x y : V} {us : List Value} (r : Vals [x, y] us) : ∃ u w', us = [u, w'] ∧ RelV x u ∧ RelV y w' := by
  cases r with
  | cons r1 r2 =>
    cases r2 with
    | cons r3 r4 => cases r4; exact ⟨_, _, rfl, r1, r3⟩
theorem call_max2 (hc : X.calm = true) : CallR X (.builtin "max") (fun xs H Q => ∃ i j, xs = [.int i, .int j] ∧ Q (.int (if j > i then j else i)) H) := by
  intro pins s σ H xs us Q I r h
  obtain ⟨i, j, rfl, q⟩ := h
  obtain ⟨u, w', rfl, ⟨t, rfl⟩, ⟨t', rfl⟩⟩ := vals2 r
  refine max_two_ints (I.ok.hd hc) fun h' tk k => ⟨_, H, I.kept k, ?_, q⟩
  by_cases hj : j > i
  · rw [if_pos hj, if_pos hj]; exact ⟨_, rfl⟩
  · rw [if_neg hj, if_neg hj]; exact ⟨_, rfl⟩
theorem call_min2 (hc : X.calm = true) : CallR X (.builtin "min") (fun xs H Q => ∃ i j, xs = [.int i, .int j] ∧ Q (.int (if j < i then j else i)) H) := by
  intro pins s σ H xs us Q I r h
  obtain ⟨i, j, rfl, q⟩ := h
  obtain ⟨u, w', rfl, ⟨t, rfl⟩, ⟨t', rfl⟩⟩ := vals2 r
  refine min_two_ints (I.ok.hd hc) fun h' tk k => ⟨_, H, I.kept k, ?_, q⟩
  by_cases hj : j < i
  · rw [if_pos hj, if_pos hj]; exact ⟨_, rfl⟩
  · rw [if_neg hj, if_neg hj]; exact ⟨_, rfl⟩
theorem call_int1 : CallR X (.type "int") (fun xs H Q => (∃ i, xs = [.int i] ∧ Q (.int i) H) ∨ ∃ k, xs = [.bl k] ∧ Q (.int (if k then 1 else 0)) H) := by
  intro pins s σ H xs us Q I r h
  rcases h with ⟨i, rfl, q⟩ | ⟨k, rfl, q⟩
  · obtain ⟨u, rfl, t, rfl⟩ := vals1 r
    exact call_int_int ⟨.int i, H, I, ⟨_, rfl⟩, q⟩
  · obtain ⟨u, rfl, r1⟩ := vals1 r
    cases r1
    exact call_int_bool ⟨.int (if k then 1 else 0), H, I.tok _, ⟨_, rfl⟩, q⟩
/-- len of a str, a bytes, a list, a tuple -/
def LenV (K : PySem.W.Frag) (x : V) (H : Hp) (n : Nat) : Prop :=
  match x with
  | .str y => y.length ≤ sizeLine ∧ n = y.length
  | .byt y => y.size ≤ sizeLine ∧ n = y.size
  | .ref p => (∃ xs, SqL K H p xs ∧ n = xs.length) ∨ ∃ xs, SqT K H p xs ∧ n = xs.length
  | _ => False
end
end L2

namespace L2
open PySem PySem.Spec PyProof.Rows

/-! ### an instance, its attributes a map -/
structure ObjM (h : Heap) (x dx C : Addr) (mA : Str → Option Value) : Prop where
  obj : h.get? x = some (PySem.W.instObj C dx)
  ns : h.Ns1 dx mA
  ne : dx ≠ x

theorem lookIn_ns {h : Heap} {dx : Addr} {mA : Str → Option Value} (n : h.Ns1 dx mA) : ∃ od, h.get? dx = some od ∧ ∀ name, PySem.W.lookIn name od = some (mA name) := by
  obtain ⟨o, es, ep, ho, hd, hk, _, hm⟩ := n
  refine ⟨o, ho, fun name => ?_⟩
  have e := hm name
  unfold nsFind findBy at e
  rw [← Array.find?_toList] at e
  unfold PySem.W.lookIn
  rw [hd]
  dsimp only
  split
  · rename_i y q
    rw [q] at e
    exact congrArg some e
  · rename_i q
    rw [q] at e
    have a : es.toList.any (·.refKey) = false := by
      rw [List.any_eq_false]
      intro y hy
      obtain ⟨z, t, hkey⟩ := hk y (Array.mem_toList_iff.mp hy)
      simp [DictEntry.refKey, hkey]
    have a' : ¬ es.toList.any (·.refKey) = true := by rw [a]; exact Bool.false_ne_true
    rw [if_neg a']
    exact congrArg some e

theorem ObjM.look {h : Heap} {x dx C : Addr} {mA : Str → Option Value} (I : ObjM h x dx C mA) : ∃ od, PySem.W.InstAt h x (PySem.W.instObj C dx) C (some od) ∧ ∀ name, PySem.W.lookIn name od = some (mA name) :=
  let ⟨od, ho, hl⟩ := lookIn_ns I.ns
  ⟨od, ⟨I.obj, rfl, rfl, ho⟩, hl⟩

section
variable {prog : Program} {w : World} {A : Around} {E : Value → Shared → Prop} {s : Shared} {K : PySem.W.Frag} {x dx C f : Addr} {mA : Str → Option Value} {name : Str} {v : Value}

theorem get_map {expr : Bool} {Q : Value → Shared → Prop} (X : K.In s.heap) (I : ObjM s.heap x dx C mA) (hg : PySem.W.plainGet K C name = true) (hh : PySem.W.hasDictIn K C = true)
    (ha : PySem.W.findIn K (.ref C) name = some none) (hv : mA name = some v) (hv' : PySem.W.handedIn v = true) (h : Q v { s with toks := s.toks + 1 }) :
    wpAny (model prog w) A (getAttr (.ref x) name expr) Q E s := by
  obtain ⟨od, J, hl⟩ := I.look
  exact PySem.W.get_value X J (PySem.W.plainGet_of hg).1 (PySem.W.findObj_own hh ha rfl (by rw [hl, hv])) hv' h

theorem get_meth {pl : Sem Bool} {Q : Value × List Value → Shared → Prop} (X : K.In s.heap) (I : ObjM s.heap x dx C mA) (hg : PySem.W.plainGet K C name = true)
    (hf : PySem.W.findIn K (.ref C) name = some (some (.ref f))) (ht : PySem.W.isFn K (.ref f) = true) (hv : mA name = none) (h : Q (.ref f, [.ref x]) s) :
    wpAny (model prog w) A (getMethod (.ref x) name pl) Q E s := by
  obtain ⟨od, J, hl⟩ := I.look
  exact PySem.W.method_fn X J (PySem.W.plainGet_of hg).1 (PySem.W.plainGet_of hg).2 hf (beq_iff_eq.mp ht) (by show (PySem.W.lookIn name od).map (·.isSome) = some false; rw [hl, hv]; rfl) h

theorem set_map {ns : List Str} {Q : Unit → Shared → Prop} (X : K.In s.heap) (I : ObjM s.heap x dx C mA)
    (hs : PySem.W.findIn K (.ref C) "__setattr__" = some (some (.builtin "object.__setattr__"))) (hp : PySem.W.plainOver K C = true) (ht : PySem.W.takerIn K C name = some none) (hh : PySem.W.hasDictIn K C = true)
    (hw : PySem.Within mA ns) (hsz : ns.length ≤ sizeLine)
    (h : ∀ h', ObjM h' x dx C (fun y => if y = name then some v else mA y) → Heap.SameBut dx s.heap h' → Q () { s with heap := h', toks := s.toks + 2 }) :
    wpAny (model prog w) A (setAttr (.ref x) name v) Q E s := by
  obtain ⟨od, J, hl⟩ := I.look
  refine PySem.W.set_plain X J hs (PySem.W.osa_open (s := { s with toks := s.toks + 1 }) (r := none) X J hp ht fun b => ?_)
  obtain ⟨cd, hc, hd'⟩ := PySem.W.any_some hh
  have hx : s.heap.get? x = some ⟨.ref C, some dx, .plain, #[]⟩ := I.obj
  refine wpAny_bind (wpAny_pure (wpAny_bind (wpAny_bind (wpAny_loadPart hx (wpAny_bind (PySem.W.Looks.here (s := { s with toks := s.toks + 1 }) (PySem.W.looks_clsIn X hc) ?_))))))
  rw [hd']
  refine wpAny_pure (a := some dx) (wpAny_bind (wpAny_pure (wpAny_bind ?_)))
  refine wpAny_nsSet1 (s := { s with toks := s.toks + 1 }) I.ns fun h' hn2 hs2 => ?_
  obtain ⟨oD, esD, epD, hoD, hdD, hcD⟩ := hn2.count (PySem.Within.cons name v hw)
  refine wpAny_bind (wpAny_lookBehind hoD (by rw [hdD]; exact pastItsLine_dict (Nat.le_trans hcD (by rw [List.length_cons]; omega))) ?_)
  exact wpAny_pure (h _ ⟨(hs2.2 _ (Ne.symm I.ne)).trans I.obj, hn2, I.ne⟩ hs2)

/-- C(..): the dict at the heap's end, the instance behind it; then its __init__ -/
theorem make_map {R : Result → Shared → Prop} {vs : List Value} {kw : List (Str × Value)} (X : K.In s.heap) (hm : PySem.W.makesIn K C = true)
    (hi : PySem.W.findIn K (.ref C) "__init__" = some (some (.ref f))) (hf : PySem.W.typeIn K (.ref f) = some (.type "function"))
    (h : codeAny (model prog w) (A.under (.builtin "type.__call__" ⟨.ref C :: vs, kw⟩)) (.call (.ref f) ⟨.ref (s.heap.objs.size + 1) :: vs, kw⟩) (PySem.W.InitBack (s.heap.objs.size + 1) R)
      { s with heap := (s.heap.push PySem.W.emptyDict).push (PySem.W.instObj C s.heap.objs.size) }) :
    codeAny (model prog w) A (.call (.ref C) ⟨vs, kw⟩) R s := by
  obtain ⟨hh, g, d, t, os⟩ := s
  exact PySem.W.make_core (PySem.W.makes_of X hm) (PySem.W.looks_findIn X hi) (fun self => PySem.W.bind_fn X self hf) (.inl rfl) h
end

/-! ### the attributes as a list of pairs -/
def putF (f : Str) (v : V) : List (Str × V) → List (Str × V)
  | [] => [(f, v)]
  | (g, x) :: r => if g = f then (g, v) :: r else (g, x) :: putF f v r
theorem lookup_putF (f g : Str) (v : V) : ∀ fs : List (Str × V), (putF f v fs).lookup g = if g = f then some v else fs.lookup g
  | [] => by
    show List.lookup g [(f, v)] = _
    by_cases h : g = f
    · have hb : (g == f) = true := beq_iff_eq.mpr h
      simp only [List.lookup, hb, if_pos h]
    · have hb : (g == f) = false := beq_eq_false_iff_ne.mpr h
      simp only [List.lookup, hb, if_neg h]
  | (k, x) :: r => by
    have ih := lookup_putF f g v r
    rw [show putF f v ((k, x) :: r) = (if k = f then (k, v) :: r else (k, x) :: putF f v r) from rfl]
    by_cases hk : k = f
    · rw [if_pos hk]
      by_cases h : g = k
      · have hb : (g == k) = true := beq_iff_eq.mpr h
        simp only [List.lookup, hb, if_pos (h.trans hk)]
      · have hb : (g == k) = false := beq_eq_false_iff_ne.mpr h
        simp only [List.lookup, hb, if_neg (fun e : g = f => h (e.trans hk.symm))]
    · rw [if_neg hk]
      by_cases h : g = k
      · have hb : (g == k) = true := beq_iff_eq.mpr h
        simp only [List.lookup, hb, if_neg (fun e : g = f => hk (h.symm.trans e))]
      · have hb : (g == k) = false := beq_eq_false_iff_ne.mpr h
        simp only [List.lookup, hb]
        exact ih
theorem keys_putF (f : Str) (v : V) : ∀ fs : List (Str × V), f ∈ (putF f v fs).map (·.1) ∧ ∀ g, g ∈ fs.map (·.1) → g ∈ (putF f v fs).map (·.1)
  | [] => ⟨by simp [putF], fun g h => by simp at h⟩
  | (k, x) :: r => by
    obtain ⟨i1, i2⟩ := keys_putF f v r
    rw [show putF f v ((k, x) :: r) = (if k = f then (k, v) :: r else (k, x) :: putF f v r) from rfl]
    by_cases hk : k = f
    · rw [if_pos hk]
      subst hk
      exact ⟨by simp, fun g h => by simpa using h⟩
    · rw [if_neg hk]
      refine ⟨?_, fun g h => ?_⟩
      · rw [List.map_cons]
        exact List.mem_cons_of_mem _ i1
      · rw [List.map_cons] at h ⊢
        rcases List.mem_cons.mp h with e | e
        · exact List.mem_cons.mpr (.inl e)
        · exact List.mem_cons_of_mem _ (i2 g e)
theorem length_putF (f : Str) (v : V) : ∀ fs : List (Str × V), (putF f v fs).length ≤ fs.length + 1
  | [] => by simp [putF]
  | (k, x) :: r => by
    have ih := length_putF f v r
    rw [show putF f v ((k, x) :: r) = (if k = f then (k, v) :: r else (k, x) :: putF f v r) from rfl]
    by_cases hk : k = f
    · rw [if_pos hk, List.length_cons, List.length_cons]; omega
    · rw [if_neg hk, List.length_cons, List.length_cons]; omega

theorem RelO.some_of {v : V} {o : Option Value} (r : RelO (some v) o) : ∃ u, o = some u ∧ RelV v u := by
  cases o with
  | none => exact (show False from r).elim
  | some u => exact ⟨u, rfl, r⟩
theorem RelO.none_of {o : Option Value} (r : RelO none o) : o = none := by
  cases o with
  | none => rfl
  | some u => exact (show False from r).elim
theorem handed_of {v : V} {u : Value} (r : RelV v u) : PySem.W.handedIn u = true := by
  cases v with
  | non => cases (show u = Value.none from r); rfl
  | bl b => cases (show u = Value.bool b from r); rfl
  | int i => obtain ⟨t, e⟩ := (show ∃ t, u = Value.int i t from r); cases e; rfl
  | str x => obtain ⟨t, e⟩ := (show ∃ t, u = Value.str x t from r); cases e; rfl
  | byt b => obtain ⟨t, e⟩ := (show ∃ t, u = Value.bytes b t from r); cases e; rfl
  | flt b => obtain ⟨t, e⟩ := (show ∃ t, u = Value.float b t from r); cases e; rfl
  | ref a => cases (show u = Value.ref a from r); rfl
  | ty n => cases (show u = Value.type n from r); rfl

section
variable {P : Program} {w : World} {H H' : Hp} {h h' : Heap} {a C dx : Addr} {fs fs' : List (Str × V)}
theorem ins_get (hok : HOk P w H h) (e : H a = some (.ins C dx fs)) : ∃ mA, ObjM h a dx C mA ∧ (∀ f, RelO (fs.lookup f) (mA f)) ∧ PySem.Within mA (fs.map (·.1)) ∧ fs.length ≤ 1000 ∧ H dx = some (.own a) := by
  obtain ⟨d, z, ne, ob, mA, n, r, q⟩ := (show ObjOk P w H h a (.ins C dx fs) from hok a _ e)
  exact ⟨mA, ⟨ob, n, ne⟩, r, q, z, d⟩
end

/-! ### what of the text a class must have -/
structure Cls (K : PySem.W.Frag) (C : Addr) : Prop where
  pg : PySem.W.plainGet K C Str.empty = true
  hd : PySem.W.hasDictIn K C = true
  po : PySem.W.plainOver K C = true
  sa : PySem.W.findIn K (.ref C) "__setattr__" = some (some (.builtin "object.__setattr__"))
theorem Cls.get {K : PySem.W.Frag} {C : Addr} (c : Cls K C) (f : Str) : PySem.W.plainGet K C f = true := c.pg
/-- no class of it has the name -/
def NoAttr (K : PySem.W.Frag) (C : Addr) (f : Str) : Prop := PySem.W.findIn K (.ref C) f = some none
theorem NoAttr.taker {K : PySem.W.Frag} {C : Addr} {f : Str} (n : NoAttr K C f) : PySem.W.takerIn K C f = some none := by
  unfold PySem.W.takerIn
  rw [show PySem.W.findIn K (.ref C) f = some none from n]
  rfl
/-- a constant of the class -/
structure Con (K : PySem.W.Frag) (C : Addr) (f : Str) (v : V) (u : Value) : Prop where
  at_ : PySem.W.findIn K (.ref C) f = some (some u)
  rel : RelV v u
  get : PySem.W.specialIn K u "__get__" = some none
  cp : PySem.W.copiedNames.contains f = false
/-- a method: a plain def of the class or of one above it -/
structure Meth (K : PySem.W.Frag) (C : Addr) (m : Str) (f : Addr) : Prop where
  at_ : PySem.W.findIn K (.ref C) m = some (some (.ref f))
  fn : PySem.W.isFn K (.ref f) = true
  kp : PySem.W.keepIn K (.ref f) = true

section
variable {X : Cx} {pins : List (Addr × Obj)} {σ : St} {H : Hp} {s : Shared} {a C dx : Addr} {fs : List (Str × V)} {f : Str} {v : V} {A : Around} {E : Value → Shared → Prop}

theorem getattr_ok {b : Bool} {Q : Value → Shared → Prop} (I : Inv X pins σ H s) (e : H a = some (.ins C dx fs)) (c : Cls X.K C) (n : NoAttr X.K C f) (l : fs.lookup f = some v)
    (h : ∀ u s', Inv X pins σ H s' → RelV v u → Q u s') : wpAny (model X.prog X.w) A (getAttr (.ref a) f b) Q E s := by
  obtain ⟨mA, O, r, _, _, _⟩ := ins_get I.hok e
  obtain ⟨u, hu, ru⟩ := RelO.some_of (v := v) (o := mA f) (by rw [← l]; exact r f)
  exact get_map I.kIn O (c.get f) c.hd n hu (handed_of ru) (h u _ (I.tok _) ru)

theorem getmeth_ok {m : Str} {g : Addr} {pl : Sem Bool} {Q : Value × List Value → Shared → Prop} (I : Inv X pins σ H s) (e : H a = some (.ins C dx fs)) (c : Cls X.K C) (k : Meth X.K C m g) (l : fs.lookup m = none)
    (h : Q (.ref g, [.ref a]) s) : wpAny (model X.prog X.w) A (getMethod (.ref a) m pl) Q E s := by
  obtain ⟨mA, O, r, _, _, _⟩ := ins_get I.hok e
  have hn : mA m = none := RelO.none_of (by rw [← l]; exact r m)
  exact get_meth I.kIn O (c.get m) k.at_ k.fn hn h

theorem setattr_ok {y : V} {u : Value} {Q : Unit → Shared → Prop} (I : Inv X pins σ H s) (e : H a = some (.ins C dx fs)) (c : Cls X.K C) (n : NoAttr X.K C f) (hl : fs.length < 1000) (ry : RelV y u)
    (h : ∀ s', Inv X pins σ (upd H a (.ins C dx (putF f y fs))) s' → Q () s') : wpAny (model X.prog X.w) A (setAttr (.ref a) f u) Q E s := by
  obtain ⟨mA, O, r, wi, _, ho⟩ := ins_get I.hok e
  have hz : (fs.map (·.1)).length ≤ sizeLine := by rw [List.length_map, sizeLine_eq]; omega
  refine set_map I.kIn O c.sa c.po n.taker c.hd wi hz fun h' O' sb => h _ ?_
  have hd : ∃ o, h'.get? dx = some o := let ⟨o, _, _, e', _⟩ := O'.ns; ⟨o, e'⟩
  refine I.write (x := a) (e := dx) (by rw [e]; exact True.intro) (.inr ho) (fun b q hb z => (sb.2 b hb).trans z) hd ?_
  refine ⟨by rw [upd_ne O.ne]; exact ho, ?_, O.ne, O'.obj, _, O'.ns, fun g => ?_, fun g hg => ?_⟩
  · have := length_putF f y fs; omega
  · show RelO ((putF f y fs).lookup g) (if g = f then some u else mA g)
    rw [lookup_putF]
    by_cases q : g = f
    · rw [if_pos q, if_pos q]; exact ry
    · rw [if_neg q, if_neg q]; exact r g
  · by_cases q : g = f
    · rw [q]; exact (keys_putF f y fs).1
    · refine (keys_putF f y fs).2 g (wi g fun z => hg ?_)
      show (if g = f then some u else mA g) = none
      rw [if_neg q]; exact z

/-- a new instance, tracked, without attributes -/
theorem Inv.made (I : Inv X pins σ H s) : Inv X pins σ (upd (upd H s.heap.objs.size (.own (s.heap.objs.size + 1))) (s.heap.objs.size + 1) (.ins C s.heap.objs.size []))
    { s with heap := (s.heap.push PySem.W.emptyDict).push (PySem.W.instObj C s.heap.objs.size) } := by
  have e1 : (s.heap.push PySem.W.emptyDict).get? s.heap.objs.size = some PySem.W.emptyDict := Heap.get?_push_size s.heap rfl
  have e2 : ((s.heap.push PySem.W.emptyDict).push (PySem.W.instObj C s.heap.objs.size)).get? (s.heap.objs.size + 1) = some (PySem.W.instObj C s.heap.objs.size) := by
    have := Heap.get?_push_size (s.heap.push PySem.W.emptyDict) (o := PySem.W.instObj C s.heap.objs.size) rfl
    rwa [Heap.size_push] at this
  have e3 : (s.heap.push PySem.W.emptyDict).Ns s.heap.objs.size (fun _ => none) := ⟨PySem.W.emptyDict, #[], _, e1, rfl, (fun e he => absurd he (by simp)), fun _ => rfl⟩
  have I1 := I.laid (a := s.heap.objs.size) (o := .own (s.heap.objs.size + 1)) (h' := s.heap.push PySem.W.emptyDict) (t' := s.toks) (fun b u q => Heap.get?_push_of_some _ q) (Nat.le_refl _) ⟨_, e1⟩
  refine I1.laid (a := s.heap.objs.size + 1) (o := .ins C s.heap.objs.size []) (t' := s.toks) (fun b u q => Heap.get?_push_of_some _ q) (Nat.le_of_eq (Heap.size_push _ _)) ?_
  have ne : s.heap.objs.size ≠ s.heap.objs.size + 1 := Nat.ne_of_lt (Nat.lt_succ_self _)
  refine ⟨by rw [upd_ne ne, upd_same], Nat.zero_le _, ne, e2, fun _ => none, (Heap.Ns1.of_empty e3).at fun o q => Heap.get?_push_of_some _ q, fun _ => True.intro, fun y hy => absurd rfl hy⟩

/-- e.f where nothing but the object is asked: through attributeBase (super) and the last hold -/
theorem attr_of {prog : Program} {w : World} {env : Env} {e : Expr} {f : Str} {pos : Pos} {s : Shared} {Q : Value → Shared → Prop} (hb : attributeBase e f env (eval e env) = eval e env)
    (h : wpAny (model prog w) A (eval e env) (fun o s₁ => wpAny (model prog w) A (getAttr o f true) Q E s₁) E s) : wpAny (model prog w) A (eval (.Attribute e f pos) env) Q E s :=
  Attribute_any_ h (by rw [arm_eval_Attribute, hb])
end

/-! ### readings and rules -/
/-- e.f, an attribute of the instance -/
def tFld (K : PySem.W.Frag) (ta : TE) (f : Str) : TE := fun σ H Q => ta σ H fun x H1 => ∃ a C dx fs v, x = .ref a ∧ H1 a = some (.ins C dx fs) ∧ Cls K C ∧ NoAttr K C f ∧ fs.lookup f = some v ∧ Q v H1
/-- e.f, a constant of the class -/
def tCon (K : PySem.W.Frag) (ta : TE) (f : Str) : TE := fun σ H Q => ta σ H fun x H1 => ∃ a C dx fs v u, x = .ref a ∧ H1 a = some (.ins C dx fs) ∧ Cls K C ∧ Con K C f v u ∧ fs.lookup f = none ∧ Q v H1
/-- e.f = value -/
def sFld (K : PySem.W.Frag) (ta tv : TE) (f : Str) : TS := fun D σ H => tv σ H fun y H1 => ta σ H1 fun x H2 => ∃ a C dx fs, x = .ref a ∧ H2 a = some (.ins C dx fs) ∧ Cls K C ∧ NoAttr K C f ∧ fs.length < 1000 ∧
  D.nx σ (upd H2 a (.ins C dx (putF f y fs)))
/-- an augmented operator on two values -/
def InOp (X : Cx) (op : Operator) (rd : V → V → Hp → VK → Prop) : Prop :=
  ∀ (pins : List (Addr × Obj)) (s : Shared) (σ : St) (H : Hp) (x y : V) (u v : Value) (Q : VK), Inv X pins σ H s → RelV x u → RelV y v → rd x y H Q → wpAny (model X.prog X.w) X.A (inplaceOp op u v) (EP X pins σ Q) X.xe s
/-- e.f op= value -/
def sFldAug (K : PySem.W.Frag) (ta tv : TE) (rd : V → V → Hp → VK → Prop) (f : Str) : TS := fun D σ H => ta σ H fun x H1 => ∃ a C dx fs v, x = .ref a ∧ H1 a = some (.ins C dx fs) ∧ Cls K C ∧ NoAttr K C f ∧ fs.lookup f = some v ∧
  tv σ H1 fun y H2 => rd v y H2 fun z H3 => ∃ dx' fs', H3 a = some (.ins C dx' fs') ∧ fs'.length < 1000 ∧ D.nx σ (upd H3 a (.ins C dx' (putF f z fs')))

section
variable {X : Cx} {o e value : Expr} {f : Str} {pos pos' tpos : Pos} {ta tv : TE}
theorem pe_fld (he : PE X e ta) (hb : attributeBase e f X.env (eval e X.env) = eval e X.env) : PE X (.Attribute e f pos) (tFld X.K ta f) := by
  intro pins s σ H Q I h
  refine attr_of hb (thn (he pins s σ H _ I h) fun u s1 ⟨x, H1, I1, rx, a, C, dx, fs, v, ex, ea, c, n, l, q⟩ => ?_)
  subst ex
  obtain rfl : u = Value.ref a := rx
  exact getattr_ok I1 ea c n l fun u' s2 I2 ru => ⟨v, H1, I2, ru, q⟩
theorem ps_fld (ha : PE X o ta) (hv : PE X value tv) (hs : swapsWith value (some (.Attribute o f pos')) pos.line X.env = pure false) : PS X (.Assign [.Attribute o f pos'] value pos) (sFld X.K ta tv f) := by
  intro pins s σ H D I h
  refine plainObj_wpAny_Assign_Attribute (thn (hv pins s σ H _ I h) fun u s1 ⟨y, H1, I1, ry, q⟩ => thn (ha pins s1 σ H1 _ I1 q) fun ov s2 ⟨x, H2, I2, rx, a, C, dx, fs, ex, ea, c, n, l, q2⟩ => ?_) hs
  subst ex
  obtain rfl : ov = Value.ref a := rx
  exact setattr_ok I2 ea c n l ry fun s3 I3 => ⟨σ, _, I3, q2⟩
def rAdd : V → V → Hp → VK → Prop := fun x y H Q => ∃ i j, x = .int i ∧ y = .int j ∧ Q (.int (i + j)) H
def rSub : V → V → Hp → VK → Prop := fun x y H Q => ∃ i j, x = .int i ∧ y = .int j ∧ Q (.int (i - j)) H
end

/-! ### isinstance -/
section
variable {X : Cx} {pins : List (Addr × Obj)} {σ : St} {H : Hp} {s : Shared} {A : Around} {E : Value → Shared → Prop} {Q : Value → Shared → Prop} {c : Value} {b : Bool}
/-- the type of a value, as the fragment's deciders take it; for an instance its class -/
inductive TyOf (K : PySem.W.Frag) (H : Hp) : V → Value → Prop where
  | non : TyOf K H .non (.type "NoneType")
  | bl (x : Bool) : TyOf K H (.bl x) (.type "bool")
  | int (i : Int) : TyOf K H (.int i) (.type "int")
  | str (x : Str) : TyOf K H (.str x) (.type "str")
  | flt (x : UInt64) : TyOf K H (.flt x) (.type "float")
  | lst {a : Addr} {xs : List V} (e : H a = some (.lst xs)) : TyOf K H (.ref a) (.type "list")
  | frz {a : Addr} {o : Obj} {xs : List V} (e : H a = some (.frz o (.lst xs))) : TyOf K H (.ref a) (.type "list")
  | tup {a : Addr} {xs : List V} (e : H a = some (.tup xs)) : TyOf K H (.ref a) (.type "tuple")
  | dK {a : Addr} {kvs : List (Key × V)} (e : H a = some (.dK kvs)) : TyOf K H (.ref a) (.type "dict")
  | ins {a C dx : Addr} {fs : List (Str × V)} (e : H a = some (.ins C dx fs)) (cl : Cls K C) (ha : PySem.W.findIn K (.ref C) "__class__" = some (some (.builtin "object.__class__")))
      (hn : PySem.W.specialIn K (.builtin "object.__class__") "__get__" = some (some (.builtin "getset_descriptor.__get__"))) (htk : PySem.W.takesIn K (.builtin "object.__class__") = some true)
      (hm : PySem.W.mroIn K C (.type "object") = some true) : TyOf K H (.ref a) (.ref C)
/-- isinstance(x, c) for one class c, a built-in or an own one: kitOne's answer -/
theorem isinst_ok {x : V} {u t : Value} (I : Inv X pins σ H s) (rx : RelV x u) (ty : TyOf X.K H x t) (e : PySem.W.kitOne X.K t c = some b) (h : ∀ tk, Q (.bool b) { s with toks := tk }) :
    wpAny (model X.prog X.w) A (call (.builtin "isinstance") [u, c]) Q E s := by
  cases ty with
  | non => cases (show u = Value.none from rx); exact PySem.W.kia_one PySem.W.kitx_none I.kIn True.intro e (fun z => nomatch z) h
  | bl y => cases (show u = Value.bool y from rx); exact PySem.W.kia_one PySem.W.kitx_bool I.kIn True.intro e (fun z => nomatch z) h
  | int i => obtain ⟨t, q⟩ := (show ∃ t, u = Value.int i t from rx); cases q; exact PySem.W.kia_one PySem.W.kitx_int I.kIn True.intro e (fun z => nomatch z) h
  | str y => obtain ⟨t, q⟩ := (show ∃ t, u = Value.str y t from rx); cases q; exact PySem.W.kia_one PySem.W.kitx_str I.kIn True.intro e (fun z => nomatch z) h
  | flt y => obtain ⟨t, q⟩ := (show ∃ t, u = Value.float y t from rx); cases q; exact PySem.W.kia_one PySem.W.kitx_float I.kIn True.intro e (fun z => nomatch z) h
  | @lst a xs ea =>
    cases (show u = Value.ref a from rx)
    obtain ⟨_, _, n, _, h1⟩ := (show ObjOk X.prog X.w H s.heap a (.lst xs) from I.hok a _ ea)
    exact PySem.W.kia_one PySem.W.kitx_list I.kIn ⟨_, h1, rfl⟩ e (fun z => nomatch z) h
  | @frz a ob xs ea =>
    cases (show u = Value.ref a from rx)
    obtain ⟨_, _, _, n, _, h1⟩ := (show ObjOk X.prog X.w H s.heap a (.frz ob (.lst xs)) from I.hok a _ ea)
    exact PySem.W.kia_one PySem.W.kitx_list I.kIn ⟨_, h1, rfl⟩ e (fun z => nomatch z) h
  | @tup a xs ea =>
    cases (show u = Value.ref a from rx)
    obtain ⟨_, _, _, p⟩ := (show ObjOk X.prog X.w H s.heap a (.tup xs) from I.hok a _ ea)
    obtain ⟨o, h1, h2, _⟩ := p
    exact PySem.W.kia_one PySem.W.kitx_tuple I.kIn ⟨o, h1, h2⟩ e (fun z => nomatch z) h
  | @dK a kvs ea =>
    cases (show u = Value.ref a from rx)
    obtain ⟨_, _, vs, _, p⟩ := (show ObjOk X.prog X.w H s.heap a (.dK kvs) from I.hok a _ ea)
    obtain ⟨o, es, ep, h1, h2, _⟩ := p
    exact PySem.W.kia_one PySem.W.kitx_dict I.kIn ⟨o, h1, h2.1⟩ e (fun z => nomatch z) h
  | @ins a C dx fs ea cl ha hn htk hm =>
    cases (show u = Value.ref a from rx)
    obtain ⟨mA, O, _⟩ := ins_get I.hok ea
    obtain ⟨od, J, _⟩ := O.look
    exact PySem.W.kia_one (PySem.W.kitx_own (cl.get _) cl.hd ha hn htk hm) I.kIn J e (fun z => nomatch z) h
end
end L2

namespace L2
open PySem PySem.Spec PyProof.Rows

/-! ### room -/
structure Room (k : Nat) (A : Around) : Prop where
  hd : A.handled = none
  dp : A.depth + 3 * k + 5 < recursionLimit
  un : A.units + 16 * k + 200 < cLine
theorem Room.mono {j k : Nat} {A : Around} (r : Room k A) (h : j ≤ k) : Room j A := ⟨r.hd, by have := r.dp; omega, by have := r.un; omega⟩
theorem Room.deeper {k : Nat} {A : Around} (r : Room (k + 1) A) (env : Env) : Room k (A.deeper env) :=
  ⟨r.hd, by have := r.dp; show A.depth + 1 + 3 * k + 5 < _; omega, by have := r.un; show A.units + 3 + 16 * k + 200 < _; omega⟩
theorem make_depth {A : Around} {C : Addr} {us : List Value} {kw : List (Str × Value)} : (A.under (.builtin "type.__call__" ⟨.ref C :: us, kw⟩)).depth = A.depth + 1 := by
  first | rfl | simp [Around.under, Code.weight, Code.isCreation, Code.isGuard, Code.isCaller, Code.frames, Code.isFrame, guardIds]
theorem make_units {A : Around} {C : Addr} {us : List Value} {kw : List (Str × Value)} : (A.under (.builtin "type.__call__" ⟨.ref C :: us, kw⟩)).units = A.units + 1 := by
  first | rfl | simp [Around.under, Code.cUnits, Code.frames, Code.isFrame]
theorem Room.make {k : Nat} {A : Around} (r : Room (k + 1) A) (C : Addr) (us : List Value) (kw : List (Str × Value)) : Room k (A.under (.builtin "type.__call__" ⟨.ref C :: us, kw⟩)) :=
  ⟨r.hd, by have := r.dp; rw [make_depth]; omega, by have := r.un; rw [make_units]; omega⟩
theorem Room.depth {k : Nat} {A : Around} (r : Room k A) : A.depth < recursionLimit := by have := r.dp; omega
theorem Room.units {k : Nat} {A : Around} (r : Room k A) : A.units + 64 < cLine := by have := r.un; omega
/-! ### argument lists and displays -/
def tNil : TA := fun _ H Q => Q [] H
def tCons (ta : TE) (tr : TA) : TA := fun σ H Q => ta σ H fun x H1 => tr σ H1 fun xs H2 => Q (x :: xs) H2
section
variable {X : Cx} {e : Expr} {es : List Expr} {te : TE} {t : TA} {pos : Pos}
theorem pa_nil : PA X [] tNil := fun _ _ _ _ H Q I h => Calls.spliced_nil ⟨[], H, I, .nil, h⟩
theorem pa_cons (ha : PE X e te) (hr : PA X es t) (hs : starEach (e :: es) X.env = (false, eval e X.env) :: starEach es X.env := by rfl) : PA X (e :: es) (tCons te t) := by
  intro pos pins s σ H Q I h
  rw [hs]
  show wpAny _ _ (spliced ((false, eval e X.env) :: backTo pos (starEach es X.env))) _ _ s
  refine Calls.spliced_cons (thn (ha pins s σ H _ I h) fun u s1 ⟨x, H1, I1, r1, q1⟩ => ?_)
  exact thn (hr pos pins s1 σ H1 _ I1 q1) fun us s2 ⟨xs, H2, I2, r2, q2⟩ => ⟨x :: xs, H2, I2, .cons r1 r2, q2⟩

/-- a tuple, a list of written items -/
def tTup (t : TA) : TE := fun σ H Q => t σ H fun xs H1 => xs.length ≤ sizeLine ∧ ∀ p, H1 p = none → Q (.ref p) (upd H1 p (.tup xs))
def tLst (t : TA) : TE := fun σ H Q => t σ H fun xs H1 => xs.length ≤ sizeLine ∧ ∀ p, H1 p = none → Q (.ref p) (upd H1 p (.lst xs))
theorem pe_tup {x1} (h : PA X es t) : PE X (.Tuple es x1 pos) (tTup t) := by
  intro pins s σ H Q I hq
  refine wpAny_Tuple_spliced (thn (h pos pins s σ H _ I hq) fun us s1 ⟨xs, H1, I1, r, z, q⟩ => ⟨by rw [← r.length]; exact z, ?_⟩)
  have hf : H1 s1.heap.objs.size = none := I1.hok.fresh (Nat.le_refl _)
  refine ⟨.ref s1.heap.objs.size, upd H1 s1.heap.objs.size (.tup xs), I1.laid (t' := s1.toks) (fun b u e => Heap.get?_push_of_some _ e) (Nat.le_refl _) ?_, rfl, q _ hf⟩
  exact ⟨z, us, r, ⟨_, Heap.get?_push_size _ rfl, rfl, _, rfl⟩⟩
theorem pe_lst (h : PA X es t) : PE X (.List es pos) (tLst t) := by
  intro pins s σ H Q I hq
  refine wpAny_List_spliced (thn (h pos pins s σ H _ I hq) fun us s1 ⟨xs, H1, I1, r, z, q⟩ => ⟨by rw [← r.length]; exact z, ?_⟩)
  have hf : H1 s1.heap.objs.size = none := I1.hok.fresh (Nat.le_refl _)
  refine ⟨.ref s1.heap.objs.size, upd H1 s1.heap.objs.size (.lst xs), I1.laid (t' := s1.toks) (fun b u e => Heap.get?_push_of_some _ e) (Nat.le_refl _) ?_, rfl, q _ hf⟩
  exact ⟨z, us, 0, r, Heap.get?_push_size _ rfl⟩
end

/-! ### what a def promises -/
/-- a def's promise: the bound arguments in the parameters' order, the heap, the wanted end, the wanted exception -/
abbrev Sp := List V → Hp → VK → XK → Prop
/-- how an exception lies behind a call (file 08 gives it): the callers' frames, abstract heap and state ahead of the call, the wish, the exception, the state -/
abbrev CXT := List Env → Hp → Shared → XK → Value → Shared → Prop

/-- the state at a call -/
structure Env0 (P : Program) (w : World) (K : PySem.W.Frag) (mg : Str → Option Value) (base : Heap) (A : Around) (outer : List Env) (s : Shared) (H : Hp) : Prop where
  frames : A.frames = some outer
  mod : Mod K mg base
  bs : ∀ b o, base.get? b = some o → s.heap.get? b = some o ∧ H b = none
  bsz : base.objs.size ≤ s.heap.objs.size
  funs : s.heap.FunFrames base outer
  frf : ∀ b ∈ frs outer, H b = none
  hok : HOk P w H s.heap
  bare : AllBare s.gens
/-- a call's end -/
def CE (outer : List Env) (P : Program) (w : World) (H : Hp) (s : Shared) (Q : VK) (u : Value) (s' : Shared) : Prop :=
  ∃ v H', s'.os = s.os ∧ AllBare s'.gens ∧ Un (frs outer) [] H H' s.heap s'.heap ∧ HOk P w H' s'.heap ∧ RelV v u ∧ Q v H'
def CR (CX : CXT) (outer : List Env) (P : Program) (w : World) (H : Hp) (s : Shared) (Q : VK) (E : XK) (r : Result) (s' : Shared) : Prop :=
  match r with
  | .ok (.ret u) => CE outer P w H s Q u s'
  | .ok _ => False
  | .error e => CX outer H s E e s'
structure FnOk (P : Program) (w : World) (K : PySem.W.Frag) (mg : Str → Option Value) (base : Heap) (CX : CXT) (k : Nat) (f : Addr) (fd : FuncData) (ps : List Str) (sp : Sp) : Prop where
  len : ∀ vs H Q E, sp vs H Q E → vs.length = ps.length
  run : ∀ (A : Around) (outer : List Env) (s : Shared) (H : Hp) (args : Args) (us : List Value) (vs : List V) (Q : VK) (E : XK), Room k A → Env0 P w K mg base A outer s H → BindsTo s fd args (ps.zip us) → Vals vs us → sp vs H Q E →
    codeAny (model P w) A (.call (.ref f) args) (CR CX outer P w H s Q E) s
theorem FnOk.mono {P : Program} {w : World} {K : PySem.W.Frag} {mg : Str → Option Value} {base : Heap} {CX : CXT} {j k : Nat} {f : Addr} {fd : FuncData} {ps : List Str} {sp : Sp} (F : FnOk P w K mg base CX j f fd ps sp) (h : j ≤ k) :
    FnOk P w K mg base CX k f fd ps sp := ⟨F.len, fun A outer s H args us vs Q E hr => F.run A outer s H args us vs Q E (hr.mono h)⟩
theorem Env0.make {P : Program} {w : World} {K : PySem.W.Frag} {mg : Str → Option Value} {base : Heap} {A : Around} {outer : List Env} {s : Shared} {H : Hp} (e : Env0 P w K mg base A outer s H) (C : Addr) (us : List Value) (kw : List (Str × Value)) :
    Env0 P w K mg base (A.under (.builtin "type.__call__" ⟨.ref C :: us, kw⟩)) outer s H := ⟨by first | exact e.frames | (simpa [Around.under, Code.envs, Code.isFrame, pushEnvs] using e.frames), e.mod, e.bs, e.bsz, e.funs, e.frf, e.hok, e.bare⟩
section
variable {X : Cx} {pins : List (Addr × Obj)} {σ : St} {H : Hp} {s s' : Shared}
/-- from a body: what a callee wants -/
theorem Inv.env0 (I : Inv X pins σ H s) : Env0 X.prog X.w X.K X.mg X.base X.A X.stack s H :=
  ⟨I.ok.frames, I.ok.mod, I.bs, Nat.le_trans I.ok.bsz I.sz, I.stack, I.stkFree, I.hok, I.bare⟩
/-- behind a call -/
theorem Inv.after {Q : VK} {u : Value} (I : Inv X pins σ H s) (h : CE X.stack X.prog X.w H s Q u s') : EP X pins σ Q u s' := by
  obtain ⟨v, H', os, bare, un, hok, r, q⟩ := h
  obtain ⟨hh, g, d, t, os'⟩ := s'
  obtain rfl : os' = s.os := os
  exact ⟨v, H', I.call (h' := hh) (g' := g) (d' := d) (t' := t) (ch := []) un hok bare (fun b z => absurd z (by simp)), r, q⟩
end

/-! ### calls -/
/-- f(..): the written arguments, then the defaults dvs; E: what is wanted of an exception -/
def tCall (sp : Sp) (dvs : List V) (E : XK) (t : TA) : TE := fun σ H Q => t σ H fun vs H1 => sp (vs ++ dvs) H1 Q E
/-- o.m(..) of an instance of the class at C -/
def tMeth (C : Addr) (m : Str) (sp : Sp) (dvs : List V) (E : XK) (ta : TE) (t : TA) : TE := fun σ H Q => ta σ H fun x H1 => ∃ a dx fs, x = .ref a ∧ H1 a = some (.ins C dx fs) ∧ fs.lookup m = none ∧
  t σ H1 fun vs H2 => sp (x :: (vs ++ dvs)) H2 Q E
/-- C(..): a new instance and its dict, then __init__ -/
def tMake (C : Addr) (sp : Sp) (dvs : List V) (E : XK) (t : TA) : TE := fun σ H Q => t σ H fun vs H1 => ∀ x dx, H1 x = none → H1 dx = none → dx ≠ x →
  sp (.ref x :: (vs ++ dvs)) (upd (upd H1 dx (.own x)) x (.ins C dx [])) (fun v H2 => v = .non ∧ Q (.ref x) H2) E

/-- how the parameters are bound: us the positional arguments, kw the keywords' values by name, ds the defaults that fill up -/
def Binds (K : PySem.W.Frag) (fd : FuncData) (ps : List Str) (ds : List Value) : Prop :=
  ∀ (s : Shared) (us : List Value), K.In s.heap → (us ++ ds).length = ps.length → BindsTo s fd ⟨us, []⟩ (ps.zip (us ++ ds))
/-- every parameter is given -/
theorem Binds.all {K : PySem.W.Frag} {fd : FuncData} {ps : List Str} (h : ∀ us : List Value, us.length = ps.length → bindArgs fd ⟨us, []⟩ = pure (ps.zip us)) : Binds K fd ps [] := fun s us _ hl => by
  rw [List.append_nil] at hl ⊢
  exact .of_eq (h us hl)

/-- an exception of a callee reaches what this body wants of exceptions -/
def Passes (CX : CXT) (X : Cx) (E : XK) : Prop := ∀ (pins : List (Addr × Obj)) (σ : St) (H : Hp) (s : Shared) (e : Value) (s' : Shared), Inv X pins σ H s → CX X.stack H s E e s' → X.xe e s'

section
variable {X : Cx} {CX : CXT} {k : Nat} {f C : Addr} {fd : FuncData} {ps : List Str} {sp : Sp} {dvs : List V} {ds : List Value} {E : XK} {x m : Str} {p pos apos : Pos} {e o : Expr} {es : List Expr} {ta : TE} {t : TA}

/-- the callee runs -/
theorem run_fn {pins : List (Addr × Obj)} {σ : St} {H : Hp} {s : Shared} {Q : VK} {us : List Value} {vs : List V} (F : FnOk X.prog X.w X.K X.mg X.base CX k f fd ps sp) (hr : Room k X.A) (hb : Binds X.K fd ps ds) (hd : Vals dvs ds) (hx : Passes CX X E)
    (I : Inv X pins σ H s) (r : Vals vs us) (h : sp (vs ++ dvs) H Q E) : wpAny (model X.prog X.w) X.A (call (.ref f) us) (EP X pins σ Q) X.xe s := by
  have r2 : Vals (vs ++ dvs) (us ++ ds) := r.append hd
  have hl : (us ++ ds).length = ps.length := by rw [← r2.length]; exact F.len _ _ _ _ h
  refine wpAny_call (codeAny_mono (F.run X.A X.stack s H ⟨us, []⟩ (us ++ ds) (vs ++ dvs) Q E hr I.env0 (hb s us I.kIn hl) r2 h) fun r s' hq => ?_)
  cases r with
  | error e => exact hx pins σ H s e s' I hq
  | ok fl =>
    cases fl with
    | ret u => exact I.after hq
    | next => exact False.elim hq
    | brk => exact False.elim hq
    | cont => exact False.elim hq

theorem pe_call (F : FnOk X.prog X.w X.K X.mg X.base CX k f fd ps sp) (hr : Room k X.A) (hg : Gl X x) (hm : X.mg x = some (.ref f)) (hk : PySem.W.keepIn X.K (.ref f) = true) (hb : Binds X.K fd ps ds) (hd : Vals dvs ds) (hx : Passes CX X E)
    (ha : PA X (e :: es) t) (hdb : (x == ("__debug__" : Str)) = false := by decide) (he : starEach (e :: es) X.env = (false, eval e X.env) :: starEach es X.env := by rfl) (hpl : (backTo pos (starEach es X.env)).any (·.1) = false := by rfl) :
    PE X (.Call (.Name x p) (e :: es) [] pos) (tCall sp dvs E t) := by
  intro pins s σ H Q I h
  refine wpAny_Call_Name_kw (ld_glob I hg hm ?_ hdb)
  refine PySem.W.callWith_K (h₀ := X.base) I.ok.mod.kin hk (thn (ha pos pins s σ H _ I h) fun us s1 ⟨vs, H1, I1, r, q⟩ => ⟨I1.kIn, ?_⟩) he hpl
  exact run_fn F hr hb hd hx I1 r q
/-- what a class must have to be made -/
structure Mk (K : PySem.W.Frag) (C f : Addr) : Prop where
  makes : PySem.W.makesIn K C = true
  init : PySem.W.findIn K (.ref C) "__init__" = some (some (.ref f))
  fn : PySem.W.isFn K (.ref f) = true
  kp : PySem.W.keepIn K (.ref C) = true

theorem run_make {pins : List (Addr × Obj)} {σ : St} {H : Hp} {s : Shared} {Q : VK} {us : List Value} {vs : List V} (M : Mk X.K C f) (F : FnOk X.prog X.w X.K X.mg X.base CX k f fd ps sp) (hr : Room (k + 1) X.A) (hb : Binds X.K fd ps ds) (hd : Vals dvs ds)
    (hx : Passes CX X E) (I : Inv X pins σ H s) (r : Vals vs us)
    (h : ∀ x dx, H x = none → H dx = none → dx ≠ x → sp (.ref x :: (vs ++ dvs)) (upd (upd H dx (.own x)) x (.ins C dx [])) (fun v H2 => v = .non ∧ Q (.ref x) H2) E) :
    wpAny (model X.prog X.w) X.A (call (.ref C) us) (EP X pins σ Q) X.xe s := by
  have hq := h (s.heap.objs.size + 1) s.heap.objs.size (I.hok.fresh (Nat.le_succ _)) (I.hok.fresh (Nat.le_refl _)) (Nat.ne_of_lt (Nat.lt_succ_self _))
  have I2 := Inv.made (C := C) I
  have r2 : Vals (V.ref (s.heap.objs.size + 1) :: (vs ++ dvs)) (Value.ref (s.heap.objs.size + 1) :: (us ++ ds)) := .cons rfl (r.append hd)
  have hl : (Value.ref (s.heap.objs.size + 1) :: us ++ ds).length = ps.length := by
    have e := r2.length
    rw [F.len _ _ _ _ hq] at e
    exact e.symm
  refine wpAny_call (make_map (f := f) I.kIn M.makes M.init (beq_iff_eq.mp M.fn) (codeAny_mono (F.run _ X.stack _ _ ⟨Value.ref (s.heap.objs.size + 1) :: us, []⟩ (Value.ref (s.heap.objs.size + 1) :: (us ++ ds)) _ _ E (hr.make C us [])
    (I2.env0.make C us []) (hb _ (Value.ref (s.heap.objs.size + 1) :: us) I2.kIn hl) r2 hq) fun r s' hq' => ?_))
  cases r with
  | error e => exact hx pins σ _ _ e s' I2 hq'
  | ok fl =>
    cases fl with
    | ret u =>
      obtain ⟨v, H', I3, rv, ev, q3⟩ := I2.after hq'
      subst ev
      exact ⟨rv, ⟨V.ref (s.heap.objs.size + 1), H', I3, rfl, q3⟩⟩
    | next => exact False.elim hq'
    | brk => exact False.elim hq'
    | cont => exact False.elim hq'
theorem pe_make (M : Mk X.K C f) (F : FnOk X.prog X.w X.K X.mg X.base CX k f fd ps sp) (hr : Room (k + 1) X.A) (hg : Gl X x) (hm : X.mg x = some (.ref C)) (hb : Binds X.K fd ps ds) (hd : Vals dvs ds) (hx : Passes CX X E)
    (ha : PA X (e :: es) t) (hdb : (x == ("__debug__" : Str)) = false := by decide) (he : starEach (e :: es) X.env = (false, eval e X.env) :: starEach es X.env := by rfl) (hpl : (backTo pos (starEach es X.env)).any (·.1) = false := by rfl) :
    PE X (.Call (.Name x p) (e :: es) [] pos) (tMake C sp dvs E t) := by
  intro pins s σ H Q I h
  refine wpAny_Call_Name_kw (ld_glob I hg hm ?_ hdb)
  refine PySem.W.callWith_K (h₀ := X.base) I.ok.mod.kin M.kp (thn (ha pos pins s σ H _ I h) fun us s1 ⟨vs, H1, I1, r, q⟩ => ⟨I1.kIn, ?_⟩) he hpl
  exact run_make M F hr hb hd hx I1 r q
end

/-! ### keywords -/
/-- the values of the keywords, from the left -/
def PK (X : Cx) (kws : List Keyword) (t : TA) : Prop :=
  ∀ (pos : Pos) (pins : List (Addr × Obj)) (s : Shared) (σ : St) (H : Hp) (Q : List V → Hp → Prop), Inv X pins σ H s → t σ H Q → wpAny (model X.prog X.w) X.A (evalAll ((backToKw pos (keywordEach kws X.env)).map (·.2))) (AP X pins σ Q) X.xe s
section
variable {X : Cx} {CX : CXT} {k : Nat} {f C : Addr} {fd : FuncData} {ps ks : List Str} {sp : Sp} {E : XK} {x m : Str} {p pos apos kpos : Pos} {e o : Expr} {es : List Expr} {kws : List Keyword} {te ta : TE} {t tk : TA} {nm : Option Str}
/-- how a call with keywords binds: g puts the positional values us and the keywords' values ws (names ks) in the parameters' order, defaults among them -/
structure KBinds (K : PySem.W.Frag) (fd : FuncData) (ps ks : List Str) (g : List Value → List Value → List Value) (gV : List V → List V → List V) : Prop where
  to : ∀ (s : Shared) (us ws : List Value), K.In s.heap → (g us ws).length = ps.length → BindsTo s fd ⟨us, ks.zip ws⟩ (ps.zip (g us ws))
  rel : ∀ {vs : List V} {us : List Value} {zs : List V} {ws : List Value}, Vals vs us → Vals zs ws → Vals (gV vs zs) (g us ws)
def tCallK (sp : Sp) (gV : List V → List V → List V) (E : XK) (t tk : TA) : TE := fun σ H Q => t σ H fun vs H1 => tk σ H1 fun zs H2 => sp (gV vs zs) H2 Q E
variable {g : List Value → List Value → List Value} {gV : List V → List V → List V}
end

/-! ### a def's body keeps its promise -/
/-- names: the parameters first -/
structure FnScope (N P : List Str) (sc : Scope) : Prop where
  kind : sc.kind = .function
  co : sc.isCoroutine = false
  gen : sc.isGenerator = false
  nd : N.Nodup
  pre : N.take P.length = P
  par : ∀ x ∈ P, sc.names.lookup x = some .local ∨ sc.names.lookup x = some .cell
  nofree : ∀ y ∈ sc.names, y.2 ≠ .free

theorem bindL_out {kindOf : Str → Option NameKind} {x : Str} : ∀ {binds : List (Str × Value)} {m : Str → Option Value}, (∀ v, (x, v) ∉ binds) → bindL kindOf binds m x = m x
  | [], _, _ => rfl
  | (n, v) :: r, m, h => by
    unfold bindL
    rw [bindL_out fun w hw => h w (List.mem_cons_of_mem _ hw)]
    split
    · have : x ≠ n := by rintro rfl; exact h v List.mem_cons_self
      simp [this]
    · rfl
theorem bindC_out {kindOf : Str → Option NameKind} {x : Str} : ∀ {binds : List (Str × Value)} {m : Str → Option Value}, (∀ v, (x, v) ∉ binds) → bindC kindOf binds m x = m x
  | [], _, _ => rfl
  | (n, v) :: r, m, h => by
    unfold bindC
    rw [bindC_out fun w hw => h w (List.mem_cons_of_mem _ hw)]
    split
    · rfl
    · have : x ≠ n := by rintro rfl; exact h v List.mem_cons_self
      simp [this]
theorem bindL_get {kindOf : Str → Option NameKind} {x : Str} {v : Value} : ∀ {P : List Str} {vs : List Value} {i : Nat} {m : Str → Option Value}, P.Nodup → P[i]? = some x → vs[i]? = some v → kindOf x = some .local →
    bindL kindOf (P.zip vs) m x = some v
  | [], _, _, _, _, h, _, _ => by simp at h
  | _ :: _, [], _, _, _, _, h, _ => by simp at h
  | p :: P, w :: vs, 0, m, nd, h1, h2, hk => by
    simp at h1 h2; subst h1; subst h2
    show bindL kindOf ((p, w) :: P.zip vs) m p = _
    unfold bindL
    rw [bindL_out fun v hv => (List.nodup_cons.mp nd).1 (List.of_mem_zip hv).1, if_pos hk]
    simp
  | p :: P, w :: vs, i + 1, m, nd, h1, h2, hk => by
    show bindL kindOf ((p, w) :: P.zip vs) m x = _
    unfold bindL
    exact bindL_get (i := i) (List.nodup_cons.mp nd).2 (by simpa using h1) (by simpa using h2) hk
theorem bindC_get {kindOf : Str → Option NameKind} {x : Str} {v : Value} : ∀ {P : List Str} {vs : List Value} {i : Nat} {m : Str → Option Value}, P.Nodup → P[i]? = some x → vs[i]? = some v → kindOf x ≠ some .local →
    bindC kindOf (P.zip vs) m x = some v
  | [], _, _, _, _, h, _, _ => by simp at h
  | _ :: _, [], _, _, _, _, h, _ => by simp at h
  | p :: P, w :: vs, 0, m, nd, h1, h2, hk => by
    simp at h1 h2; subst h1; subst h2
    show bindC kindOf ((p, w) :: P.zip vs) m p = _
    unfold bindC
    rw [bindC_out fun v hv => (List.nodup_cons.mp nd).1 (List.of_mem_zip hv).1, if_neg hk]
    simp
  | p :: P, w :: vs, i + 1, m, nd, h1, h2, hk => by
    show bindC kindOf ((p, w) :: P.zip vs) m x = _
    unfold bindC
    exact bindC_get (i := i) (List.nodup_cons.mp nd).2 (by simpa using h1) (by simpa using h2) hk

/-- the names' values at the entry -/
def start (N : List Str) (vs : List V) : St := vs.map some ++ List.replicate (N.length - vs.length) none

/-- the context of a def's body, at its entry; an exception leaves the frame, then lies as CX says -/
def cxOf (CX : CXT) (P : Program) (w : World) (K : PySem.W.Frag) (mg : Str → Option Value) (base : Heap) (N : List Str) (qual : Str) (scope : Scope) (f : Addr) (cd : Value) (A : Around) (outer : List Env) (s : Shared) (H : Hp) (E : XK) : Cx where
  prog := P
  w := w
  K := K
  mg := mg
  base := base
  A := A.deeper (envOfC qual scope s.heap.objs.size f cd)
  N := N
  s₀ := s
  H₀ := H
  env := envOfC qual scope s.heap.objs.size f cd
  outer := outer
  stack := envOfC qual scope s.heap.objs.size f cd :: outer
  ex := []
  calm := true
  fn := fun _ => true
  pn := []
  xe := fun e s' => wpAny (model P w) (A.deeper (envOfC qual scope s.heap.objs.size f cd)) (leaving (envOfC qual scope s.heap.objs.size f cd) e) (fun _ s'' => CX outer H s E e s'') (fun e' s'' => CX outer H s E e' s'') s'

theorem cell_has {sc : Scope} {n : Nat} {x : Str} (h : sc.names.lookup x = some .cell) : ∃ c, (cellsFrom n sc.names []).lookup x = some c := by
  have q := PySem.W.cellsFrom_some sc.names n [] (.inl h)
  exact Option.isSome_iff_exists.mp q

theorem inv_start {CX : CXT} {P : Program} {w : World} {K : PySem.W.Frag} {mg : Str → Option Value} {base : Heap} {N ps : List Str} {qual : Str} {scope : Scope} {f : Addr} {cd : Value} {A : Around} {outer : List Env} {s s1 : Shared} {H : Hp} {E : XK} {us : List Value} {vs : List V}
    (S : FnScope N ps scope) (hd : A.handled = none) (e0 : Env0 P w K mg base A outer s H) (hl : vs.length = ps.length) (r : Vals vs us)
    (x : InCallC s s.heap.objs.size (bindL (envOfC qual scope s.heap.objs.size f cd).kindOf (ps.zip us) fun _ => none) (cellsFrom (s.heap.objs.size + 1) scope.names []) (bindC (envOfC qual scope s.heap.objs.size f cd).kindOf (ps.zip us) fun _ => none) s1) :
    Inv (cxOf CX P w K mg base N qual scope f cd A outer s H E) [] (start N vs) H s1 := by
  have hpl : ps.length ≤ N.length := by have := congrArg List.length S.pre; rw [List.length_take] at this; omega
  obtain ⟨h1, tk, rfl, hk⟩ := x.done
  have noA : ∀ b : Addr, b ∉ (cxOf CX P w K mg base N qual scope f cd A outer s H E).ex := fun b z => absurd (show b ∈ ([] : List Addr) from z) (by simp)
  refine ⟨⟨e0.mod, S.kind, rfl, rfl, Nat.le_refl _, fun y z c h1 h2 => ?_, fun y hy => ?_, fun y c _ h => ?_, fun _ => hd, Around.frames_deeper e0.frames, .inr ⟨rfl, rfl⟩, fun b z => absurd z (noA b), e0.bs, e0.bsz, fun b _ _ => noA b, fun b z => absurd z (noA b), e0.funs, e0.frf⟩,
    rfl, e0.bare, Un.kept hk, ⟨_, x.toInCall.ns, fun i y v h1 h2 h3 => ?_⟩, fun y c h => ⟨_, x.cell y c h⟩, e0.hok.fresh (Nat.le_refl _), fun y c h => ?_, fun p hp => absurd (show p ∈ ([] : List (Addr × Obj)) from hp) (by simp), e0.hok.kept hk, ?_⟩
  · exact name_of_addr x.apart (PySem.mem_of_lookup h1) (PySem.mem_of_lookup h2)
  · have hy : scope.names.lookup y = some .cell ∨ scope.names.lookup y = some .free := hy
    rcases hy with hy | hy
    · exact cell_has hy
    · exact absurd rfl (S.nofree _ (PySem.mem_of_lookup hy))
  · exact Nat.le_of_lt (x.above y c (PySem.mem_of_lookup h))
  · have hi : i < vs.length := by
      unfold start at h2
      by_cases hi : i < vs.length
      · exact hi
      · rw [List.getElem?_append_right (by simpa using hi)] at h2
        rw [List.getElem?_replicate] at h2
        split at h2 <;> cases h2
    have ha : vs[i]? = some v := by
      unfold start at h2
      rw [List.getElem?_append_left (by simpa using hi), List.getElem?_map] at h2
      cases e : vs[i]? with
      | none => rw [e] at h2; cases h2
      | some a => rw [e] at h2; cases h2; rfl
    obtain ⟨u, hu, rv⟩ := r.get ha
    have hp : ps[i]? = some y := by
      rw [← S.pre, List.getElem?_take_of_lt (by omega)]; exact h1
    have ndP : ps.Nodup := by rw [← S.pre]; exact S.nd.sublist (List.take_sublist _ _)
    refine ⟨u, rv, ?_⟩
    rcases S.par y (List.mem_of_getElem? hp) with k | k
    · exact .inl ⟨k, bindL_get ndP hp hu k⟩
    · obtain ⟨c, e⟩ := cell_has (n := s.heap.objs.size + 1) k
      refine .inr ⟨.inl k, c, e, ?_⟩
      have q := x.cell y c e
      rw [bindC_get ndP hp hu (by show scope.names.lookup y ≠ _; rw [k]; decide)] at q
      exact q
  · exact e0.hok.fresh (Nat.le_of_lt (x.above y c (PySem.mem_of_lookup h)))
  · unfold start
    show _ = N.length
    rw [List.length_append, List.length_map, List.length_replicate]
    omega

/-- THE RULE: a def (or a method) of the text, by its body. The body's reading t is chosen for each entry; it is run at the parameters' values -/
theorem fn_of {CX : CXT} {P : Program} {w : World} {K : PySem.W.Frag} {mg : Str → Option Value} {base : Heap} {k : Nat} {f : Addr} {name qual : Str} {params : Arguments} {body : List Stmt} {scope : Scope} {dV kV doc pm cdv ct oc : Value} {an od : Option Addr}
    {osl : Array (Option Value)} {N ps : List Str} {sp : Sp} (lk : K.lookup f = some ⟨oc, od, .func (PySem.W.fnOf name qual params body scope dV kV doc pm an cdv ct), osl⟩) (hcd : PySem.W.codeIn K cdv qual = true) (S : FnScope N ps scope)
    (len : ∀ vs H Q E, sp vs H Q E → vs.length = ps.length)
    (hbody : ∀ (A : Around) (outer : List Env) (s : Shared) (H : Hp) (vs : List V) (Q : VK) (E : XK), Room k (A.deeper (envOfC qual scope s.heap.objs.size f cdv)) → sp vs H Q E →
      ∃ t, PSs (cxOf CX P w K mg base N qual scope f cdv A outer s H E) body t ∧ t { nx := fun _ H' => Q .non H', rt := Q } (start N vs) H) :
    FnOk P w K mg base CX (k + 1) f (PySem.W.fnOf name qual params body scope dV kV doc pm an cdv ct) ps sp := by
  refine ⟨len, fun A outer s H args us vs Q E hr e0 hb r hsp => ?_⟩
  have hl := len _ _ _ _ hsp
  have KX : K.In s.heap := e0.mod.kin.keeps fun b o e => (e0.bs b o e).1
  have lim : s.heap.NoLimit := e0.mod.nolimit.keeps fun b o e => (e0.bs b o e).1
  have hkind : ∀ y ∈ ps.zip us, scope.names.lookup y.1 = some .local ∨ (scope.names.lookup y.1 = some .cell ∧ ((cellsFrom (s.heap.objs.size + 1) scope.names []).lookup y.1).isSome = true) := fun ⟨n, v⟩ hy => by
    rcases S.par n (List.of_mem_zip hy).1 with q | q
    · exact .inl q
    · exact .inr ⟨q, PySem.W.cellsFrom_some _ _ _ (.inl q)⟩
  refine codeAny_call_function hr.depth (KX _ _ lk) rfl S.co S.gen rfl (PySem.W.codeRec_of KX hcd) (hb _ _ _ _ ?_)
  refine wpAny_newFunctionEnv_cells S.kind hkind fun env he s1 x => ?_
  subst he
  refine ⟨lim.keeps x.toInCall.keep, codeAny_func ?_⟩
  obtain ⟨t, ht, hq⟩ := hbody A outer s H vs Q E (hr.deeper _) hsp
  have I : Inv (cxOf CX P w K mg base N qual scope f cdv A outer s H E) [] (start N vs) H s1 := inv_start S hr.hd e0 hl r x
  refine wpAny_mono (ht [] s1 (start N vs) H _ I hq) (fun fl s' hs => ?_) fun e s' hs => hs
  have fin : ∀ {σ' : St} {H' : Hp} {v : V} {u : Value}, Inv (cxOf CX P w K mg base N qual scope f cdv A outer s H E) [] σ' H' s' → RelV v u → Q v H' → CE outer P w H s Q u s' :=
    fun {σ' H' v u} J rv q => ⟨v, H', J.os, J.bare, J.base, J.hok, rv, q⟩
  cases fl with
  | ret u =>
    obtain ⟨v, σ', H', J, rv, q⟩ := hs
    exact fin J rv q
  | next =>
    obtain ⟨σ', H', J, q⟩ := hs
    exact fin (v := V.non) (u := Value.none) J rfl q
  | brk =>
    obtain ⟨_, _, _, q⟩ := hs
    exact False.elim q
  | cont =>
    obtain ⟨_, _, _, q⟩ := hs
    exact False.elim q
end L2

namespace L2
open PySem PySem.Spec PyProof.Rows
section
variable {X : Cx} {x : Str} {p pos : Pos} {e : Expr} {es : List Expr} {t : TA} {id T : String} {r : List V → Hp → VK → Prop}

def tCB (r : List V → Hp → VK → Prop) (t : TA) : TE := fun σ H Q => t σ H fun vs H1 => r vs H1 Q
/-- f(e, ..), f a built-in function -/
theorem pe_callB (hc : CallR X (.builtin id) r) (hg : Gl X x) (hm : X.mg x = none) (hv : bootBuiltins x = some (.builtin id)) (ha : PA X (e :: es) t) (hn : x ≠ "__name__" := by decide) (hdb : (x == ("__debug__" : Str)) = false := by decide)
    (he : starEach (e :: es) X.env = (false, eval e X.env) :: starEach es X.env := by rfl) (hpl : (backTo pos (starEach es X.env)).any (·.1) = false := by rfl) : PE X (.Call (.Name x p) (e :: es) [] pos) (tCB r t) := by
  intro pins s σ H Q I h
  refine wpAny_Call_Name_kw (ld_blt I hg hm hv ?_ hn hdb)
  exact PyProof.Rows.callWith_builtin1 (thn (ha pos pins s σ H _ I h) fun us s1 ⟨vs, H1, I1, r1, q1⟩ => hc pins s1 σ H1 vs us Q I1 r1 q1) he hpl
/-- T(e, ..), T a built-in type -/
theorem pe_callTy (hc : CallR X (.type T) r) (hg : Gl X x) (hm : X.mg x = none) (hv : bootBuiltins x = some (.type T)) (ha : PA X (e :: es) t) (hn : x ≠ "__name__" := by decide) (hdb : (x == ("__debug__" : Str)) = false := by decide)
    (he : starEach (e :: es) X.env = (false, eval e X.env) :: starEach es X.env := by rfl) (hpl : (backTo pos (starEach es X.env)).any (·.1) = false := by rfl) : PE X (.Call (.Name x p) (e :: es) [] pos) (tCB r t) := by
  intro pins s σ H Q I h
  refine wpAny_Call_Name_kw (ld_blt I hg hm hv ?_ hn hdb)
  exact PyProof.Rows.callWith_type1 (thn (ha pos pins s σ H _ I h) fun us s1 ⟨vs, H1, I1, r1, q1⟩ => hc pins s1 σ H1 vs us Q I1 r1 q1) he hpl
end
end L2

namespace HT
open PySem PyProof.Rows

/-- t < u of tuples of ints -/
def lexLt : List Int → List Int → Bool
  | [], [] => false
  | [], _ :: _ => true
  | _ :: _, [] => false
  | x :: xs, y :: ys => if x = y then lexLt xs ys else decide (x < y)
section
open PySem.SeqAt
open PySem.AutoSeq1 (wpAny_loadPart')
open PySem.MeetsSeq PySem.MeetsSeq2 PySem.MeetsSeq3

end

section
variable {prog : Program} {w : World} {A : Around} {E : Value → Shared → Prop} {s : Shared}

/-- t + u, t not empty -/
theorem cat_tup {t b : Addr} {vs ws : List Value} {Q : Value → Shared → Prop} (ht : IsTup s.heap t vs.toArray) (hb : IsTup s.heap b ws.toArray) (hv : vs ≠ [])
    (h1 : ws = [] → Q (.ref t) s) (h2 : ws ≠ [] → Q (.ref s.heap.objs.size) { s with heap := s.heap.push { cls := .type "tuple", data := .seq (vs ++ ws).toArray } })
    (hsz : vs.length + ws.length ≤ sizeLine) : wpAny (model prog w) A (binaryOp .Add (.ref t) (.ref b)) Q E s := by
  obtain ⟨⟨cls, dd, data, sl⟩, ho, hc, n, hd⟩ := id ht
  obtain ⟨⟨cls2, dd2, data2, sl2⟩, ho2, hc2, n2, hd2⟩ := id hb
  simp only at hc hd hc2 hd2
  subst hc hd hc2 hd2
  have e : vs.toArray ++ ws.toArray = (vs ++ ws).toArray := by simp
  by_cases hw : ws = []
  · exact concat_meets ⟨_, ho, rfl⟩ ⟨_, ho2, rfl⟩ noFill_tuple_add seq_tuple_add PySem.F.slot_tuple_add PySem.F.entry_tuple_add (PySem.F.args_tuple_add_2 _ _)
      (tuple_addW1 t b vs.toArray ws.toArray n n2 dd dd2 sl sl2 (by simpa using hv) (by simp [hw])) ⟨ho, ho2, h1 hw⟩
  · refine concat_meets ⟨_, ho, rfl⟩ ⟨_, ho2, rfl⟩ noFill_tuple_add seq_tuple_add PySem.F.slot_tuple_add PySem.F.entry_tuple_add (PySem.F.args_tuple_add_2 _ _)
      (tuple_addW2 t b vs.toArray ws.toArray n n2 dd dd2 sl sl2 (by simpa using hv) (by simpa using hw) (by rw [List.size_toArray, List.size_toArray]; exact hsz)) ⟨ho, ho2, ?_⟩
    rw [e]
    exact h2 hw

/-! ### t[a:b], not the whole -/
/-- a slice's bound as a place among n (d where it is left out) -/
def sIx (n d : Nat) : Option Int → Nat
  | none => d
  | some v => if v < 0 then (v + (n : Int)).toNat else min v.toNat n
theorem sIx_le (n d : Nat) (hd : d ≤ n) (o : Option Int) : sIx n d o ≤ n := by
  cases o with
  | none => exact hd
  | some v =>
    show (if v < 0 then (v + (n : Int)).toNat else min v.toNat n) ≤ n
    by_cases hv : v < 0
    · rw [if_pos hv]; omega
    · rw [if_neg hv]; exact Nat.min_le_right _ _
theorem clip_eq (v : Int) (n d : Nat) : (if v < 0 then max (v + (n : Int)) 0 else min v (n : Int)) = ((sIx n d (some v) : Nat) : Int) := by
  show (if v < 0 then max (v + (n : Int)) 0 else min v (n : Int)) = (((if v < 0 then (v + (n : Int)).toNat else min v.toNat n) : Nat) : Int)
  by_cases hv : v < 0
  · simp only [if_pos hv]; omega
  · simp only [if_neg hv]; omega
theorem adjust_gen (lo hi : Option Int) (n : Nat) : Builtin.Slice.sliceAdjust lo hi 1 (n : Int) = (((sIx n 0 lo : Nat) : Int), ((sIx n n hi : Nat) : Int)) := by
  have h1 : ¬ ((1 : Int) < 0) := by omega
  unfold Builtin.Slice.sliceAdjust
  simp only [h1, if_false]
  refine Prod.ext ?_ ?_
  · cases lo with
    | none => rfl
    | some v => exact clip_eq v n 0
  · cases hi with
    | none => rfl
    | some v => exact clip_eq v n n
theorem places_gen (i j : Nat) : Builtin.Slice.slicePlaces (i : Int) (j : Int) 1 = j - i := by
  unfold Builtin.Slice.slicePlaces
  have h1 : (1 : Int) > 0 := by omega
  simp only [h1, if_true, Int.ediv_one]
  split <;> omega
theorem slicePart_ {v : Value} {o : Option Int} {Q : Option Int → Shared → Prop} (p : IsPart v o) (h : Q o s) : wpAny (model prog w) A (Builtin.Slice.slicePartIndex v) Q E s := by
  cases p with
  | none => exact slicePart_none h
  | int i t => exact slicePart_int h
theorem sliceApplied_gen {sl : Addr} {vl vu : Value} {lo hi : Option Int} {n : Nat} {Q : Int × Int × Nat → Shared → Prop} (hs : s.heap.IsSliceOf sl vl vu .none) (pl : IsPart vl lo) (pu : IsPart vu hi)
    (h : Q (((sIx n 0 lo : Nat) : Int), 1, sIx n n hi - sIx n 0 lo) s) : wpAny (model prog w) A (Builtin.Slice.sliceApplied (.ref sl) (pure (n : Int))) Q E s := by
  obtain ⟨os, hos, hcs, hds⟩ := id hs
  unfold Builtin.Slice.sliceApplied Builtin.Slice.sliceFields
  refine wpAny_bind (wpAny_bind (wpAny_field hos hds (x := vl) rfl (wpAny_bind (wpAny_field hos hds (x := vu) rfl (wpAny_bind (wpAny_field hos hds (x := .none) rfl (wpAny_pure ?_)))))))
  refine wpAny_bind (slicePart_none ?_)
  show wpAny _ _ (if ((1 : Int) == 0) = true then _ else _) _ _ s
  rw [if_neg (by decide)]
  refine wpAny_bind (slicePart_ pl (wpAny_bind (slicePart_ pu (wpAny_bind (wpAny_pure ?_)))))
  show wpAny _ _ (match Builtin.Slice.sliceAdjust lo hi 1 (n : Int) with | (lo, hi) => pure (lo, (1 : Int), Builtin.Slice.slicePlaces lo hi 1)) _ _ s
  rw [adjust_gen lo hi n]
  show wpAny _ _ (pure (((sIx n 0 lo : Nat) : Int), (1 : Int), Builtin.Slice.slicePlaces ((sIx n 0 lo : Nat) : Int) ((sIx n n hi : Nat) : Int) 1)) _ _ s
  rw [places_gen]
  exact wpAny_pure h
theorem pick_gen (xs : Array Value) (i k : Nat) : ((List.range k).filterMap fun (m : Nat) => xs[((i : Int) + (m : Int) * 1).toNat]?).toArray = ((xs.toList.drop i).take k).toArray := by
  have e : (fun (m : Nat) => xs[((i : Int) + (m : Int) * 1).toNat]?) = fun m => xs[i + m]? := by
    funext m
    have : ((i : Int) + (m : Int) * 1).toNat = i + m := by omega
    rw [this]
  rw [e]
  have := pick_run xs i k
  rw [List.filterMap_map] at this
  have e2 : ((fun x => xs[x]?) ∘ fun x => i + x) = fun m => xs[i + m]? := rfl
  rw [e2] at this
  rw [this]

theorem getItem_tuple_cut {t sl : Addr} {items : Array Value} {vl vu : Value} {lo hi : Option Int} {Q : Value → Shared → Prop} (ht : IsTup s.heap t items) (hs : s.heap.IsSliceOf sl vl vu .none) (pl : IsPart vl lo) (pu : IsPart vu hi)
    (hw : ¬ (sIx items.size 0 lo = 0 ∧ sIx items.size items.size hi = items.size))
    (h : Q (.ref s.heap.objs.size) { s with heap := s.heap.push { cls := .type "tuple", data := .seq ((items.toList.drop (sIx items.size 0 lo)).take (sIx items.size items.size hi - sIx items.size 0 lo)).toArray } })
    (hsz : items.size ≤ sizeLine) : wpAny (model prog w) A (getItem (.ref t) (.ref sl)) Q E s := by
  have htake : sizeOk (.seq ((items.toList.drop (sIx items.size 0 lo)).take (sIx items.size items.size hi - sIx items.size 0 lo)).toArray) := by
    show ((items.toList.drop (sIx items.size 0 lo)).take (sIx items.size items.size hi - sIx items.size 0 lo)).toArray.size ≤ sizeLine
    rw [List.size_toArray, List.length_take, List.length_drop, Array.length_toList]
    omega
  have hj : sIx items.size items.size hi ≤ items.size := sIx_le _ _ (Nat.le_refl _) hi
  obtain ⟨os, hos, hcs, hds⟩ := id hs
  have hTs : s.TypeIs (.ref sl) "slice" := ⟨os, hos, hcs⟩
  unfold getItem
  try with_reducible refine wpAny_holding ?_
  first | refine wpAny_bind (wpAny_pure ?_) | skip
  refine wpAny_bind (wpAny_sequenceKey ht.typeIs (by decide) ?_)
  refine wpAny_bind (wpAny_callSpecial?_slot (name := Str.ofString "__getitem__") ht.typeIs PyProof.Rows.slot_tuple_getitem
    (wpAny_call_entry PyProof.Rows.slot_tuple_getitem ht.typeIs entry_tuple_getitem ?_ (args_tuple_getitem _ _)))
  show wpAny _ _ (Builtin.Tuple.tupleItemsOf (.ref t) >>= _) _ _ s
  refine wpAny_bind (tupleItemsOf_ ht ?_)
  refine wpAny_bind (wpAny_typeOf hTs ?_)
  rw [if_pos (by decide)]
  refine wpAny_bind (sliceApplied_gen hs pl pu ?_)
  have hno : ¬ ((((sIx items.size 0 lo : Nat) : Int) == 0 && (1 : Int) == 1 && (sIx items.size items.size hi - sIx items.size 0 lo) == items.size) = true) := by
    intro q
    rw [Bool.and_eq_true, Bool.and_eq_true] at q
    have q1 : ((sIx items.size 0 lo : Nat) : Int) = 0 := eq_of_beq q.1.1
    have q2 : sIx items.size items.size hi - sIx items.size 0 lo = items.size := eq_of_beq q.2
    exact hw ⟨by omega, by omega⟩
  show wpAny _ _ (if (((sIx items.size 0 lo : Nat) : Int) == 0 && (1 : Int) == 1 && (sIx items.size items.size hi - sIx items.size 0 lo) == items.size) = true then _ else _) _ _ s
  rw [if_neg hno, pick_gen]
  first
    | exact wpAny_bind (m := Builtin.Tuple.tupleExact _) (wpAny_newObj_type (wpAny_pure ⟨_, rfl, wpAny_pure h⟩) htake)
    | exact wpAny_bind (m := Builtin.Tuple.tupleExact _) (wpAny_newObj_type (wpAny_bind (wpAny_pure (wpAny_pure ⟨_, rfl, wpAny_pure h⟩))) htake)
    | exact wpAny_bind (wpAny_bind (m := Builtin.Tuple.tupleExact _) (wpAny_newObj_type (wpAny_pure (wpAny_pure ⟨_, rfl, wpAny_pure h⟩)) htake))
    | exact wpAny_bind (wpAny_bind (m := Builtin.Tuple.tupleExact _) (wpAny_newObj_type (wpAny_pure ⟨_, rfl, wpAny_pure h⟩) htake))
end
end HT

namespace L2
open PySem PySem.Spec PyProof.Rows

/-! ### the parts of a slice -/
abbrev TO := St → Hp → (Option Int → Hp → Prop) → Prop
/-- a slice's part (left out, or an int) -/
def PO (X : Cx) (e : Option Expr) (t : TO) : Prop :=
  ∀ (pins : List (Addr × Obj)) (s : Shared) (σ : St) (H : Hp) (Q : Option Int → Hp → Prop), Inv X pins σ H s → t σ H Q →
    wpAny (model X.prog X.w) X.A (evalPart e X.env) (fun u s' => ∃ o H', Inv X pins σ H' s' ∧ IsPart u o ∧ Q o H') X.xe s
def tNoPart : TO := fun _ H Q => Q none H
def tPart (t : TE) : TO := fun σ H Q => t σ H fun x H1 => ∃ i, x = .int i ∧ Q (some i) H1

section
variable {X : Cx} {e : Expr} {te : TE} {lo hi : Option Expr} {tl th : TO} {pos p2 : Pos}

theorem po_none : PO X none tNoPart := by
  intro pins s σ H Q I h
  rw [evalPart_none]
  exact wpAny_pure ⟨none, H, I, .none, h⟩
theorem po_some (h : PE X e te) : PO X (some e) (tPart te) := by
  intro pins s σ H Q I hw
  rw [evalPart_some]
  refine thn (h pins s σ H _ I hw) fun u s1 ⟨x, H1, I1, r1, q1⟩ => ?_
  obtain ⟨i, rfl, q⟩ := q1
  obtain ⟨t, rfl⟩ := r1
  exact ⟨some i, H1, I1, .int i t, q⟩

/-- what a slice of a value is, by values: the slice object stands at sl -/
def SlR (X : Cx) (r : V → Option Int → Option Int → Hp → VK → Prop) : Prop :=
  ∀ (pins : List (Addr × Obj)) (s : Shared) (σ : St) (H : Hp) (x : V) (v vl vu : Value) (lo hi : Option Int) (sl : Addr) (Q : VK), Inv X pins σ H s → RelV x v → s.heap.IsSliceOf sl vl vu .none → IsPart vl lo → IsPart vu hi → r x lo hi H Q →
    ∃ T id, typeLookup (.type T) "__getitem__" = pure (some (.builtin id)) ∧ s.TypeIs v T ∧ wpAny (model X.prog X.w) X.A (getItem v (.ref sl)) (EP X pins σ Q) X.xe s
theorem SlR.or {r r' : V → Option Int → Option Int → Hp → VK → Prop} (h : SlR X r) (h' : SlR X r') : SlR X (fun x lo hi H Q => r x lo hi H Q ∨ r' x lo hi H Q) := by
  intro pins s σ H x v vl vu lo hi sl Q I rx hs pl pu q
  rcases q with q | q
  · exact h pins s σ H x v vl vu lo hi sl Q I rx hs pl pu q
  · exact h' pins s σ H x v vl vu lo hi sl Q I rx hs pl pu q
def tSl (r : V → Option Int → Option Int → Hp → VK → Prop) (te : TE) (tl th : TO) : TE := fun σ H Q => te σ H fun x H1 => tl σ H1 fun l H2 => th σ H2 fun u H3 => r x l u H3 Q
/-- a[lo:hi], any a -/
theorem pe_slice {r : V → Option Int → Option Int → Hp → VK → Prop} (hr : SlR X r) (he : PE X e te) (hl : PO X lo tl) (hu : PO X hi th) : PE X (.Subscript e (.Slice lo hi none p2) pos) (tSl r te tl th) := by
  intro pins s σ H Q I h
  refine Subscript_ (thn (he pins s σ H _ I h) fun v s1 ⟨x, H1, I1, r1, q1⟩ => ?_)
  refine wpAny_Slice (thn (hl pins s1 σ H1 _ I1 q1) fun vl s2 ⟨l, H2, I2, pl, q2⟩ => thn (hu pins s2 σ H2 _ I2 q2) fun vu s3 ⟨u, H3, I3, pu, q3⟩ => ?_)
  rw [evalPart_none]
  refine wpAny_pure ?_
  have I4 : Inv X pins σ H3 { s3 with heap := s3.heap.push { cls := .type "slice", data := .fields #[vl, vu, .none] } } := I3.kept (t' := s3.toks) fun b ob q => Heap.get?_push_of_some _ q
  obtain ⟨T, id, hT, ht, hg⟩ := hr pins { s3 with heap := s3.heap.push { cls := .type "slice", data := .fields #[vl, vu, .none] } } σ H3 x v vl vu l u s3.heap.objs.size Q I4 r1 (Heap.IsSliceOf.new ..) pl pu q3
  show wpAny (model X.prog X.w) X.A (subscriptTail e (.Slice lo hi none p2) v (.ref s3.heap.objs.size)) (EP X pins σ Q) X.xe { s3 with heap := s3.heap.push { cls := .type "slice", data := .fields #[vl, vu, .none] } }
  exact tail_any (ops := [.ref s3.heap.objs.size, v]) ht hT hg (by with_unfolding_all rfl)

/-- the items of xs[lo:hi] -/
def cutV (xs : List V) (lo hi : Option Int) : List V := (xs.drop (HT.sIx xs.length 0 lo)).take (HT.sIx xs.length xs.length hi - HT.sIx xs.length 0 lo)
theorem cutV_length (xs : List V) (lo hi : Option Int) : (cutV xs lo hi).length ≤ xs.length := by
  unfold cutV
  rw [List.length_take, List.length_drop]
  omega
/-- t[lo:hi], not the whole of it (the whole would be t itself) -/
def rSlT (K : PySem.W.Frag) : V → Option Int → Option Int → Hp → VK → Prop := fun x lo hi H Q => ∃ a xs, x = .ref a ∧ SqT K H a xs ∧
  ¬ (HT.sIx xs.length 0 lo = 0 ∧ HT.sIx xs.length xs.length hi = xs.length) ∧ ∀ p, H p = none → Q (.ref p) (upd H p (.tup (cutV xs lo hi)))
theorem sl_tup : SlR X (rSlT X.K) := by
  intro pins s σ H x v vl vu lo hi sl Q I rx hs pl pu h
  obtain ⟨a, xs, rfl, hx, hw, q⟩ := h
  cases rx
  obtain ⟨its, r, ht, hz⟩ := I.tuple hx
  have hlen : its.toArray.size = xs.length := by rw [List.size_toArray]; exact r.length.symm
  refine ⟨"tuple", _, PyProof.Rows.slot_tuple_getitem.lookup, ht.typeIs, ?_⟩
  refine HT.getItem_tuple_cut ht hs pl pu (by rw [hlen]; exact hw) ?_ (by rw [hlen]; exact hz)
  rw [hlen]
  refine ⟨.ref s.heap.objs.size, _, I.laid (t' := s.toks) (o := .tup (cutV xs lo hi)) (fun b ob q => Heap.get?_push_of_some _ q) (Nat.le_refl _) ?_, rfl, q _ (I.hok.fresh (Nat.le_refl _))⟩
  exact ⟨Nat.le_trans (cutV_length xs lo hi) hz, _, (r.drop (HT.sIx xs.length 0 lo)).take (HT.sIx xs.length xs.length hi - HT.sIx xs.length 0 lo), IsTup.new _ _⟩

/-! ### t < u, t + u -/
def rLtT (K : PySem.W.Frag) : R2 := fun x y H Q => ∃ a b ns ms, x = .ref a ∧ y = .ref b ∧ SqT K H a (ns.map V.int) ∧ SqT K H b (ms.map V.int) ∧ Q (.bl (HT.lexLt ns ms)) H
/-- t + u, t not empty: u empty gives t itself -/
def rCatT (K : PySem.W.Frag) : R2 := fun x y H Q => ∃ a b xs ys, x = .ref a ∧ y = .ref b ∧ SqT K H a xs ∧ SqT K H b ys ∧ xs ≠ [] ∧ xs.length + ys.length ≤ sizeLine ∧
  (ys = [] → Q (.ref a) H) ∧ (ys ≠ [] → ∀ p, H p = none → Q (.ref p) (upd H p (.tup (xs ++ ys))))
theorem Vals.nil_iff {xs : List V} {us : List Value} (r : Vals xs us) : us = [] ↔ xs = [] := by
  cases r with
  | nil => simp
  | cons _ _ => simp
theorem op_catT : OpR X (binaryOp .Add) (rCatT X.K) := by
  intro pins s σ H x y v u Q I rx ry h
  obtain ⟨a, b, xs, ys, rfl, rfl, ha, hb, hx, hz, q1, q2⟩ := h
  cases rx
  cases ry
  obtain ⟨its, r1, p1, _⟩ := I.tuple ha
  obtain ⟨its2, r2, p2, _⟩ := I.tuple hb
  refine HT.cat_tup p1 p2 (fun z => hx (r1.nil_iff.mp z)) (fun z => ⟨.ref a, H, I, rfl, q1 (r2.nil_iff.mp z)⟩) (fun z => ?_) (by rw [← r1.length, ← r2.length]; exact hz)
  refine ⟨.ref s.heap.objs.size, _, I.laid (t' := s.toks) (o := .tup (xs ++ ys)) (fun b ob q => Heap.get?_push_of_some _ q) (Nat.le_refl _) ?_, rfl, q2 (fun w => z (r2.nil_iff.mpr w)) _ (I.hok.fresh (Nat.le_refl _))⟩
  exact ⟨by rw [List.length_append]; exact hz, _, r1.append r2, IsTup.new _ _⟩
end
end L2

namespace L2
open PySem PySem.Spec PyProof.Rows

/-! ### places -/
/-- the place that an index of any sign means -/
def ixN (n : Nat) (i : Int) : Option Nat := if 0 ≤ i then (if i < n then some i.toNat else none) else if -(n : Int) ≤ i then some (i + n).toNat else none
def atI {α : Type} (xs : List α) (i : Int) : Option α := (ixN xs.length i).bind fun j => xs[j]?
theorem ixN_seq {n : Nat} {i : Int} {j : Nat} (h : ixN n i = some j) : seqIndex? i n = some j ∧ j < n ∧ -(n : Int) ≤ i ∧ i < n := by
  unfold ixN at h
  by_cases h0 : 0 ≤ i
  · rw [if_pos h0] at h
    by_cases h1 : i < n
    · rw [if_pos h1] at h
      have e : i.toNat = j := Option.some.inj h
      exact ⟨by rw [seqIndex_of h0 h1, e], by omega, by omega, h1⟩
    · rw [if_neg h1] at h; cases h
  · rw [if_neg h0] at h
    by_cases h1 : -(n : Int) ≤ i
    · rw [if_pos h1] at h
      have e : (i + n).toNat = j := Option.some.inj h
      exact ⟨by rw [seqIndex_neg (by omega) h1, e], by omega, h1, by omega⟩
    · rw [if_neg h1] at h; cases h
theorem atI_get {α : Type} {xs : List α} {i : Int} {v : α} (h : atI xs i = some v) : ∃ j, seqIndex? i xs.length = some j ∧ xs[j]? = some v ∧ j < xs.length ∧ -(xs.length : Int) ≤ i ∧ i < xs.length := by
  unfold atI at h
  cases e : ixN xs.length i with
  | none => rw [e] at h; cases h
  | some j =>
    rw [e] at h
    obtain ⟨h1, h2, h3, h4⟩ := ixN_seq e
    exact ⟨j, h1, h, h2, h3, h4⟩
theorem atI_nat {α : Type} {xs : List α} {j : Nat} {v : α} (h : xs[j]? = some v) : atI xs (j : Int) = some v := by
  have hj : j < xs.length := (List.getElem?_eq_some_iff.mp h).1
  have e : ixN xs.length (j : Int) = some j := by
    unfold ixN
    rw [if_pos (by omega), if_pos (by omega)]; simp
  unfold atI; rw [e]; exact h
/-! ### what may be subscripted -/
/-- what stands as an index of a plain subscript -/
def PlainIx (b : Expr) : Prop := ∀ o i, subscripted b false o i = operate [o, i] (getItem o i)
/-- a subscript by values -/
def IxR (X : Cx) (r : R2) : Prop :=
  ∀ (value slice : Expr) (pins : List (Addr × Obj)) (s : Shared) (σ : St) (H : Hp) (x y : V) (v u : Value) (Q : VK), Inv X pins σ H s → RelV x v → RelV y u → r x y H Q →
    subscripted slice false v u = operate [v, u] (getItem v u) → wpAny (model X.prog X.w) X.A (subscriptTail value slice v u) (EP X pins σ Q) X.xe s
/-- a call of a builtin's method by values: the receiver, the arguments -/
def MtR (X : Cx) (id : String) (r : V → List V → Hp → VK → Prop) : Prop :=
  ∀ (pins : List (Addr × Obj)) (s : Shared) (σ : St) (H : Hp) (x : V) (xs : List V) (v : Value) (us : List Value) (Q : VK), Inv X pins σ H s → RelV x v → Vals xs us → r x xs H Q →
    wpAny (model X.prog X.w) X.A (call (.builtin id) (v :: us)) (EP X pins σ Q) X.xe s
section
variable {X : Cx} {a b : Expr} {ta tb : TE} {pos : Pos}
theorem IxR.or {r r' : R2} (h : IxR X r) (h' : IxR X r') : IxR X (fun x y H Q => r x y H Q ∨ r' x y H Q) := by
  intro value slice pins s σ H x y v u Q I rx ry q hs
  rcases q with q | q
  · exact h value slice pins s σ H x y v u Q I rx ry q hs
  · exact h' value slice pins s σ H x y v u Q I rx ry q hs
theorem MtR.or {id : String} {r r' : V → List V → Hp → VK → Prop} (h : MtR X id r) (h' : MtR X id r') : MtR X id (fun x xs H Q => r x xs H Q ∨ r' x xs H Q) := by
  intro pins s σ H x xs v us Q I rx rs q
  rcases q with q | q
  · exact h pins s σ H x xs v us Q I rx rs q
  · exact h' pins s σ H x xs v us Q I rx rs q
/-- a[b] -/
theorem pe_ix {r : R2} (hr : IxR X r) (ha : PE X a ta) (hb : PE X b tb) (hs : PlainIx b) : PE X (.Subscript a b pos) (tOp r ta tb) := by
  intro pins s σ H Q I h
  exact Subscript_ (binT ha hb I h fun v u s2 x y H2 I2 rx ry q => hr a b pins s2 σ H2 x y v u Q I2 rx ry q (hs _ _))

def rIxL (K : PySem.W.Frag) : R2 := fun x y H Q => ∃ p xs i v, x = .ref p ∧ y = .int i ∧ SqL K H p xs ∧ atI xs i = some v ∧ Q v H
def rIxT (K : PySem.W.Frag) : R2 := fun x y H Q => ∃ p xs i v, x = .ref p ∧ y = .int i ∧ SqT K H p xs ∧ atI xs i = some v ∧ Q v H
def rIxS : R2 := fun x y H Q => ∃ z i c, x = .str z ∧ y = .int i ∧ z.length ≤ sizeLine ∧ atI z.cps.toList i = some c ∧ Q (.str ⟨#[c]⟩) H
theorem ix_list : IxR X (rIxL X.K) := by
  intro value slice pins s σ H x y v u Q I rx ry h hs
  obtain ⟨p, xs, i, z, rfl, rfl, hq, he, q⟩ := h
  cases rx
  obtain ⟨t, rfl⟩ := ry
  obtain ⟨its, r, pl, hz⟩ := I.list hq
  obtain ⟨j, h1, h2, h3, h4, h5⟩ := atI_get he
  obtain ⟨w, ew, rw'⟩ := r.get h2
  have hl := r.length
  have hn := line63
  have fin : EP X pins σ Q w s := ⟨z, H, I, rw', q⟩
  by_cases h0 : 0 ≤ i
  · have hj : i.toNat = j := by
      rw [seqIndex_of h0 h5] at h1
      exact Option.some.inj h1
    exact item_listR pl.isList h0 (by omega) (by rw [hj]; simpa using ew) fin hs
  · have hj : (i + (its.toArray.size : Int)).toNat = j := by
      rw [seqIndex_neg (by omega) h4] at h1
      rw [List.size_toArray, ← hl]
      exact Option.some.inj h1
    exact subscriptTail_builtinR (x := w) pl.isList.typeIs slot_list_getitem.lookup
      (wpAny_getItem_list_neg (Q := fun r s' => r = w ∧ EP X pins σ Q r s') pl.isList (by omega) (by rw [List.size_toArray] <;> omega) (by omega) (by rw [hj]; simpa using ew) ⟨rfl, fin⟩) hs
theorem ix_tup : IxR X (rIxT X.K) := by
  intro value slice pins s σ H x y v u Q I rx ry h hs
  obtain ⟨p, xs, i, z, rfl, rfl, hq, he, q⟩ := h
  cases rx
  obtain ⟨t, rfl⟩ := ry
  obtain ⟨its, r, pl, hz⟩ := I.tuple hq
  obtain ⟨j, h1, h2, h3, h4, h5⟩ := atI_get he
  obtain ⟨w, ew, rw'⟩ := r.get h2
  have hl := r.length
  have hn := line63
  have fin : EP X pins σ Q w s := ⟨z, H, I, rw', q⟩
  exact subscriptTail_builtinR (x := w) pl.typeIs slot_tuple_getitem.lookup
    (getItem_tuple (j := j) (Q := fun r s' => r = w ∧ EP X pins σ Q r s') pl (by omega) (by omega) (by rw [List.size_toArray, ← hl]; exact h1) (by simpa using ew) ⟨rfl, fin⟩) hs
/-- list, tuple or str -/
def rIx (K : PySem.W.Frag) : R2 := fun x y H Q => rIxL K x y H Q ∨ rIxT K x y H Q ∨ rIxS x y H Q
theorem Inv.lst {pins : List (Addr × Obj)} {σ : St} {H : Hp} {s : Shared} {p : Addr} {xs : List V} (I : Inv X pins σ H s) (h : H p = some (.lst xs)) :
    ∃ (its : List Value) (n : Nat), Vals xs its ∧ s.heap.get? p = some { cls := .type "list", data := .seq its.toArray n } ∧ xs.length ≤ sizeLine := by
  obtain ⟨z, its, n, r, e⟩ := I.hok p _ h
  exact ⟨its, n, r, e, z⟩
def rSetL : V → V → V → Hp → (Hp → Prop) → Prop := fun o i v H Q => ∃ p xs k j, o = .ref p ∧ i = .int k ∧ H p = some (.lst xs) ∧ ixN xs.length k = some j ∧ Q (upd H p (.lst (xs.set j v)))
/-- xs[lo:hi] of a list: a new list -/
def rSlL (K : PySem.W.Frag) : V → Option Int → Option Int → Hp → VK → Prop := fun x lo hi H Q => ∃ a xs, x = .ref a ∧ SqL K H a xs ∧ ∀ p, H p = none → Q (.ref p) (upd H p (.lst (cutV xs lo hi)))
/-! ### in, not in: flat items -/
def flatV : V → Bool
  | .non => true
  | .bl _ => true
  | .int _ => true
  | .str _ => true
  | _ => false
/-- == of flat values -/
def eqV : V → V → Bool
  | .non, .non => true
  | .bl a, .bl b => a == b
  | .bl a, .int b => (if a then 1 else 0) == b
  | .int a, .bl b => a == (if b then 1 else 0)
  | .int a, .int b => a == b
  | .str a, .str b => a == b
  | _, _ => false
theorem eqAt_V {A : Around} {s : Shared} {y x : V} {u v : Value} (ry : RelV y u) (rx : RelV x v) (fy : flatV y = true) (fx : flatV x = true) : SeqAt.EqAt A s u v (eqV y x) := by
  cases y with
  | non =>
    cases ry
    cases x with
    | non => cases rx; exact SeqAt.EqAt.same _
    | bl b => cases rx; exact SeqAt.EqAt.none_bool b
    | int b => obtain ⟨t, rfl⟩ := rx; exact SeqAt.EqAt.none_int b t
    | str b => obtain ⟨t, rfl⟩ := rx; exact SeqAt.EqAt.none_str b t
    | _ => exact absurd (show false = true from fx) Bool.false_ne_true
  | bl a =>
    cases ry
    cases x with
    | non => cases rx; exact SeqAt.EqAt.bool_none a
    | bl b => cases rx; exact SeqAt.EqAt.bool_bool a b
    | int b => obtain ⟨t, rfl⟩ := rx; exact SeqAt.EqAt.bool_int a b t
    | str b => obtain ⟨t, rfl⟩ := rx; exact SeqAt.EqAt.bool_str a b t
    | _ => exact absurd (show false = true from fx) Bool.false_ne_true
  | int a =>
    obtain ⟨t', rfl⟩ := ry
    cases x with
    | non => cases rx; exact SeqAt.EqAt.int_none a t'
    | bl b => cases rx; exact SeqAt.EqAt.int_bool a t' b
    | int b => obtain ⟨t, rfl⟩ := rx; exact SeqAt.EqAt.int_int a t' b t
    | str b => obtain ⟨t, rfl⟩ := rx; exact SeqAt.EqAt.int_str a t' b t
    | _ => exact absurd (show false = true from fx) Bool.false_ne_true
  | str a =>
    obtain ⟨t', rfl⟩ := ry
    cases x with
    | non => cases rx; exact SeqAt.EqAt.str_none a t'
    | bl b => cases rx; exact SeqAt.EqAt.str_bool a t' b
    | int b => obtain ⟨t, rfl⟩ := rx; exact SeqAt.EqAt.str_int a t' b t
    | str b => obtain ⟨t, rfl⟩ := rx; exact SeqAt.EqAt.str_str a t' b t
    | _ => exact absurd (show false = true from fx) Bool.false_ne_true
  | _ => exact absurd (show false = true from fy) Bool.false_ne_true
/-- the items' answers, read off the values (a value's own answer does not lean on its token) -/
def eqU (x : V) (u : Value) : Bool := match u with
  | .none => eqV .non x
  | .bool b => eqV (.bl b) x
  | .int i _ => eqV (.int i) x
  | .str z _ => eqV (.str z) x
  | _ => false
theorem eqU_of {x y : V} {u : Value} (r : RelV y u) (f : flatV y = true) : eqU x u = eqV y x := by
  cases y with
  | non => cases r; rfl
  | bl b => cases r; rfl
  | int i => obtain ⟨t, rfl⟩ := r; rfl
  | str z => obtain ⟨t, rfl⟩ := r; rfl
  | _ => exact absurd (show false = true from f) Bool.false_ne_true
theorem any_eqU {x : V} : ∀ {xs : List V} {us : List Value}, Vals xs us → xs.all flatV = true → us.any (eqU x) = xs.any fun y => eqV y x
  | _, _, .nil, _ => rfl
  | y :: xs, u :: us, .cons r t, f => by
    rw [List.all_cons, Bool.and_eq_true] at f
    rw [List.any_cons, List.any_cons, eqU_of r f.1, any_eqU t f.2]
theorem mem_eqAt {A : Around} {s : Shared} {x : V} {v : Value} (rx : RelV x v) (fx : flatV x = true) : ∀ {xs : List V} {us : List Value}, Vals xs us → xs.all flatV = true → ∀ u ∈ us, SeqAt.EqAt A s u v (eqU x u)
  | _, _, .nil, _ => fun u hu => by cases hu
  | y :: xs, u :: us, .cons r t, f => fun u' hu => by
    rw [List.all_cons, Bool.and_eq_true] at f
    rcases List.mem_cons.mp hu with rfl | hu
    · rw [eqU_of r f.1]; exact eqAt_V r rx f.1 fx
    · exact mem_eqAt rx fx t f.2 u' hu
def inV (x : V) (xs : List V) : Bool := xs.any fun y => eqV y x
/-- x in a list or tuple of flat items -/
def rIn (K : PySem.W.Frag) (neg : Bool) : R2 := fun x y H Q => ∃ p xs, y = .ref p ∧ (SqL K H p xs ∨ SqT K H p xs) ∧ flatV x = true ∧ xs.all flatV = true ∧ Q (.bl (if neg then !inV x xs else inV x xs)) H
theorem op_in_seq : OpR X (compareOp .In) (rIn X.K false) := by
  intro pins s σ H x y v u Q I rx ry h
  obtain ⟨p, xs, rfl, hq, fx, fs, q⟩ := h
  cases ry
  rcases hq with hq | hq
  · obtain ⟨its, r, pl, hz⟩ := I.list hq
    refine SeqAt.in_listAt (eqU x) pl.isList (fun w hw => mem_eqAt rx fx r fs w (by simpa using hw)) ⟨.bl _, H, I, rfl, ?_⟩
    rw [show its.toArray.any (eqU x) = its.any (eqU x) by simp, any_eqU r fs]
    exact q
  · obtain ⟨its, r, pl, hz⟩ := I.tuple hq
    refine SeqAt.in_tupleAt (eqU x) pl (fun w hw => mem_eqAt rx fx r fs w (by simpa using hw)) ⟨.bl _, H, I, rfl, ?_⟩
    rw [show its.toArray.any (eqU x) = its.any (eqU x) by simp, any_eqU r fs]
    exact q
theorem op_notIn_seq : OpR X (compareOp .NotIn) (rIn X.K true) := by
  intro pins s σ H x y v u Q I rx ry h
  obtain ⟨p, xs, rfl, hq, fx, fs, q⟩ := h
  cases ry
  rcases hq with hq | hq
  · obtain ⟨its, r, pl, hz⟩ := I.list hq
    refine SeqAt.notIn_listAt (eqU x) pl.isList (fun w hw => mem_eqAt rx fx r fs w (by simpa using hw)) ⟨.bl _, H, I, rfl, ?_⟩
    rw [show its.toArray.any (eqU x) = its.any (eqU x) by simp, any_eqU r fs]
    exact q
  · obtain ⟨its, r, pl, hz⟩ := I.tuple hq
    refine SeqAt.notIn_tupleAt (eqU x) pl (fun w hw => mem_eqAt rx fx r fs w (by simpa using hw)) ⟨.bl _, H, I, rfl, ?_⟩
    rw [show its.toArray.any (eqU x) = its.any (eqU x) by simp, any_eqU r fs]
    exact q
/-! ### len, list(x), tuple(x) of any list or tuple that is read -/
theorem call_len_seq : CallR X (.builtin "len") (fun xs H Q => ∃ p ys, xs = [.ref p] ∧ (SqL X.K H p ys ∨ SqT X.K H p ys) ∧ Q (.int ys.length) H) := by
  intro pins s σ H xs us Q I r h
  obtain ⟨p, ys, rfl, hq, q⟩ := h
  obtain ⟨u, rfl, rx⟩ := vals1 r
  cases rx
  have hn := line63
  rcases hq with hq | hq
  · obtain ⟨its, r', pl, hz⟩ := I.list hq
    have hlen := r'.length
    exact Calls.call_len_list pl.isList (by simp only [List.size_toArray] <;> omega) ⟨.int ys.length, H, I.tok _, ⟨s.toks + 1, by rw [List.size_toArray, hlen]⟩, q⟩
  · obtain ⟨its, r', pl, hz⟩ := I.tuple hq
    have hlen := r'.length
    exact len_tuple pl (by simp only [List.size_toArray] <;> omega) ⟨.int ys.length, H, I.tok _, ⟨s.toks + 1, by rw [List.size_toArray, hlen]⟩, q⟩
theorem CallR.or {f : Value} {r r' : List V → Hp → VK → Prop} (h : CallR X f r) (h' : CallR X f r') : CallR X f (fun xs H Q => r xs H Q ∨ r' xs H Q) := by
  intro pins s σ H xs us Q I rs q
  rcases q with q | q
  · exact h pins s σ H xs us Q I rs q
  · exact h' pins s σ H xs us Q I rs q
theorem call_list_of : CallR X (.type "list") (fun xs H Q => ∃ p ys, xs = [.ref p] ∧ (SqL X.K H p ys ∨ SqT X.K H p ys) ∧ ∀ l, H l = none → Q (.ref l) (upd H l (.lst ys))) := by
  intro pins s σ H xs us Q I r h
  obtain ⟨p, ys, rfl, hq, q⟩ := h
  obtain ⟨u, rfl, rx⟩ := vals1 r
  cases rx
  have fin : ∀ (its : List Value), Vals ys its → ys.length ≤ sizeLine → ∀ (h' : Heap) (c' : Nat), (∀ b o', s.heap.get? b = some o' → h'.get? b = some o') →
      h'.get? s.heap.objs.size = some { cls := .type "list", dict := none, data := .seq its.toArray c', slots := #[] } → EP X pins σ Q (.ref s.heap.objs.size) { s with heap := h' } := fun its r' hz h' c' kp e =>
    ⟨.ref s.heap.objs.size, _, I.laid (t' := s.toks) kp (Nat.le_refl _) (show ObjOk X.prog X.w _ h' _ (.lst ys) from ⟨hz, its, c', r', e⟩), rfl, q _ (I.hok.fresh (Nat.le_refl _))⟩
  rcases hq with hq | hq
  · obtain ⟨its, r', pl, hz⟩ := I.list hq
    have hlen := r'.length
    obtain ⟨o, ho, hc, n, hd⟩ := pl.isList
    exact call_list_seq p (.inl rfl) ho hc hd (fun h' c' kp e => fin its r' hz h' c' kp e) (by simp only [List.size_toArray] <;> omega)
  · obtain ⟨its, r', pl, hz⟩ := I.tuple hq
    have hlen := r'.length
    obtain ⟨o, ho, hc, n, hd⟩ := pl
    exact call_list_seq p (.inr rfl) ho hc hd (fun h' c' kp e => fin its r' hz h' c' kp e) (by simp only [List.size_toArray] <;> omega)
/-! ### the call of a builtin's method: o.m(..) -/
/-- the value is of that builtin type -/
def tyV (K : PySem.W.Frag) (T : String) (x : V) (H : Hp) : Prop := match x with
  | .str _ => T = "str"
  | .int _ => T = "int"
  | .ref p => (T = "list" ∧ ∃ xs, SqL K H p xs) ∨ (T = "tuple" ∧ ∃ o, K.lookup p = some o ∧ o.cls = .type "tuple" ∧ o.dict = none) ∨
      (T = "dict" ∧ ∃ kvs, H p = some (.dK kvs)) ∨ (T = "set" ∧ ∃ S n, H p = some (.set S n))
  | _ => False
theorem tyV_is {pins : List (Addr × Obj)} {σ : St} {H : Hp} {s : Shared} {T : String} {x : V} {v : Value} (I : Inv X pins σ H s) (r : RelV x v) (ty : tyV X.K T x H) :
    s.TypeIs v T ∧ ∀ a, v = .ref a → ∃ ob, s.heap.get? a = some ob ∧ ob.dict = none := by
  cases x with
  | str z =>
    obtain ⟨t, rfl⟩ := r
    cases (show T = "str" from ty)
    exact ⟨typeIs_str s z t, fun _ e => nomatch e⟩
  | int i =>
    obtain ⟨t, rfl⟩ := r
    cases (show T = "int" from ty)
    exact ⟨typeIs_int s i t, fun _ e => nomatch e⟩
  | ref p =>
    cases r
    rcases ty with ⟨rfl, xs, hq⟩ | ⟨rfl, o, hk, hc, hd⟩ | ⟨rfl, hk⟩ | ⟨rfl, S, n, hk⟩
    · obtain ⟨its, _, pl, _⟩ := I.list hq
      refine ⟨pl.isList.typeIs, fun a e => ?_⟩
      cases e
      obtain ⟨o, n, e, c, hd, _⟩ := pl
      exact ⟨o, e, hd⟩
    · refine ⟨⟨o, I.kIn p o hk, hc⟩, fun a e => ?_⟩
      cases e
      exact ⟨o, I.kIn _ o hk, hd⟩
    · have z : ∃ o, s.heap.get? p = some o ∧ o.ExactDict := by
        obtain ⟨kvs, hk⟩ := hk
        obtain ⟨_, _, _, _, o, _, _, e, ex, _⟩ := I.hok p _ hk
        exact ⟨o, e, ex⟩
      obtain ⟨o, e, ex⟩ := z
      refine ⟨⟨o, e, ex.1⟩, fun a e2 => ?_⟩
      cases e2
      exact ⟨o, e, ex.2.1⟩
    · obtain ⟨o, _, _, _, e, ex, _⟩ := I.hok p _ hk
      refine ⟨⟨o, e, ex.1⟩, fun a e2 => ?_⟩
      cases e2
      exact ⟨o, e, ex.2.1⟩
  | _ => exact False.elim ty
def tBM0 (K : PySem.W.Frag) (T : String) (r : V → List V → Hp → VK → Prop) (to : TE) : TE := fun σ H Q => to σ H fun x H1 => tyV K T x H1 ∧ r x [] H1 Q
def tBM (K : PySem.W.Frag) (T : String) (r : V → List V → Hp → VK → Prop) (to : TE) (t : TA) : TE := fun σ H Q => to σ H fun x H1 => tyV K T x H1 ∧ t σ H1 fun xs H2 => r x xs H2 Q
variable {o e : Expr} {es : List Expr} {to : TE} {t : TA} {name : Str} {apos cpos : Pos} {T id : String} {r : V → List V → Hp → VK → Prop}
theorem pe_bm (pa : PlainAttrs T) (slot : Slot T name id) (hty : typeOf (.builtin id) = pure (.type "method_descriptor")) (hm : MtR X id r) (ho : PE X o to) (ha : PA X (e :: es) t)
    (hbase : attributeBase o name X.env (eval o X.env) = eval o X.env := by rfl)
    (hfew : ((backTo cpos (starEach (e :: es) X.env)).all (fun x => !x.1) && (backToKw cpos (keywordEach [] X.env)).all (fun x => x.1.isSome)
      && decide ((e :: es).length + ([] : List Keyword).length + (if ([] : List Keyword).isEmpty then 0 else 1) < 30)) = true := by rfl)
    (hline : (apos.endLine == cpos.line) = true := by rfl) (hs : starEach (e :: es) X.env = (false, eval e X.env) :: starEach es X.env := by rfl) (hplain : (backTo cpos (starEach es X.env)).any (·.1) = false := by rfl) :
    PE X (.Call (.Attribute o name apos) (e :: es) [] cpos) (tBM X.K T r to t) := by
  intro pins s σ H Q I h
  refine wpAny_Call_method_late hbase hfew hline rfl (thn (ho pins s σ H _ I h) fun v s1 ⟨x, H1, I1, r1, ty, q1⟩ => ?_)
  obtain ⟨h1, h2⟩ := tyV_is I1 r1 ty
  refine ⟨T, id, pa, slot, hty, h1, h2, ?_⟩
  have hA := ha cpos pins s1 σ H1 _ I1 q1
  rw [hs] at hA ⊢
  refine Calls.callWith_builtin (by show (false || (backTo cpos (starEach es X.env)).any (·.1)) = false; rw [hplain] <;> rfl) (Calls.evalArgs_plain ?_)
  exact thn hA fun us s2 ⟨vs, H2, I2, r2, q2⟩ => hm pins s2 σ H2 x vs v us Q I2 r1 r2 q2
/- xs.append(e), list.index on a module's tuple .. are MtR facts of 06m -/
end
end L2

namespace L2
open PySem PySem.Spec PyProof.Rows

def MtM (X : Cx) (id : String) (r : V → List V → Hp → VK → Prop) : Prop :=
  ∀ (pins : List (Addr × Obj)) (s : Shared) (σ : St) (H : Hp) (x : V) (xs : List V) (v : Value) (us : List Value) (Q : VK), Inv X pins σ H s → RelV x v → Vals xs us → r x xs H Q →
    wpAny (model X.prog X.w) X.A (call (.builtin id) (v :: us)) (EP X pins σ Q) X.xe s

/-! ### lists of values -/
theorem Vals.one : ∀ {x : V} {us : List Value}, Vals [x] us → ∃ u, us = [u] ∧ RelV x u
  | _, _, .cons r .nil => ⟨_, rfl, r⟩
theorem Vals.two : ∀ {x y : V} {us : List Value}, Vals [x, y] us → ∃ u v, us = [u, v] ∧ RelV x u ∧ RelV y v
  | _, _, _, .cons r (.cons q .nil) => ⟨_, _, rfl, r, q⟩
theorem Vals.zero : ∀ {us : List Value}, Vals [] us → us = []
  | _, .nil => rfl
theorem Vals.dropLast {xs : List V} {us : List Value} (h : Vals xs us) : Vals xs.dropLast us.dropLast := by
  induction h with
  | nil => exact .nil
  | cons r t ih =>
    cases t with
    | nil => exact .nil
    | cons q t' => exact .cons r ih
theorem Vals.eraseIdx : ∀ {xs : List V} {us : List Value} (i : Nat), Vals xs us → Vals (xs.eraseIdx i) (us.eraseIdx i)
  | _, _, _, .nil => .nil
  | _, _, 0, .cons _ t => t
  | _, _, i + 1, .cons r t => .cons r (Vals.eraseIdx i t)
theorem Vals.reverse {xs : List V} {us : List Value} (h : Vals xs us) : Vals xs.reverse us.reverse := by
  induction h with
  | nil => exact .nil
  | cons r t ih => rw [List.reverse_cons, List.reverse_cons]; exact Vals.append ih (.cons r .nil)
section
variable {X : Cx} {pins : List (Addr × Obj)} {σ : St} {H : Hp} {s : Shared} {l b : Addr} {xs ys zs : List V}

/-! ### the two steps: a tracked list is rewritten, a new list is laid -/
theorem Inv.lset {its its' : List Value} {n : Nat} {f : Array Value → Array Value} {t' : Nat} (I : Inv X pins σ H s) (hH : H l = some (.lst xs))
    (e : s.heap.get? l = some { cls := .type "list", data := .seq its.toArray n }) (hf : f its.toArray = its'.toArray) (hv : Vals ys its') (hz : ys.length ≤ sizeLine) :
    Inv X pins σ (upd H l (.lst ys)) { s with heap := s.heap.update l (Obj.mapSeq f), toks := t' } := by
  have q := PySem.IsL.update e f
  rw [hf] at q
  refine I.write (x := l) (e := l) (by rw [hH]; exact trivial) (.inl rfl) (fun b' u hb hu => (Heap.get?_update_other s.heap (Obj.mapSeq f) (Ne.symm hb)).trans hu) ⟨_, q⟩ ?_
  exact ⟨hz, its', _, hv, q⟩
theorem Inv.lnew {its : List Value} {t' : Nat} (I : Inv X pins σ H s) (hv : Vals ys its) (hz : ys.length ≤ sizeLine) :
    Inv X pins σ (upd H s.heap.objs.size (.lst ys)) { s with heap := s.heap.push { cls := .type "list", data := .seq its.toArray }, toks := t' } :=
  I.laid (fun _ _ q => Heap.get?_push_of_some _ q) (Nat.le_refl _) ⟨hz, its, 0, hv, Heap.get?_push_size _ rfl⟩
theorem Inv.fresh (I : Inv X pins σ H s) : H s.heap.objs.size = none := I.hok.fresh (Nat.le_refl _)
theorem Inv.lstM (I : Inv X pins σ H s) (hH : H l = some (.lst xs)) : xs.length ≤ sizeLine ∧ ∃ (its : List Value) (n : Nat), Vals xs its ∧ xs.length = its.length ∧ s.heap.get? l = some { cls := .type "list", data := .seq its.toArray n } := by
  obtain ⟨z, its, n, r, e⟩ := I.hok l _ hH
  exact ⟨z, its, n, r, r.length, e⟩

end

section
variable {X : Cx}

/-! ### methods -/
def rAppend : V → List V → Hp → VK → Prop := fun x vs H Q => ∃ l xs y, x = .ref l ∧ vs = [y] ∧ H l = some (.lst xs) ∧ xs.length < sizeLine ∧ Q .non (upd H l (.lst (xs ++ [y])))
theorem mt_append : MtM X "list.append" rAppend := by
  intro pins s σ H x vs v us Q I rx rv h
  obtain ⟨l, xs, y, rfl, rfl, hH, hz, q⟩ := h
  cases rx
  obtain ⟨u, rfl, ru⟩ := rv.one
  obtain ⟨z, its, n, r, hl, e⟩ := I.lstM hH
  refine call_meets F.slot_list_append ⟨_, e, rfl⟩ F.entry_list_append (F.args_list_append_2 _ _) (PySem.list_append l its.toArray n u (by rw [List.size_toArray]; omega)) ⟨e, ?_⟩
  refine ⟨.non, _, I.lset (its' := its ++ [u]) hH e (by simp) (r.append (.cons ru .nil)) ?_, rfl, q⟩
  rw [List.length_append, List.length_singleton]
  omega

def rExtend : V → List V → Hp → VK → Prop := fun x vs H Q => ∃ l b xs zs, x = .ref l ∧ vs = [.ref b] ∧ H l = some (.lst xs) ∧ H b = some (.lst zs) ∧ xs.length + zs.length ≤ sizeLine ∧ Q .non (upd H l (.lst (xs ++ zs)))
def rPop : V → List V → Hp → VK → Prop := fun x vs H Q => ∃ l xs y, x = .ref l ∧ vs = [] ∧ H l = some (.lst xs) ∧ xs[xs.length - 1]? = some y ∧ Q y (upd H l (.lst xs.dropLast))
def rPopAt : V → List V → Hp → VK → Prop := fun x vs H Q => ∃ l xs i k y, x = .ref l ∧ vs = [.int i] ∧ H l = some (.lst xs) ∧ -(2 ^ 63) ≤ i ∧ i < 2 ^ 63 ∧ seqIndex? i xs.length = some k ∧ xs[k]? = some y ∧ Q y (upd H l (.lst (xs.eraseIdx k)))
def rReverse : V → List V → Hp → VK → Prop := fun x vs H Q => ∃ l xs, x = .ref l ∧ vs = [] ∧ H l = some (.lst xs) ∧ Q .non (upd H l (.lst xs.reverse))
def rClear : V → List V → Hp → VK → Prop := fun x vs H Q => ∃ l xs, x = .ref l ∧ vs = [] ∧ H l = some (.lst xs) ∧ Q .non (upd H l (.lst []))
/-! ### list + list, list += list, list * int -/
def rCat : R2 := fun x y H Q => ∃ l b xs zs, x = .ref l ∧ y = .ref b ∧ H l = some (.lst xs) ∧ H b = some (.lst zs) ∧ xs.length + zs.length ≤ sizeLine ∧ ∀ p, H p = none → Q (.ref p) (upd H p (.lst (xs ++ zs)))
theorem op_cat : OpR X (binaryOp .Add) rCat := by
  intro pins s σ H x y v u Q I rx ry h
  obtain ⟨l, b, xs, zs, rfl, rfl, hH, hB, hz, q⟩ := h
  cases rx
  cases ry
  obtain ⟨z, its, n, r, hl, e⟩ := I.lstM hH
  obtain ⟨z2, its2, n2, r2, hl2, e2⟩ := I.lstM hB
  refine PySem.P.add_list e e2 ?_ (by rw [List.size_toArray, List.size_toArray]; omega)
  have ea : its.toArray ++ its2.toArray = (its ++ its2).toArray := by simp
  rw [ea]
  exact ⟨.ref _, _, I.lnew (t' := s.toks) (r.append r2) (by rw [List.length_append]; omega), rfl, q _ I.fresh⟩
/-- a list times an int (a negative one is nothing) -/
def rRep : R2 := fun x y H Q => ∃ l k xs, x = .ref l ∧ y = .int k ∧ H l = some (.lst xs) ∧ -(2 ^ 63) ≤ k ∧ k < 2 ^ 63 ∧ xs.length * k.toNat ≤ sizeLine ∧
  ∀ p, H p = none → Q (.ref p) (upd H p (.lst (List.replicate k.toNat xs).flatten))
end

/-! ### xs[a:b] = ys -/
section
variable {prog : Program} {w : World} {A : Around} {E : Value → Shared → Prop} {s : Shared}
set_option maxRecDepth 100000 in
end

section
variable {X : Cx}
end
end L2

namespace Att
open PySem PySem.W PySem.Calls PyProof.Rows

/-! ### the script -/
theorem ints_of_wellAll {P : Params} {h : Heap} : ∀ (ns : List Int) (vs : List Value), WellAll P h vs (ns.map WData.int) → IntsAre vs ns := by
  intro ns
  induction ns with
  | nil =>
    intro vs w
    rw [List.map_nil] at w
    cases w
    exact .nil
  | cons n ns ih =>
    intro vs w
    rw [List.map_cons] at w
    cases w with
    | cons a b =>
      cases a
      exact .cons _ _ (ih _ b)

theorem script_of {l : OpenLaw} {n : Nat} (hn : l.most = some n) {P : Params} {h : Heap} {args : List WData} {vals : List Value}
    (hpre : l.row.toRowW.claim.pre args = true) (hwl : WellAll P h vals args) :
    ∃ a vs ns, vals = [Value.ref a] ∧ args = [WData.list (ns.map WData.int)] ∧ h.get? a = some { cls := .type "list", data := .seq vs.toArray } ∧ IntsAre vs ns ∧ ns.length ≤ n := by
  have hsh : WShape.hasAll [] args [.list .int] = true := (pre_splitW hpre).1
  have hc : l.pre.holds [] { args := args } = true := (pre_splitW hpre).2
  obtain ⟨d, r, rfl, h1, h2⟩ := hasAllW_cons hsh
  obtain rfl := hasAllW_nil h2
  obtain ⟨xs, rfl, h3⟩ := hasW_list h1
  obtain ⟨ns, rfl⟩ := items_int h3
  have hlen : ns.length ≤ n := by
    unfold OpenLaw.pre at hc
    have h4 : (WTm.not (.lt (.lit (.int (n : Int))) (.len (.arg 0)))).holds [] { args := [.list (ns.map .int)] } = true := by
      have h4 := (holds_andW hc).1
      rw [hn] at h4
      exact h4
    have h5 := condW_of h4 (w_not (w_lt w_lit (w_len_list (w_arg rfl))))
    rw [List.length_map] at h5
    refine Nat.le_of_not_lt fun q => ?_
    have q' : (n : Int) < ((ns.length : Nat) : Int) := by omega
    first
      | (rw [decide_eq_true q'] at h5; exact absurd h5 (by decide))
      | (simp at h5; omega)
  cases hwl with
  | cons w1 w2 =>
    cases w2
    cases w1 with
    | list ho hall => exact ⟨_, _, ns, rfl, rfl, ho, ints_of_wellAll ns _ hall, hlen⟩

theorem post_true (l : OpenLaw) (args : List WData) : l.row.toRowW.claim.post args (.bool true) args = true :=
  postW_of (r := l.row.toRowW) (X := (true == true))
    (show WShape.has [] (.bool true) .bool = true by first | rfl | decide | simp [WShape.has, WShape.arms, WShape.armsAll])
    (show (WTm.eq .res (.lit (.bool true))).value [] { args := args, res := some (.bool true), after := args } = some (.bool (true == true)) from w_eq_bool (w_res rfl) w_lit) rfl

/-- the same from a codeAny of the CALL (for a layer whose function contracts speak of calls) -/
theorem attach_call {l : OpenLaw} {n : Nat} {q : Program} {loose : List Str} {XP : (Str → Option Value) → Heap → Prop} {YP : World → Heap → Prop} {d : DefRec}
    (hn : l.most = some n) (hdf : d.params.defaults = [])
    (call : ∀ (w : World) (s₀ s₁ : Shared) (mg mb : Str → Option Value) (fa : Addr) (o : Obj) (pm cd doc : Value) (a : Addr) (vs : List Value) (ns : List Int),
      Ground q loose [] XP w s₀ mg mb s₁.heap → YP w s₁.heap →
      s₁.heap.get? fa = some o → o.data = .func (docDef d.name d.params d.body d.scope pm cd doc) → s₁.heap.CodeRec cd d.name → mg d.name = some (.ref fa) →
      s₁.heap.get? a = some { cls := .type "list", data := .seq vs.toArray } → IntsAre vs ns → ns.length ≤ n → s₁.gens = #[] →
      codeAny (model l.prog w) callerA (.call (.ref fa) ⟨[.ref a], []⟩) (fun r s' => r = .ok (.ret (.bool true)) ∧ OldK s₁.heap s'.heap ∧ s'.os = s₁.os ∧ AllBare s'.gens) s₁) :
    WalkO q loose XP YP l.row.toRowW d [] (fun f vs => PySem.call f vs) := by
  intro w s₀ s₁ mg mb G Y fa o pm cd doc dV kV ho hd hcd hD hmg hg args vals as hpre hlay hrd hwl hlo
  obtain rfl : dV = .none := Dflts.none hD hdf
  obtain rfl : kV = .none := Dflts.noKw hD
  obtain ⟨a, vs, ns, rfl, rfl, hobj, hints, hlen⟩ := script_of hn hpre hwl
  refine enter_call (codeAny_mono (call w s₀ s₁ mg mb fa o pm cd doc a vs ns G Y ho (fd_plain hd) hcd hmg hobj hints hlen hg) fun r s' hq => ?_)
  obtain ⟨rfl, h2, h3, h4⟩ := hq
  exact ⟨.inl ⟨.bool true, .bool true, [], rfl, fun _ => rfl, .bool true, post_true l _, fun _ => ⟨List.Pairwise.nil, fun _ hm => (nomatch hm)⟩⟩, h2, h3, h4⟩

/-! ### rules over ANY heap (no ledger) from facts about the written part K: the library's own take a ledger (News) for what they write -/
section
variable {prog : Program} {w : World} {A : Around} {E : Value → Shared → Prop} {s : Shared} {K : Frag}

/-! the whole heap as the ledger: makes every rule that writes through a ledger a rule over any heap -/
def noObjs (h : Heap) : Heap := { h with objs := #[] }
def ledger (h : Heap) (L d : Addr) : List (Addr × Obj) := (List.range h.objs.size).filterMap fun a => if a = L ∨ a = d then none else (h.get? a).map fun o => (a, o)
end
end Att

namespace L2
open PySem PySem.Spec PyProof.Rows

theorem vals_ints : ∀ {vs : List Value} {ns : List Int}, IntsAre vs ns → Vals (ns.map V.int) vs
  | _, _, .nil => .nil
  | _, _, .cons n t h => .cons ⟨t, rfl⟩ (vals_ints h)

/-- nothing is tracked but the script, known to the object (or it is an object of the module) -/
def Only (H : Hp) : Prop := ∀ b, H b = none ∨ ∃ o xs, H b = some (.frz o (.lst xs))

/-- THE HEAD: the law's promise, at the heap behind the top. F, the promise of the law's def, may use that base is part of the heap (so K.In base, base.Ns mainGlobals mg stand in Mod) -/
theorem law_call {P : Program} {w : World} {K : PySem.W.Frag} {mg mb : Str → Option Value} {CX : CXT} {k : Nat} {fa a : Addr} {fd : FuncData} {x : Str} {sp : Sp} {s₁ : Shared} {vs : List Value} {ns : List Int}
    (KX : K.In s₁.heap) (hns : s₁.heap.Ns mainGlobals mg) (hb : s₁.heap.Ns builtinsNs mb) (hbb : ∀ x : Str, x ≠ "__name__" → mb x = bootBuiltins x) (hlim : s₁.heap.NoLimit) (hg : s₁.gens = #[])
    (ha : s₁.heap.get? a = some { cls := .type "list", data := .seq vs.toArray }) (hi : IntsAre vs ns) (hl : ns.length ≤ sizeLine) (hr : Room k callerA)
    (F : ∀ base : Heap, K.In base → base.Ns mainGlobals mg → FnOk P w K mg base CX k fa fd [x] sp) (hbind : ∀ (s : Shared) (u : Value), BindsTo s fd ⟨[u], []⟩ [(x, u)])
    (hsp : ∀ H : Hp, Only H → SqL K H a (ns.map V.int) → sp [.ref a] H (fun v _ => v = .bl true) fun _ _ _ => False)
    (hCX : ∀ H e s', CX [] H s₁ (fun _ _ _ => False) e s' → False) :
    codeAny (model P w) callerA (.call (.ref fa) ⟨[.ref a], []⟩) (fun r s' => r = .ok (.ret (.bool true)) ∧ OldK s₁.heap s'.heap ∧ s'.os = s₁.os ∧ AllBare s'.gens) s₁ := by
  have rv := vals_ints hi
  have lenV := hi.length
  -- from an abstract heap in which nothing but the script may be tracked
  have core : ∀ H : Hp, Only H → SqL K H a (ns.map V.int) → HOk P w H s₁.heap → (∀ b, H b ≠ none → b = a) → (H a ≠ none → K.lookup a = none) →
      codeAny (model P w) callerA (.call (.ref fa) ⟨[.ref a], []⟩) (fun r s' => r = .ok (.ret (.bool true)) ∧ OldK s₁.heap s'.heap ∧ s'.os = s₁.os ∧ AllBare s'.gens) s₁ := by
    intro H hO hS hok hA hK
    have base_of : ∀ {b : Addr} {o : Obj}, s₁.heap.get? b = some o → H b = none → (hidT s₁.heap H).get? b = some o := fun e n => hidT_get e n
    have noA : ∀ {b : Addr} {o : Obj} {es : Array DictEntry} {ep : Nat}, s₁.heap.get? b = some o → o.data = .dict es ep → H b = none := fun {b o es ep} e d => by
      cases q : H b with
      | none => rfl
      | some u =>
        have e' : b = a := hA b (by rw [q]; simp)
        subst e'
        rw [ha] at e; cases e
        have d' : Data.seq vs.toArray _ = Data.dict es ep := d
        cases d'
    have nsK : ∀ {b : Addr} {m : Str → Option Value}, s₁.heap.Ns b m → (hidT s₁.heap H).Ns b m := fun {b m} ⟨o, es, ep, e, d, r⟩ => ⟨o, es, ep, base_of e (noA e d), d, r⟩
    have hKb : K.In (hidT s₁.heap H) := fun b o e => base_of (KX b o e) (by
      cases q : H b with
      | none => rfl
      | some u =>
        have e' : b = a := hA b (by rw [q]; simp)
        subst e'
        rw [hK (by rw [q]; simp)] at e; cases e)
    have hM : Mod K mg (hidT s₁.heap H) := ⟨hKb, nsK hns, ⟨mb, nsK hb, hbb⟩, let ⟨mc, h1, h2⟩ := hlim; ⟨mc, nsK h1, h2⟩⟩
    have e0 : Env0 P w K mg (hidT s₁.heap H) callerA [] s₁ H := ⟨rfl, hM, fun b o e => of_hidT e, Nat.le_of_eq (hidT_size _ _), trivial, fun b hb => absurd (show b ∈ ([] : List Addr) from hb) (by simp), hok, .of_eq hg⟩
    refine codeAny_mono ((F _ hKb (nsK hns)).run callerA [] s₁ H ⟨[.ref a], []⟩ [.ref a] [.ref a] _ _ hr e0 (hbind s₁ (.ref a)) (.cons rfl .nil) (hsp H hO hS)) fun r s' h => ?_
    cases r with
    | error e => exact (hCX H e s' h).elim
    | ok fl =>
      cases fl with
      | next => exact False.elim h
      | brk => exact False.elim h
      | cont => exact False.elim h
      | ret u =>
        obtain ⟨v, H', os, bare, un, hok', r', q⟩ := h
        have q' : v = .bl true := q
        subst q'
        obtain rfl : u = Value.bool true := r'
        refine ⟨rfl, OldK.of_keep fun b o e => ?_, os, bare⟩
        cases q : H b with
        | none => exact un.keep b o e q (by intro z; exact absurd (show b ∈ ([] : List Addr) from z) (by simp)) (by simp)
        | some u =>
          rcases hO b with z | ⟨ob, xs, z⟩
          · rw [q] at z; cases z
          · have z2 := un.frzs b ob _ z
            obtain ⟨e1, _⟩ := hok b _ z
            obtain ⟨e2, _⟩ := hok' b _ z2
            rw [e] at e1; cases e1
            exact e2
  cases hk : K.lookup a with
  | some o =>
    -- the script is one of the module's own objects
    have e := KX a o hk
    rw [ha] at e
    cases e
    refine core (fun _ => none) (fun _ => .inl rfl) (.inr ⟨_, vs.toArray, _, hk, rfl, rfl, rfl, by rw [List.size_toArray, lenV]; exact hl, by simpa using rv⟩) (fun b u z => by have z' : (none : Option HO) = some u := z; cases z') (fun b z => absurd rfl z) fun z => absurd rfl z
  | none =>
    refine core (fun b => if b = a then some (.frz { cls := .type "list", data := .seq vs.toArray } (.lst (ns.map V.int))) else none) (fun b => ?_) (.inl (.inr ⟨{ cls := .type "list", data := .seq vs.toArray }, if_pos rfl⟩)) (fun b u z => ?_) (fun b z => ?_) fun _ => hk
    · by_cases hb : b = a
      · exact .inr ⟨_, _, if_pos hb⟩
      · exact .inl (if_neg hb)
    · by_cases hb : b = a
      · have z' := (if_pos hb).symm.trans z
        cases z'
        subst hb
        exact ⟨ha, by rw [List.length_map]; exact hl, vs, _, rv, ha⟩
      · have z' := (if_neg hb).symm.trans z
        cases z'
    · by_cases hb : b = a
      · exact hb
      · exact absurd (if_neg hb) z
end L2

namespace L2
open PySem PySem.Spec PyProof.Rows

abbrev KOf {K : PySem.W.Frag} {h : Heap} (_ : K.In h) : PySem.W.Frag := K

/-- the goal that k_head leaves (case hc), from the law's promise. F gives the function object fd (K's own) once, then the promise over every base -/
theorem walk_of {l : PySem.W.OpenLaw} {n k : Nat} {q : Program} {loose : List Str} {XP : (Str → Option Value) → Heap → Prop} {YP : World → Heap → Prop} {d : DefRec} {K : Params → PySem.W.Frag} {CX : World → CXT} {sp : World → Sp} {x : Str}
    (hn : l.most = some n) (hn2 : n ≤ sizeLine) (hdf : d.params.defaults = []) (hr : Room k callerA)
    (hY : ∀ (w : World) (h : Heap), YP w h → (K w.params).In h)
    (F : ∀ (w : World) (mg : Str → Option Value) (fa : Addr) (h : Heap), (K w.params).In h → h.Ns mainGlobals mg → mg d.name = some (.ref fa) →
      ∃ fd : FuncData, (∀ (s : Shared) (u : Value), BindsTo s fd ⟨[u], []⟩ [(x, u)]) ∧
        ∀ base : Heap, (K w.params).In base → base.Ns mainGlobals mg → FnOk l.prog w (K w.params) mg base (CX w) k fa fd [x] (sp w))
    (hsp : ∀ (w : World) (H : Hp) (a : Addr) (ns : List Int), ns.length ≤ n → Only H → SqL (K w.params) H a (ns.map V.int) → sp w [.ref a] H (fun v _ => v = .bl true) fun _ _ _ => False)
    (hCX : ∀ (w : World) (H : Hp) (s : Shared) (e : Value) (s' : Shared), CX w [] H s (fun _ _ _ => False) e s' → False) :
    PySem.W.WalkO q loose XP YP l.row.toRowW d [] (fun f vs => PySem.call f vs) := by
  refine Att.attach_call hn hdf fun w s₀ s₁ mg mb fa o pm cd doc a vs ns G Y ho hd hcd hmg hobj hints hlen hg => ?_
  have KX := hY w _ Y
  obtain ⟨fd, hb, hF⟩ := F w mg fa _ KX G.T.g hmg
  exact law_call KX G.T.g G.T.b G.T.builtins G.T.nolimit hg hobj hints (Nat.le_trans hlen hn2) hr hF hb (fun H hO hS => hsp w H a ns hlen hO hS) fun H e s' => hCX w H s₁ e s'
end L2



/-! SHORT WORDS over the layer: a def of the text, its body, what a loop and a test want. -/
namespace L2
open PySem PySem.Spec PyProof.Rows

/-! ### the text by places -/
/-- the j-th statement of a class's body -/
def inClass (s : Stmt) (j : Nat) : Stmt := match s with
  | .ClassDef _ _ _ body _ _ _ _ _ _ _ => body.getD j (.Pass ⟨0, 0, 0, 0⟩)
  | _ => .Pass ⟨0, 0, 0, 0⟩
def defArgs (s : Stmt) : Arguments := match s with
  | .FunctionDef _ a _ _ _ _ _ _ _ _ => a
  | _ => { posonlyargs := [], args := [], vararg := none, kwonlyargs := [], kw_defaults := [], kwarg := none, defaults := [] }
def defBody (s : Stmt) : List Stmt := match s with
  | .FunctionDef _ _ b _ _ _ _ _ _ _ => b
  | _ => []
def defScope (s : Stmt) : Scope := match s with
  | .FunctionDef _ _ _ _ _ _ sc _ _ _ => sc
  | _ => { kind := .function, names := [], isGenerator := false, isCoroutine := false }

/-! ### no exception leaves a def -/
abbrev CX0 : CXT := fun _ _ _ _ _ _ => False
abbrev E0 : XK := fun _ _ _ => False
theorem pass0 {X : Cx} : Passes CX0 X E0 := fun _ _ _ _ _ _ _ h => h.elim

/-! ### a def (or method) of the text as it stands behind the top -/
structure Fun (K : PySem.W.Frag) (x qual : Str) (st : Stmt) (f : Addr) (fd : FuncData) : Prop where
  ex : ∃ (oc : Value) (od : Option Addr) (kV doc pm : Value) (an : Option Addr) (cdv ct : Value) (osl : Array (Option Value)),
    fd = PySem.W.fnOf x qual (defArgs st) (defBody st) (defScope st) .none kV doc pm an cdv ct ∧ K.lookup f = some ⟨oc, od, .func fd, osl⟩ ∧ PySem.W.codeIn K cdv qual = true
  kp : PySem.W.keepIn K (.ref f) = true
section
variable {P : Program} {w : World} {K : PySem.W.Frag} {mg : Str → Option Value} {base : Heap}
/-- THE RULE for a def: its body as a term of rules, and the reading of that term -/
theorem Fun.ok {x qual : Str} {st : Stmt} {f : Addr} {fd : FuncData} {N ps : List Str} {k : Nat} {sp : Sp} (F : Fun K x qual st f fd) (S : FnScope N ps (defScope st)) (len : ∀ vs H Q E, sp vs H Q E → vs.length = ps.length)
    (hbody : ∀ (cdv : Value) (A : Around) (outer : List Env) (s : Shared) (H : Hp) (vs : List V) (Q : VK) (E : XK), Room k (A.deeper (envOfC qual (defScope st) s.heap.objs.size f cdv)) → sp vs H Q E →
      ∃ t, PSs (cxOf CX0 P w K mg base N qual (defScope st) f cdv A outer s H E).nox (defBody st) t ∧ t { nx := fun _ H' => Q .non H', rt := Q } (start N vs) H) : FnOk P w K mg base CX0 (k + 1) f fd ps sp := by
  obtain ⟨oc, od, kV, doc, pm, an, cdv, ct, osl, rfl, lk, hcd⟩ := F.ex
  refine fn_of lk hcd S len fun A outer s H vs Q E hr hsp => ?_
  obtain ⟨t, h, q⟩ := hbody cdv A outer s H vs Q E hr hsp
  exact ⟨t, h.nox, q⟩
/-- how its arguments bind (no defaults): h is «fun _ _ _ _ _ _ us hl => match us, hl with | [_, _], _ => rfl», one _ a parameter -/
theorem Fun.binds {x qual : Str} {st : Stmt} {f : Addr} {fd : FuncData} {ps : List Str} (F : Fun K x qual st f fd)
    (h : ∀ (kV doc pm : Value) (an : Option Addr) (cdv ct : Value) (us : List Value), us.length = ps.length → bindArgs (PySem.W.fnOf x qual (defArgs st) (defBody st) (defScope st) .none kV doc pm an cdv ct) ⟨us, []⟩ = pure (ps.zip us)) : Binds K fd ps [] := by
  obtain ⟨oc, od, kV, doc, pm, an, cdv, ct, osl, rfl, lk, hcd⟩ := F.ex
  exact .all (h kV doc pm an cdv ct)
theorem fun_mk {x qual : Str} {st : Stmt} {f : Addr} {oc : Value} {od an : Option Addr} {osl : Array (Option Value)} {kV doc pm cdv ct : Value} (l : K.lookup f = some ⟨oc, od, .func (PySem.W.fnOf x qual (defArgs st) (defBody st) (defScope st) .none kV doc pm an cdv ct), osl⟩)
    (c : PySem.W.codeIn K cdv qual = true) (k : PySem.W.keepIn K (.ref f) = true) : Fun K x qual st f (PySem.W.fnOf x qual (defArgs st) (defBody st) (defScope st) .none kV doc pm an cdv ct) := ⟨⟨oc, od, kV, doc, pm, an, cdv, ct, osl, rfl, l, c⟩, k⟩
end
/-! ### expressions in short: the name that stands in the i-th slot -/
section
variable {X : Cx}
theorem pv (i : Nat) {x : Str} {pos : Pos} (hN : X.N[i]? = some x := by rfl) (hv : Vis X.env.scope x := by first | exact Or.inl rfl | exact Or.inr (Or.inl rfl) | exact Or.inr (Or.inr rfl)) (hd : (x == ("__debug__" : Str)) = false := by decide)
    (hcd : (x == ("__classdict__" : Str)) = false := by decide) : PE X (.Name x pos) (tVar i) := pe_var hN hv hd hcd
end

/-! ### tests -/
theorem iteF {A B : Prop} (h : B) : if false = true then A else B := by
  rw [if_neg Bool.false_ne_true]
  exact h
theorem iteT {A B : Prop} (h : A) : if true = true then A else B := by
  rw [if_pos rfl]
  exact h
/-! ### heaps -/
/-- all that was tracked is as it was -/
def Same (H H' : Hp) : Prop := ∀ b o, H b = some o → H' b = some o
theorem Same.refl (H : Hp) : Same H H := fun _ _ h => h
theorem Same.trans {H H1 H2 : Hp} (a : Same H H1) (b : Same H1 H2) : Same H H2 := fun c o h => b c o (a c o h)
theorem Same.free {H H' : Hp} (e : Same H H') {l : Addr} (h : H' l = Option.none) : H l = Option.none := by
  cases q : H l with
  | none => rfl
  | some o =>
    rw [e l o q] at h
    cases h
theorem Same.seq {K : PySem.W.Frag} {H H' : Hp} {a : Addr} {xs : List V} (e : Same H H') (h : SqL K H a xs) : SqL K H' a xs := by
  rcases h with (h | ⟨o, h⟩) | h
  · exact .inl (.inl (e _ _ h))
  · exact .inl (.inr ⟨o, e _ _ h⟩)
  · exact .inr h

end L2
namespace L2
open PySem PySem.Spec PyProof.Rows

/-! ### what a call made and dropped may be forgotten -/
theorem ObjOk.swap {P : Program} {w : World} {H H' : Hp} {h h' : Heap} {a : Addr} {o : HO} (x : ObjOk P w H h a o) (y : ObjOk P w H' h' a o) : ObjOk P w H h' a o := by
  induction o with
  | ins C dx fs => exact ⟨x.1, y.2⟩
  | frz ob u ih => exact ⟨y.1, ih x.2 y.2⟩
  | _ => exact y
theorem HOk.forget {P : Program} {w : World} {H H' : Hp} {h h' : Heap} (a : HOk P w H h) (b : HOk P w H' h') (s : Same H H') : HOk P w H h' := fun x o e => (a x o e).swap (b x o (s x o e))
theorem Un.forget {fs ex : List Addr} {H H' : Hp} {h h' : Heap} (u : Un fs ex H H' h h') : Un fs ex H H h h' :=
  ⟨u.keep, u.slot, fun _ _ _ n _ => n, u.there, fun _ _ q => q, fun _ _ _ q => q, fun b ps q => ⟨#[], by rw [q]; simp⟩⟩
theorem FnOk.forget {P : Program} {w : World} {K : PySem.W.Frag} {mg : Str → Option Value} {base : Heap} {CX : CXT} {k : Nat} {f : Addr} {fd : FuncData} {ps : List Str} {sp sp' : Sp} (F : FnOk P w K mg base CX k f fd ps sp)
    (h : ∀ vs H Q E, sp' vs H Q E → sp vs H (fun v H' => Same H H' ∧ Q v H) E) : FnOk P w K mg base CX k f fd ps sp' where
  len := fun vs H Q E q => F.len _ _ _ _ (h _ _ _ _ q)
  run := fun A outer s H args us vs Q E hr e0 hb hv hs => by
    refine codeAny_mono (F.run A outer s H args us vs _ E hr e0 hb hv (h _ _ _ _ hs)) fun r s' q => ?_
    cases r with
    | error e => exact q
    | ok fl =>
      cases fl with
      | ret u =>
        obtain ⟨v, H', os, bare, un, hok, rv, sm, qv⟩ := q
        exact ⟨v, H, os, bare, un.forget, e0.hok.forget hok sm, rv, qv⟩
      | next => exact q
      | brk => exact q
      | cont => exact q

/-! ### a def of the text, a def that keeps a promise -/
structure Src (K : PySem.W.Frag) (mg : Str → Option Value) (x : Str) (st : Stmt) (ps : List Str) : Prop where
  ex : ∃ (f : Addr) (fd : FuncData), Fun K x x st f fd ∧ mg x = some (.ref f) ∧ ∀ us : List Value, us.length = ps.length → bindArgs fd ⟨us, []⟩ = pure (ps.zip us)
structure Def (P : Program) (w : World) (K : PySem.W.Frag) (mg : Str → Option Value) (base : Heap) (k : Nat) (x : Str) (ps : List Str) (sp : Sp) : Prop where
  ex : ∃ (f : Addr) (fd : FuncData), FnOk P w K mg base CX0 k f fd ps sp ∧ mg x = some (.ref f) ∧ PySem.W.keepIn K (.ref f) = true ∧ (∀ us : List Value, us.length = ps.length → bindArgs fd ⟨us, []⟩ = pure (ps.zip us)) ∧
    ∃ o, K.lookup f = some o ∧ o.data = .func fd
section
variable {P : Program} {w : World} {K : PySem.W.Frag} {mg : Str → Option Value} {base : Heap} {x : Str} {st : Stmt} {N ps : List Str} {k : Nat} {sp : Sp}
theorem Src.ok (S : Src K mg x st ps) (sc : FnScope N ps (defScope st)) (len : ∀ vs H Q E, sp vs H Q E → vs.length = ps.length)
    (hbody : ∀ (f : Addr) (cdv : Value) (A : Around) (outer : List Env) (s : Shared) (H : Hp) (vs : List V) (Q : VK) (E : XK), Room k (A.deeper (envOfC x (defScope st) s.heap.objs.size f cdv)) → sp vs H Q E →
      ∃ t, PSs (cxOf CX0 P w K mg base N x (defScope st) f cdv A outer s H E).nox (defBody st) t ∧ t { nx := fun _ H' => Q .non H', rt := Q } (start N vs) H) : Def P w K mg base (k + 1) x ps sp := by
  obtain ⟨f, fd, F, hm, hb⟩ := S.ex
  refine ⟨f, fd, F.ok sc len (fun cdv => hbody f cdv), hm, F.kp, hb, ?_⟩
  obtain ⟨oc, od, kV, doc, pm, an, cdv, ct, osl, e, lk, hcd⟩ := F.ex
  exact ⟨_, lk, rfl⟩
/-- .. what it made is dropped -/
theorem Src.okF (S : Src K mg x st ps) (sc : FnScope N ps (defScope st)) (len : ∀ vs H Q E, sp vs H Q E → vs.length = ps.length)
    (hbody : ∀ (f : Addr) (cdv : Value) (A : Around) (outer : List Env) (s : Shared) (H : Hp) (vs : List V) (Q : VK) (E : XK), Room k (A.deeper (envOfC x (defScope st) s.heap.objs.size f cdv)) → sp vs H Q E →
      ∃ t, PSs (cxOf CX0 P w K mg base N x (defScope st) f cdv A outer s H E).nox (defBody st) t ∧ t { nx := fun _ H' => Same H H' ∧ Q .non H, rt := fun v H' => Same H H' ∧ Q v H } (start N vs) H) : Def P w K mg base (k + 1) x ps sp := by
  obtain ⟨f, fd, F, hm, hb⟩ := S.ex
  have G : FnOk P w K mg base CX0 (k + 1) f fd ps (fun vs H R E => ∃ Q, sp vs H Q E ∧ R = fun v H' => Same H H' ∧ Q v H) :=
    F.ok sc (fun vs H R E ⟨Q, h, _⟩ => len vs H Q E h) fun cdv A outer s H vs R E hr ⟨Q, h, e⟩ => by
      subst e
      exact hbody f cdv A outer s H vs Q E hr h
  refine ⟨f, fd, G.forget fun vs H Q E h => ⟨Q, h, rfl⟩, hm, F.kp, hb, ?_⟩
  obtain ⟨oc, od, kV, doc, pm, an, cdv, ct, osl, e, lk, hcd⟩ := F.ex
  exact ⟨_, lk, rfl⟩
theorem src_mk {h : Heap} {f : Addr} {oc : Value} {od an : Option Addr} {osl : Array (Option Value)} {kV doc pm cdv ct : Value} (X : K.In h) (G : h.Ns mainGlobals mg) (a : PySem.W.nsIn K mainGlobals x = some (some (.ref f)))
    (l : K.lookup f = some ⟨oc, od, .func (PySem.W.fnOf x x (defArgs st) (defBody st) (defScope st) .none kV doc pm an cdv ct), osl⟩) (c : PySem.W.codeIn K cdv x = true) (k : PySem.W.keepIn K (.ref f) = true)
    (hb : ∀ us : List Value, us.length = ps.length → bindArgs (PySem.W.fnOf x x (defArgs st) (defBody st) (defScope st) .none kV doc pm an cdv ct) ⟨us, []⟩ = pure (ps.zip us)) : Src K mg x st ps :=
  ⟨f, _, fun_mk l c k, PySem.W.mg_of X G a, hb⟩
theorem gint_mk {h : Heap} {i : Int} {t : Tok} (X : K.In h) (G : h.Ns mainGlobals mg) (a : PySem.W.nsIn K mainGlobals x = some (some (.int i t))) : ∃ t, mg x = some (.int i t) := ⟨t, PySem.W.mg_of X G a⟩
theorem gtup_mk {h : Heap} {p : Addr} {od : Option Addr} {its : Array Value} {n : Nat} {sl : Array (Option Value)} {xs : List V} (X : K.In h) (G : h.Ns mainGlobals mg) (a : PySem.W.nsIn K mainGlobals x = some (some (.ref p)))
    (l : K.lookup p = some ⟨.type "tuple", od, .seq its n, sl⟩) (r : Vals xs its.toList) (z : its.size ≤ sizeLine) : ∃ a, mg x = some (.ref a) ∧ ∀ H, SqT K H a xs :=
  ⟨p, PySem.W.mg_of X G a, fun H => .inr ⟨_, its, n, l, rfl, rfl, z, r⟩⟩
end
/-- the goal that k_head leaves, from the law's promise -/
theorem walk_def {l : PySem.W.OpenLaw} {lv : Nat} {q : Program} {loose : List Str} {XP : (Str → Option Value) → Heap → Prop} {YP : World → Heap → Prop} {d : DefRec} {K : Params → PySem.W.Frag} {sp : PySem.W.Frag → Sp} {x : Str} {st : Stmt}
    (hn : l.most = some 63) (hdf : d.params.defaults = []) (hnm : d.name = "law") (hr : Room lv callerA)
    (hY : ∀ (w : World) (h : Heap), YP w h → (K w.params).In h)
    (F : ∀ (w : World) (mg : Str → Option Value) (h : Heap), (K w.params).In h → h.Ns mainGlobals mg →
      Src (K w.params) mg "law" st [x] ∧ ∀ base : Heap, Def l.prog w (K w.params) mg base lv "law" [x] (sp (K w.params)))
    (hsp : ∀ (K : PySem.W.Frag) (H : Hp) (a : Addr) (ns : List Int), ns.length ≤ 63 → SqL K H a (ns.map V.int) → sp K [.ref a] H (fun v _ => v = .bl true) fun _ _ _ => False) :
    PySem.W.WalkO q loose XP YP l.row.toRowW d [] (fun f vs => PySem.call f vs) := by
  refine L2.walk_of (n := 63) (k := lv) (x := x) (CX := fun _ => CX0) (sp := fun w => sp (K w.params)) hn (by decide) hdf hr hY ?_ (fun w H a ns h1 h2 h3 => hsp (K w.params) H a ns h1 h3) fun _ _ _ _ _ z => z
  intro w mg fa h KX G hmg
  obtain ⟨S, D⟩ := F w mg h KX G
  obtain ⟨f, fd, Fn, hm, hb⟩ := S.ex
  obtain ⟨oc, od, kV, doc, pm, an, cdv, ct, osl, e, lk, hcd⟩ := Fn.ex
  refine ⟨fd, fun s u => .of_eq (hb [u] rfl), fun base _ _ => ?_⟩
  obtain ⟨f', fd', ok, hm', _, _, o, lk', ho⟩ := (D base).ex
  rw [hnm, hm] at hmg
  rw [hm] at hm'
  cases hmg
  cases hm'
  rw [lk] at lk'
  cases lk'
  cases ho
  exact ok

/-! ### rules of ours -/
section
variable {X : Cx} {x : Str} {p pos : Pos} {e : Expr} {es : List Expr} {t : TA} {j k : Nat} {ps : List Str} {sp : Sp}
theorem pe_fn (D : Def X.prog X.w X.K X.mg X.base j x ps sp) (hr : Room k X.A) (ha : PA X (e :: es) t) (hg : Gl X x := by rfl) (hj : j ≤ k := by decide) (hdb : (x == ("__debug__" : Str)) = false := by decide)
    (he : starEach (e :: es) X.env = (false, eval e X.env) :: starEach es X.env := by rfl) (hpl : (backTo pos (starEach es X.env)).any (·.1) = false := by rfl) :
    PE X (.Call (.Name x p) (e :: es) [] pos) (tCall sp [] E0 t) := by
  obtain ⟨f, fd, F, hm, hk, hb, _⟩ := D.ex
  exact pe_call F (hr.mono hj) hg hm hk (.all hb) .nil pass0 ha hdb he hpl
theorem pe_gint {i : Int} (h : ∃ t, X.mg x = some (.int i t)) (hg : Gl X x := by rfl) (hd : (x == ("__debug__" : Str)) = false := by decide) : PE X (.Name x pos) (tC (.int i)) := by
  obtain ⟨t, h⟩ := h
  exact pe_glob hg h ⟨t, rfl⟩ hd
def tGT (K : PySem.W.Frag) (xs : List V) : TE := fun _ H Q => ∀ a, (∀ H, SqT K H a xs) → Q (.ref a) H
theorem pe_gtup {xs : List V} (h : ∃ a, X.mg x = some (.ref a) ∧ ∀ H, SqT X.K H a xs) (hg : Gl X x := by rfl) (hd : (x == ("__debug__" : Str)) = false := by decide) : PE X (.Name x pos) (tGT X.K xs) := by
  obtain ⟨a, h, hs⟩ := h
  intro pins s σ H Q I hq
  exact pe_glob (v := .ref a) hg h rfl hd pins s σ H Q I (hq a hs)
theorem call_isinst : CallR X (.builtin "isinstance") (fun xs H Q => ∃ x t n b, xs = [x, .ty n] ∧ TyOf X.K H x t ∧ PySem.W.kitOne X.K t (.type n) = some b ∧ Q (.bl b) H) := by
  intro pins s σ H xs us Q I r h
  obtain ⟨x, t, n, b, rfl, ty, e, q⟩ := h
  obtain ⟨u, w', rfl, rx, rn⟩ := vals2 r
  cases rn
  exact isinst_ok I rx ty e fun tk => ⟨.bl b, H, I.tok tk, rfl, q⟩
end
/-! ### tests -/
theorem ifI {a b : Int} {A B : Prop} (h1 : a = b → A) (h2 : ¬ a = b → B) : if decide (V.int a = V.int b) = true then A else B := by
  by_cases h : a = b
  · rw [if_pos (by rw [h]; simp)]; exact h1 h
  · rw [if_neg (by simpa using h)]; exact h2 h
theorem ifNI {a b : Int} {A B : Prop} (h1 : ¬ a = b → A) (h2 : a = b → B) : if (!decide (V.int a = V.int b)) = true then A else B := by
  by_cases h : a = b
  · rw [if_neg (by rw [h]; simp)]; exact h2 h
  · rw [if_pos (by simpa using h)]; exact h1 h
theorem ifD {p A B : Prop} [Decidable p] (h1 : p → A) (h2 : ¬ p → B) : if decide p = true then A else B := by
  by_cases h : p
  · rw [if_pos (by simpa using h)]; exact h1 h
  · rw [if_neg (by simpa using h)]; exact h2 h
theorem ifB {c : Bool} {A B : Prop} (h1 : c = true → A) (h2 : c = false → B) : if c = true then A else B := by
  cases c with
  | true => rw [if_pos rfl]; exact h1 rfl
  | false => rw [if_neg Bool.false_ne_true]; exact h2 rfl
/-- an item of a list of ints at a bounded place -/
theorem at_ints {ns : List Int} {k : Int} (h0 : 0 ≤ k) (h : k < (ns.length : Int)) : atI (ns.map V.int) k = some (.int (ns.getD k.toNat 0)) := by
  have hk : k.toNat < ns.length := by omega
  have q : atI (ns.map V.int) ((k.toNat : Nat) : Int) = some (.int (ns.getD k.toNat 0)) := atI_nat (by rw [List.getElem?_map, List.getElem?_eq_getElem hk, List.getD_eq_getElem?_getD, List.getElem?_eq_getElem hk] <;> rfl)
  rw [show ((k.toNat : Nat) : Int) = k by omega] at q
  exact q
theorem kit_ii {K : PySem.W.Frag} : PySem.W.kitOne K (.type "int") (.type "int") = some true := by rfl
theorem kit_ib {K : PySem.W.Frag} : PySem.W.kitOne K (.type "int") (.type "bool") = some false := by rfl
/-! ### a statement whose end is told by a word of one's own -/
def tCut (t : TS) : TS := fun D σ H => ∃ Mid : St → Hp → Prop, t { D with nx := Mid } σ H ∧ ∀ σ' H', Mid σ' H' → D.nx σ' H'
theorem ty_int {K : PySem.W.Frag} {H : Hp} {x : V} (h : TyOf K H x (.type "int")) : ∃ i, x = .int i := by
  generalize e : Value.type "int" = t at h
  cases h with
  | int i => exact ⟨i, rfl⟩
  | ins => cases e
  | _ => injection e with e; exact absurd e (by decide)
theorem int_ty {K : PySem.W.Frag} {H : Hp} {i : Int} {T : String} (h : TyOf K H (.int i) (.type T)) : T = "int" := by
  cases h
  rfl
end L2
namespace L2
open PySem PySem.Spec PyProof.Rows
section
variable {prog : Program} {w : World} {A : Around} {R : Result → Shared → Prop} {s : Shared}
end
/-- the cells that the block takes over -/
def closOf (sc : Scope) (env : Env) : List (Str × Addr) := (sc.names.filterMap fun p => if p.2 == .free then (env.cells.lookup p.1).map fun c => (p.1, c) else none).reverse
/-- the block's run: its frame's dict, the state and heap ahead of it, pins, iterators -/
structure Blk where
  C : Addr
  s : Shared
  H : Hp
  pn : List (Addr × Obj)
  ex : List Addr
def Cx.block (X : Cx) (sc : Scope) (x : Str) (ix : List Nat) (b : Blk) : Cx where
  prog := X.prog
  w := X.w
  K := X.K
  mg := X.mg
  base := X.base
  A := X.A
  N := x :: ix.map fun i => X.N.getD i x
  s₀ := b.s
  H₀ := b.H
  env := compEnvC sc (closOf sc X.env) b.C X.env
  outer := X.stack
  stack := X.stack
  ex := b.ex
  fn := fun _ => false
  calm := X.calm
  pn := b.pn
  xe := fun _ _ => False
def capts (σ : St) (ix : List Nat) : St := ix.map fun i => σ.getD i none
def CapOk (X : Cx) (sc : Scope) (x : Str) (i : Nat) : Prop :=
  (X.env.kindOf (X.N.getD i x) = some .cell ∨ X.env.kindOf (X.N.getD i x) = some .free) ∧ ((relabel sc X.env).names.lookup (X.N.getD i x) = some .cell ∨ (relabel sc X.env).names.lookup (X.N.getD i x) = some .free) ∧
    (closOf sc X.env).lookup (X.N.getD i x) = X.env.cells.lookup (X.N.getD i x)
def CapsOk (X : Cx) (sc : Scope) (x : Str) : List Nat → Prop
  | [] => True
  | i :: r => CapOk X sc x i ∧ CapsOk X sc x r
theorem CapsOk.get {X : Cx} {sc : Scope} {x : Str} : ∀ {ix : List Nat}, CapsOk X sc x ix → ∀ i ∈ ix, CapOk X sc x i
  | [], _, _, h => nomatch h
  | _ :: _, h, _, hi => (List.mem_cons.mp hi).elim (fun e => e ▸ h.1) fun z => CapsOk.get h.2 _ z
def SubOk (cells : List (Str × Addr)) : List (Str × Addr) → Prop
  | [] => True
  | p :: r => cells.lookup p.1 = some p.2 ∧ SubOk cells r
theorem SubOk.get {cells : List (Str × Addr)} : ∀ {cl : List (Str × Addr)}, SubOk cells cl → ∀ y c, cl.lookup y = some c → cells.lookup y = some c
  | [], _, _, _, h => by simp at h
  | p :: r, h, y, c, e => by
    rw [List.lookup_cons] at e
    cases q : y == p.1 with
    | true =>
      rw [q] at e
      have e1 : p.2 = c := Option.some.inj e
      rw [eq_of_beq q, ← e1]
      exact h.1
    | false =>
      rw [q] at e
      exact SubOk.get h.2 y c e
def HasOk (cl : List (Str × Addr)) : List (Str × NameKind) → Prop
  | [] => True
  | p :: r => (p.2 = .cell ∨ p.2 = .free → ∃ c, cl.lookup p.1 = some c) ∧ HasOk cl r
theorem HasOk.get {cl : List (Str × Addr)} : ∀ {ns : List (Str × NameKind)}, HasOk cl ns → ∀ p ∈ ns, p.2 = .cell ∨ p.2 = .free → ∃ c, cl.lookup p.1 = some c
  | [], _, _, h => nomatch h
  | _ :: _, h, _, hp => (List.mem_cons.mp hp).elim (fun e => e ▸ h.1) fun z => HasOk.get h.2 _ z
structure CompOk (X : Cx) (sc : Scope) (x : Str) (ix : List Nat) : Prop where
  clos : closureFor sc X.env = pure (closOf sc X.env)
  cell : ∀ y ∈ sc.names, y.2 ≠ .cell
  kind : sc.kind = .function
  names : ∀ y ∈ sc.names, y.2 = .local → sc.names.lookup y.1 = some .local
  var : sc.names.lookup x = some .local
  nd : (x :: ix.map fun i => X.N.getD i x).Nodup
  cap : CapsOk X sc x ix
  sub : SubOk X.env.cells (closOf sc X.env)
  has : HasOk (closOf sc X.env) (relabel sc X.env).names
section
variable {X : Cx} {pins : List (Addr × Obj)} {σ : St} {H : Hp} {s : Shared} {sc : Scope} {x : Str} {ix : List Nat} {fp : List Addr}
end
/-- what the block does, turn by turn: W by the turn, a measure, the list so far -/
def Turns (ix : List Nat) (te : TE) (σ : St) (J : It) (l : Addr) (R : Hp → Prop) (W : Nat → Nat → List V → Hp → Prop) : Prop :=
  ∀ i m xs H', W i m xs H' → H' l = some (.lst xs) ∧ ((J.stop i H' ∧ R H') ∨ (J.go i H' ∧ xs.length < sizeLine ∧ ∀ x H2, J.yld i H' x H2 →
    te (some x :: capts σ ix) H2 fun v H3 => H3 l = some (.lst xs) ∧ ∃ m', m' < m ∧ W (i + 1) m' (xs ++ [v]) (upd H3 l (.lst (xs ++ [v])))))
def tComp (ix : List Nat) (wi : TI) (te : TE) : TE := fun σ H Q => wi σ H fun J H1 => ∀ l, H1 l = none → ∃ W : Nat → Nat → List V → Hp → Prop, (∃ m, W 0 m [] (upd H1 l (.lst []))) ∧ Turns ix te σ J l (Q (.ref l)) W
section
variable {X : Cx} {pins : List (Addr × Obj)} {σ : St} {H : Hp} {s : Shared} {sc : Scope} {x : Str} {ix : List Nat} {fp : List Addr} {elt iter : Expr} {te : TE} {wi : TI} {px pos : Pos}
end
def TurnsIf (ix : List Nat) (tt : TT) (te : TE) (σ : St) (J : It) (l : Addr) (R : Hp → Prop) (W : Nat → Nat → List V → Hp → Prop) : Prop :=
  ∀ i m xs H', W i m xs H' → H' l = some (.lst xs) ∧ ((J.stop i H' ∧ R H') ∨ (J.go i H' ∧ xs.length < sizeLine ∧ ∀ x H2, J.yld i H' x H2 →
    tt (some x :: capts σ ix) H2 fun b H3 => if b = true then te (some x :: capts σ ix) H3 fun v H4 => H4 l = some (.lst xs) ∧ ∃ m', m' < m ∧ W (i + 1) m' (xs ++ [v]) (upd H4 l (.lst (xs ++ [v]))) else ∃ m', m' < m ∧ W (i + 1) m' xs H3))
def tCompIf (ix : List Nat) (wi : TI) (tt : TT) (te : TE) : TE := fun σ H Q => wi σ H fun J H1 => ∀ l, H1 l = none → ∃ W : Nat → Nat → List V → Hp → Prop, (∃ m, W 0 m [] (upd H1 l (.lst []))) ∧ TurnsIf ix tt te σ J l (Q (.ref l)) W
section
variable {X : Cx} {pins : List (Addr × Obj)} {σ : St} {H : Hp} {s : Shared} {sc : Scope} {x : Str} {ix : List Nat} {fp : List Addr} {elt iter c : Expr} {te : TE} {tt : TT} {wi : TI} {px pos : Pos}
end
theorem same_new {H : Hp} {p : Addr} (h : H p = none) (o : HO) : Same H (upd H p o) := fun b u q => by rw [upd_ne (ne_of_none q h)]; exact q
section
variable {X : Cx}
end
end L2
namespace L2
open PySem PySem.Spec PyProof.Rows
/-! ### == and != by data -/
mutual
inductive RdV (K : PySem.W.Frag) (H : Hp) : V → PyData → Prop
  | non : RdV K H .non .none
  | bl (b : Bool) : RdV K H (.bl b) (.bool b)
  | int (i : Int) : RdV K H (.int i) (.int i)
  | str (x : Str) : RdV K H (.str x) (.str x)
  | lst {a : Addr} {xs : List V} {ds : List PyData} : SqL K H a xs → RdVs K H xs ds → RdV K H (.ref a) (.list ds)
  | tup {a : Addr} {xs : List V} {ds : List PyData} : SqT K H a xs → RdVs K H xs ds → RdV K H (.ref a) (.tuple ds)
inductive RdVs (K : PySem.W.Frag) (H : Hp) : List V → List PyData → Prop
  | nil : RdVs K H [] []
  | cons {x : V} {d : PyData} {xs : List V} {ds : List PyData} : RdV K H x d → RdVs K H xs ds → RdVs K H (x :: xs) (d :: ds)
end
theorem RdVs.ints {K : PySem.W.Frag} {H : Hp} : ∀ ns : List Int, RdVs K H (ns.map V.int) (ns.map PyData.int)
  | [] => .nil
  | n :: r => .cons (.int n) (RdVs.ints r)
section
variable {X : Cx} {pins : List (Addr × Obj)} {σ : St} {H : Hp} {s : Shared} {pos : Pos}
mutual
theorem RdV.reads (I : Inv X pins σ H s) : ∀ {x : V} {d : PyData} {u : Value}, RdV X.K H x d → RelV x u → ∃ as, Reads s.heap u d as
  | _, _, _, .non, r => by cases r; exact ⟨_, .none⟩
  | _, _, _, .bl b, r => by cases r; exact ⟨_, .bool b⟩
  | _, _, _, .int i, r => by obtain ⟨t, rfl⟩ := r; exact ⟨_, .int i t⟩
  | _, _, _, .str x, r => by obtain ⟨t, rfl⟩ := r; exact ⟨_, .str x t⟩
  | _, _, _, .lst h hs, r => by
    cases r
    obtain ⟨its, rv, pl, hz⟩ := I.list h
    obtain ⟨as, q⟩ := RdVs.reads I hs rv
    obtain ⟨o, n, e, c, hd, dt⟩ := pl
    exact ⟨_, reads_list_at e c dt (by simpa using q)⟩
  | _, _, _, .tup h hs, r => by
    cases r
    obtain ⟨its, rv, pl, hz⟩ := I.tuple h
    obtain ⟨as, q⟩ := RdVs.reads I hs rv
    obtain ⟨o, e, c, n, dt⟩ := pl
    exact ⟨_, reads_tuple_at e c dt (by simpa using q)⟩
theorem RdVs.reads (I : Inv X pins σ H s) : ∀ {xs : List V} {ds : List PyData} {us : List Value}, RdVs X.K H xs ds → Vals xs us → ∃ as, ReadsAll s.heap us ds as
  | _, _, _, .nil, .nil => ⟨_, .nil⟩
  | _, _, _, .cons h hs, .cons r rs => by
    obtain ⟨as, q⟩ := RdV.reads I h r
    obtain ⟨bs, q'⟩ := RdVs.reads I hs rs
    exact ⟨_, .cons q q'⟩
end
def rEqD (K : PySem.W.Frag) : R2 := fun x y H Q => ∃ d e, RdV K H x d ∧ RdV K H y e ∧ SeqAt.shaped d = true ∧ SeqAt.shaped e = true ∧ Q (.bl (PyData.eqv d e)) H
def rNeD (K : PySem.W.Frag) : R2 := fun x y H Q => ∃ d e, RdV K H x d ∧ RdV K H y e ∧ SeqAt.shaped d = true ∧ SeqAt.shaped e = true ∧ Q (.bl (!PyData.eqv d e)) H
theorem op_neD (hu : X.A.units + 64 < cLine) : OpR X (compareOp .NotEq) (rNeD X.K) := by
  intro pins s σ H x y v u Q I rx ry h
  obtain ⟨d, e, hd, he, sd, se, q⟩ := h
  obtain ⟨as, ra⟩ := hd.reads I rx
  obtain ⟨bs, rb⟩ := he.reads I ry
  exact ne_dataH ra rb sd se hu ⟨.bl _, H, I, rfl, q⟩
/-! ### {} -/
def tDNew : TE := fun _ H Q => ∀ p, H p = none → Q (.ref p) (upd H p (.dK []))
theorem pe_dnew : PE X (.Dict [] [] pos) tDNew := fun pins s σ H Q I h => by
  have big : sysModules < s.heap.objs.size := Nat.lt_trans (by decide) (show mainGlobals < s.heap.objs.size from (I.mod.glob.keeps I.bk).lt)
  have new : ObjOk X.prog X.w (upd H s.heap.objs.size (.dK [])) (s.heap.push { cls := .type "dict", data := .dict #[] }) s.heap.objs.size (.dK []) :=
    ⟨Nat.zero_le _, beq_eq_false_iff_ne.mpr (Ne.symm (Nat.ne_of_lt big)), [], .nil, Heap.DictOf.new s.heap⟩
  exact wpAny_Dict_empty ⟨.ref s.heap.objs.size, _, I.laid (t' := s.toks) (fun _ _ q => Heap.get?_push_of_some _ q) (Nat.le_refl _) new, rfl, h _ (I.hok.fresh (Nat.le_refl _))⟩
end
/-! ### isinstance of the plain kinds -/
def kinds : List String := ["NoneType", "bool", "int", "str", "list", "tuple", "dict"]
theorem kit_int {K : PySem.W.Frag} {T : String} (h : T ∈ kinds) : PySem.W.kitOne K (.type T) (.type "int") = some (decide (T = "int" ∨ T = "bool")) := by
  simp only [kinds, List.mem_cons, List.not_mem_nil, or_false] at h
  rcases h with rfl | rfl | rfl | rfl | rfl | rfl | rfl <;> rfl
theorem kit_bool {K : PySem.W.Frag} {T : String} (h : T ∈ kinds) : PySem.W.kitOne K (.type T) (.type "bool") = some (decide (T = "bool")) := by
  simp only [kinds, List.mem_cons, List.not_mem_nil, or_false] at h
  rcases h with rfl | rfl | rfl | rfl | rfl | rfl | rfl <;> rfl
/-- a flat thing or one of the three kinds of containers -/
def IsKind (K : PySem.W.Frag) (H : Hp) (x : V) (T : String) : Prop := TyOf K H x (.type T) ∧ T ∈ kinds
theorem iteNF {A B : Prop} (h : A) : if (!false) = true then A else B := iteT (B := B) h
theorem iteNT {A B : Prop} (h : B) : if (!true) = true then A else B := iteF (A := A) h
theorem ifND {p A B : Prop} [Decidable p] (h1 : ¬ p → A) (h2 : p → B) : if (!decide p) = true then A else B := by
  by_cases h : p
  · rw [if_neg (by simpa using h)]; exact h2 h
  · rw [if_pos (by simpa using h)]; exact h1 h
/-- a power of two written numbers -/
theorem pe_powc {X : Cx} {a b v : Int} {j j' : Nat} {p p' pos : Pos} (h : a ^ b.toNat = v) (hb : CPow a b) : PE X (.BinOp (.Constant (.int a) j p) .Pow (.Constant (.int b) j' p') pos) (tC (.int v)) := by
  intro pins s σ H Q I hq
  exact pe_op op_pow pe_int pe_int pins s σ H Q I ⟨_, _, rfl, rfl, hb, by show Q (V.int (a ^ b.toNat)) H; rw [h]; exact hq⟩
end L2
namespace L2
open PySem PySem.Spec PyProof.Rows
/-! ### an exception that flies -/
theorem ObjOk.get {P : Program} {w : World} {H : Hp} {h : Heap} {a : Addr} {o : HO} (x : ObjOk P w H h a o) : ∃ u, h.get? a = some u := by
  cases o with
  | lst xs => obtain ⟨_, _, _, _, e⟩ := x; exact ⟨_, e⟩
  | tup xs => obtain ⟨_, _, _, _, e, _⟩ := x; exact ⟨_, e⟩
  | dK kvs => obtain ⟨_, _, _, _, _, _, _, e, _⟩ := x; exact ⟨_, e⟩
  | set S n => obtain ⟨_, _, _, _, e, _⟩ := x; exact ⟨_, e⟩
  | ins C dx fs => obtain ⟨_, _, _, e, _⟩ := x; exact ⟨_, e⟩
  | own y => exact x
  | xd fs => obtain ⟨_, ⟨_, _, _, e, _⟩, _⟩ := x; exact ⟨_, e⟩
  | rng lo hi => obtain ⟨_, _, _, e⟩ := x; exact ⟨_, e⟩
  | frz ob u => obtain ⟨e, _⟩ := x; exact ⟨_, e⟩
  | tbl ps => exact ⟨_, (show h.get? a = some _ from x)⟩
  | met f y => exact ⟨_, (show h.get? a = some _ from x)⟩
  | ext φ => obtain ⟨_, e, _⟩ := x; exact e
theorem HOk.gone {P : Program} {w : World} {H : Hp} {h : Heap} {a : Addr} (x : HOk P w H h) (e : h.get? a = none) : H a = none := by
  cases q : H a with
  | none => rfl
  | some o =>
    obtain ⟨u, z⟩ := (x a o q).get
    rw [e] at z; cases z
/-- new since g, not tracked; its class C -/
structure ExcAt (g : Heap) (H : Hp) (h : Heap) (e : Addr) (C : Value) : Prop where
  new : g.get? e = none
  free : H e = none
  ex : ∃ oe vs T oT ts a0, h.get? e = some oe ∧ (oe.cls = C ∧ vs[0]? = some a0) ∧ oe.data = .fields vs ∧ vs[1]? = some (.ref T) ∧ (g.get? T = none ∧ H T = none) ∧ T ≠ e ∧ h.get? T = some oT ∧ oT.data = .fields ts ∧ ts[3]? = some .none
def CXX (P : Program) (w : World) : CXT := fun outer H s E ev s' => ∃ e C H', ev = .ref e ∧ E C none H' ∧ s'.os = s.os ∧ AllBare s'.gens ∧ Un (frs outer) [] H H' s.heap s'.heap ∧ HOk P w H' s'.heap ∧ ExcAt s.heap H' s'.heap e C
structure Flew (X : Cx) (hid : List Addr) (h h' : Heap) : Prop where
  keep : ∀ b o, h.get? b = some o → b ∉ frs X.stack → b ∉ hid → h'.get? b = some o
  slot : h.UpToSlots h'
section
variable {X : Cx} {pins : List (Addr × Obj)} {σ : St} {H : Hp} {s : Shared} {h' : Heap} {hid : List Addr}
theorem Inv.unFlew (I : Inv X pins σ H s) (F : Flew X hid s.heap h') (hh : ∀ b ∈ hid, X.s₀.heap.get? b = none) : Un X.fs X.ex X.H₀ H X.s₀.heap h' where
  keep := fun b o q n hb hx => F.keep b o (I.base.keep b o q n hb hx)
    (fun z => (List.mem_cons.mp (I.stkSub b z)).elim (fun e => absurd (Nat.lt_of_lt_of_le (Heap.lt_size q) I.ok.above) (by rw [e]; exact Nat.lt_irrefl _)) hb) (fun z => by rw [hh b z] at q; cases q)
  slot := fun b o q n hb hx => by
    obtain ⟨sl, e1⟩ := I.base.slot b o q n hb hx
    obtain ⟨_, o', ho', hd⟩ := I.funs.mem hb
    rw [e1] at ho'; cases ho'
    obtain ⟨sl', e2⟩ := F.slot b _ e1 hd
    exact ⟨sl', e2⟩
  free := I.base.free
  there := fun b o q hx => by
    obtain ⟨o', e1⟩ := I.base.there b o q hx
    by_cases z : b ∈ frs X.stack
    · obtain ⟨_, o'', ho, hd⟩ := I.stack.mem z
      rw [e1] at ho; cases ho
      obtain ⟨sl, e2⟩ := F.slot b _ e1 hd
      exact ⟨_, e2⟩
    · exact ⟨o', F.keep b o' e1 z (fun y => by rw [hh b y] at q; cases q)⟩
  tups := I.base.tups
  frzs := I.base.frzs
  tbls := I.base.tbls
theorem Inv.hokFlew (I : Inv X pins σ H s) (F : Flew X hid s.heap h') (hf : ∀ b ∈ hid, H b = none) : HOk X.prog X.w H h' := fun a o q => by
  refine (I.hok a o q).stay (fun b u hb r => ?_) (fun _ z => z) fun _ _ z => z
  have t : H b ≠ none := by
    rcases hb with rfl | hb
    · rw [q]; exact fun z => nomatch z
    · rw [hb]; exact fun z => nomatch z
  exact F.keep b u r (fun z => t (I.stkFree b z)) fun z => t (hf b z)
theorem cell_flew {h : Heap} {c : Addr} {v : Option Value} (F : h.UpToSlots h') (z : h.IsCell c v) : h'.IsCell c v := by
  obtain ⟨o, ho, hd⟩ := z
  obtain ⟨sl, e⟩ := F c o ho (fun vs q => by rw [hd] at q; cases q)
  exact ⟨_, e, hd⟩
theorem Inv.flew (I : Inv X pins σ H s) (F : Flew X hid s.heap h') (hh : ∀ b ∈ hid, X.s₀.heap.get? b = none ∧ H b = none ∧ ∀ p ∈ X.pn ++ pins, p.1 ≠ b) : Inv X pins σ H { s with heap := h' } := by
  refine ⟨I.ok, I.os, I.bare, I.unFlew F fun b hb => (hh b hb).1, ?_, fun x c e => ?_, I.free, I.freeC, fun p hp => ?_, I.hokFlew F fun b hb => (hh b hb).2.1, I.len⟩
  · obtain ⟨m, hn, hl⟩ := I.loc
    refine ⟨m, F.slot.ns hn, fun i x v e1 e2 e3 => ?_⟩
    obtain ⟨u, r, l⟩ := hl i x v e1 e2 e3
    refine ⟨u, r, ?_⟩
    rcases l with l | ⟨k, c, e, z⟩
    · exact .inl l
    · exact .inr ⟨k, c, e, cell_flew F.slot z⟩
  · obtain ⟨v, z⟩ := I.cell x c e
    exact ⟨v, cell_flew F.slot z⟩
  · obtain ⟨e, n, ne, nf, d⟩ := I.pin p hp
    exact ⟨F.keep p.1 p.2 e (fun z => (List.mem_cons.mp (I.stkSub _ z)).elim ne nf) (fun z => (hh p.1 z).2.2 p hp rfl), n, ne, nf, d⟩
theorem exc_of {B h'' : Heap} {l : List Env} {e : Addr} {C a0 : Value} (I : Inv X pins σ H s) (F : Flew X hid s.heap h'') (hB : ∀ b o, s.heap.get? b = some o → b ∉ frs X.stack → b ∉ hid → B.get? b = some o)
    (fl : Heap.FlyingW B l e C a0 h'') (hh : ∀ b ∈ hid, X.s₀.heap.get? b = none ∧ H b = none) (he : X.s₀.heap.get? e = none ∧ H e = none) (hex : ∀ b, b ∉ X.ex) : ExcAt X.s₀.heap H h'' e C := by
  obtain ⟨_, _, _, oe, vs, T, oT, ts, h1, h2, h3, h4, h5, h6, h7, h8, h9⟩ := fl
  have key : ∀ o, s.heap.get? T = some o → T ∈ hid := fun o q => by
    by_cases z : T ∈ hid
    · exact z
    · exfalso
      by_cases y : T ∈ frs X.stack
      · obtain ⟨_, o', ho, hd⟩ := I.stack.mem y
        obtain ⟨sl, e2⟩ := F.slot T o' ho hd
        rw [h7] at e2; cases e2
        exact hd ts h8
      · have := hB T o q y z
        rw [h5] at this; cases this
  refine ⟨he.1, he.2, oe, vs, T, oT, ts, a0, h1, h2, h3, h4, ⟨?_, ?_⟩, h6, h7, h8, h9⟩
  · cases q : X.s₀.heap.get? T with
    | none => rfl
    | some o =>
      obtain ⟨o', e1⟩ := I.base.there T o q (hex T)
      rw [(hh T (key o' e1)).1] at q; cases q
  · cases q : H T with
    | none => rfl
    | some u =>
      obtain ⟨o', e1⟩ := (I.hok T u q).get
      rw [(hh T (key o' e1)).2] at q; cases q
end
section
variable {P : Program} {w : World} {K : PySem.W.Frag} {mg : Str → Option Value} {base : Heap} {N : List Str} {qual : Str} {scope : Scope} {f : Addr} {cd : Value} {A : Around} {outer : List Env} {s₀ : Shared} {H₀ : Hp} {E : XK}
end
/-! ### a def that may raise -/
structure DefX (P : Program) (w : World) (K : PySem.W.Frag) (mg : Str → Option Value) (base : Heap) (k : Nat) (x : Str) (ps : List Str) (sp : Sp) : Prop where
  ex : ∃ (f : Addr) (fd : FuncData), FnOk P w K mg base (CXX P w) k f fd ps sp ∧ mg x = some (.ref f) ∧ PySem.W.keepIn K (.ref f) = true ∧ (∀ us : List Value, us.length = ps.length → bindArgs fd ⟨us, []⟩ = pure (ps.zip us))
section
variable {P : Program} {w : World} {K : PySem.W.Frag} {mg : Str → Option Value} {base : Heap} {x : Str} {st : Stmt} {N ps : List Str} {k : Nat} {sp : Sp}
end
section
variable {X : Cx} {x : Str} {p pos : Pos} {e : Expr} {es : List Expr} {t : TA} {j k : Nat} {ps : List Str} {sp : Sp}
end
/-! ### own classes of exceptions -/
def bmV : List Value := [.type "ValueError", .type "Exception", .type "BaseException", .type "object"]
/-- the address of the class of that name -/
def cA (K : PySem.W.Frag) (x : Str) : Addr := match PySem.W.nsIn K mainGlobals x with
  | some (some (.ref C)) => C
  | _ => 0
theorem cA_of {K : PySem.W.Frag} {x : Str} {C : Addr} (e : PySem.W.nsIn K mainGlobals x = some (some (.ref C))) : cA K x = C := by unfold cA; rw [e]
/-- what isinstance asks of the class of an exception -/
structure XK1 (K : PySem.W.Frag) (C : Addr) : Prop where
  ga : PySem.W.findIn K (.ref C) "__getattribute__" = some (some (.builtin "BaseException.__getattribute__"))
  gh : PySem.W.findIn K (.ref C) "__getattr__" = some none
  cl : PySem.W.findIn K (.ref C) "__class__" = some (some (.builtin "object.__class__"))
  gt : PySem.W.specialIn K (.builtin "object.__class__") "__get__" = some (some (.builtin "getset_descriptor.__get__"))
  tk : PySem.W.takesIn K (.builtin "object.__class__") = some true
  ob : PySem.W.mroIn K C (.type "object") = some true
  be : PySem.W.subIn K (.ref C) (.type "BaseException") = some true
/-- .. and what raising it asks -/
structure XK2 (K : PySem.W.Frag) (C : Addr) : Prop where
  ok : PySem.W.excIn K C bmV "ValueError.__new__" = true
theorem exc_obj {K : PySem.W.Frag} {h : Heap} {C : Addr} {bmB : List Value} {newId : String} (X : K.In h) (q : PySem.W.excIn K C bmB newId = true) :
    ∃ bm N nm qn bs hdct sn sub ab col dd k0 k1 k2 k3 k5 mN, h.get? C = some (excClassObj nm qn C N bs bm hdct sn sub ab col dd k0 k1 k2 k3 k5 newId) ∧ h.Ns N mN ∧ mN "__init__" = none ∧ OwnTail h bmB bm := by
  unfold PySem.W.excIn at q
  split at q
  · rename_i dd cd sl ho
    split at q
    · rename_i C' bm k0 k1 k2 k3 n k5 hm hs
      simp only [Bool.and_eq_true, Bool.not_eq_true', beq_iff_eq] at q
      obtain ⟨⟨⟨⟨⟨e1, e2⟩, hdel⟩, ht⟩, hok⟩, hni⟩ := q
      subst e1 e2
      obtain ⟨nm, bs, mro, ns, qn, hd, sn, sub, ab, col, del⟩ := cd
      dsimp only at hm hdel hok hni
      subst hm hdel
      obtain ⟨l⟩ := sl
      have hl : l = [k0, k1, k2, k3, some (.builtin n), k5] := hs
      subst hl
      exact ⟨bm, ns, nm, qn, bs, hd, sn, sub, ab, col, dd, k0, k1, k2, k3, k5, _, X _ _ ho, .of_isNs (PySem.W.isNs_of_in X hok), PySem.W.nsMap_none_of_in X hok hni, PySem.W.tail_of_in X ht⟩
    · cases q
  · cases q
section
variable {X : Cx} {x : Str} {np cpos pos : Pos} {e0 : Expr} {rest : List Expr} {t : TA} {E : XK}
def tRaise (C : Addr) (E : XK) (t : TA) : TS := fun _ σ H => t σ H fun vs H1 => vs.length ≤ sizeLine ∧ E (.ref C) none H1
end
/-! ### isinstance of an exception -/
def ExcO (e : Addr) (C : Value) : HO := .ext fun h => ∃ o vs, h.get? e = some o ∧ o.cls = C ∧ o.data = .fields vs
section
open PySem.Builtin PySem.Builtin.ObjectAttr PySem.Builtin.Getset_descriptor
variable {prog : Program} {w : World} {A : Around} {E : Value → Shared → Prop} {s : Shared} {K : PySem.W.Frag} {e C : Addr} {oe : Obj}
theorem xtype {M : Model} {h : Heap} (hx : h.get? e = some oe) (hc : oe.cls = .ref C) : PySem.W.Looks M h (typeOf (.ref e)) (.ref C) := hc ▸ (PySem.W.Looks.ld hx).andThen .now
theorem xclass_get {R : Result → Shared → Prop} {tp : Value} (X : K.In s.heap) (hx : s.heap.get? e = some oe) (hc : oe.cls = .ref C) (hm : PySem.W.mroIn K C (.type "object") = some true) (h : R (.ok (.ret (.ref C))) s) :
    codeAny (model prog w) A (.call (.builtin "getset_descriptor.__get__") ⟨[.builtin "object.__class__", .ref e, tp], []⟩) R s := by
  obtain ⟨hh, g, dr, t, os⟩ := s
  have M0 := xtype (M := model prog w) hx hc
  have M1 := PySem.W.looks_mroIn (M := model prog w) X hm
  refine codeAny_call_builtin PySem.W.KF.slot_gs.plain PySem.W.KF.entry_gs (PySem.W.KF.slot_gs.check _ _ _ _ _ _ _ _ PySem.W.KF.type_class (PySem.W.KF.args_gs _ _ _) ?_)
  unfold Builtin.«getset_descriptor.__get__» descrGet
  rw [PySem.W.dga_obj]
  refine wpAny_bind (wpAny_pure ?_)
  unfold descrGetter descrCheckInstance descrNameAndClass isInstance
  simp only [PySem.W.KF.owner_class]
  repeat lk
  refine ⟨Code.quiet_builtin _ (by decide +kernel), codeAny_builtin PySem.W.KF.entry_class ?_⟩
  unfold Builtin.«object.__class__» shownTypeOf
  repeat lk
  exact h
theorem xfind {M : Model} {h : Heap} (X : K.In h) (Z : XK1 K C) : PySem.W.Looks M h (find (.ref e) (.ref C) "__class__") (.bind (.builtin "getset_descriptor.__get__") (.builtin "object.__class__")) := by
  intro A Q E s k q
  have X' := X.keeps k
  obtain ⟨hh, g, d, t, os⟩ := s
  have L1 := PySem.W.looks_findIn (M := M) X' Z.cl
  have L2 := PySem.W.looks_specialIn (M := M) X' Z.gt
  have L3 := PySem.W.looks_takesIn (M := M) X' Z.tk
  unfold find
  refine wpAny_bind (L1.at (wpAny_bind (L2.at (wpAny_bind (wpAny_bind (L3.at ?_))))))
  repeat lk
  exact q
theorem xclass_attr {Q : Option Value → Shared → Prop} (X : K.In s.heap) (Z : XK1 K C) (hx : s.heap.get? e = some oe) (hc : oe.cls = .ref C) (h : Q (some (.ref C)) { s with toks := s.toks + 1 }) :
    wpAny (model prog w) A (getAttr? (.ref e) "__class__") Q E s := by
  obtain ⟨hh, g, d, t, os⟩ := s
  have L0 := xtype (M := model prog w) hx hc
  have L1 := PySem.W.looks_findIn (M := model prog w) X Z.ga
  have L2 := PySem.W.looks_findIn (M := model prog w) X Z.gh
  have L3 := xfind (M := model prog w) (e := e) X Z
  have L4 := PySem.W.looks_subIn (M := model prog w) X Z.be
  have hk : builtinKind "BaseException.__getattribute__" = some .slot := by decide +kernel
  have hsplit : splitId "BaseException.__getattribute__" = some ("BaseException", "__getattribute__") := by decide +kernel
  unfold getAttr? getAttrBy? getAttrBy
  refine wpAny_bind (wpAny_mkText (wpAny_bind (wpAny_attempt (wpAny_holding (wpAny_bind (L0.at (wpAny_bind (L1.at ?_))))))))
  have hne : (Value.builtin "BaseException.__getattribute__" == Value.builtin "object.__getattribute__") = false := by decide +kernel
  dsimp only
  rw [if_neg (by rw [hne, Bool.and_false]; exact Bool.false_ne_true)]
  unfold getAttrByItsOwn hookBefore
  rw [if_pos (show onTheHeap (Value.ref C) = true from rfl)]
  refine wpAny_bind (L2.at ?_)
  refine wpAny_bind (wpAny_attempt (wpAny_holding ?_))
  unfold callGetattribute boundAndCalled
  rw [if_neg (show ¬ (false && onTheHeap (Value.builtin "BaseException.__getattribute__")) = true from Bool.false_ne_true)]
  refine wpAny_bind (wpAny_of_eq (PySem.F.attr_ValueError.ga.bind (.ref e)) ?_)
  refine wpAny_call (codeAny_call_builtin PySem.F.attr_ValueError.ga.plain PySem.F.entry_bexc_ga ?_)
  have ha := F.args_bexc_ga (.ref e) (.str "__class__" t)
  simp only [checkBuiltinCall, hk, hsplit]
  unfold isInstance
  repeat (any_goals (first | with_reducible refine PySem.W.Looks.at (by assumption) ?_ | wp_step))
  refine xclass_get (s := ⟨hh, g, d, t + 1, os⟩) X hx hc Z.ob (wpAny_pure ?_)
  show wpAny _ _ (handedOut (.ref C)) _ _ _
  repeat (any_goals (first | assumption | wp_step))
end
end L2
namespace L2
open PySem PySem.Spec PyProof.Rows
section
variable {K : PySem.W.Frag} {e C : Addr}
theorem cls_of_mro {v : Value} {b : Bool} (h : PySem.W.mroIn K C v = some b) : ∃ c d cd sl, K.lookup C = some ⟨c, d, .cls cd, sl⟩ := by
  unfold PySem.W.mroIn PySem.W.clsIn at h
  obtain ⟨cd, hc, _⟩ := Option.bind_eq_some_iff.mp h
  split at hc
  · rename_i c d cd' sl ho
    exact ⟨c, d, cd', sl, ho⟩
  · cases hc
theorem kitx_exc (Z : XK1 K C) : PySem.W.KitX K (.ref e) (.ref C) (fun h => ∃ o vs, h.get? e = some o ∧ o.cls = .ref C ∧ o.data = .fields vs) where
  ty := fun M h X p => by
    obtain ⟨o, vs, h1, h2, _⟩ := p
    exact xtype h1 h2
  it := fun M h X _ => by
    obtain ⟨c, d, cd, sl, ho⟩ := cls_of_mro Z.ob
    intro A Q E s k q
    unfold isType loadHead
    exact wpAny_bind (wpAny_loadPart (k _ _ (X _ _ ho)) (wpAny_pure q))
  ne := fun h tp dd its n sl X htp => by
    obtain ⟨c, d, cd, sl', ho⟩ := cls_of_mro Z.ob
    refine Bool.eq_false_iff.mpr fun q => ?_
    have e : C = tp := Value.ref.inj (beq_iff_eq.mp q)
    subst e
    have z := (X _ _ ho).symm.trans htp
    cases z
  ca := fun X p k => by
    obtain ⟨o, vs, h1, h2, _⟩ := p
    exact xclass_attr X Z h1 h2 k
end
section
variable {X : Cx}
theorem vals_refs : ∀ {ds : List Addr} {us : List Value}, Vals (ds.map V.ref) us → us = ds.map Value.ref
  | [], _, .nil => rfl
  | d :: ds, _, .cons r t => by
    cases r
    rw [vals_refs t]; rfl
end
/-! ### try: y = f(..) except C as n: suite -/
abbrev Cx.held (X : Cx) (e : Addr) : Cx := { X with A := X.A.mark (some (.ref e)), calm := false, xe := fun _ _ => False }
section
variable {X : Cx} {pins : List (Addr × Obj)} {σ : St} {H : Hp} {s : Shared} {e : Addr}
theorem Inv.held (I : Inv X pins σ H s) (e : Addr) : Inv (X.held e) pins σ H s :=
  ⟨⟨I.ok.mod, I.ok.kind, I.ok.glob, I.ok.blt, I.ok.above, I.ok.inj, I.ok.has, I.ok.cab, fun z => (Bool.false_ne_true z).elim, I.ok.frames, I.ok.stk, I.ok.exf, I.ok.bs, I.ok.bsz, I.ok.noex, I.ok.exfs, I.ok.funs, I.ok.frf⟩,
    I.os, I.bare, I.base, I.loc, I.cell, I.free, I.freeC, I.pin, I.hok, I.len⟩
theorem Inv.unheld (ok : X.Ok) (I : Inv (X.held e) pins σ H s) : Inv X pins σ H s := ⟨ok, I.os, I.bare, I.base, I.loc, I.cell, I.free, I.freeC, I.pin, I.hok, I.len⟩
theorem Inv.track {o : HO} (I : Inv X pins σ H s) (hn : H e = none) (h0 : X.s₀.heap.get? e = none) (hL : e ≠ X.env.locals) (hC : ∀ x c, X.env.cells.lookup x = some c → c ≠ e) (hp : ∀ p ∈ X.pn ++ pins, p.1 ≠ e)
    (new : ObjOk X.prog X.w (upd H e o) s.heap e o) : Inv X pins σ (upd H e o) s := by
  refine ⟨I.ok, I.os, I.bare, ⟨I.base.keep, I.base.slot, fun b u q n hx => ?_, I.base.there, fun b xs q => ?_, fun b u v q => ?_, fun b ps q => ?_⟩, I.loc, I.cell, ?_, fun x c q => ?_, fun p q => ?_, fun b u q => ?_, I.len⟩
  · rw [upd_ne (fun z => by rw [z, h0] at q; cases q)]
    exact I.base.free b u q n hx
  · have z := I.base.tups b xs q
    rw [upd_ne (ne_of_none z hn)]; exact z
  · have z := I.base.frzs b u v q
    rw [upd_ne (ne_of_none z hn)]; exact z
  · obtain ⟨more, z⟩ := I.base.tbls b ps q
    exact ⟨more, by rw [upd_ne (ne_of_none z hn)]; exact z⟩
  · rw [upd_ne (Ne.symm hL)]; exact I.free
  · rw [upd_ne (hC x c q)]; exact I.freeC x c q
  · obtain ⟨a, b, c, d, f⟩ := I.pin p q
    exact ⟨a, by rw [upd_ne (hp p q)]; exact b, c, d, f⟩
  · by_cases hb : b = e
    · subst hb
      rw [upd_same] at q; cases q
      exact new
    · rw [upd_ne hb] at q
      exact (I.hok b u q).stay (fun _ _ _ z => z) (fun c z => by rw [upd_ne (ne_of_none z hn)]; exact z) fun c xs z => by rw [upd_ne (ne_of_none z hn)]; exact z
theorem Inv.forgetLoc {h' : Heap} {m' : Str → Option Value} {t' : Nat} (I : Inv X pins σ H s) (hn : h'.Ns X.env.locals m') (hs : Heap.SameBut X.env.locals s.heap h') : Inv X pins (List.replicate X.N.length none) H { s with heap := h', toks := t' } := by
  have neL : ∀ b o, X.s₀.heap.get? b = some o → b ≠ X.env.locals := fun b o q => Nat.ne_of_lt (Nat.lt_of_lt_of_le (Heap.lt_size q) I.ok.above)
  refine ⟨I.ok, I.os, I.bare, ⟨fun b o q n hb hx => (hs.2 b (neL b o q)).trans (I.base.keep b o q n hb hx), fun b o q n hb hx => ?_, I.base.free, fun b o q hx => ?_, I.base.tups, I.base.frzs, I.base.tbls⟩, ⟨m', hn, fun i x v e1 e2 e3 => ?_⟩, fun x c q => ?_, I.free, I.freeC, fun p hp => ?_, fun a o q => ?_, by rw [List.length_replicate]⟩
  · obtain ⟨sl, e1⟩ := I.base.slot b o q n hb hx
    exact ⟨sl, (hs.2 b (neL b o q)).trans e1⟩
  · obtain ⟨o', e1⟩ := I.base.there b o q hx
    exact ⟨o', (hs.2 b (neL b o q)).trans e1⟩
  · rw [List.getElem?_replicate] at e2
    split at e2 <;> cases e2
  · obtain ⟨v, o, ho, hd⟩ := I.cell x c q
    exact ⟨v, o, (hs.2 c (I.cne x c q)).trans ho, hd⟩
  · obtain ⟨a, b, c, d, f⟩ := I.pin p hp
    exact ⟨(hs.2 p.1 c).trans a, b, c, d, f⟩
  · refine (I.hok a o q).stay (fun b u hb r => (hs.2 b ?_).trans r) (fun _ z => z) fun _ _ z => z
    intro z
    have t : H b ≠ none := by
      rcases hb with rfl | hb
      · rw [q]; exact fun z => nomatch z
      · rw [hb]; exact fun z => nomatch z
    exact t (by rw [z]; exact I.free)
end
def tTry (K : PySem.W.Frag) (Cx : Addr) (i j : Nat) (ta : TA) (sp : Sp) (th : TS) : TS := fun D σ H => ta σ H fun vs H1 => sp vs H1 (fun v H2 => D.nx (σ.set i (some v)) H2) fun C _ H2 =>
  ∃ c, C = .ref c ∧ PySem.W.exmOne K (.ref c) (.ref Cx) = some true ∧ ∀ e, H2 e = none → th { nx := fun _ _ => False, rt := D.rt } (σ.set j (some (.ref e))) (upd H2 e (ExcO e (.ref c)))
end L2
namespace L2
open PySem PySem.Spec PyProof.Rows
/-! ### the facts of classes, as they stand behind the top -/
section
variable {K : PySem.W.Frag} {h : Heap} {mg : Str → Option Value} {x y : Str} {C D : Addr} {v : Bool} {n : String}
theorem nsHave (X : K.In h) (a : PySem.W.nsIn K mainGlobals x = some (some (.ref C))) : PySem.W.nsIn K mainGlobals x = some (some (.ref C)) := a
theorem m_mk (X : K.In h) (G : h.Ns mainGlobals mg) (a : PySem.W.nsIn K mainGlobals x = some (some (.ref C))) : mg x = some (.ref (cA K x)) := by
  rw [cA_of a]; exact PySem.W.mg_of X G a
theorem x1_mk (a : PySem.W.nsIn K mainGlobals x = some (some (.ref C))) (q1 : PySem.W.findIn K (.ref C) "__getattribute__" = some (some (.builtin "BaseException.__getattribute__"))) (q2 : PySem.W.findIn K (.ref C) "__getattr__" = some none)
    (q3 : PySem.W.findIn K (.ref C) "__class__" = some (some (.builtin "object.__class__"))) (q4 : PySem.W.specialIn K (.builtin "object.__class__") "__get__" = some (some (.builtin "getset_descriptor.__get__")))
    (q5 : PySem.W.takesIn K (.builtin "object.__class__") = some true) (q6 : PySem.W.mroIn K C (.type "object") = some true) (q7 : PySem.W.subIn K (.ref C) (.type "BaseException") = some true) : XK1 K (cA K x) := by
  rw [cA_of a]; exact ⟨q1, q2, q3, q4, q5, q6, q7⟩
theorem kit_mk (a : PySem.W.nsIn K mainGlobals x = some (some (.ref C))) (b : PySem.W.nsIn K mainGlobals y = some (some (.ref D))) (q : PySem.W.kitOne K (.ref C) (.ref D) = some v) : PySem.W.kitOne K (.ref (cA K x)) (.ref (cA K y)) = some v := by
  rw [cA_of a, cA_of b]; exact q
theorem kitB_mk (a : PySem.W.nsIn K mainGlobals x = some (some (.ref C))) (q : PySem.W.kitOne K (.ref C) (.type n) = some v) : PySem.W.kitOne K (.ref (cA K x)) (.type n) = some v := by
  rw [cA_of a]; exact q
inductive NL (K : PySem.W.Frag) : List Str → List Addr → Prop
  | nil : NL K [] []
  | cons {x : Str} {C : Addr} {xs : List Str} {Cs : List Addr} (a : PySem.W.nsIn K mainGlobals x = some (some (.ref C))) (l : NL K xs Cs) : NL K (x :: xs) (C :: Cs)
theorem NL.eq {xs : List Str} {Cs : List Addr} (l : NL K xs Cs) : xs.map (cA K) = Cs := by
  induction l with
  | nil => rfl
  | cons a _ ih => rw [List.map_cons, cA_of a, ih]
theorem any_mk {xs : List Str} {Cs : List Addr} (a : PySem.W.nsIn K mainGlobals x = some (some (.ref C))) (l : NL K xs Cs) (q : PySem.W.kitAny K (.ref C) (Cs.map Value.ref) = some v) :
    PySem.W.kitAny K (.ref (cA K x)) ((xs.map (cA K)).map Value.ref) = some v := by
  rw [cA_of a, l.eq]; exact q
theorem exm_mk (a : PySem.W.nsIn K mainGlobals x = some (some (.ref C))) (b : PySem.W.nsIn K mainGlobals y = some (some (.ref D))) (q1 : PySem.W.subIn K (.ref D) (.type "BaseException") = some true)
    (q2 : PySem.W.isClsIn K D = true) (q3 : PySem.W.typeIn K (.ref D) = some (.type "type")) (q4 : PySem.W.subIn K (.ref C) (.ref D) = some true) : PySem.W.exmOne K (.ref (cA K x)) (.ref (cA K y)) = some true := by
  rw [cA_of a, cA_of b]
  unfold PySem.W.exmOne PySem.W.kitCls
  unfold PySem.W.isClsIn at q2
  rw [q1, if_pos (by decide)]
  dsimp only
  rw [q2, q3, if_pos (by decide)]
  exact q4
end
end L2
namespace L2
open PySem PySem.Spec PyProof.Rows
/-! ### a def that is called within an except suite (it raises nothing) -/
structure RoomH (k : Nat) (A : Around) : Prop where
  dp : A.depth + 3 * k + 5 < recursionLimit
  un : A.units + 16 * k + 200 < cLine
theorem RoomH.of {k : Nat} {A : Around} {v : Option Value} (r : Room k A) : RoomH k (A.mark v) := ⟨r.dp, r.un⟩
theorem RoomH.mono {j k : Nat} {A : Around} (r : RoomH k A) (h : j ≤ k) : RoomH j A := ⟨by have := r.dp; omega, by have := r.un; omega⟩
theorem RoomH.deeper {k : Nat} {A : Around} (r : RoomH (k + 1) A) (env : Env) : RoomH k (A.deeper env) :=
  ⟨by have := r.dp; show A.depth + 1 + 3 * k + 5 < _; omega, by have := r.un; show A.units + 3 + 16 * k + 200 < _; omega⟩
abbrev cxH (P : Program) (w : World) (K : PySem.W.Frag) (mg : Str → Option Value) (base : Heap) (N : List Str) (qual : Str) (scope : Scope) (f : Addr) (cd : Value) (A : Around) (outer : List Env) (s : Shared) (H : Hp) : Cx :=
  { cxOf CX0 P w K mg base N qual scope f cd A outer s H E0 with calm := false, xe := fun _ _ => False }
structure FnOkH (P : Program) (w : World) (K : PySem.W.Frag) (mg : Str → Option Value) (base : Heap) (k : Nat) (f : Addr) (fd : FuncData) (ps : List Str) (sp : Sp) : Prop where
  len : ∀ vs H Q E, sp vs H Q E → vs.length = ps.length
  run : ∀ (A : Around) (outer : List Env) (s : Shared) (H : Hp) (args : Args) (us : List Value) (vs : List V) (Q : VK), RoomH k A → Env0 P w K mg base A outer s H → BindsTo s fd args (ps.zip us) → Vals vs us → sp vs H Q E0 →
    codeAny (model P w) A (.call (.ref f) args) (CR CX0 outer P w H s Q E0) s
structure DefH (P : Program) (w : World) (K : PySem.W.Frag) (mg : Str → Option Value) (base : Heap) (k : Nat) (x : Str) (ps : List Str) (sp : Sp) : Prop where
  ex : ∃ (f : Addr) (fd : FuncData), FnOkH P w K mg base k f fd ps sp ∧ mg x = some (.ref f) ∧ PySem.W.keepIn K (.ref f) = true ∧ (∀ us : List Value, us.length = ps.length → bindArgs fd ⟨us, []⟩ = pure (ps.zip us))
section
variable {P : Program} {w : World} {K : PySem.W.Frag} {mg : Str → Option Value} {base : Heap} {x : Str} {st : Stmt} {N ps : List Str} {k : Nat} {sp : Sp}
theorem Src.okH (S : Src K mg x st ps) (sc : FnScope N ps (defScope st)) (len : ∀ vs H Q E, sp vs H Q E → vs.length = ps.length)
    (hbody : ∀ (f : Addr) (cdv : Value) (A : Around) (outer : List Env) (s : Shared) (H : Hp) (vs : List V) (Q : VK) (E : XK), RoomH k (A.deeper (envOfC x (defScope st) s.heap.objs.size f cdv)) → sp vs H Q E →
      ∃ t, PSs (cxH P w K mg base N x (defScope st) f cdv A outer s H) (defBody st) t ∧ t { nx := fun _ H' => Q .non H', rt := Q } (start N vs) H) : DefH P w K mg base (k + 1) x ps sp := by
  obtain ⟨f, fd, F, hm, hb⟩ := S.ex
  have kp := F.kp
  obtain ⟨oc, od, kV, doc, pm, an, cdv, ct, osl, rfl, lk, hcd⟩ := F.ex
  refine ⟨f, _, ⟨len, fun A outer s H args us vs Q hr e0 hbd r hsp => ?_⟩, hm, kp, hb⟩
  have hl := len _ _ _ _ hsp
  have KX : K.In s.heap := e0.mod.kin.keeps fun b o e => (e0.bs b o e).1
  have lim : s.heap.NoLimit := e0.mod.nolimit.keeps fun b o e => (e0.bs b o e).1
  have hkind : ∀ y ∈ ps.zip us, (defScope st).names.lookup y.1 = some .local ∨ ((defScope st).names.lookup y.1 = some .cell ∧ ((cellsFrom (s.heap.objs.size + 1) (defScope st).names []).lookup y.1).isSome = true) := fun ⟨n, v⟩ hy => by
    rcases sc.par n (List.of_mem_zip hy).1 with q | q
    · exact .inl q
    · exact .inr ⟨q, PySem.W.cellsFrom_some _ _ _ (.inl q)⟩
  refine codeAny_call_function (by have := hr.dp; omega) (KX _ _ lk) rfl sc.co sc.gen rfl (PySem.W.codeRec_of KX hcd) (hbd _ _ _ _ ?_)
  refine wpAny_newFunctionEnv_cells sc.kind hkind fun env he s1 z => ?_
  subst he
  refine ⟨lim.keeps z.toInCall.keep, codeAny_func ?_⟩
  obtain ⟨t, ht, hq⟩ := hbody f cdv A outer s H vs Q E0 (hr.deeper _) hsp
  have e1 : Env0 P w K mg base { A with handled := none } outer s H := ⟨e0.frames, e0.mod, e0.bs, e0.bsz, e0.funs, e0.frf, e0.hok, e0.bare⟩
  have J : Inv (cxOf CX0 P w K mg base N x (defScope st) f cdv { A with handled := none } outer s H E0) [] (start N vs) H s1 := inv_start sc rfl e1 hl r z
  have I : Inv (cxH P w K mg base N x (defScope st) f cdv A outer s H) [] (start N vs) H s1 :=
    ⟨⟨J.ok.mod, J.ok.kind, J.ok.glob, J.ok.blt, J.ok.above, J.ok.inj, J.ok.has, J.ok.cab, fun z => (Bool.false_ne_true z).elim, Around.frames_deeper e0.frames, J.ok.stk, J.ok.exf, J.ok.bs, J.ok.bsz, J.ok.noex, J.ok.exfs, J.ok.funs, J.ok.frf⟩,
      J.os, J.bare, J.base, J.loc, J.cell, J.free, J.freeC, J.pin, J.hok, J.len⟩
  refine wpAny_mono (ht [] s1 (start N vs) H _ I hq) (fun fl s' hs => ?_) fun e s' hs => False.elim hs
  cases fl with
  | ret u =>
    obtain ⟨v, σ', H', J, rv, q⟩ := hs
    exact ⟨v, H', J.os, J.bare, J.base, J.hok, rv, q⟩
  | next =>
    obtain ⟨σ', H', J, q⟩ := hs
    exact ⟨.non, H', J.os, J.bare, J.base, J.hok, rfl, q⟩
  | brk =>
    obtain ⟨_, _, _, q⟩ := hs
    exact False.elim q
  | cont =>
    obtain ⟨_, _, _, q⟩ := hs
    exact False.elim q
end
section
variable {X : Cx} {x : Str} {p pos : Pos} {e : Expr} {es : List Expr} {t : TA} {j k : Nat} {ps : List Str} {sp : Sp}
theorem pe_fnH (D : DefH X.prog X.w X.K X.mg X.base j x ps sp) (hr : RoomH k X.A) (ha : PA X (e :: es) t) (hg : Gl X x := by rfl) (hj : j ≤ k := by decide) (hdb : (x == ("__debug__" : Str)) = false := by decide)
    (he : starEach (e :: es) X.env = (false, eval e X.env) :: starEach es X.env := by rfl) (hpl : (backTo pos (starEach es X.env)).any (·.1) = false := by rfl) :
    PE X (.Call (.Name x p) (e :: es) [] pos) (tCall sp [] E0 t) := by
  obtain ⟨f, fd, F, hm, hk, hb⟩ := D.ex
  intro pins s σ H Q I h
  refine wpAny_Call_Name_kw (ld_glob I hg hm (PySem.W.callWith_K (h₀ := X.base) I.ok.mod.kin hk (thn (ha pos pins s σ H _ I h) fun us s1 hq => ?_) he hpl) hdb)
  obtain ⟨vs, H1, I1, r, q⟩ := hq
  rw [List.append_nil] at q
  refine ⟨I1.kIn, ?_⟩
  have hl : us.length = ps.length := by rw [← r.length]; exact F.len _ _ _ _ q
  have bd := (Binds.all (K := X.K) hb) s1 us I1.kIn (by rw [List.append_nil]; exact hl)
  rw [List.append_nil] at bd
  refine wpAny_call (codeAny_mono (F.run X.A X.stack s1 H1 ⟨us, []⟩ us vs _ (hr.mono hj) I1.env0 bd r q) fun rs s2 hq => ?_)
  cases rs with
  | error e => exact False.elim hq
  | ok fl =>
    cases fl with
    | ret u => exact I1.after hq
    | next => exact False.elim hq
    | brk => exact False.elim hq
    | cont => exact False.elim hq
end
/-! ### lists by what is true of each item -/
theorem at_mem {xs : List V} {k : Int} (h0 : 0 ≤ k) (h : k < (xs.length : Int)) : ∃ v, atI xs k = some v ∧ v ∈ xs := by
  have hk : k.toNat < xs.length := by omega
  have q : atI xs ((k.toNat : Nat) : Int) = some xs[k.toNat] := atI_nat (List.getElem?_eq_getElem hk)
  rw [show ((k.toNat : Nat) : Int) = k by omega] at q
  exact ⟨_, q, List.getElem_mem hk⟩
theorem mem1 {v : V} {xs : List V} {p : V → Prop} (h : p v) (t : ∀ x ∈ xs, p x) : ∀ x ∈ v :: xs, p x := fun x hx => by
  rcases List.mem_cons.mp hx with rfl | hx
  · exact h
  · exact t x hx
theorem mem0 {p : V → Prop} : ∀ x ∈ ([] : List V), p x := fun x hx => by cases hx
theorem IsKind.same {K : PySem.W.Frag} {H H' : Hp} {x : V} {T : String} (h : IsKind K H x T) (s : Same H H') : IsKind K H' x T := by
  refine ⟨?_, h.2⟩
  have q := h.1
  generalize e : Value.type T = t at q ⊢
  cases q with
  | non => exact .non
  | bl b => exact .bl b
  | int i => exact .int i
  | str y => exact .str y
  | flt y => exact .flt y
  | lst ea => exact .lst (s _ _ ea)
  | frz ea => exact .frz (s _ _ ea)
  | tup ea => exact .tup (s _ _ ea)
  | dK ea => exact .dK (s _ _ ea)
  | ins => cases e
theorem IsKind.upd {K : PySem.W.Frag} {H : Hp} {x : V} {T : String} {l : Addr} {xs ys : List V} (h : IsKind K H x T) (hl : H l = some (.lst xs)) : IsKind K (upd H l (.lst ys)) x T := by
  refine ⟨?_, h.2⟩
  have q := h.1
  generalize e : Value.type T = t at q ⊢
  cases q with
  | non => exact .non
  | bl b => exact .bl b
  | int i => exact .int i
  | str y => exact .str y
  | flt y => exact .flt y
  | @lst a zs ea =>
    by_cases z : a = l
    · subst z; exact .lst upd_same
    · exact .lst (by rw [upd_ne z]; exact ea)
  | @frz a o zs ea => exact .frz (by rw [upd_ne (ne_of ea hl (by intro z; cases z))]; exact ea)
  | @tup a zs ea => exact .tup (by rw [upd_ne (ne_of ea hl (by intro z; cases z))]; exact ea)
  | @dK a zs ea => exact .dK (by rw [upd_ne (ne_of ea hl (by intro z; cases z))]; exact ea)
  | ins => cases e
theorem same_gone {H H' : Hp} {a : Addr} (s : Same H H') (h : H' a = none) : H a = none := by
  cases q : H a with
  | none => rfl
  | some o => rw [s a o q] at h; cases h
/-- a list that is newer than H is changed -/
theorem same_put {H H' : Hp} {l : Addr} {o : HO} (s : Same H H') (h : H l = none) : Same H (upd H' l o) := fun b u q => by
  rw [upd_ne (ne_of_none q h)]; exact s b u q
end L2
namespace L2
open PySem PySem.Spec PyProof.Rows
/-! ### an own class of exceptions with an __init__ of its own, right under one without -/
structure XK3 (K : PySem.W.Frag) (C f : Addr) : Prop where
  ob : ∃ D nm q N bs sn sub ab col dd k0 k1 k2 k3 k5, K.lookup C = some (excClassObj nm q C N bs (.ref D :: bmV) true sn sub ab col dd k0 k1 k2 k3 k5 "ValueError.__new__") ∧ PySem.W.excIn K D bmV "ValueError.__new__" = true
  init : PySem.W.findIn K (.ref C) "__init__" = some (some (.ref f))
  fn : PySem.W.typeIn K (.ref f) = some (.type "function")
  sa : PySem.W.findIn K (.ref C) "__setattr__" = some (some (.builtin "object.__setattr__"))
  kp : PySem.W.keepIn K (.ref C) = true
  z : XK1 K C
section
variable {prog : Program} {w : World} {A : Around} {E : Value → Shared → Prop} {s : Shared} {K : PySem.W.Frag} {e C f : Addr} {oe : Obj}
theorem xmake_init {Q : Value → Shared → Prop} {rest : List Value} (X : K.In s.heap) (Z : XK3 K C f)
    (hq : ∀ h' e, Heap.MadeExcOf s.heap h' e (.ref C) rest → wpAny (model prog w) (A.under (.builtin "type.__call__" ⟨.ref C :: rest, []⟩)) (call (.ref f) (.ref e :: rest)) (fun r s' => r = .none ∧ Q (.ref e) s') E { s with heap := h' })
    (hrest : rest.length ≤ sizeLine) : wpAny (model prog w) A (call (.ref C) rest) Q E s := by
  obtain ⟨h, g, d, t, os⟩ := s
  obtain ⟨D, nm, q, N, bs, sn, sub, ab, col, dd, k0, k1, k2, k3, k5, lk, qD⟩ := Z.ob
  have hC := X _ _ lk
  obtain ⟨bm', N', nm', qn', bs', hd', sn', sub', ab', col', dd', j0, j1, j2, j3, j5, mN', hD, hN', hni', T'⟩ := exc_obj X qD
  have T : OwnTail h bmV (.ref D :: bmV) := .own hD hN' hni' .base
  have F := PySem.F.excBase_ValueError
  have f1 := tc_lookup
  have f2 := tc_bind (.ref C)
  have hT : (⟨h, g, d, t, os⟩ : Shared).TypeIs (.ref C) "type" := ⟨_, hC, rfl⟩
  refine wpAny_call (codeAny_of_tree ?_)
  show wpAny _ _ (callAny (.ref C) _) _ _ _
  repeat (any_goals (first | assumption | with_reducible refine wpAny_loadPart_at hC ?_ | wp_step))
  refine ⟨rfl, codeAny_call_builtin_at (Code.quiet_builtin _ (by decide +kernel)) entry_typeCall (wpAny_check_type_call_sub hC ?_)⟩
  repeat (first | with_reducible refine wpAny_loadPart_at hC ?_ | with_reducible refine wpAny_madeBy_exc hC ?_ | wp_step)
  refine codeAny_call_builtin_code (Code.quiet_builtin _ F.quiet) (wpAny_check_new_subT F T hC (codeAny_exc_new_subT F T hC ?_ hrest))
  show wpAny _ _ _ _ _ _
  have kp : ∀ b o, h.get? b = some o → ((h.push { cls := .type "tuple", data := .seq rest.toArray }).push { cls := .ref C, data := .fields #[.ref h.objs.size, .none, .none, .none, .bool false, .none] }).get? b = some o := fun b o e => Heap.get?_push_of_some _ (Heap.get?_push_of_some _ e)
  have hC₁ := kp _ _ hC
  have X₁ := X.keeps kp
  have hget : ((h.push { cls := .type "tuple", data := .seq rest.toArray }).push { cls := .ref C, data := .fields #[.ref h.objs.size, .none, .none, .none, .bool false, .none] }).get? (h.objs.size + 1) = some { cls := .ref C, data := .fields #[.ref h.objs.size, .none, .none, .none, .bool false, .none] } := by heap_get
  have hcC : (Value.ref C :: (.ref D :: bmV)).contains (.ref C) = true := by simp
  have L1 := PySem.W.looks_findIn (M := model prog w) X₁ Z.init
  have L2 := PySem.W.looks_typeIn (M := model prog w) X₁ Z.fn
  unfold isInstance
  repeat (first | with_reducible refine wpAny_loadPart_at hget ?_ | (refine wpAny_isSubtype_exc hC₁ ?_; rw [hcC]) | wp_step)
  show wpAny _ _ (typeLookup (.ref C) _) _ _ _
  refine L1.at (wpAny_holding (wpAny_bind ?_))
  unfold bindSpecial
  refine wpAny_bind (L2.at ?_)
  rw [if_pos (by decide)]
  refine wpAny_pure (wpAny_bind (wpAny_mono (hq _ (h.objs.size + 1) ⟨kp, Heap.get?_none_of_le (Nat.le_succ _), h.objs.size, hget, Heap.get?_none_of_le (Nat.le_refl _), Heap.get?_push_of_some _ (Heap.get?_push_at rfl rfl)⟩) (fun r s' hr => ?_) fun _ _ x => x))
  obtain ⟨rfl, hQ⟩ := hr
  wp_walk
  exact hQ
end
section
open PySem.Builtin PySem.Builtin.ObjectAttr
variable {prog : Program} {w : World} {A : Around} {E : Value → Shared → Prop} {s : Shared} {K : PySem.W.Frag} {e C f dx : Addr} {oe : Obj} {vs : Array Value} {mA : Str → Option Value} {name : Str} {v : Value}
theorem xfindD {M : Model} {h : Heap} (X : K.In h) (Z : XK3 K C f) (np : PySem.W.findIn K (.ref C) name = some none) (hx : h.get? e = some oe) (hc : oe.cls = .ref C) (hdt : oe.data = .fields vs) (hd : oe.dict = some dx)
    (hn : h.Ns1 dx mA) (hv : mA name = some v) : PySem.W.Looks M h (find (.ref e) (.ref C) name) (.value v) := by
  intro A Q E s k q
  have X' := X.keeps k
  obtain ⟨D, nm, qn, N, bs, sn, sub, ab, col, dd, k0, k1, k2, k3, k5, lk, qD⟩ := Z.ob
  have hC := X' _ _ lk
  obtain ⟨hh, g, d, t, os⟩ := s
  obtain ⟨oc, od, odt, osl⟩ := oe
  dsimp only at hc hdt hd
  subst hc hdt hd
  have hx' := k _ _ hx
  have hn' : hh.Ns dx mA := hn.ns.keeps k
  have L1 := PySem.W.looks_findIn (M := M) X' np
  unfold find
  refine wpAny_bind (L1.at (wpAny_bind (wpAny_pure (wpAny_bind (wpAny_pure ?_)))))
  show wpAny _ _ (ownThenClass _ _ _ _) _ _ _
  unfold ownThenClass inOwnDict ownDict
  repeat (first | (with_reducible refine wpAny_nsGet hn' ?_; rw [hv]) | with_reducible refine wpAny_loadPart_at hx' ?_ | with_reducible refine wpAny_loadPart_at hC ?_ | wp_step)
  exact q
/-- e.name, e an exception of an own class, the name in its dict -/
theorem xget {b : Bool} {Q : Value → Shared → Prop} (X : K.In s.heap) (Z : XK3 K C f) (np : PySem.W.findIn K (.ref C) name = some none) (hx : s.heap.get? e = some oe) (hc : oe.cls = .ref C) (hdt : oe.data = .fields vs) (hd : oe.dict = some dx)
    (hn : s.heap.Ns1 dx mA) (hv : mA name = some v) (ho : handedOut v = pure v) (h : Q v { s with toks := s.toks + 1 }) : wpAny (model prog w) A (getAttr (.ref e) name b) Q E s := by
  obtain ⟨D, nm, q, N, bs, sn, sub, ab, col, dd, k0, k1, k2, k3, k5, lk, qD⟩ := Z.ob
  have hC := X _ _ lk
  obtain ⟨hh, g, d, t, os⟩ := s
  have L0 := xtype (M := model prog w) hx hc
  have L1 := PySem.W.looks_findIn (M := model prog w) X Z.z.ga
  have L2 := PySem.W.looks_findIn (M := model prog w) X Z.z.gh
  have L3 := xfindD (M := model prog w) X Z np hx hc hdt hd hn hv
  have L4 := PySem.W.looks_subIn (M := model prog w) X Z.z.be
  have hk : builtinKind "BaseException.__getattribute__" = some .slot := by decide +kernel
  have hsplit : splitId "BaseException.__getattribute__" = some ("BaseException", "__getattribute__") := by decide +kernel
  unfold getAttr getAttrBy
  refine wpAny_bind (wpAny_mkText (wpAny_holding (wpAny_bind (L0.at (wpAny_bind (L1.at ?_))))))
  have hne : (Value.builtin "BaseException.__getattribute__" == Value.builtin "object.__getattribute__") = false := by decide +kernel
  dsimp only
  rw [if_neg (by rw [hne, Bool.and_false]; exact Bool.false_ne_true)]
  unfold getAttrByItsOwn hookBefore
  rw [if_pos (show onTheHeap (Value.ref C) = true from rfl)]
  refine wpAny_bind (L2.at ?_)
  refine wpAny_bind (wpAny_attempt (wpAny_holding ?_))
  unfold callGetattribute boundAndCalled
  rw [if_neg (show ¬ (b && onTheHeap (Value.builtin "BaseException.__getattribute__")) = true from by rw [show onTheHeap (Value.builtin "BaseException.__getattribute__") = false from rfl, Bool.and_false]; exact Bool.false_ne_true)]
  refine wpAny_bind (wpAny_of_eq (PySem.F.attr_ValueError.ga.bind (.ref e)) ?_)
  refine wpAny_call (codeAny_call_builtin PySem.F.attr_ValueError.ga.plain PySem.F.entry_bexc_ga ?_)
  have ha := F.args_bexc_ga (.ref e) (.str name t)
  simp only [checkBuiltinCall, hk, hsplit]
  unfold isInstance
  repeat (any_goals (first | with_reducible refine PySem.W.Looks.at (by assumption) ?_ | wp_step))
  exact h
end
section
open PySem.Builtin PySem.Builtin.ObjectAttr
variable {prog : Program} {w : World} {A : Around} {E : Value → Shared → Prop} {s : Shared} {K : PySem.W.Frag} {x C f dx : Addr} {o : Obj} {vs : Array Value} {mA : Str → Option Value} {name : Str} {v : Value}
set_option maxHeartbeats 2000000 in
theorem xset_entry {tk : Tok} {Q : Fin → Shared → Prop} (X : K.In s.heap) (Z : XK3 K C f) (np : PySem.W.findIn K (.ref C) name = some none) (hx : s.heap.get? x = some o) (hc : o.cls = .ref C) (hdt : o.data = .fields vs) (hdn : o.dict = none)
    (hq : ∀ h' tk', h'.get? x = some { o with dict := some s.heap.objs.size } → h'.Ns1 s.heap.objs.size (fun y => if y = name then some v else none) → (∀ b ob, b ≠ x → s.heap.get? b = some ob → h'.get? b = some ob) →
      Q (.done (.ret .none)) { s with heap := h', toks := tk' }) :
    wpAny (model prog w) A (Builtin.«object.__setattr__» ⟨[.ref x, .str name tk, v], []⟩) Q E s := by
  obtain ⟨D, nm, qn, N, bs, sn, sub, ab, col, dd, k0, k1, k2, k3, k5, lk, qD⟩ := Z.ob
  have hC := X _ _ lk
  obtain ⟨h, g, d, t, os⟩ := s
  obtain ⟨oc, od, odt, osl⟩ := o
  dsimp only at hc hdt hdn
  subst hc hdt hdn
  have L1 := PySem.W.looks_findIn (M := model prog w) X np
  have hpass := PySem.F.store_ValueError.passes (.ref x)
  have hpass' : refuseLoop (.ref x) "__setattr__" bmV = pure () := hpass
  have hx₀ : h.get? x = some { cls := .ref C, data := .fields vs, slots := osl } := hx
  have hx₁ : (h.push { cls := .type "dict", data := .dict #[] }).get? x = some { cls := .ref C, data := .fields vs, slots := osl } := Heap.get?_push_of_some _ hx₀
  have hxs : x ≠ h.objs.size := Nat.ne_of_lt (Heap.lt_size hx₀)
  have hgd : ((h.push { cls := .type "dict", data := .dict #[] }).update x fun o => { cls := o.cls, dict := some h.objs.size, data := o.data, slots := o.slots }).get? h.objs.size = some { cls := .type "dict", data := .dict #[] } :=
    (Heap.get?_update_ne _ _ _ _ hxs.symm).trans (Heap.get?_push_at rfl rfl)
  have hnd : ((h.push { cls := .type "dict", data := .dict #[] }).update x fun o => { cls := o.cls, dict := some h.objs.size, data := o.data, slots := o.slots }).Ns h.objs.size (fun _ => none) :=
    ⟨_, #[], _, hgd, rfl, fun e he => absurd he (by simp), fun _ => rfl⟩
  unfold Builtin.«object.__setattr__»
  repeat (first | rw [refuse_eq] | (rw [refuseLoop_ref, refuseLoop_ref, hpass']) | with_reducible refine wpAny_loadPart_at hx ?_ | with_reducible refine wpAny_mroOf_exc hC ?_ | with_reducible refine PySem.W.Looks.at L1 ?_ | (with_reducible refine wpAny_nsSet1 (Heap.Ns1.of_empty hnd) fun h' hn' hs => ?_; obtain ⟨oD, esD, epD, hoD, hdD, hcD⟩ := hn'.count (Within.cons name v Within.nil)) | wp_step)
  rw [show oD.data.pastItsLine = none from by rw [hdD]; exact pastItsLine_dict (Nat.le_trans hcD (by rw [List.length_cons, List.length_nil, sizeLine_eq]; omega))]
  wp_walk
  refine hq h' _ ((hs.2 x hxs).trans (Heap.get?_update_self _ hx₁ rfl)) hn' fun b ob hbx hb => ?_
  exact (hs.2 b (Nat.ne_of_lt (Heap.lt_size hb))).trans ((Heap.get?_update_ne _ _ _ _ hbx).trans (Heap.get?_push_of_some _ hb))
theorem xset {Q : Unit → Shared → Prop} (X : K.In s.heap) (Z : XK3 K C f) (np : PySem.W.findIn K (.ref C) name = some none) (hx : s.heap.get? x = some o) (hc : o.cls = .ref C) (hdt : o.data = .fields vs) (hdn : o.dict = none)
    (hq : ∀ h' tk', h'.get? x = some { o with dict := some s.heap.objs.size } → h'.Ns1 s.heap.objs.size (fun y => if y = name then some v else none) → (∀ b ob, b ≠ x → s.heap.get? b = some ob → h'.get? b = some ob) →
      Q () { s with heap := h', toks := tk' }) :
    wpAny (model prog w) A (setAttr (.ref x) name v) Q E s := by
  have I : PySem.W.InstAt s.heap x o C none := ⟨hx, hc, by unfold PySem.W.notCls; rw [hdt], by rw [hdn]; exact True.intro⟩
  have sub : PySem.W.Looks (model prog w) s.heap (isInstance (.ref x) (.type "object")) true := I.type.andThen (PySem.W.looks_mroIn X Z.z.ob)
  refine PySem.W.set_plain X I Z.sa ?_
  have SF := PySem.F.store_object
  refine codeAny_call_builtin SF.slot.plain SF.entry (@PySem.W.check_slot (model prog w) _ _ _ "object.__setattr__" "object" "__setattr__" (.ref x) [.str name s.toks, v] [] _ SF.kind SF.split sub (SF.args (.ref x) (.str name s.toks) v) ?_)
  exact xset_entry (s := { s with toks := s.toks + 1 }) X Z np hx hc hdt hdn hq
end
/-! ### exceptions as things that are made and read -/
def ExcN (e : Addr) (C : Value) : HO := .ext fun h => ∃ o vs, h.get? e = some o ∧ o.cls = C ∧ o.data = .fields vs ∧ o.dict = none ∧ (∃ a0, vs[0]? = some a0) ∧ vs[1]? = some .none
def ExcD (e : Addr) (C : Value) (d : Addr) : HO := .ext fun h => ∃ o vs, h.get? e = some o ∧ o.cls = C ∧ o.data = .fields vs ∧ o.dict = some d ∧ (∃ a0, vs[0]? = some a0) ∧ vs[1]? = some .none
/-- an exception of the class C, with or without a dict -/
def IsX (H : Hp) (e : Addr) (C : Value) : Prop := ∃ φ, H e = some (.ext φ) ∧ ∀ h, φ h → ∃ o vs, h.get? e = some o ∧ o.cls = C ∧ o.data = .fields vs
theorem IsX.o {H : Hp} {e : Addr} {C : Value} (h : H e = some (ExcO e C)) : IsX H e C := ⟨_, h, fun _ q => q⟩
theorem IsX.d {H : Hp} {e d : Addr} {C : Value} (h : H e = some (ExcD e C d)) : IsX H e C := ⟨_, h, fun _ ⟨o, vs, a, b, c, _⟩ => ⟨o, vs, a, b, c⟩⟩
theorem IsX.same {H H' : Hp} {e : Addr} {C : Value} (x : IsX H e C) (s : Same H H') : IsX H' e C := let ⟨φ, a, b⟩ := x; ⟨φ, s _ _ a, b⟩
section
variable {X : Cx} {pins : List (Addr × Obj)} {σ : St} {H : Hp} {s : Shared} {e : Addr}
theorem Inv.freshX (I : Inv X pins σ H s) (hn : s.heap.get? e = none) (hex : X.ex = []) : X.s₀.heap.get? e = none ∧ e ≠ X.env.locals ∧ (∀ x c, X.env.cells.lookup x = some c → c ≠ e) ∧ ∀ p ∈ X.pn ++ pins, p.1 ≠ e := by
  refine ⟨?_, fun z => ?_, fun x c q z => ?_, fun p hp z => ?_⟩
  · cases q : X.s₀.heap.get? e with
    | none => rfl
    | some o =>
      obtain ⟨o', e1⟩ := I.base.there e o q (by rw [hex]; simp)
      rw [hn] at e1; cases e1
  · obtain ⟨m, ⟨o, es, ep, ho, _⟩, _⟩ := I.loc
    rw [← z, hn] at ho; cases ho
  · obtain ⟨v, o, ho, hd⟩ := I.cell x c q
    rw [z, hn] at ho; cases ho
  · have := (I.pin p hp).1
    rw [z, hn] at this; cases this
theorem Inv.trackNew {o : HO} {h' : Heap} {t' : Nat} (I : Inv X pins σ H s) (k : ∀ b u, s.heap.get? b = some u → h'.get? b = some u) (hn : s.heap.get? e = none) (hex : X.ex = []) (new : ObjOk X.prog X.w (upd H e o) h' e o) :
    Inv X pins σ (upd H e o) { s with heap := h', toks := t' } :=
  let ⟨a, b, c, d⟩ := I.freshX hn hex
  (I.kept (t' := t') k).track (I.hok.gone hn) a b c d new
end
section
variable {X : Cx} {x : Str} {np pos : Pos} {e0 : Expr} {rest : List Expr} {t : TA}
/-- C(..), C an own class of exceptions without an __init__ -/
def tNewX (C : Addr) (t : TA) : TE := fun σ H Q => t σ H fun vs H1 => vs.length ≤ sizeLine ∧ ∀ e H', Same H1 H' → IsX H' e (.ref C) → Q (.ref e) H'
end
section
variable {X : Cx} {o value : Expr} {name : Str} {pos pos' : Pos} {ta tv : TE} {C f : Addr}
/-- e.name = value, e an exception that has no dict yet -/
def sXFld (C : Addr) (ta tv : TE) (name : Str) : TS := fun D σ H => tv σ H fun y H1 => ta σ H1 fun x H2 => ∃ e, x = .ref e ∧ H2 e = some (ExcN e (.ref C)) ∧ ∀ d, d ≠ e → H2 d = none → D.nx σ (upd (upd H2 e (ExcD e (.ref C) d)) d (.xd [(name, y)]))
theorem ps_xfld (Z : XK3 X.K C f) (hnm : PySem.W.findIn X.K (.ref C) name = some none) (ha : PE X o ta) (hv : PE X value tv) (hs : swapsWith value (some (.Attribute o name pos')) pos.line X.env = pure false := by rfl) (hex : X.ex = [] := by rfl) :
    PS X (.Assign [.Attribute o name pos'] value pos) (sXFld C ta tv name) := by
  intro pins s σ H D I h
  refine plainObj_wpAny_Assign_Attribute (thn (hv pins s σ H _ I h) fun u s1 ⟨y, H1, I1, ry, q⟩ => thn (ha pins s1 σ H1 _ I1 q) fun ov s2 ⟨x, H2, I2, rx, e, ex, ea, q2⟩ => ?_) hs
  subst ex
  obtain rfl : ov = Value.ref e := rx
  obtain ⟨ob, vs, h1, h2, h3, h4, h5⟩ := (I2.hok e _ ea).1
  refine xset I2.kIn Z hnm h1 h2 h3 h4 fun h' tk' g1 g2 g3 => ?_
  have hfr : s2.heap.get? s2.heap.objs.size = none := Heap.get?_none_of_le (Nat.le_refl _)
  have hde : s2.heap.objs.size ≠ e := fun z => by rw [z, h1] at hfr; cases hfr
  have I3 : Inv X pins σ (upd H2 e (ExcD e (.ref C) s2.heap.objs.size)) { s2 with heap := h', toks := tk' } :=
    I2.write (x := e) (e := e) (by rw [ea]; exact True.intro) (.inl rfl) (fun b u hb z => g3 b u hb z) ⟨_, g1⟩ ⟨⟨_, vs, g1, h2, h3, rfl, h5⟩, ⟨_, g1⟩, fun g1 g2 p k => by
      obtain ⟨o, vs, a, b, c, d⟩ := p
      exact ⟨o, vs, k o a, b, c, d⟩⟩
  obtain ⟨a, b, c, d⟩ := I2.freshX hfr hex
  have hn := I2.hok.gone hfr
  refine ⟨σ, _, I3.track (e := s2.heap.objs.size) (o := .xd [(name, y)]) (by rw [upd_ne hde]; exact hn) a b c d ⟨_, g2, fun z => ?_⟩, q2 _ hde hn⟩
  by_cases hz : z = name
  · subst hz
    simp only [List.lookup, beq_self_eq_true, if_true]
    exact ry
  · rw [if_neg hz]
    simp only [List.lookup, beq_false_of_ne hz]
    exact True.intro
/-- e.name, a number in the dict of an exception -/
def tXFld (C : Addr) (ta : TE) (name : Str) : TE := fun σ H Q => ta σ H fun x H1 => ∃ e d fs i, x = .ref e ∧ H1 e = some (ExcD e (.ref C) d) ∧ H1 d = some (.xd fs) ∧ fs.lookup name = some (.int i) ∧ Q (.int i) H1
/-- isinstance(e, C), an exception by IsX -/
theorem call_isiX (K : PySem.W.Frag) (hK : X.K = K := by rfl) : CallR X (.builtin "isinstance") (fun xs H Q => ∃ e C D b, xs = [.ref e, .ref D] ∧ IsX H e (.ref C) ∧ XK1 K C ∧ PySem.W.kitOne K (.ref C) (.ref D) = some b ∧ Q (.bl b) H) := by
  subst hK
  intro pins s σ H xs us Q I r h
  obtain ⟨e, C, D, b, rfl, ⟨φ, he, hφ⟩, Z, kit, q⟩ := h
  obtain ⟨u, v, rfl, ru, rv⟩ := vals2 r
  cases ru
  cases rv
  exact PySem.W.kia_one (kitx_exc Z) I.kIn (hφ _ (I.hok e _ he).1) kit (fun z => nomatch z) fun tk => ⟨.bl b, H, I.tok tk, rfl, q⟩
theorem call_isiXB (K : PySem.W.Frag) (hK : X.K = K := by rfl) : CallR X (.builtin "isinstance") (fun xs H Q => ∃ e C n b, xs = [.ref e, .ty n] ∧ IsX H e (.ref C) ∧ XK1 K C ∧ PySem.W.kitOne K (.ref C) (.type n) = some b ∧ Q (.bl b) H) := by
  subst hK
  intro pins s σ H xs us Q I r h
  obtain ⟨e, C, D, b, rfl, ⟨φ, he, hφ⟩, Z, kit, q⟩ := h
  obtain ⟨u, v, rfl, ru, rv⟩ := vals2 r
  cases ru
  cases rv
  exact PySem.W.kia_one (kitx_exc Z) I.kIn (hφ _ (I.hok e _ he).1) kit (fun z => nomatch z) fun tk => ⟨.bl b, H, I.tok tk, rfl, q⟩
end
section
variable {X : Cx} {x : Str} {np pos : Pos} {e0 : Expr} {t : TA} {C f : Addr} {fd : FuncData} {ps : List Str} {name : Str} {j k : Nat}
/-- what the __init__ of such a class does: one name in the new dict -/
def sp_xinit (C : Addr) (name : Str) : Sp := fun vs H Q _ => ∃ e v, vs = [.ref e, v] ∧ H e = some (ExcN e (.ref C)) ∧ ∀ d, d ≠ e → H d = none → Q .non (upd (upd H e (ExcD e (.ref C) d)) d (.xd [(name, v)]))
def tNewI (C : Addr) (name : Str) (t : TA) : TE := fun σ H Q => t σ H fun vs H1 => ∃ v, vs = [v] ∧ ∀ e d H', Same H1 H' → H' e = some (ExcD e (.ref C) d) → H' d = some (.xd [(name, v)]) → Q (.ref e) H'
structure InitX (P : Program) (w : World) (K : PySem.W.Frag) (mg : Str → Option Value) (base : Heap) (k : Nat) (C : Addr) (name : Str) : Prop where
  ex : ∃ f fd ps, FnOk P w K mg base CX0 k f fd ps (sp_xinit C name) ∧ XK3 K C f ∧ ps.length = 2 ∧ ∀ us : List Value, us.length = ps.length → bindArgs fd ⟨us, []⟩ = pure (ps.zip us)
end
/-! ### the facts, as they stand behind the top -/
section
variable {X : Cx} {o : Expr} {name : Str} {pos : Pos} {ta : TE} {C : Addr}
end
section
variable {K : PySem.W.Frag} {h : Heap} {mg : Str → Option Value} {x : Str} {C f D : Addr}
structure InitS (K : PySem.W.Frag) (C : Addr) (x qual : Str) (st : Stmt) (ps : List Str) : Prop where
  ex : ∃ f fd, Fun K x qual st f fd ∧ XK3 K C f ∧ ∀ us : List Value, us.length = ps.length → bindArgs fd ⟨us, []⟩ = pure (ps.zip us)
theorem InitS.xk {qual : Str} {st : Stmt} {ps : List Str} (S : InitS K C x qual st ps) : ∃ f, XK3 K C f := let ⟨f, _, _, z, _⟩ := S.ex; ⟨f, z⟩
theorem fi_mk {name : Str} (a : PySem.W.nsIn K mainGlobals x = some (some (.ref C))) (q : PySem.W.findIn K (.ref C) name = some none) : PySem.W.findIn K (.ref (cA K x)) name = some none := by rw [cA_of a]; exact q
theorem x3_mk {nm qn : Str} {N : Addr} {bs : List Value} {sn : List Str} {sub : List Value} {ab : Bool} {col : Option Bool} {dd : Option Addr} {k0 k1 k2 k3 k5 : Option Value} {qual : Str} {st : Stmt} {ps : List Str} {oc : Value} {od an : Option Addr} {osl : Array (Option Value)} {kV doc pm cdv ct : Value}
    (a : PySem.W.nsIn K mainGlobals x = some (some (.ref C))) (z : XK1 K (cA K x)) (l : K.lookup C = some (excClassObj nm qn C N bs [.ref D, .type "ValueError", .type "Exception", .type "BaseException", .type "object"] true sn sub ab col dd k0 k1 k2 k3 k5 "ValueError.__new__"))
    (qD : PySem.W.excIn K D [.type "ValueError", .type "Exception", .type "BaseException", .type "object"] "ValueError.__new__" = true)
    (hi : PySem.W.findIn K (.ref C) "__init__" = some (some (.ref f))) (hf : PySem.W.typeIn K (.ref f) = some (.type "function")) (hs : PySem.W.findIn K (.ref C) "__setattr__" = some (some (.builtin "object.__setattr__"))) (kp : PySem.W.keepIn K (.ref C) = true)
    (fl : K.lookup f = some ⟨oc, od, .func (PySem.W.fnOf "__init__" qual (defArgs st) (defBody st) (defScope st) .none kV doc pm an cdv ct), osl⟩) (fc : PySem.W.codeIn K cdv qual = true) (fk : PySem.W.keepIn K (.ref f) = true)
    (hb : ∀ us : List Value, us.length = ps.length → bindArgs (PySem.W.fnOf "__init__" qual (defArgs st) (defBody st) (defScope st) .none kV doc pm an cdv ct) ⟨us, []⟩ = pure (ps.zip us)) : InitS K (cA K x) "__init__" qual st ps := by
  have e := cA_of a
  rw [e] at z ⊢
  exact ⟨f, _, fun_mk fl fc fk, ⟨⟨D, nm, qn, N, bs, sn, sub, ab, col, dd, k0, k1, k2, k3, k5, l, qD⟩, hi, hf, hs, kp, z⟩, hb⟩
end
end L2
namespace L2
open PySem PySem.Spec PyProof.Rows
/-! ### sets of whole numbers: what stands in the table, and how it is walked -/
namespace SetL
def Up (xs : Array Nat) : Prop := xs.toList.Pairwise (· < ·)
/-- what holds of the table of a set that was filled and never lost anything -/
structure Tab (bt : Bool) (t : SetTable) : Prop where
  led : t.led = !bt
  dum : t.dummies = #[]
  up : t.plain = true → Up t.place
end SetL
end L2
namespace L2
open PySem PySem.Spec PyProof.Rows
namespace SetL
def intOf : Value → Int
  | .int i _ => i
  | _ => 0
/-- the set at a has just the whole numbers ms, in the order of its entries -/
structure SetI (prog : Program) (w : World) (h : Heap) (a : Addr) (ms : List Int) : Prop where
  ex : ∃ o es ep t, (h.get? a = some o ∧ o.ExactSet ∧ o.data = .set es ep t) ∧ (ElemsOf (intKind prog w) es.toList ∧ es.size < scanBound ∧ t.fits es.size = true) ∧ Tab (w.params.followText "set-order") t ∧
    es.toList.map (fun e => intOf e.2) = ms
  nd : ms.Nodup
section
variable {prog : Program} {w : World} {A : Around} {E : Value → Shared → Prop} {s : Shared} {a : Addr} {ms : List Int} {k : Int} {tk : Tok}
end
end SetL
end L2
namespace L2
open PySem PySem.Spec PyProof.Rows
namespace SetL
theorem SetI.keep {prog : Program} {w : World} {h h' : Heap} {a : Addr} {ms : List Int} (S : SetI prog w h a ms) (k : ∀ o, h.get? a = some o → h'.get? a = some o) : SetI prog w h' a ms := by
  obtain ⟨⟨o, es, ep, t, ⟨ho, r⟩, r2⟩, nd⟩ := S
  exact ⟨⟨o, es, ep, t, ⟨k o ho, r⟩, r2⟩, nd⟩
section
variable {prog : Program} {w : World} {A : Around} {R : Result → Shared → Prop} {I a : Addr} {fp wr : List Addr} {G : Array GenState → Array GenState → Prop} {n : Nat} {P : Nat → Value → Prop} {St : Nat → Shared → Prop} {val : Nat → Int}
end
section
variable {prog : Program} {w : World} {A : Around} {E : Value → Shared → Prop} {s : Shared}
abbrev empty (w : World) : Obj := { cls := .type "set", dict := none, data := .set #[] 0 (.fresh 0 0 (!w.params.followText "set-order")) }
end
end SetL
end L2
namespace L2
open PySem PySem.Spec PyProof.Rows
namespace SetL
section
variable {prog : Program} {w : World} {A : Around} {E : Value → Shared → Prop} {s : Shared}
set_option maxHeartbeats 3200000 in
end
end SetL
end L2
namespace L2
open PySem PySem.Spec PyProof.Rows
namespace SetL
/-- the iterator at I, at its i-th turn -/
def IterAt (h : Heap) (I a : Addr) (first : Value) (i n ep : Nat) : Prop := ∃ o, h.get? I = some o ∧ o.cls = .type "set_iterator" ∧ o.data = .fields #[first, .int i 0, .ref a, .int n 0, .int ep 0]
theorem IterAt.ty {s : Shared} {I a : Addr} {first : Value} {i n ep : Nat} (h : IterAt s.heap I a first i n ep) : s.TypeIs (.ref I) "set_iterator" := let ⟨_, a, b, _⟩ := h; ⟨_, a, b⟩
theorem IterAt.keep {h h' : Heap} {I a : Addr} {first : Value} {i n ep : Nat} (x : IterAt h I a first i n ep) (k : ∀ o, h.get? I = some o → h'.get? I = some o) : IterAt h' I a first i n ep := let ⟨o, a, b⟩ := x; ⟨o, k o a, b⟩
/-- the object of the set -/
def ObjAt (h : Heap) (a : Addr) (es : Array (Int × Value)) (ep : Nat) (t : SetTable) : Prop := ∃ o, h.get? a = some o ∧ o.data = .set es ep t ∧ t.fits es.size = true
theorem ObjAt.keep {h h' : Heap} {a : Addr} {es : Array (Int × Value)} {ep : Nat} {t : SetTable} (x : ObjAt h a es ep t) (k : ∀ o, h.get? a = some o → h'.get? a = some o) : ObjAt h' a es ep t := let ⟨o, a, b⟩ := x; ⟨o, k o a, b⟩
section
variable {prog : Program} {w : World} {A : Around} {E : Value → Shared → Prop} {s : Shared} {I a : Addr} {es : Array (Int × Value)} {ep : Nat} {t : SetTable}
end
end SetL
end L2
namespace L2
open PySem PySem.Spec PyProof.Rows
namespace SetL
section
variable {prog : Program} {w : World} {A : Around} {E : Value → Shared → Prop} {s : Shared} {I a : Addr} {es : Array (Int × Value)} {ep : Nat} {t : SetTable}
end
end SetL
end L2
namespace L2
open PySem PySem.Spec PyProof.Rows
namespace SetL
section
variable {prog : Program} {w : World} {A : Around} {E : Value → Shared → Prop} {s : Shared} {I a T : Addr} {es : Array (Int × Value)} {ep : Nat} {t : SetTable} {ps : Array Value}
def PlacesAt (h : Heap) (T : Addr) (ps : Array Value) : Prop := ∃ o n, h.get? T = some o ∧ o.data = .seq ps n
theorem PlacesAt.keep {h h' : Heap} (x : PlacesAt h T ps) (k : ∀ o, h.get? T = some o → h'.get? T = some o) : PlacesAt h' T ps := let ⟨o, n, a, b⟩ := x; ⟨o, n, k o a, b⟩
end
end SetL
end L2
namespace L2
open PySem PySem.Spec PyProof.Rows
namespace SetL
/-- the slot from which the i-th turn looks -/
def slotAt (t : SetTable) (i : Nat) : Nat := if i = 0 then 0 else t.place.getD (i - 1) 0 + 1
section
variable {prog : Program} {w : World} {a : Addr} {es : Array (Int × Value)} {ep : Nat} {t : SetTable}
end
end SetL
end L2
namespace L2
open PySem PySem.Spec PyProof.Rows
namespace SetL
section
variable {prog : Program} {w : World} {A : Around} {E : Value → Shared → Prop}
end
section
variable {prog : Program} {w : World} {A : Around} {E : Value → Shared → Prop} {s : Shared} {a : Addr} {es : Array (Int × Value)} {ep : Nat} {t : SetTable}
end
end SetL
end L2
namespace L2
open PySem PySem.Spec PyProof.Rows
namespace SetL
section
variable {prog : Program} {w : World} {A : Around} {E : Value → Shared → Prop} {s : Shared} {a : Addr} {es : Array (Int × Value)} {ep : Nat} {t : SetTable}
end
end SetL
end L2
namespace L2
open PySem PySem.Spec PyProof.Rows
namespace SetL
section
variable {prog : Program} {w : World} {A : Around} {E : Value → Shared → Prop} {s : Shared} {a : Addr} {ms : List Int}
end
end SetL
end L2
namespace L2
open PySem PySem.Spec PyProof.Rows
/-- a set of just the whole numbers ms -/
def SetO (P : Program) (w : World) (a : Addr) (ms : List Int) : HO := .ext fun h => SetL.SetI P w h a ms
theorem SetL.SetI.obj {P : Program} {w : World} {h : Heap} {a : Addr} {ms : List Int} (S : SetL.SetI P w h a ms) : ∃ o, h.get? a = some o := let ⟨⟨o, _, _, _, ⟨e, _⟩, _⟩, _⟩ := S; ⟨o, e⟩
section
variable {X : Cx} {pins : List (Addr × Obj)} {σ : St} {H : Hp} {s : Shared}
end
end L2
namespace L2
open PySem PySem.Spec PyProof.Rows
/-! ### for a, b in zip(xs, ys): two lists -/
section
variable {X : Cx} {pins : List (Addr × Obj)} {σ : St} {H : Hp} {s : Shared} {h' : Heap}
end
def Itz (K : PySem.W.Frag) (a b : Addr) : It :=
  ⟨fun i H => ∃ xs ys x y, SqL K H a xs ∧ SqL K H b ys ∧ xs[i]? = some x ∧ ys[i]? = some y,
    fun i H v H' => ∃ p, v = .ref p ∧ H p = none ∧ ∀ xs ys x y, SqL K H a xs → SqL K H b ys → xs[i]? = some x → ys[i]? = some y → H' = upd H p (.tup [x, y]),
    fun i H => ∃ xs ys, SqL K H a xs ∧ SqL K H b ys ∧ (xs.length ≤ i ∨ ys.length ≤ i)⟩
/-- the zip at z, at turn i -/
def ZipT (z ti to i1 i2 l1 l2 : Addr) (i : Nat) (h : Heap) : Prop := ((IsZip h z ti to .none ∧ IsPair h ti (.ref i1) (.ref i2)) ∧ ∃ a b, IsPair h to a b) ∧ h.IsListIter i1 l1 i ∧ h.IsListIter i2 l2 i
def iZip (K : PySem.W.Frag) (ta : TA) : TI := fun σ H R => ta σ H fun vs H1 => ∃ a b, vs = [.ref a, .ref b] ∧ (∃ xs, SqL K H1 a xs) ∧ (∃ ys, SqL K H1 b ys) ∧ R (Itz K a b) H1
end L2
namespace L2
open PySem PySem.Spec PyProof.Rows
/-! ### lists of tuples of two whole numbers each (tables, spans) -/
inductive Rows2 (K : PySem.W.Frag) (H : Hp) : List V → List (Int × Int) → Prop
  | nil : Rows2 K H [] []
  | cons {p : Addr} {s : Int × Int} {xs : List V} {l : List (Int × Int)} : H p = some (.tup [.int s.1, .int s.2]) → Rows2 K H xs l → Rows2 K H (.ref p :: xs) (s :: l)
section
variable {K : PySem.W.Frag} {H H' : Hp} {xs ys zs : List V} {l : List (Int × Int)} {p : Addr} {s : Int × Int}
theorem Rows2.get (r : Rows2 K H xs l) : ∀ {i : Nat} {x : V}, xs[i]? = some x → ∃ p s, x = .ref p ∧ l[i]? = some s ∧ H p = some (.tup [.int s.1, .int s.2]) := by
  induction r with
  | nil => intro i x e; simp at e
  | cons h _ ih =>
    intro i x e
    cases i with
    | zero => cases e; exact ⟨_, _, rfl, rfl, h⟩
    | succ i => exact ih e
theorem Rows2.length (r : Rows2 K H xs l) : xs.length = l.length := by
  induction r with
  | nil => rfl
  | cons _ _ ih => simp [ih]
theorem Rows2.same (r : Rows2 K H xs l) (s : Same H H') : Rows2 K H' xs l := by
  induction r with
  | nil => exact .nil
  | cons h _ ih => exact .cons (s _ _ h) ih
theorem Rows2.put (r : Rows2 K H xs l) (hp : H p = some (.lst ys)) : Rows2 K (upd H p (.lst zs)) xs l := by
  induction r with
  | nil => exact .nil
  | cons h _ ih => exact .cons (by rw [upd_ne (ne_of h hp (by intro z; cases z))]; exact h) ih
theorem Rows2.push (r : Rows2 K H xs l) (h : H p = some (.tup [.int s.1, .int s.2])) : Rows2 K H (xs ++ [.ref p]) (l ++ [s]) := by
  induction r with
  | nil => exact .cons h .nil
  | cons h' _ ih => exact .cons h' ih
def rowD (s : Int × Int) : PyData := .tuple [.int s.1, .int s.2]
theorem Rows2.rd (r : Rows2 K H xs l) : RdVs K H xs (l.map rowD) := by
  induction r with
  | nil => exact .nil
  | cons h _ ih => exact .cons (.tup (SqT.of h) (.cons (.int _) (.cons (.int _) .nil))) ih
end
end L2
namespace L2
open PySem PySem.Spec PyProof.Rows
/-! ### comprehensions, whatever is walked -/
/-- what is walked has just these items, however the heap grows -/
structure WalkOf (J : It) (H : Hp) (xs : List V) : Prop where
  go : ∀ i H', Same H H' → i < xs.length → J.go i H'
  yld : ∀ i H' x H2, Same H H' → J.yld i H' x H2 → H2 = H' ∧ xs[i]? = some x
  stop : ∀ i H', Same H H' → xs.length ≤ i → J.stop i H'
/-! ### range with a step -/
def Its (lo st : Int) (n : Nat) : It := ⟨fun i _ => i < n, fun i H x H' => H' = H ∧ x = .int (lo + i * st), fun i _ => n ≤ i⟩
def iRng3 (n : Nat) (ta : TA) : TI := fun σ H R => ta σ H fun vs H1 => ∃ i j k : Int, vs = [.int i, .int j, .int k] ∧ (k ≠ 0 ∧ Builtin.Range.small i j k = true ∧ (n : Int) = Builtin.Range.rangeSize i j k ∧ Builtin.divisionGoesByPylong (j - i) k = false) ∧ R (Its i k n) H1
end L2
namespace L2
theorem Rows2.take {K : PySem.W.Frag} {H : Hp} {xs : List V} {l : List (Int × Int)} (r : Rows2 K H xs l) : ∀ n : Nat, Rows2 K H (xs.take n) (l.take n) := by
  induction r with
  | nil => intro n; rw [List.take_nil, List.take_nil]; exact .nil
  | cons h _ ih =>
    intro n
    cases n with
    | zero => exact .nil
    | succ n => exact .cons h (ih n)
end L2
namespace L2
open PySem PySem.Spec PyProof.Rows
section
variable {X : Cx} {pins : List (Addr × Obj)} {σ : St} {H : Hp} {s : Shared} {sc : Scope} {x : Str} {ix : List Nat} {fp : List Addr} {elt iter c : Expr} {te : TE} {tt : TT} {wi : TI} {px pos : Pos}
end
end L2
namespace L2
open PySem PySem.Spec PyProof.Rows
/-! ### C() where no class of it has an __init__ -/
structure Mk0 (K : PySem.W.Frag) (C : Addr) : Prop where
  makes : PySem.W.makesIn K C = true
  init : PySem.W.findIn K (.ref C) "__init__" = some (some (.builtin "object.__init__"))
  kp : PySem.W.keepIn K (.ref C) = true
def tNew0 (C : Addr) : TE := fun _ H Q => ∀ x dx, H x = none → H dx = none → dx ≠ x → Q (.ref x) (upd (upd H dx (.own x)) x (.ins C dx []))
section
variable {X : Cx} {C : Addr} {x m : Str} {p pos apos : Pos} {e o : Expr} {es : List Expr} {ta : TE} {t : TA} {j k : Nat} {ps : List Str}
/-! ### four classes, one under which the others stand; methods by the class of the instance -/
inductive Kd where
  | plain | bank | thirty | exact
def Kd.cls : Kd → Str
  | .plain => "Count"
  | .bank => "Bank"
  | .thirty => "Thirty"
  | .exact => "Exact"
/-- an instance of that class, without attributes -/
def IsCnt (K : PySem.W.Frag) (H : Hp) (a : Addr) (kd : Kd) : Prop := ∃ dx, H a = some (.ins (cA K kd.cls) dx [])
theorem IsCnt.same {K : PySem.W.Frag} {H H' : Hp} {a : Addr} {kd : Kd} (h : IsCnt K H a kd) (s : Same H H') : IsCnt K H' a kd := let ⟨dx, e⟩ := h; ⟨dx, s _ _ e⟩
/-- a method of the text, as it is found from a class -/
structure MethS (K : PySem.W.Frag) (C : Addr) (m qual : Str) (st : Stmt) (ps : List Str) : Prop where
  ex : ∃ (f : Addr) (fd : FuncData), Fun K m qual st f fd ∧ Meth K C m f ∧ ∀ us : List Value, us.length = ps.length → bindArgs fd ⟨us, []⟩ = pure (ps.zip us)
structure DefM (P : Program) (w : World) (K : PySem.W.Frag) (mg : Str → Option Value) (base : Heap) (k : Nat) (C : Addr) (m : Str) (ps : List Str) (sp : Sp) : Prop where
  ex : ∃ (f : Addr) (fd : FuncData), FnOk P w K mg base CX0 k f fd ps sp ∧ Meth K C m f ∧ ∀ us : List Value, us.length = ps.length → bindArgs fd ⟨us, []⟩ = pure (ps.zip us)
theorem MethS.ok {P : Program} {w : World} {K : PySem.W.Frag} {mg : Str → Option Value} {base : Heap} {C : Addr} {m qual : Str} {st : Stmt} {N ps : List Str} {k : Nat} {sp : Sp} (S : MethS K C m qual st ps) (sc : FnScope N ps (defScope st)) (len : ∀ vs H Q E, sp vs H Q E → vs.length = ps.length)
    (hbody : ∀ (f : Addr) (cdv : Value) (A : Around) (outer : List Env) (s : Shared) (H : Hp) (vs : List V) (Q : VK) (E : XK), Room k (A.deeper (envOfC qual (defScope st) s.heap.objs.size f cdv)) → sp vs H Q E →
      ∃ t, PSs (cxOf CX0 P w K mg base N qual (defScope st) f cdv A outer s H E).nox (defBody st) t ∧ t { nx := fun _ H' => Q .non H', rt := Q } (start N vs) H) : DefM P w K mg base (k + 1) C m ps sp := by
  obtain ⟨f, fd, F, hm, hb⟩ := S.ex
  exact ⟨f, fd, F.ok sc len (fun cdv => hbody f cdv), hm, hb⟩
theorem MethS.okF {P : Program} {w : World} {K : PySem.W.Frag} {mg : Str → Option Value} {base : Heap} {C : Addr} {m qual : Str} {st : Stmt} {N ps : List Str} {k : Nat} {sp : Sp} (S : MethS K C m qual st ps) (sc : FnScope N ps (defScope st)) (len : ∀ vs H Q E, sp vs H Q E → vs.length = ps.length)
    (hbody : ∀ (f : Addr) (cdv : Value) (A : Around) (outer : List Env) (s : Shared) (H : Hp) (vs : List V) (Q : VK) (E : XK), Room k (A.deeper (envOfC qual (defScope st) s.heap.objs.size f cdv)) → sp vs H Q E →
      ∃ t, PSs (cxOf CX0 P w K mg base N qual (defScope st) f cdv A outer s H E).nox (defBody st) t ∧ t { nx := fun _ H' => Same H H' ∧ Q .non H, rt := fun v H' => Same H H' ∧ Q v H } (start N vs) H) : DefM P w K mg base (k + 1) C m ps sp := by
  obtain ⟨f, fd, F, hm, hb⟩ := S.ex
  have G : FnOk P w K mg base CX0 (k + 1) f fd ps (fun vs H R E => ∃ Q, sp vs H Q E ∧ R = fun v H' => Same H H' ∧ Q v H) :=
    F.ok sc (fun vs H R E ⟨Q, h, _⟩ => len vs H Q E h) fun cdv A outer s H vs R E hr ⟨Q, h, e⟩ => by
      subst e
      exact hbody f cdv A outer s H vs Q E hr h
  exact ⟨f, fd, G.forget fun vs H Q E h => ⟨Q, h, rfl⟩, hm, hb⟩
def tMethK (K : PySem.W.Frag) (sp : Kd → Sp) (ta : TE) (t : TA) : TE := fun σ H Q => ta σ H fun x H1 => ∃ (kd : Kd) (a : Addr), x = .ref a ∧ IsCnt K H1 a kd ∧ t σ H1 fun vs H2 => sp kd (x :: vs) H2 Q E0
end
/-! ### the facts, by the class's name -/
section
variable {K : PySem.W.Frag} {x : Str} {C f : Addr}
theorem cls_mk (a : PySem.W.nsIn K mainGlobals x = some (some (.ref C))) (h1 : PySem.W.plainGet K C Str.empty = true) (h2 : PySem.W.hasDictIn K C = true) (h3 : PySem.W.plainOver K C = true) (h4 : PySem.W.findIn K (.ref C) "__setattr__" = some (some (.builtin "object.__setattr__"))) : Cls K (cA K x) := by
  rw [cA_of a]; exact ⟨h1, h2, h3, h4⟩
theorem meth_mk {m qual : Str} {st : Stmt} {ps : List Str} {oc : Value} {od an : Option Addr} {osl : Array (Option Value)} {kV doc pm cdv ct : Value} (a : PySem.W.nsIn K mainGlobals x = some (some (.ref C))) (hi : PySem.W.findIn K (.ref C) m = some (some (.ref f))) (hf : PySem.W.isFn K (.ref f) = true)
    (fk : PySem.W.keepIn K (.ref f) = true) (fl : K.lookup f = some ⟨oc, od, .func (PySem.W.fnOf m qual (defArgs st) (defBody st) (defScope st) .none kV doc pm an cdv ct), osl⟩) (fc : PySem.W.codeIn K cdv qual = true)
    (hb : ∀ us : List Value, us.length = ps.length → bindArgs (PySem.W.fnOf m qual (defArgs st) (defBody st) (defScope st) .none kV doc pm an cdv ct) ⟨us, []⟩ = pure (ps.zip us)) : MethS K (cA K x) m qual st ps := by
  rw [cA_of a]; exact ⟨f, _, fun_mk fl fc fk, ⟨hi, hf, fk⟩, hb⟩
end
end L2
namespace L2
open PySem
end L2
namespace L2
end L2
/-! a debt: its principal m and its units n, and what a deed makes of them; no Python -/
namespace Dbt
def mx (a b : Int) : Int := if b > a then b else a
def mn (a b : Int) : Int := if b < a then b else a
theorem mx_le {a b : Int} : a ≤ mx a b ∧ b ≤ mx a b ∧ (mx a b = a ∨ mx a b = b) := by unfold mx; split <;> omega
theorem mn_le {a b : Int} : mn a b ≤ a ∧ mn a b ≤ b ∧ (mn a b = a ∨ mn a b = b) := by unfold mn; split <;> omega
inductive Wd where
  | lend | fee | turn | take | grow
/-- what is charged or lent, less what is taken, in cents -/
def cents : Wd → Int → Int
  | .lend, x => x
  | .fee, x => x
  | .take, x => -x
  | _, _ => 0
def grown : Wd → Int → Int
  | .grow, x => x
  | _, _ => 0
def step (u : Int) (w : Wd) (x m n : Int) : Int × Int :=
  match w with
  | .lend => (mn (m + x) (mx 0 ((n + u * x) / u)), n + u * x)
  | .fee => (mn m (mx 0 ((n + u * x) / u)), n + u * x)
  | .take => (mn m (mx 0 ((n + u * -x) / u)), n + u * -x)
  | .turn => (mx 0 (n / u), n)
  | .grow => (m, n + x)
/-- the number of a deed: what is lent and what is grown is from 0 on -/
def Okd : Wd → Int → Prop
  | .lend, x => 0 ≤ x
  | .grow, x => 0 ≤ x
  | _, _ => True
def Good (u m n : Int) : Prop := 0 ≤ m ∧ m ≤ mx 0 (n / u)
theorem good_step {u : Int} {w : Wd} {x m n : Int} (hu : 0 < u) (ok : Okd w x) (g : Good u m n) : Good u (step u w x m n).1 (step u w x m n).2 := by
  obtain ⟨g0, g1⟩ := g
  cases w with
  | lend =>
    have h0 : 0 ≤ x := ok
    have := mx_le (a := 0) (b := (n + u * x) / u)
    have := mn_le (a := m + x) (b := mx 0 ((n + u * x) / u))
    show 0 ≤ mn (m + x) (mx 0 ((n + u * x) / u)) ∧ mn (m + x) (mx 0 ((n + u * x) / u)) ≤ mx 0 ((n + u * x) / u)
    omega
  | fee =>
    have := mx_le (a := 0) (b := (n + u * x) / u)
    have := mn_le (a := m) (b := mx 0 ((n + u * x) / u))
    show 0 ≤ mn m (mx 0 ((n + u * x) / u)) ∧ mn m (mx 0 ((n + u * x) / u)) ≤ mx 0 ((n + u * x) / u)
    omega
  | take =>
    have := mx_le (a := 0) (b := (n + u * -x) / u)
    have := mn_le (a := m) (b := mx 0 ((n + u * -x) / u))
    show 0 ≤ mn m (mx 0 ((n + u * -x) / u)) ∧ mn m (mx 0 ((n + u * -x) / u)) ≤ mx 0 ((n + u * -x) / u)
    omega
  | turn =>
    have := mx_le (a := 0) (b := n / u)
    show 0 ≤ mx 0 (n / u) ∧ mx 0 (n / u) ≤ mx 0 (n / u)
    omega
  | grow =>
    have h0 : 0 ≤ x := ok
    have h1 : n / u ≤ (n + x) / u := Int.ediv_le_ediv hu (by omega)
    have := mx_le (a := 0) (b := n / u)
    have := mx_le (a := 0) (b := (n + x) / u)
    show 0 ≤ m ∧ m ≤ mx 0 ((n + x) / u)
    omega
/-- the six numbers, by their places -/
def six (u m n w : Int) : Int := if w = 0 then m else if w = 1 then n else if w = 2 then n / u else if w = 3 then mx 0 (n / u) - m else if w = 4 then mx 0 (-(n / u)) else n - u * (n / u)
/-- what a row of deeds comes to -/
def sumC : List (Wd × Int) → Int
  | [] => 0
  | d :: r => cents d.1 d.2 + sumC r
def sumG : List (Wd × Int) → Int
  | [] => 0
  | d :: r => grown d.1 d.2 + sumG r
/-! ### two debts side by side -/
theorem mx_mono {a b : Int} (h : a ≤ b) : mx 0 a ≤ mx 0 b := by unfold mx; split <;> split <;> omega
theorem mn_mono {a b c d : Int} (h : a ≤ c) (h2 : b ≤ d) : mn a b ≤ mn c d := by unfold mn; split <;> split <;> omega
structure Two (u s0 s1 m1 n1 m2 n2 : Int) : Prop where
  a0 : 0 ≤ s0
  a1 : 0 ≤ s1
  n : n1 ≤ n2 - u * (s0 + s1)
  m : m1 ≤ m2
  g1 : Good u m1 n1
  g2 : Good u m2 n2
variable {u s0 s1 m1 n1 m2 n2 x y : Int}
theorem Two.le (hu : 0 < u) (T : Two u s0 s1 m1 n1 m2 n2) : n1 ≤ n2 := by
  have h := Int.mul_nonneg (Int.le_of_lt hu) (show 0 ≤ s0 + s1 by have := T.a0; have := T.a1; omega)
  have := T.n
  omega
theorem step_mono {w : Wd} (hw : w = .lend ∨ w = .fee ∨ w = .take) (hu : 0 < u) (hm : m1 ≤ m2) (hx : w = .lend → x = y) (hn : (step u w x m1 n1).2 ≤ (step u w y m2 n2).2) : (step u w x m1 n1).1 ≤ (step u w y m2 n2).1 := by
  rcases hw with rfl | rfl | rfl
  · obtain rfl := hx rfl
    exact mn_mono (by omega) (mx_mono (Int.ediv_le_ediv hu hn))
  · exact mn_mono hm (mx_mono (Int.ediv_le_ediv hu hn))
  · exact mn_mono hm (mx_mono (Int.ediv_le_ediv hu hn))
theorem Two.lend (hu : 0 < u) (T : Two u s0 s1 m1 n1 m2 n2) (h : 0 ≤ x) : Two u s0 s1 (step u .lend x m1 n1).1 (step u .lend x m1 n1).2 (step u .lend x m2 n2).1 (step u .lend x m2 n2).2 := by
  have le := T.le hu
  have h1 : (step u .lend x m1 n1).2 = n1 + u * x := rfl
  have h2 : (step u .lend x m2 n2).2 = n2 + u * x := rfl
  exact ⟨T.a0, T.a1, by rw [h1, h2]; have := T.n; omega, step_mono (.inl rfl) hu T.m (fun _ => rfl) (by rw [h1, h2]; omega), good_step hu (w := .lend) h T.g1, good_step hu (w := .lend) h T.g2⟩
theorem Two.fee (hu : 0 < u) (T : Two u s0 s1 m1 n1 m2 n2) (h : 0 ≤ s1 + y - x) : Two u s0 (s1 + y - x) (step u .fee x m1 n1).1 (step u .fee x m1 n1).2 (step u .fee y m2 n2).1 (step u .fee y m2 n2).2 := by
  have h1 : (step u .fee x m1 n1).2 = n1 + u * x := rfl
  have h2 : (step u .fee y m2 n2).2 = n2 + u * y := rfl
  have hn : n1 + u * x ≤ n2 + u * y - u * (s0 + (s1 + y - x)) := by
    have := T.n
    rw [Int.mul_add] at this
    rw [Int.mul_add, Int.mul_sub, Int.mul_add]
    omega
  have h3 := Int.mul_nonneg (Int.le_of_lt hu) (show 0 ≤ s0 + (s1 + y - x) by have := T.a0; omega)
  exact ⟨T.a0, h, by rw [h1, h2]; exact hn, step_mono (.inr (.inl rfl)) hu T.m (fun z => by cases z) (by rw [h1, h2]; omega), good_step hu (w := .fee) trivial T.g1, good_step hu (w := .fee) trivial T.g2⟩
theorem Two.take (hu : 0 < u) (T : Two u s0 s1 m1 n1 m2 n2) (h : 0 ≤ s0 + x - y) : Two u (s0 + x - y) s1 (step u .take x m1 n1).1 (step u .take x m1 n1).2 (step u .take y m2 n2).1 (step u .take y m2 n2).2 := by
  have h1 : (step u .take x m1 n1).2 = n1 + u * -x := rfl
  have h2 : (step u .take y m2 n2).2 = n2 + u * -y := rfl
  have hn : n1 + u * -x ≤ n2 + u * -y - u * (s0 + x - y + s1) := by
    have := T.n
    rw [Int.mul_add] at this
    rw [Int.mul_add, Int.mul_sub, Int.mul_add, Int.mul_neg, Int.mul_neg]
    omega
  have h3 := Int.mul_nonneg (Int.le_of_lt hu) (show 0 ≤ s0 + x - y + s1 by have := T.a1; omega)
  exact ⟨h, T.a1, by rw [h1, h2]; exact hn, step_mono (.inr (.inr rfl)) hu T.m (fun z => by cases z) (by rw [h1, h2]; omega), good_step hu (w := .take) trivial T.g1, good_step hu (w := .take) trivial T.g2⟩
theorem Two.turn (hu : 0 < u) (T : Two u s0 s1 m1 n1 m2 n2) : Two u s0 s1 (step u .turn x m1 n1).1 (step u .turn x m1 n1).2 (step u .turn y m2 n2).1 (step u .turn y m2 n2).2 :=
  ⟨T.a0, T.a1, T.n, mx_mono (Int.ediv_le_ediv hu (T.le hu)), good_step hu (w := .turn) trivial T.g1, good_step hu (w := .turn) trivial T.g2⟩
theorem Two.turn2 (hu : 0 < u) (T : Two u s0 s1 m1 n1 m2 n2) : Two u s0 s1 m1 n1 (step u .turn y m2 n2).1 (step u .turn y m2 n2).2 :=
  ⟨T.a0, T.a1, T.n, Int.le_trans T.g1.2 (mx_mono (Int.ediv_le_ediv hu (T.le hu))), T.g1, good_step hu (w := .turn) trivial T.g2⟩
theorem Two.grow (hu : 0 < u) (T : Two u s0 s1 m1 n1 m2 n2) (h : 0 ≤ x) (h2 : x ≤ y) : Two u s0 s1 (step u .grow x m1 n1).1 (step u .grow x m1 n1).2 (step u .grow y m2 n2).1 (step u .grow y m2 n2).2 :=
  ⟨T.a0, T.a1, by have := T.n; show n1 + x ≤ n2 + y - _; omega, T.m, good_step hu (w := .grow) h T.g1, good_step hu (w := .grow) (show 0 ≤ y by omega) T.g2⟩
/-- a deed, or none, of the first one and a deed of the other -/
inductive POk (s0 s1 : Int) : Option (Wd × Int) → Wd × Int → Prop
  | lend {x : Int} : 0 ≤ x → POk s0 s1 (some (.lend, x)) (.lend, x)
  | fee {x y : Int} : 0 ≤ s1 + y - x → POk s0 s1 (some (.fee, x)) (.fee, y)
  | take {x y : Int} : 0 ≤ s0 + x - y → POk s0 s1 (some (.take, x)) (.take, y)
  | turn : POk s0 s1 (some (.turn, 0)) (.turn, 0)
  | turn2 : POk s0 s1 none (.turn, 0)
  | grow {x y : Int} : 0 ≤ x → x ≤ y → POk s0 s1 (some (.grow, x)) (.grow, y)
def up1 (u : Int) (f : Option (Wd × Int)) (m n : Int) : Int × Int :=
  match f with
  | none => (m, n)
  | some (w, x) => step u w x m n
def un (u n : Int) (f : Option (Wd × Int)) : Int :=
  match f with
  | none => n
  | some (w, x) => n + u * cents w x + grown w x
def t0 (s0 : Int) : Option (Wd × Int) → Wd × Int → Int
  | some (.take, x), (.take, y) => s0 + x - y
  | _, _ => s0
def t1 (s1 : Int) : Option (Wd × Int) → Wd × Int → Int
  | some (.fee, x), (.fee, y) => s1 + y - x
  | _, _ => s1
theorem POk.two {f : Option (Wd × Int)} {g : Wd × Int} (hu : 0 < u) (T : Two u s0 s1 m1 n1 m2 n2) (p : POk s0 s1 f g) : Two u (t0 s0 f g) (t1 s1 f g) (up1 u f m1 n1).1 (up1 u f m1 n1).2 (step u g.1 g.2 m2 n2).1 (step u g.1 g.2 m2 n2).2 := by
  cases p with
  | lend h => exact T.lend hu h
  | fee h => exact T.fee hu h
  | take h => exact T.take hu h
  | turn => exact T.turn (x := 0) (y := 0) hu
  | turn2 => exact T.turn2 (y := 0) hu
  | grow h h2 => exact T.grow hu h h2
end Dbt
namespace L2
open PySem PySem.Spec PyProof.Rows
/-! ### greater divisors and factors -/
def CDivW (i j : Int) : Prop := 0 < j ∧ j < 1152921504606846976
def CPowW (i j : Int) : Prop := 0 ≤ j ∧ (Builtin.Int.intBits i : Int) * j ≤ 2 ^ 27
section
variable {X : Cx}
theorem op_fdivW : OpR X (binaryOp .FloorDiv) (rI CDivW fun i j => .int (i / j)) := opI fun i j _ _ _ _ _ hc q => by
  have h1 : (0 : Int) < j := hc.1
  have h2 : j < 1152921504606846976 := hc.2
  refine floordiv_int (by omega) (by rw [Int.fdiv_eq_ediv_of_nonneg i (by omega)]; exact q) (.inl (PyProof.noPylong_of_log2 ?_))
  have h0 : j.natAbs ≠ 0 := by omega
  have : j.natAbs.log2 < 60 := (Nat.log2_lt h0).mpr (show j.natAbs < 1152921504606846976 by omega)
  omega
end
/-! ### a class of one's own with fields: C(..), o.f, o.f = e, o.m(..) -/
structure MkI (K : PySem.W.Frag) (C : Addr) : Prop where
  makes : PySem.W.makesIn K C = true
  kp : PySem.W.keepIn K (.ref C) = true
def tFldC (C : Addr) (f : Str) (ta : TE) : TE := fun σ H Q => ta σ H fun x H1 => ∃ a dx fs v, x = .ref a ∧ H1 a = some (.ins C dx fs) ∧ fs.lookup f = some v ∧ Q v H1
def sFldC (C : Addr) (f : Str) (ta tv : TE) : TS := fun D σ H => tv σ H fun y H1 => ta σ H1 fun x H2 => ∃ a dx fs, x = .ref a ∧ H2 a = some (.ins C dx fs) ∧ fs.length < 1000 ∧ D.nx σ (upd H2 a (.ins C dx (putF f y fs)))
section
variable {X : Cx} {C : Addr} {x m f : Str} {p pos pos' apos : Pos} {e o value : Expr} {es : List Expr} {ta tv : TE} {t : TA} {j k : Nat} {ps : List Str} {sp : Sp}
theorem pe_makeC (M : MkI X.K C) (D : DefM X.prog X.w X.K X.mg X.base j C "__init__" ps sp) (hr : Room k X.A) (hm : X.mg x = some (.ref C)) (ha : PA X (e :: es) t) (hj : j + 1 ≤ k := by decide) (hg : Gl X x := by rfl)
    (hdb : (x == ("__debug__" : Str)) = false := by decide) (he : starEach (e :: es) X.env = (false, eval e X.env) :: starEach es X.env := by rfl) (hpl : (backTo pos (starEach es X.env)).any (·.1) = false := by rfl) :
    PE X (.Call (.Name x p) (e :: es) [] pos) (tMake C sp [] E0 t) := by
  obtain ⟨f, fd, F, hme, hb⟩ := D.ex
  exact pe_make ⟨M.makes, hme.at_, hme.fn, M.kp⟩ F (hr.mono hj) hg hm (.all hb) .nil pass0 ha hdb he hpl
end
section
variable {K : PySem.W.Frag} {x : Str} {C f : Addr}
theorem mki_mk (a : PySem.W.nsIn K mainGlobals x = some (some (.ref C))) (h1 : PySem.W.makesIn K C = true) (h3 : PySem.W.keepIn K (.ref C) = true) : MkI K (cA K x) := by
  rw [cA_of a]; exact ⟨h1, h3⟩
end
/-! ### a debt -/
def dbtF (u m n : Int) : List (Str × V) := [("cent_units", .int u), ("principal_cents", .int m), ("owed_units", .int n)]
abbrev Deb (K : PySem.W.Frag) (H : Hp) (p dx : Addr) (u m n : Int) : Prop := H p = some (.ins (cA K "Debt") dx (dbtF u m n))
def wtxt : Dbt.Wd → Str
  | .lend => "lend"
  | .fee => "fee"
  | .turn => "turn"
  | .take => "take"
  | .grow => "grow"
/-- a deed: a tuple of its word and its number -/
abbrev Deed (H : Hp) (d : Addr) (w : Dbt.Wd) (x : Int) : Prop := H d = some (.tup [.str (wtxt w), .int x])
theorem Deb.same {K : PySem.W.Frag} {H H' : Hp} {p dx : Addr} {u m n : Int} (e : Deb K H p dx u m n) (s : Same H H') : Deb K H' p dx u m n := s _ _ e
theorem at_new {H : Hp} {p : Addr} (o : HO) (_h : H p = none) : (upd H p o) p = some o := upd_same
/-- a list of deeds -/
def Deeds (H : Hp) (vs : List V) : Prop := ∀ v ∈ vs, ∃ (d : Addr) (w : Dbt.Wd) (x : Int), v = .ref d ∧ Deed H d w x
theorem Deeds.same {H H' : Hp} {vs : List V} (h : Deeds H vs) (s : Same H H') : Deeds H' vs := fun v hv => let ⟨d, w, x, e, hd⟩ := h v hv; ⟨d, w, x, e, s _ _ hd⟩
theorem Deeds.put {H : Hp} {vs : List V} {p C dx : Addr} {fs : List (Str × V)} {o : HO} (h : Deeds H vs) (e : H p = some (.ins C dx fs)) : Deeds (upd H p o) vs := fun v hv => let ⟨d, w, x, e1, hd⟩ := h v hv; ⟨d, w, x, e1, by
  show (upd H p o) d = _
  rw [upd_ne (ne_of hd e (by intro z; cases z))]; exact hd⟩
/-- .. by the deeds themselves -/
inductive DL (H : Hp) : List V → List (Dbt.Wd × Int) → Prop
  | nil : DL H [] []
  | cons {p : Addr} {d : Dbt.Wd × Int} {xs : List V} {l : List (Dbt.Wd × Int)} : Deed H p d.1 d.2 → DL H xs l → DL H (.ref p :: xs) (d :: l)
section
variable {H H' : Hp} {xs ys zs : List V} {l r : List (Dbt.Wd × Int)} {p : Addr} {d : Dbt.Wd × Int}
theorem DL.get (h : DL H xs l) : ∀ {i : Nat} {x : V}, xs[i]? = some x → ∃ p d, x = .ref p ∧ l[i]? = some d ∧ Deed H p d.1 d.2 := by
  induction h with
  | nil => intro i x e; simp at e
  | cons h _ ih =>
    intro i x e
    cases i with
    | zero => cases e; exact ⟨_, _, rfl, rfl, h⟩
    | succ i => exact ih e
theorem DL.length (h : DL H xs l) : xs.length = l.length := by
  induction h with
  | nil => rfl
  | cons _ _ ih => simp [ih]
theorem DL.same (h : DL H xs l) (s : Same H H') : DL H' xs l := by
  induction h with
  | nil => exact .nil
  | cons h _ ih => exact .cons (s _ _ h) ih
theorem DL.append (h : DL H xs l) (k : DL H ys r) : DL H (xs ++ ys) (l ++ r) := by
  induction h with
  | nil => exact k
  | cons h' _ ih => exact .cons h' ih
theorem DL.push (h : DL H xs l) (e : Deed H p d.1 d.2) : DL H (xs ++ [.ref p]) (l ++ [d]) := h.append (.cons e .nil)
theorem DL.take (h : DL H xs l) : ∀ n, DL H (xs.take n) (l.take n) := by
  induction h with
  | nil => intro n; simp; exact .nil
  | cons h' _ ih =>
    intro n
    cases n with
    | zero => exact .nil
    | succ n => exact .cons h' (ih n)
theorem DL.drop (h : DL H xs l) : ∀ n, DL H (xs.drop n) (l.drop n) := by
  induction h with
  | nil => intro n; simp; exact .nil
  | cons h' r ih =>
    intro n
    cases n with
    | zero => exact .cons h' r
    | succ n => exact ih n
theorem DL.reverse (h : DL H xs l) : DL H xs.reverse l.reverse := by
  induction h with
  | nil => exact .nil
  | cons h' _ ih => rw [List.reverse_cons, List.reverse_cons]; exact ih.push h'
/-- all but what is grown -/
def kept : Dbt.Wd → Bool
  | .grow => false
  | _ => true
def pkD : List V → List (Dbt.Wd × Int) → List (Bool × V)
  | x :: xs, d :: l => (kept d.1, x) :: pkD xs l
  | _, _ => []
end
/-- a deed, or none -/
def FirstAt (H : Hp) (v : V) : Option (Dbt.Wd × Int) → Prop
  | none => v = .non
  | some d => ∃ a, v = .ref a ∧ Deed H a d.1 d.2
theorem FirstAt.same {H H' : Hp} {v : V} {f : Option (Dbt.Wd × Int)} (h : FirstAt H v f) (s : Same H H') : FirstAt H' v f := by
  cases f with
  | none => exact h
  | some d => obtain ⟨a, e, hd⟩ := h; exact ⟨a, e, s _ _ hd⟩
/-- int of a truth -/
theorem call_intB {X : Cx} : CallR X (.type "int") (fun xs H Q => ∃ k, xs = [.bl k] ∧ ∀ t : Int, t = (if k then 1 else 0) → (0 ≤ t ∧ t ≤ 1) → Q (.int t) H) := by
  intro pins s σ H xs us Q I r h
  obtain ⟨k, e, q⟩ := h
  exact call_int1 pins s σ H xs us Q I r (.inr ⟨k, e, q _ rfl (by cases k <;> decide)⟩)
/-! ### isinstance of an instance of one's own -/
structure InsK (K : PySem.W.Frag) (C : Addr) : Prop where
  ha : PySem.W.findIn K (.ref C) "__class__" = some (some (.builtin "object.__class__"))
  hn : PySem.W.specialIn K (.builtin "object.__class__") "__get__" = some (some (.builtin "getset_descriptor.__get__"))
  htk : PySem.W.takesIn K (.builtin "object.__class__") = some true
  hm : PySem.W.mroIn K C (.type "object") = some true
/-! ### tests of texts -/
theorem ifST {s : Str} {A B : Prop} (h : A) : if decide (V.str s = V.str s) = true then A else B := by rw [if_pos (by simp)]; exact h
theorem ifSF {s t : Str} {A B : Prop} (ne : s ≠ t) (h : B) : if decide (V.str s = V.str t) = true then A else B := by rw [if_neg (by simpa using ne)]; exact h
theorem ifSNT {s : Str} {A B : Prop} (h : B) : if (!decide (V.str s = V.str s)) = true then A else B := by rw [if_neg (by simp)]; exact h
theorem ifSNF {s t : Str} {A B : Prop} (ne : s ≠ t) (h : A) : if (!decide (V.str s = V.str t)) = true then A else B := by rw [if_pos (by simpa using ne)]; exact h
end L2
namespace L2
open PySem PySem.Spec PyProof.Rows
/-! ### C.m(..): a method taken of its class -/
structure UnbS (K : PySem.W.Frag) (C : Addr) (m qual : Str) (st : Stmt) (ps : List Str) : Prop where
  ex : ∃ (f : Addr) (fd : FuncData), Fun K m qual st f fd ∧ (PySem.W.specialIn K (.ref C) "__getattribute__" = some (some (.builtin "type.__getattribute__")) ∧ PySem.W.readsIn K C (.type "type") = true ∧
    PySem.W.findCls K (.ref C) (.type "type") m = some (.val (.ref f)) ∧ PySem.W.handedIn (.ref f) = true) ∧ ∀ us : List Value, us.length = ps.length → bindArgs fd ⟨us, []⟩ = pure (ps.zip us)
structure DefU (P : Program) (w : World) (K : PySem.W.Frag) (mg : Str → Option Value) (base : Heap) (k : Nat) (C : Addr) (m : Str) (ps : List Str) (sp : Sp) : Prop where
  ex : ∃ (f : Addr) (fd : FuncData), FnOk P w K mg base CX0 k f fd ps sp ∧ (PySem.W.specialIn K (.ref C) "__getattribute__" = some (some (.builtin "type.__getattribute__")) ∧ PySem.W.readsIn K C (.type "type") = true ∧
    PySem.W.findCls K (.ref C) (.type "type") m = some (.val (.ref f)) ∧ PySem.W.handedIn (.ref f) = true) ∧ PySem.W.keepIn K (.ref f) = true ∧ ∀ us : List Value, us.length = ps.length → bindArgs fd ⟨us, []⟩ = pure (ps.zip us)
theorem UnbS.ok {P : Program} {w : World} {K : PySem.W.Frag} {mg : Str → Option Value} {base : Heap} {C : Addr} {m qual : Str} {st : Stmt} {N ps : List Str} {k : Nat} {sp : Sp} (S : UnbS K C m qual st ps) (sc : FnScope N ps (defScope st)) (len : ∀ vs H Q E, sp vs H Q E → vs.length = ps.length)
    (hbody : ∀ (f : Addr) (cdv : Value) (A : Around) (outer : List Env) (s : Shared) (H : Hp) (vs : List V) (Q : VK) (E : XK), Room k (A.deeper (envOfC qual (defScope st) s.heap.objs.size f cdv)) → sp vs H Q E →
      ∃ t, PSs (cxOf CX0 P w K mg base N qual (defScope st) f cdv A outer s H E).nox (defBody st) t ∧ t { nx := fun _ H' => Q .non H', rt := Q } (start N vs) H) : DefU P w K mg base (k + 1) C m ps sp := by
  obtain ⟨f, fd, F, hm, hb⟩ := S.ex
  exact ⟨f, fd, F.ok sc len (fun cdv => hbody f cdv), hm, F.kp, hb⟩
section
variable {X : Cx} {C : Addr} {x m : Str} {p pos apos : Pos} {e o : Expr} {es : List Expr} {t : TA} {j k : Nat} {ps : List Str} {sp : Sp}
theorem pe_unb {pl : Sem Bool} (D : DefU X.prog X.w X.K X.mg X.base j C m ps sp) (he : PE X o (tC (.ref C))) (hr : Room k X.A) (ha : PA X (e :: es) t) (hj : j ≤ k := by decide)
    (hst : starEach (e :: es) X.env = (false, eval e X.env) :: starEach es X.env := by rfl) (hpl : (backTo pos (starEach es X.env)).any (·.1) = false := by rfl)
    (ht : eval (.Call (.Attribute o m apos) (e :: es) [] pos) X.env = (do
      let ov ← eval o X.env
      standAt apos.atName
      let (f, first) ← holding [ov] (getMethod ov m pl)
      callWith pos f first (backTo pos (starEach (e :: es) X.env)) (backToKw pos (keywordEach [] X.env))) := by rfl) :
    PE X (.Call (.Attribute o m apos) (e :: es) [] pos) (tCall sp [] E0 t) := by
  intro pins s σ H Q I h
  obtain ⟨f, fd, F, ⟨h1, h2, h3, h4⟩, kp, hb⟩ := D.ex
  refine PySem.W.methodCall_KW (pl := pl) (thn (he pins s σ H (fun v H1 => v = .ref C ∧ H1 = H) I ⟨rfl, rfl⟩) fun u s1 ⟨y, H1, I1, ry, e1, e2⟩ => ?_) ht
  subst e1 e2
  obtain rfl : u = Value.ref C := ry
  refine PySem.W.method_cls I1.kIn h1 (PySem.W.cls_value I1.kIn h2 h3 h4 ?_)
  have I2 := I1.tok (s1.toks + 1)
  refine PySem.W.callWith_K (first := []) (h₀ := X.base) I.ok.mod.kin kp (thn (ha pos pins _ σ _ _ I2 h) fun us s2 ⟨vs, H2, I3, r, q2⟩ => ⟨I3.kIn, ?_⟩) hst hpl
  exact run_fn (us := us) (vs := vs) (dvs := []) (ds := []) F (hr.mono hj) (.all hb) .nil pass0 I3 r q2
end
/-! ### nine classes, one above all others -/
inductive Ek where
  | out | fee | pay | due | turn | rate | late | still | base
def Ek.cls : Ek → Str
  | .out => "Out"
  | .fee => "Fee"
  | .pay => "Pay"
  | .due => "Due"
  | .turn => "Turn"
  | .rate => "Rate"
  | .late => "Late"
  | .still => "Still"
  | .base => "Entry"
def Ek.word : Ek → Str
  | .out => "out"
  | .fee => "fee"
  | .pay => "pay"
  | .due => "due"
  | .turn => "turn"
  | .rate => "rate"
  | .late => "late"
  | .still => "still"
  | .base => ""
/-- the fields of an entry -/
def entF : Ek → Int → Int → List (Str × V)
  | .turn, d, _ => [("day", .int d)]
  | .base, d, _ => [("day", .int d)]
  | .rate, d, x => [("day", .int d), ("rate", .int x)]
  | .late, d, x => [("day", .int d), ("rate", .int x)]
  | .still, d, x => [("day", .int d), ("until", .int x)]
  | .out, d, x => [("day", .int d), ("amount", .int x)]
  | .fee, d, x => [("day", .int d), ("amount", .int x)]
  | .pay, d, x => [("day", .int d), ("amount", .int x)]
  | .due, d, x => [("day", .int d), ("amount", .int x)]
/-- its row -/
def rowV : Ek → Int → Int → List V
  | .turn, d, _ => [.str "turn", .int d]
  | .base, d, _ => [.str "", .int d]
  | k, d, x => [.str k.word, .int d, .int x]
abbrev IsEnt (K : PySem.W.Frag) (H : Hp) (a dx : Addr) (k : Ek) (d x : Int) : Prop := H a = some (.ins (cA K k.cls) dx (entF k d x))
theorem entF_word (k : Ek) (d x : Int) : List.lookup ("word" : Str) (entF k d x) = none := by cases k <;> rfl
theorem entF_row (k : Ek) (d x : Int) : List.lookup ("row" : Str) (entF k d x) = none := by cases k <;> rfl
/-- whether the one stands under the other -/
def subE : Ek → Ek → Bool
  | _, .base => true
  | .out, .out => true
  | .fee, .fee => true
  | .pay, .pay => true
  | .due, .due => true
  | .turn, .turn => true
  | .rate, .rate => true
  | .late, .late => true
  | .still, .still => true
  | _, _ => false
/-- what the third thing of a row must be -/
def ThirdOk : Ek → Int → Int → Prop
  | .fee, _, x => -1000000000000 ≤ x ∧ x ≤ 1000000000000
  | .rate, _, x => 0 ≤ x ∧ x ≤ 1000000
  | .late, _, x => 0 ≤ x ∧ x ≤ 1000000
  | .still, d, x => d + 1 ≤ x ∧ x ≤ 1000000
  | .turn, _, _ => True
  | .base, _, _ => False
  | .out, _, x => 1 ≤ x ∧ x ≤ 1000000000000
  | .pay, _, x => 1 ≤ x ∧ x ≤ 1000000000000
  | .due, _, x => 1 ≤ x ∧ x ≤ 1000000000000
def GoodRow (k : Ek) (d x : Int) : Prop := (0 ≤ d ∧ d ≤ 999999) ∧ ThirdOk k d x
def rowDt : Ek → Int → Int → List PyData
  | .turn, d, _ => [.str "turn", .int d]
  | .base, d, _ => [.str "", .int d]
  | k, d, x => [.str k.word, .int d, .int x]
theorem rd_row {K : PySem.W.Frag} {H : Hp} (k : Ek) (d x : Int) : RdVs K H (rowV k d x) (rowDt k d x) := by
  cases k with
  | turn => exact .cons (.str _) (.cons (.int _) .nil)
  | base => exact .cons (.str _) (.cons (.int _) .nil)
  | _ => exact .cons (.str _) (.cons (.int _) (.cons (.int _) .nil))
theorem shaped_row (k : Ek) (d x : Int) : SeqAt.shaped (.tuple (rowDt k d x)) = true := by
  cases k <;> simp [rowDt, SeqAt.shaped, PyData.canLay0, PyData.canLayAll0, PyData.depth, PyData.depthAll] <;> decide +kernel
theorem eqv_row (k : Ek) (d x : Int) : PyData.eqv (.tuple (rowDt k d x)) (.tuple (rowDt k d x)) = true := by
  cases k <;> simp [rowDt, PyData.eqv, PyData.eqvAll]
/-- the eight answers, and the eight words -/
def kindsV (k : Ek) : List V := [.bl (subE k .out), .bl (subE k .fee), .bl (subE k .pay), .bl (subE k .due), .bl (subE k .turn), .bl (subE k .rate), .bl (subE k .late), .bl (subE k .still)]
def kindsD (k : Ek) : List PyData := [.bool (subE k .out), .bool (subE k .fee), .bool (subE k .pay), .bool (subE k .due), .bool (subE k .turn), .bool (subE k .rate), .bool (subE k .late), .bool (subE k .still)]
def eightW : List Str := ["out", "fee", "pay", "due", "turn", "rate", "late", "still"]
def tMethE (K : PySem.W.Frag) (m : Str) (sp : Ek → Sp) (ta : TE) (t : TA) : TE := fun σ H Q => ta σ H fun x H1 => ∃ (k : Ek) (a dx : Addr) (fs : List (Str × V)), x = .ref a ∧ H1 a = some (.ins (cA K k.cls) dx fs) ∧ fs.lookup m = none ∧ t σ H1 fun vs H2 => sp k (x :: vs) H2 Q E0
section
variable {X : Cx} {C : Addr} {x m : Str} {p pos apos : Pos} {e o : Expr} {es : List Expr} {ta : TE} {t : TA} {j k : Nat} {ps : List Str}
theorem pe_methE0 {pl : Sem Bool} {sp : Ek → Sp} (D : ∀ k : Ek, DefM X.prog X.w X.K X.mg X.base j (cA X.K k.cls) m ps (sp k)) (hc : ∀ k : Ek, Cls X.K (cA X.K k.cls)) (hr : Room k X.A) (he : PE X o ta) (hj : j ≤ k := by decide)
    (ht : eval (.Call (.Attribute o m apos) [] [] pos) X.env = (do
      let ov ← eval o X.env
      standAt apos.atName
      let (f, first) ← holding [ov] (getMethod ov m pl)
      callWith pos f first (backTo pos (starEach [] X.env)) (backToKw pos (keywordEach [] X.env))) := by rfl) :
    PE X (.Call (.Attribute o m apos) [] [] pos) (tMethE X.K m sp ta tNil) := by
  intro pins s σ H Q I h
  refine PySem.W.methodCall_KW (pl := pl) (thn (he pins s σ H _ I h) fun u s1 ⟨x, H1, I1, rx, kd, a, dx, fs, ex, ea, l, q⟩ => ?_) ht
  subst ex
  obtain rfl : u = Value.ref a := rx
  obtain ⟨f, fd, F, hm, hb⟩ := (D kd).ex
  refine getmeth_ok I1 ea (hc kd) hm l ?_
  exact PySem.W.callWith_K0 (first := [.ref a]) I1.kIn hm.kp (run_fn (us := [.ref a]) (vs := [.ref a]) (dvs := []) (ds := []) F (hr.mono hj) (.all hb) .nil pass0 I1 (.cons rfl .nil) q)
end
section
variable {K : PySem.W.Frag} {x : Str} {C f : Addr}
theorem unb_mk {m qual : Str} {st : Stmt} {ps : List Str} {oc : Value} {od an : Option Addr} {osl : Array (Option Value)} {kV doc pm cdv ct : Value} (a : PySem.W.nsIn K mainGlobals x = some (some (.ref C))) (h1 : PySem.W.specialIn K (.ref C) "__getattribute__" = some (some (.builtin "type.__getattribute__")))
    (h2 : PySem.W.readsIn K C (.type "type") = true) (h3 : PySem.W.findCls K (.ref C) (.type "type") m = some (.val (.ref f))) (h4 : PySem.W.handedIn (.ref f) = true)
    (fk : PySem.W.keepIn K (.ref f) = true) (fl : K.lookup f = some ⟨oc, od, .func (PySem.W.fnOf m qual (defArgs st) (defBody st) (defScope st) .none kV doc pm an cdv ct), osl⟩) (fc : PySem.W.codeIn K cdv qual = true)
    (hb : ∀ us : List Value, us.length = ps.length → bindArgs (PySem.W.fnOf m qual (defArgs st) (defBody st) (defScope st) .none kV doc pm an cdv ct) ⟨us, []⟩ = pure (ps.zip us)) : UnbS K (cA K x) m qual st ps := by
  rw [cA_of a]; exact ⟨f, _, fun_mk fl fc fk, ⟨h1, h2, h3, h4⟩, hb⟩
end
end L2
namespace L2
open PySem PySem.Spec PyProof.Rows
/-! ### texts: slices, upper; a call in a try whose value is dropped -/
section
variable {X : Cx}
/-- a slice of a text: some text, no longer -/
def rSlS : V → Option Int → Option Int → Hp → VK → Prop := fun x _ _ H Q => ∃ z, x = .str z ∧ z.length ≤ 1000 ∧ ∀ y : Str, y.length ≤ z.length → Q (.str y) H
/-- in great letters -/
def rUpper : V → List V → Hp → VK → Prop := fun x vs H Q => ∃ z, x = .str z ∧ vs = [] ∧ Builtin.Str.tooLong (Txt.upper z).length = false ∧ Q (.str (Txt.upper z)) H
end
def tTryE (K : PySem.W.Frag) (Cx : Addr) (j : Nat) (ta : TA) (sp : Sp) (th : TS) : TS := fun D σ H => ta σ H fun vs H1 => sp vs H1 (fun _ H2 => D.nx σ H2) fun C _ H2 =>
  ∃ c, C = .ref c ∧ PySem.W.exmOne K (.ref c) (.ref Cx) = some true ∧ ∀ e, H2 e = none → th { nx := fun _ _ => False, rt := D.rt } (σ.set j (some (.ref e))) (upd H2 e (ExcO e (.ref c)))
end L2
namespace L2
open PySem
end L2
namespace L2
def eqK : Kd → Kd → Bool
  | .plain, .plain => true
  | .bank, .bank => true
  | .thirty, .thirty => true
  | .exact, .exact => true
  | _, _ => false
def subK (k : Kd) : Kd → Bool
  | .plain => true
  | .bank => eqK k .bank
  | .thirty => eqK k .thirty
  | .exact => eqK k .exact
end L2
namespace L2
open PySem PySem.Spec PyProof.Rows
/-! ### an exception keeps its dict while it flies -/
def DictAt (h : Heap) (e d : Addr) : Prop := ∃ o, h.get? e = some o ∧ o.dict = some d
theorem dict_mapFields (f : Array Value → Array Value) (o : Obj) : (Obj.mapFields f o).dict = o.dict := by
  unfold Obj.mapFields
  split <;> rfl
section
variable {M : Model} {A : Around} {E : Value → Shared → Prop} {s : Shared} {B : Heap} {v : Env} {out : List Env} {L e d : Addr} {Q : Unit → Shared → Prop}
theorem note_new {oe : Obj} {fs : Array Value} {top x0 : Value} {more : Bool} (fr : A.frames = some (v :: out)) (ff : s.heap.FunFrames B (v :: out)) (vf : v.frame = some L) (ge : s.heap.get? e = some oe) (st : B.StaysIn s.heap) (be : B.get? e = none)
    (od : oe.data = .fields fs) (o1 : 1 < fs.size) (o0 : fs[0]? = some x0) (dd : oe.dict = some d) (k : ∀ h', Heap.NotedW B (v :: out) e oe.cls x0 (rawInt L) s.heap h' → DictAt h' e d → Q () { s with heap := h' }) :
    wpAny M A (do let a ← frameOf v; let pl ← entryPlaceOf L more; let b ← EntryCells.newEntry top a .none (rawInt L) .none pl; setField (.ref e) 1 b) Q E s := by
  have none_of : ∀ b o, s.heap.get? b = some o → (∀ w, o.data ≠ .fields w) → b ≠ e := fun b o hb nf z => by
    rw [z] at hb
    cases hb.symm.trans ge
    exact nf fs od
  have notin : e ∉ (v :: out).filterMap (·.frame) := fun hm => by
    obtain ⟨_, o, ho, nf⟩ := ff.mem hm
    exact none_of e o ho nf rfl
  refine wpAny_bind (wpAny_frameOf_fun fr ff vf fun g hg => wpAny_bind (wpAny_entryPlaceOf fun pl hp => ?_))
  unfold EntryCells.newEntry newFields
  refine wpAny_bind (wpAny_newObj_type ?_ (hp.sizeOk5 _ _ _ _ _))
  obtain ⟨tb, htb⟩ : ∃ tb : Obj, tb = { cls := .type "traceback", dict := none, data := .fields ([top, .ref L, .none, rawInt L, .none] ++ (if pl.isEmpty then List.replicate 6 Value.none else pl)).toArray } := ⟨_, rfl⟩
  have g1 : g.get? e = some oe := (hg.2.1 e notin).trans ge
  have stg : B.StaysIn g := fun b o hb => (hg.2.1 b fun hm => by cases (ff.mem hm).1.symm.trans hb).trans (st b o hb)
  have g2 := Heap.get?_push_of_some (h := g) tb g1
  rw [← htb]
  refine wpAny_setField g2 od o1 (k _ ?_ ?_)
  · have apart : g.objs.size ≠ e := Nat.ne_of_gt (Heap.lt_size g1)
    have od' := Obj.data_mapFields od (·.setIfInBounds 1 (Value.ref g.objs.size))
    have g3 := Heap.get?_update_self (Obj.mapFields (·.setIfInBounds 1 (Value.ref g.objs.size))) g2 (Obj.isFreed_of_fields od')
    have stay : ∀ b o, b ≠ e → g.get? b = some o → ((g.push tb).update e (Obj.mapFields (·.setIfInBounds 1 (Value.ref g.objs.size)))).get? b = some o := fun b o ne hb =>
      (Heap.get?_update_other _ _ ne.symm).trans (Heap.get?_push_of_some _ hb)
    have tbAt := (Heap.get?_update_other (g.push tb) (Obj.mapFields (·.setIfInBounds 1 (Value.ref g.objs.size))) apart.symm).trans (Heap.get?_push_size g (by rw [htb]; rfl))
    refine ⟨fun b o hb => stay b o (fun z => by rw [z, be] at hb; cases hb) (stg b o hb), ff.of_keeps fun b o hb nf => ?_, ?_, fun b o hb nf => ?_⟩
    · obtain ⟨sl, hs⟩ := hg.2.2 b o hb
      exact ⟨_, stay b _ (none_of b o hb nf) hs, rfl⟩
    · refine ⟨_, _, g.objs.size, tb, _, g3, ⟨Obj.cls_mapFields _ _, ?_⟩, od', by simp [o1], stg.fresh, apart, tbAt, by rw [htb], ?_⟩
      · rw [Array.getElem?_setIfInBounds_ne (by decide)]
        exact o0
      · first | (simp; done) | (rcases hp with rfl | ⟨_, _, _, _, _, _, _, rfl⟩ <;> simp)
    · obtain ⟨sl, hs⟩ := hg.2.2 b o hb
      exact ⟨sl, stay b _ (none_of b o hb nf) hs⟩
  · have od' := Obj.data_mapFields od (·.setIfInBounds 1 (Value.ref g.objs.size))
    exact ⟨_, Heap.get?_update_self (Obj.mapFields (·.setIfInBounds 1 (Value.ref g.objs.size))) g2 (Obj.isFreed_of_fields od'), (dict_mapFields _ _).trans dd⟩
/-- the mark of where it flies is put out -/
theorem flight_out {c x0 fl : Value} {l : List Env} (st : B.StaysIn s.heap) (ff : s.heap.FunFrames B l) (tr : s.heap.TracedAtW B e c x0 fl) (dd : DictAt s.heap e d)
    (k : ∀ h', B.StaysIn h' → h'.FunFrames B l → h'.TracedW B e c x0 → DictAt h' e d → s.heap.UpToSlots h' → Q () { s with heap := h' }) : wpAny M A (setFlight (.ref e) none) Q E s := by
  obtain ⟨oe, fs, T, oT, ts, ge, cx, od, o1, bT, Te, gT, dT, t3⟩ := tr
  have z3 : 3 < ts.size := (Array.getElem?_eq_some_iff.mp t3).1
  have rest : ∀ b, b ≠ T → (s.heap.update T (Obj.mapFields (·.setIfInBounds 3 Value.none))).get? b = s.heap.get? b := fun b ne => Heap.get?_update_other _ _ ne.symm
  have none_of : ∀ b o, s.heap.get? b = some o → (∀ w, o.data ≠ .fields w) → b ≠ T := fun b o hb nf z => by
    rw [z] at hb
    cases hb.symm.trans gT
    exact nf ts dT
  unfold setFlight
  refine wpAny_bind (wpAny_field ge od o1 ?_)
  rw [if_pos (show (Value.ref T != Value.none) = true from by simp)]
  refine wpAny_setField gT dT z3 (k _ (fun b o hb => (rest b fun z => by rw [z, bT] at hb; cases hb).trans (st b o hb)) (ff.of_keeps fun b o hb nf => ⟨o, (rest b (none_of b o hb nf)).trans hb, rfl⟩) ?_ ?_ fun b o hb nf => ⟨o.slots, (rest b (none_of b o hb nf)).trans hb⟩)
  · exact ⟨oe, fs, T, _, _, (rest e Te.symm).trans ge, cx, od, o1, bT, Te, Heap.get?_update_self _ gT (Obj.isFreed_of_fields (Obj.data_mapFields dT _)), Obj.data_mapFields dT _, by simp [z3]⟩
  · obtain ⟨o, go, hd⟩ := dd
    exact ⟨o, (rest e Te.symm).trans go, hd⟩
theorem leave_first {oe : Obj} {fs : Array Value} {x0 : Value} (fr : A.frames = some (v :: out)) (ff : s.heap.FunFrames B (v :: out)) (vf : v.frame = some L) (ge : s.heap.get? e = some oe) (st : B.StaysIn s.heap) (be : B.get? e = none)
    (od : oe.data = .fields fs) (o1 : fs[1]? = some .none) (o0 : fs[0]? = some x0) (dd : oe.dict = some d) (k : ∀ h', Heap.FlyingW B out e oe.cls x0 h' → DictAt h' e d → s.heap.UpToSlots h' → Q () { s with heap := h' }) : wpAny M A (leaving v (.ref e)) Q E s := by
  unfold leaving noteFrame
  simp only [vf]
  refine wpAny_bind (wpAny_bind (wpAny_field ge od o1 ?_))
  rw [if_neg (by decide)]
  refine note_new fr ff vf ge st be od (Array.getElem?_eq_some_iff.mp o1).1 o0 dd fun h' n hd => ?_
  obtain ⟨n1, n2, n3, n4⟩ := n
  refine flight_out n1 n2 n3 hd fun h'' m1 m2 m3 m4 m5 => ?_
  obtain ⟨_, _, m2⟩ := m2
  exact k h'' ⟨m1, be, m2, m3⟩ m4 (Heap.UpToSlots.trans n4 m5)
theorem note_on {c x0 : Value} (fr : A.frames = some (v :: out)) (vf : v.frame = some L) (fl : Heap.FlyingW B (v :: out) e c x0 s.heap) (dd : DictAt s.heap e d)
    (k : ∀ h', Heap.HeldW B (v :: out) e c x0 L h' → DictAt h' e d → s.heap.UpToSlots h' → Q () { s with heap := h' }) : wpAny M A (noteFrame (.ref e) v) Q E s := by
  obtain ⟨st, be, ff, oe, fs, T, oT, ts, ge, ⟨cx, o0⟩, od, o1, bT, Te, gT, dT, t3⟩ := fl
  obtain ⟨o', go, hd⟩ := dd
  cases go.symm.trans ge
  subst cx
  have rest : ∀ b, b ≠ T → (s.heap.update T (Obj.mapFields (·.setIfInBounds 3 Value.none))).get? b = s.heap.get? b := fun b ne => Heap.get?_update_other _ _ ne.symm
  have none_of : ∀ b o, s.heap.get? b = some o → (∀ w, o.data ≠ .fields w) → b ≠ T := fun b o hb nf z => by
    rw [z] at hb
    cases hb.symm.trans gT
    exact nf ts dT
  unfold noteFrame
  simp only [vf]
  refine wpAny_bind (wpAny_field ge od o1 ?_)
  rw [if_pos (show (Value.ref T != Value.none) = true from by simp)]
  refine wpAny_bind (wpAny_field gT dT t3 ?_)
  rw [if_neg (show ¬ ((Value.none == rawInt L) = true) from by simp [rawInt])]
  refine wpAny_bind (wpAny_setField gT dT (Array.getElem?_eq_some_iff.mp t3).1 ?_)
  refine note_new (oe := oe) (fs := fs) (x0 := x0) (d := d) fr (ff.of_keeps fun b o hb nf => ⟨o, (rest b (none_of b o hb nf)).trans hb, rfl⟩) vf ((rest e Te.symm).trans ge) (fun b o hb => (rest b fun z => by rw [z, bT] at hb; cases hb).trans (st b o hb)) be od (Array.getElem?_eq_some_iff.mp o1).1 o0 hd fun h' n hd' => ?_
  obtain ⟨n1, n2, n3, n4⟩ := n
  exact k h' ⟨n1, be, n2, n3⟩ hd' fun b o hb nf => n4 b o ((rest b (none_of b o hb nf)).trans hb) nf
end
/-! ### a thing that is no longer kept track of -/
def del (H : Hp) (e : Addr) : Hp := fun b => if b = e then none else H b
theorem del_self {H : Hp} {e : Addr} : del H e e = none := if_pos rfl
theorem del_ne {H : Hp} {e b : Addr} (h : b ≠ e) : del H e b = H b := if_neg h
theorem del_none {H : Hp} {e b : Addr} (h : H b = none) : del H e b = none := by unfold del; split <;> first | rfl | exact h
section
variable {X : Cx} {pins : List (Addr × Obj)} {σ : St} {H : Hp} {s : Shared} {e : Addr} {φ : Heap → Prop}
theorem Inv.drop (I : Inv X pins σ H s) (he : H e = some (.ext φ)) : Inv X pins σ (del H e) s := by
  have nx : ∀ b o, H b = some o → (∀ ψ, o ≠ .ext ψ) → (del H e) b = some o := fun b o q n => (del_ne fun z => by rw [z, he] at q; exact n φ (Option.some.inj q).symm).trans q
  refine ⟨I.ok, I.os, I.bare, ⟨I.base.keep, I.base.slot, fun b u q n hx => del_none (I.base.free b u q n hx), I.base.there, fun b xs q => nx _ _ (I.base.tups b xs q) (fun _ z => nomatch z), fun b u v q => nx _ _ (I.base.frzs b u v q) (fun _ z => nomatch z), fun b ps q => ?_⟩,
    I.loc, I.cell, del_none I.free, fun x c q => del_none (I.freeC x c q), fun p q => ?_, fun b u q => ?_, I.len⟩
  · obtain ⟨more, z⟩ := I.base.tbls b ps q
    exact ⟨more, nx _ _ z (fun _ z => nomatch z)⟩
  · obtain ⟨a, b, c, d, f⟩ := I.pin p q
    exact ⟨a, del_none b, c, d, f⟩
  · have ne : b ≠ e := fun z => by rw [z, del_self] at q; cases q
    rw [del_ne ne] at q
    exact (I.hok b u q).stay (fun _ _ _ z => z) (fun c z => nx _ _ z (fun _ z => nomatch z)) fun c xs z => nx _ _ z (fun _ z => nomatch z)
end
/-- as CXX, with the dict -/
def CXD (P : Program) (w : World) : CXT := fun outer H s E ev s' => ∃ e C d H', ev = .ref e ∧ E C (some d) H' ∧ s'.os = s.os ∧ AllBare s'.gens ∧ Un (frs outer) [] H H' s.heap s'.heap ∧ HOk P w H' s'.heap ∧ ExcAt s.heap H' s'.heap e C ∧ DictAt s'.heap e d
section
variable {P : Program} {w : World} {K : PySem.W.Frag} {mg : Str → Option Value} {base : Heap} {N : List Str} {qual : Str} {scope : Scope} {f : Addr} {cd : Value} {A : Around} {outer : List Env} {s₀ : Shared} {H₀ : Hp} {E : XK}
theorem xe_inst {pins : List (Addr × Obj)} {σ : St} {H : Hp} {s : Shared} {e d : Addr} {C : Value} (I : Inv (cxOf (CXD P w) P w K mg base N qual scope f cd A outer s₀ H₀ E) pins σ H s)
    (he : H e = some (ExcD e C d)) (h0 : s₀.heap.get? e = none) (hE : E C (some d) (del H e)) : (cxOf (CXD P w) P w K mg base N qual scope f cd A outer s₀ H₀ E).xe (.ref e) s := by
  obtain ⟨oe, fs, ge, rfl, od, dd, ⟨x0, o0⟩, o1⟩ := (I.hok e _ he).1
  have J := I.drop he
  have me : e ∈ e :: frs (cxOf (CXD P w) P w K mg base N qual scope f cd A outer s₀ H₀ E).stack := List.mem_cons_self
  refine leave_first (B := PySem.W.hideAll s.heap (e :: frs (cxOf (CXD P w) P w K mg base N qual scope f cd A outer s₀ H₀ E).stack)) (out := outer) (L := s₀.heap.objs.size) I.ok.frames
    (PySem.W.funFrames_hide J.stack (fun env he a ha => List.mem_cons_of_mem _ (List.mem_filterMap.mpr ⟨env, he, ha⟩))) rfl ge (fun b o q => PySem.W.of_hideAll _ q) (PySem.W.hideAll_none _ me) od o1 o0 dd fun h'' fl hd up => ?_
  have nm : ∀ b, b ∉ frs (cxOf (CXD P w) P w K mg base N qual scope f cd A outer s₀ H₀ E).stack → b ∉ [e] → b ∉ e :: frs (cxOf (CXD P w) P w K mg base N qual scope f cd A outer s₀ H₀ E).stack := fun b n m z => by
    rcases List.mem_cons.mp z with z | z
    · exact m (by rw [z]; simp)
    · exact n z
  have F : Flew (cxOf (CXD P w) P w K mg base N qual scope f cd A outer s₀ H₀ E) [e] s.heap h'' := ⟨fun b o q n m => fl.1 b o (PySem.W.hideAll_get _ q (nm b n m)), up⟩
  have hh : ∀ b ∈ [e], s₀.heap.get? b = none ∧ (del H e) b = none := fun b z => by
    have z' : b = e := by simpa using z
    subst z'
    exact ⟨h0, del_self⟩
  exact ⟨e, _, d, del H e, rfl, hE, J.os, J.bare, J.unFlew F (fun b z => (hh b z).1), J.hokFlew F (fun b z => (hh b z).2), exc_of J F (fun b o q n m => PySem.W.hideAll_get _ q (nm b n m)) fl hh ⟨h0, del_self⟩ fun b z => absurd (show b ∈ ([] : List Addr) from z) (by simp), hd⟩
end
/-! ### raise C(v), C with an __init__ that keeps v -/
section
variable {M : Model} {A : Around} {E : Value → Shared → Prop} {env : Env} {nm q : Str} {C N : Addr} {bs bm : List Value} {hdct : Bool} {sn : List Str} {sub : List Value} {ab : Bool} {col : Option Bool} {dd : Option Addr} {k0 k1 k2 k3 k5 : Option Value} {newId : String}
theorem raise_inst {s : Shared} {x : Sem Value} {Q : Flow → Shared → Prop} (hb : bm.contains (.type "BaseException") = true) (hh : A.handled = none)
    (h : wpAny M A x (fun v s1 => ∃ e oe fs, v = .ref e ∧ s1.heap.get? C = some (excClassObj nm q C N bs bm hdct sn sub ab col dd k0 k1 k2 k3 k5 newId) ∧ s1.heap.get? e = some oe ∧ oe.cls = .ref C ∧ oe.data = .fields fs ∧ fs[1]? = some .none ∧ E (.ref e) s1) E s) :
    wpAny M A (raiseStmt env (some x) none) Q E s := by
  have own : (Value.ref C :: bm).contains (.type "BaseException") = true := by rw [List.contains_cons, hb, Bool.or_true]
  unfold raiseStmt
  refine wpAny_bind (wpAny_mono h (fun v s1 h1 => ?_) fun _ _ x => x)
  obtain ⟨e, oe, fs, rfl, hC, ge, gc, gd, g1, hE⟩ := h1
  obtain ⟨hp, g, d, tk, os⟩ := s1
  obtain ⟨oc, odd, odt, osl⟩ := oe
  dsimp only at gc gd
  subst gc gd
  repeat (first | (with_reducible refine wpAny_field ge rfl g1 ?_) | with_reducible refine wpAny_loadPart_at ge ?_ | with_reducible refine wpAny_loadPart_at hC ?_ | (with_reducible refine wpAny_isSubtype_exc hC ?_; rw [own]) | wp_step)
  exact wpAny_raiseNew_none hh hE
end
section
variable {X : Cx} {x : Str} {np pos : Pos} {e0 : Expr} {t : TA} {C f : Addr} {fd : FuncData} {ps : List Str} {name : Str} {j k : Nat}
def tNewJ (C : Addr) (name : Str) (g : Heap) (t : TA) : TE := fun σ H Q => t σ H fun vs H1 => ∃ v, vs = [v] ∧ ∀ e d H', g.get? e = none → H1 e = none → H1 d = none → Same H1 H' → H' e = some (ExcD e (.ref C) d) → H' d = some (.xd [(name, v)]) → Q (.ref e) H'
theorem pe_newJ (hm : X.mg x = some (.ref (cA X.K x))) (D : InitX X.prog X.w X.K X.mg X.base j (cA X.K x) name) (hr : Room k X.A) (ha : PA X [e0] t) (hg : Gl X x := by rfl) (hex : X.ex = [] := by rfl) (hj : j + 1 ≤ k := by decide) (hd : (x == ("__debug__" : Str)) = false := by decide)
    (he : starEach [e0] X.env = (false, eval e0 X.env) :: starEach [] X.env := by rfl) (hpl : (backTo pos (starEach [] X.env)).any (·.1) = false := by rfl) : PE X (.Call (.Name x np) [e0] [] pos) (tNewJ (cA X.K x) name X.s₀.heap t) := by
  intro pins s σ H Q I h
  obtain ⟨f, fd, ps, F, Z, h2, hb⟩ := D.ex
  refine wpAny_Call_Name_kw (ld_glob I hg hm (PySem.W.callWith_K (h₀ := X.base) I.ok.mod.kin Z.kp (thn (ha pos pins s σ H _ I h) fun us s1 hq => ?_) he hpl) hd)
  obtain ⟨vs, H1, I1, r, v, rfl, q⟩ := hq
  refine ⟨I1.kIn, ?_⟩
  obtain ⟨u, rfl, ru⟩ := vals1 r
  refine xmake_init I1.kIn Z (fun h' e mk => ?_) (by show 1 ≤ sizeLine; rw [sizeLine_eq]; omega)
  obtain ⟨tt, h1, g2, g3⟩ := mk.there
  have I2 : Inv X pins σ (upd H1 e (ExcN e (.ref (cA X.K x)))) { s1 with heap := h', toks := s1.toks } := I1.trackNew (o := ExcN e (.ref (cA X.K x))) (t' := s1.toks) mk.keeps mk.new hex ⟨⟨_, _, h1, rfl, rfl, rfl, ⟨_, rfl⟩, rfl⟩, ⟨_, h1⟩, fun g1 g2 p k => by
    obtain ⟨o, vs, a, b, c, d⟩ := p
    exact ⟨o, vs, k o a, b, c, d⟩⟩
  have hn := I1.hok.gone mk.new
  have bd : BindsTo ({ s1 with heap := h', toks := s1.toks } : Shared) fd ⟨[.ref e, u], []⟩ (ps.zip [.ref e, u]) := by
    have z := (Binds.all (K := X.K) hb) { s1 with heap := h', toks := s1.toks } [.ref e, u] I2.kIn (by rw [List.append_nil, h2]; rfl)
    rw [List.append_nil] at z
    exact z
  refine wpAny_call (codeAny_mono (F.run _ X.stack _ _ ⟨[.ref e, u], []⟩ [.ref e, u] [.ref e, v] (fun r H' => r = .non ∧ Q (.ref e) H') E0 ((hr.mono hj).make _ _ _) (I2.env0.make _ _ _) bd (.cons rfl (.cons ru .nil))
    ⟨e, v, rfl, upd_same, fun d hde hd' => ⟨rfl, ?_⟩⟩) fun rs s2 hq => ?_)
  · rw [upd_upd]
    have hd'' : H1 d = none := by rw [upd_ne hde] at hd'; exact hd'
    exact q e d _ (I1.freshX mk.new hex).1 hn hd'' ((same_new hn _).trans (same_new (by rw [upd_ne hde] at hd' ⊢; exact hd') _)) (by rw [upd_ne (Ne.symm hde)]; exact upd_same) upd_same
  cases rs with
  | error e => exact False.elim hq
  | ok fl =>
    cases fl with
    | ret u' =>
      obtain ⟨v', H', I', rv, e1, e2⟩ := I2.after hq
      subst e1
      exact ⟨rv, .ref e, H', I', rfl, e2⟩
    | next => exact False.elim hq
    | brk => exact False.elim hq
    | cont => exact False.elim hq
end
section
variable {X : Cx} {x : Str} {np cpos pos : Pos} {e0 : Expr} {t : TA} {name : Str} {j k : Nat} {E : XK}
def tRaiseI (C : Addr) (name : Str) (g : Heap) (E : XK) (t : TA) : TS := fun _ σ H => tNewJ C name g t σ H fun v H' => ∃ e d, v = .ref e ∧ g.get? e = none ∧ H' e = some (ExcD e (.ref C) d) ∧ E (.ref C) (some d) (del H' e)
theorem raiseI_of {C : Addr} {name : Str} {g : Heap} {E : XK} {v : V} {H1 : Hp} (h : ∀ d H', Same H1 H' → H1 d = none → H' d = some (.xd [(name, v)]) → E (.ref C) (some d) H') :
    ∀ e d H', g.get? e = none → H1 e = none → H1 d = none → Same H1 H' → H' e = some (ExcD e (.ref C) d) → H' d = some (.xd [(name, v)]) → ∃ e' d', V.ref e = .ref e' ∧ g.get? e' = none ∧ H' e' = some (ExcD e' (.ref C) d') ∧ E (.ref C) (some d') (del H' e') :=
  fun e d H' g0 n1 n2 s he hd => ⟨e, d, rfl, g0, he, h d _ (fun b o q => (del_ne (ne_of_none q n1)).trans (s b o q)) n2 ((del_ne (ne_of hd he (by intro z; cases z))).trans hd)⟩
theorem ps_raiseI (hm : X.mg x = some (.ref (cA X.K x))) (D : InitX X.prog X.w X.K X.mg X.base j (cA X.K x) name) (hr : Room k X.A)
    (hE : ∀ pins σ H s e d, Inv X pins σ H s → H e = some (ExcD e (.ref (cA X.K x)) d) → X.s₀.heap.get? e = none → E (.ref (cA X.K x)) (some d) (del H e) → X.xe (.ref e) s) (ha : PA X [e0] t) (hc : X.calm = true := by rfl) (hg : Gl X x := by rfl) (hex : X.ex = [] := by rfl) (hj : j + 1 ≤ k := by decide) (hd : (x == ("__debug__" : Str)) = false := by decide)
    (he : starEach [e0] X.env = (false, eval e0 X.env) :: starEach [] X.env := by rfl) (hpl : (backTo cpos (starEach [] X.env)).any (·.1) = false := by rfl) : PS X (.Raise (some (.Call (.Name x np) [e0] [] cpos)) none pos) (tRaiseI (cA X.K x) name X.s₀.heap E t) := by
  intro pins s σ H D' I h
  obtain ⟨f, fd, ps, F, Z, h2, hb⟩ := id D.ex
  obtain ⟨Dd, nm, qn, N, bs, sn, sub, ab, col, dd, k0, k1, k2, k3, k5, lk, qD⟩ := id Z.ob
  rw [arm_exec_Raise]
  refine wpAny_bind (wpAny_standAt (raise_inst (C := cA X.K x) (nm := nm) (q := qn) (N := N) (bs := bs) (bm := .ref Dd :: bmV) (hdct := true) (sn := sn) (sub := sub) (ab := ab) (col := col) (dd := dd) (k0 := k0) (k1 := k1) (k2 := k2) (k3 := k3) (k5 := k5) (newId := "ValueError.__new__") (by rfl) (I.ok.hd hc) ?_))
  refine wpAny_bind (thn (pe_newJ (pos := cpos) (np := np) hm D hr ha hg hex hj hd he hpl pins s σ H _ I h) fun u s1 hq => wpAny_bind (wpAny_standAt (wpAny_pure ?_)))
  · obtain ⟨y, H1, I1, ry, e, d, rfl, g0, he1, hE1⟩ := hq
    obtain rfl : u = Value.ref e := ry
    obtain ⟨oe, fs, ge, gc, gd, gdd, _, g1⟩ := (I1.hok e _ he1).1
    exact ⟨e, oe, fs, rfl, I1.kIn _ _ lk, ge, gc, gd, g1, hE pins σ H1 s1 e d I1 he1 g0 hE1⟩
end
/-! ### a def that may raise such a one -/
structure DefD (P : Program) (w : World) (K : PySem.W.Frag) (mg : Str → Option Value) (base : Heap) (k : Nat) (x : Str) (ps : List Str) (sp : Sp) : Prop where
  ex : ∃ (f : Addr) (fd : FuncData), FnOk P w K mg base (CXD P w) k f fd ps sp ∧ mg x = some (.ref f) ∧ PySem.W.keepIn K (.ref f) = true ∧ (∀ us : List Value, us.length = ps.length → bindArgs fd ⟨us, []⟩ = pure (ps.zip us))
theorem Src.okD {P : Program} {w : World} {K : PySem.W.Frag} {mg : Str → Option Value} {base : Heap} {x : Str} {st : Stmt} {N ps : List Str} {k : Nat} {sp : Sp} (S : Src K mg x st ps) (sc : FnScope N ps (defScope st)) (len : ∀ vs H Q E, sp vs H Q E → vs.length = ps.length)
    (hbody : ∀ (f : Addr) (cdv : Value) (A : Around) (outer : List Env) (s : Shared) (H : Hp) (vs : List V) (Q : VK) (E : XK), Room k (A.deeper (envOfC x (defScope st) s.heap.objs.size f cdv)) → sp vs H Q E →
      ∃ t, PSs (cxOf (CXD P w) P w K mg base N x (defScope st) f cdv A outer s H E) (defBody st) t ∧ t { nx := fun _ H' => Q .non H', rt := Q } (start N vs) H) : DefD P w K mg base (k + 1) x ps sp := by
  obtain ⟨f, fd, F, hm, hb⟩ := S.ex
  have kp := F.kp
  obtain ⟨oc, od, kV, doc, pm, an, cdv, ct, osl, rfl, lk, hcd⟩ := F.ex
  exact ⟨f, _, fn_of lk hcd sc len (hbody f cdv), hm, kp, hb⟩
theorem passD0 {P : Program} {w : World} {X : Cx} : Passes (CXD P w) X E0 := fun _ _ _ _ _ _ _ ⟨_, _, _, _, _, hE, _⟩ => hE.elim
theorem pe_fnD {X : Cx} {x : Str} {p pos : Pos} {e : Expr} {es : List Expr} {t : TA} {j k : Nat} {ps : List Str} {sp : Sp} (D : DefD X.prog X.w X.K X.mg X.base j x ps sp) (hr : Room k X.A) (ha : PA X (e :: es) t) (hg : Gl X x := by rfl) (hj : j ≤ k := by decide) (hdb : (x == ("__debug__" : Str)) = false := by decide)
    (he : starEach (e :: es) X.env = (false, eval e X.env) :: starEach es X.env := by rfl) (hpl : (backTo pos (starEach es X.env)).any (·.1) = false := by rfl) :
    PE X (.Call (.Name x p) (e :: es) [] pos) (tCall sp [] E0 t) := by
  obtain ⟨f, fd, F, hm, hk, hb⟩ := D.ex
  exact pe_call F (hr.mono hj) hg hm hk (.all hb) .nil passD0 ha hdb he hpl
/-- an exception that was caught, and its dict -/
def ExcC (e : Addr) (C : Value) (d : Addr) : HO := .ext fun h => ∃ o vs, h.get? e = some o ∧ o.cls = C ∧ o.data = .fields vs ∧ o.dict = some d
theorem IsX.c {H : Hp} {e d : Addr} {C : Value} (h : H e = some (ExcC e C d)) : IsX H e C := ⟨_, h, fun _ ⟨o, vs, a, b, c, _⟩ => ⟨o, vs, a, b, c⟩⟩
def tTryD (K : PySem.W.Frag) (Cx : Addr) (j : Nat) (ta : TA) (sp : Sp) (th : TS) : TS := fun D σ H => ta σ H fun vs H1 => sp vs H1 (fun _ H2 => D.nx σ H2) fun C dO H2 =>
  ∃ c d, C = .ref c ∧ dO = some d ∧ PySem.W.exmOne K (.ref c) (.ref Cx) = some true ∧ ∀ e, H2 e = none → th { nx := fun _ _ => False, rt := D.rt } (σ.set j (some (.ref e))) (upd H2 e (ExcC e (.ref c) d))
theorem ps_tryD {X : Cx} {fn n x : Str} {j lv k : Nat} {ps : List Str} {sp : Sp} {e0 : Expr} {es : List Expr} {ta : TA} {pf pc pst np hpos pos : Pos} {b₀ : Stmt} {suite : List Stmt} {th : TS}
    (Df : DefD X.prog X.w X.K X.mg X.base lv fn ps sp) (hr : Room k X.A) (hN : X.N.Nodup) (hj : X.N[j]? = some n) (hn : X.env.scope.names.lookup n = some .local)
    (hcx : X.mg x = some (.ref (cA X.K x))) (ha : PA X.nox (e0 :: es) ta) (hs : ∀ e, PSs (X.held e) (b₀ :: suite) th)
    (hlv : lv ≤ k := by decide) (hg : Gl X fn := by rfl) (hgx : Gl X x := by rfl) (hst : X.stack = X.env :: X.outer := by rfl) (hfr : X.env.frame = some X.env.locals := by rfl) (hex : X.ex = [] := by rfl) (hdb : (fn == ("__debug__" : Str)) = false := by decide) (hdx : (x == ("__debug__" : Str)) = false := by decide)
    (he : starEach (e0 :: es) X.env = (false, eval e0 X.env) :: starEach es X.env := by rfl) (hpl : (backTo pc (starEach es X.env)).any (·.1) = false := by rfl)
    (hsw : swapsWith (.Call (.Name fn pf) (e0 :: es) [] pc) none pst.line X.env = pure false := by rfl) :
    PS X (.Try [.Expr (.Call (.Name fn pf) (e0 :: es) [] pc) pst] [.ExceptHandler (some (.Name x np)) (some n) (b₀ :: suite) hpos] [] [] pos) (tTryD X.K (cA X.K x) j ta sp th) := by
  intro pins s σ H D I h
  obtain ⟨f, fd, F, hm, hk, hb⟩ := Df.ex
  refine wpAny_Try_except (wpAny_execs_cons (wpAny_Expr_any (wpAny_Call_Name_kw (ld_glob I hg hm (PySem.W.callWith_K (h₀ := X.base) I.ok.mod.kin hk ?_ he hpl) hdb)) I.quiet hsw))
  refine wpAny_mono (ha pc pins s σ H _ (I.wish _) h) (fun us s1 hq1 => ?_) fun _ _ z => False.elim z
  obtain ⟨vs, H1, J1, r, q⟩ := hq1
  have I1 := J1.unwish
  refine ⟨I1.kIn, ?_⟩
  have hl : us.length = ps.length := by rw [← r.length]; exact F.len _ _ _ _ q
  have bd := (Binds.all (K := X.K) hb) s1 us I1.kIn (by rw [List.append_nil]; exact hl)
  rw [List.append_nil] at bd
  refine wpAny_call (codeAny_mono (F.run X.A X.stack s1 H1 ⟨us, []⟩ us vs _ _ (hr.mono hlv) I1.env0 bd r q) fun rs s2 hq => ?_)
  cases rs with
  | ok fl =>
    cases fl with
    | ret u =>
      obtain ⟨v, H2, I2, rv, q2⟩ := I1.after hq
      exact wpAny_execs_nil (wpAny_execs_nil ⟨σ, H2, I2, q2⟩)
    | next => exact False.elim hq
    | brk => exact False.elim hq
    | cont => exact False.elim hq
  | error ev =>
    obtain ⟨e, C, d, H2, rfl, hE, os, bare, un, hok, ⟨new, free, oe, vs', T, oT, ts, a0, h1, h2, h3, h4, h5, h6, h7, h8, h9⟩, dk⟩ := hq
    obtain ⟨c, d0, rfl, ed, hsub, hth⟩ := hE
    cases ed
    have I2 : Inv X pins σ H2 s2 := I1.call' os un hok bare (fun b z => absurd z (by simp))
    have fresh : ∀ b, s1.heap.get? b = none → X.s₀.heap.get? b = none := fun b z => by
      cases q : X.s₀.heap.get? b with
      | none => rfl
      | some o =>
        obtain ⟨o', e1⟩ := I1.base.there b o q (by rw [hex]; simp)
        rw [z] at e1; cases e1
    have pnn : ∀ b, s1.heap.get? b = none → ∀ p ∈ X.pn ++ pins, p.1 ≠ b := fun b z p hp y => by
      have := (I1.pin p hp).1
      rw [y, z] at this; cases this
    have me : e ∈ e :: T :: frs X.stack := List.mem_cons_self
    have mT : T ∈ e :: T :: frs X.stack := List.mem_cons_of_mem _ List.mem_cons_self
    have nm : ∀ b, b ∉ frs X.stack → b ∉ [e, T] → b ∉ e :: T :: frs X.stack := fun b n m z => by
      rcases List.mem_cons.mp z with z | z
      · exact m (by rw [z]; simp)
      · rcases List.mem_cons.mp z with z | z
        · exact m (by rw [z]; simp)
        · exact n z
    have hh : ∀ b ∈ [e, T], X.s₀.heap.get? b = none ∧ H2 b = none ∧ ∀ p ∈ X.pn ++ pins, p.1 ≠ b := fun b z => by
      rcases List.mem_cons.mp z with z | z
      · subst z; exact ⟨fresh _ new, free, pnn _ new⟩
      · have z' : b = T := by simpa using z
        subst z'; exact ⟨fresh _ h5.1, h5.2, pnn _ h5.1⟩
    refine note_on (d := d) (B := PySem.W.hideAll s2.heap (e :: T :: frs X.stack)) (out := X.outer) (L := X.env.locals) (c := .ref c) (x0 := a0) (by rw [I.ok.frames, hst]) hfr
      ⟨fun b o q => PySem.W.of_hideAll _ q, PySem.W.hideAll_none _ me, by rw [← hst]; exact PySem.W.funFrames_hide I2.stack (fun env he a ha => List.mem_cons_of_mem _ (List.mem_cons_of_mem _ (List.mem_filterMap.mpr ⟨env, he, ha⟩))),
        oe, vs', T, oT, ts, h1, h2, h3, h4, PySem.W.hideAll_none _ mT, h6, h7, h8, h9⟩ dk fun h₄ held dk4 u4 => ?_
    refine flight_out held.1 held.2.2.1 held.2.2.2 dk4 fun h₅ w1 w2 w3 dk5 u5 => ?_
    have fly : Heap.FlyingW (PySem.W.hideAll s2.heap (e :: T :: frs X.stack)) (X.env :: X.outer) e (.ref c) a0 h₅ := ⟨w1, held.2.1, w2, w3⟩
    have F5 : Flew X [e, T] s2.heap h₅ := ⟨fun b o q n m => fly.1 b o (PySem.W.hideAll_get _ q (nm b n m)), u4.trans u5⟩
    have I5 := I2.flew F5 hh
    obtain ⟨ob, hob, hobc⟩ := fly.there
    refine wpAny_handleBy_cons (codeAny_handlers_test (ld_glob (I5.held e) hgx hcx ?_ hdx)) (by intro q; cases q)
    refine (PySem.W.exm_one (K := X.K) I5.kIn (xtype hob hobc) hsub).here ?_
    refine codeAny_handlers_suite_as (flight_out fly.1 fly.2.2.1 fly.2.2.2.at dk5 fun h₆ w4 w5 w6 dk6 u6 => ?_)
    have fly6 : Heap.FlyingW (PySem.W.hideAll s2.heap (e :: T :: frs X.stack)) (X.env :: X.outer) e (.ref c) a0 h₆ := ⟨w4, held.2.1, w5, w6⟩
    have F6 : Flew X [e, T] s2.heap h₆ := ⟨fun b o q n m => fly6.1 b o (PySem.W.hideAll_get _ q (nm b n m)), (u4.trans u5).trans u6⟩
    have I6 := I2.flew F6 hh
    obtain ⟨oe6, vs6, he6, hc6, hd6, _⟩ := fly6.first
    obtain ⟨o6, go6, gd6⟩ := dk6
    cases go6.symm.trans he6
    have I7 : Inv X pins σ (upd H2 e (ExcC e (.ref c) d)) { s2 with heap := h₆ } := by
      refine I6.track free (fresh e new) (fun z => ?_) (fun x c' q z => ?_) (pnn e new) ⟨⟨oe6, vs6, he6, hc6, hd6, gd6⟩, ⟨oe6, he6⟩, fun g1 g2 p k => ?_⟩
      · obtain ⟨m, ⟨o, es, ep, ho, hd, _⟩, _⟩ := I6.loc
        rw [← z] at ho
        have y := ho.symm.trans he6
        cases y
        rw [hd6] at hd; cases hd
      · obtain ⟨v, o, ho, hd⟩ := I6.cell x c' q
        rw [z] at ho
        have y := ho.symm.trans he6
        cases y
        rw [hd6] at hd; cases hd
      · obtain ⟨o, vs, a, b, d⟩ := p
        exact ⟨o, vs, k o a, b, d⟩
    refine store_ok I7 hN hj (.inl hn) (v := .ref e) rfl (fun s7 I8 => ?_) (.inr hn)
    refine wpAny_mono (hs e pins s7 _ _ _ (I8.held e) (hth e free)) (fun fl s8 q8 => ?_) fun _ _ z => False.elim z
    cases fl with
    | ret u =>
      obtain ⟨v, σ', H8, I9, rv, qv⟩ := q8
      have I9 := I9.unheld I.ok
      obtain ⟨m, hm', _⟩ := id I9.loc
      exact wpAny_nameGoes hn hm' (by rw [I.ok.kind]; rfl) fun h₉ m₉ hn₉ hs₉ => ⟨v, _, H8, I9.forgetLoc hn₉ hs₉, rv, qv⟩
    | next => obtain ⟨_, _, _, z⟩ := q8; exact False.elim z
    | brk => obtain ⟨_, _, _, z⟩ := q8; exact False.elim z
    | cont => obtain ⟨_, _, _, z⟩ := q8; exact False.elim z
section
variable {X : Cx} {o value : Expr} {name : Str} {pos pos' : Pos} {ta tv : TE} {C : Addr}
/-- e.name, a number in the dict of an exception -/
def tXFldC (C : Addr) (ta : TE) (name : Str) : TE := fun σ H Q => ta σ H fun x H1 => ∃ e d fs i, x = .ref e ∧ H1 e = some (ExcC e (.ref C) d) ∧ H1 d = some (.xd fs) ∧ fs.lookup name = some (.int i) ∧ Q (.int i) H1
theorem pe_xfldC (Z : ∃ f, XK3 X.K C f) (hnm : PySem.W.findIn X.K (.ref C) name = some none) (ha : PE X o ta) (hb : attributeBase o name X.env (eval o X.env) = eval o X.env := by rfl) : PE X (.Attribute o name pos) (tXFldC C ta name) := by
  obtain ⟨f, Z⟩ := Z
  intro pins s σ H Q I h
  refine attr_of hb (thn (ha pins s σ H _ I h) fun u s1 ⟨x, H1, I1, rx, e, d, fs, i, ex, ea, ed, l, q⟩ => ?_)
  subst ex
  obtain rfl : u = Value.ref e := rx
  obtain ⟨ob, vs, h1, h2, h3, h4⟩ := (I1.hok e _ ea).1
  obtain ⟨mA, hn, hr⟩ := I1.hok d _ ed
  have r := hr name
  rw [l] at r
  cases hv : mA name with
  | none => rw [hv] at r; exact False.elim r
  | some v =>
    rw [hv] at r
    obtain ⟨t, rfl⟩ := (show ∃ t, v = Value.int i t from r)
    exact xget I1.kIn Z hnm h1 h2 h3 h4 hn hv rfl ⟨.int i, H1, I1.tok _, ⟨t, rfl⟩, q⟩
end
end L2
namespace L2
open PySem PySem.Spec PyProof.Rows
open PySem.Builtin
theorem noFill_tup_mul : fillsNumberSlot (.type "tuple") "mul" = pure false :=
  PySem.fillsNumberSlot_seq (id := "tuple.__mul__") (r := some (.builtin "tuple.__rmul__")) F.slot_tuple_mul.lookup (by decide +kernel) F.slot_tuple_rmul.lookup (by decide +kernel)
theorem rep_tup : seqRepeat? (.type "tuple") = pure (some (.builtin "tuple.__mul__")) := by
  unfold seqRepeat?
  rw [PySem.seqSlot_of (T := "tuple") (name := "__mul__") (id := "tuple.__mul__") F.slot_tuple_mul.lookup (by decide +kernel), PySem.seqSlot_of (T := "tuple") (name := "__rmul__") (id := "tuple.__rmul__") F.slot_tuple_rmul.lookup (by decide +kernel)]
  rfl
theorem rmul_tup (a : Int) (t : Tok) (l : Addr) (dd : Option Addr) (its : Array Value) (n : Nat) (sl : Array (Option Value)) :
    Meets (Builtin.«int.__rmul__» ⟨[.int a t, .ref l], []⟩) (fun _ R s => s.heap.get? l = some { cls := .type "tuple", dict := dd, data := .seq its n, slots := sl } ∧ R (.ok (.ret Value.notImplemented)) s) :=
  .of_wp fun prog w A R s h => by
    obtain ⟨hp, g, d, tk, os⟩ := s
    obtain ⟨hl, h⟩ := h
    wp_walk
    exact ⟨_, rfl, h⟩
theorem mul_tup1 (t : Tok) (l : Addr) (v : Value) (dd : Option Addr) (n : Nat) (sl : Array (Option Value)) :
    Meets (Builtin.«tuple.__mul__» ⟨[.ref l, .int 1 t], []⟩) (fun _ R s => s.heap.get? l = some { cls := .type "tuple", dict := dd, data := .seq #[v] n, slots := sl } ∧ R (.ok (.ret (.ref l))) s) :=
  .of_wp fun prog w A R s h => by
    obtain ⟨hp, g, d, tk, os⟩ := s
    obtain ⟨hl, h⟩ := h
    unfold Builtin.«tuple.__mul__»
    wp_walk
    exact ⟨_, rfl, h⟩
theorem mul_tup2 (t : Tok) (l : Addr) (v : Value) (dd : Option Addr) (n : Nat) (sl : Array (Option Value)) :
    Meets (Builtin.«tuple.__mul__» ⟨[.ref l, .int 2 t], []⟩) (fun _ R s => s.heap.get? l = some { cls := .type "tuple", dict := dd, data := .seq #[v] n, slots := sl } ∧ R (.ok (.ret (.ref s.heap.objs.size))) { s with heap := s.heap.push { cls := .type "tuple", data := .seq #[v, v] } }) :=
  .of_wp fun prog w A R s h => by
    obtain ⟨hp, g, d, tk, os⟩ := s
    obtain ⟨hl, h⟩ := h
    unfold Builtin.«tuple.__mul__»
    wp_walk
    exact ⟨_, rfl, h⟩
/-- (v,) times 1 or 2 -/
def rRepT (K : PySem.W.Frag) : R2 := fun x y H Q => ∃ a k v, x = .ref a ∧ y = .int k ∧ SqT K H a [v] ∧ (k = 1 ∨ k = 2) ∧ (k = 1 → Q (.ref a) H) ∧ (k = 2 → ∀ p, H p = none → Q (.ref p) (upd H p (.tup [v, v])))
theorem op_repT {X : Cx} : OpR X (binaryOp .Mult) (rRepT X.K) := by
  intro pins s σ H x y v u Q I rx ry h
  obtain ⟨a, k, v0, rfl, rfl, ha, hk, q1, q2⟩ := h
  cases rx
  obtain ⟨t, rfl⟩ := ry
  obtain ⟨its, r1, p1, _⟩ := I.tuple ha
  obtain ⟨u0, rfl, ru⟩ := vals1 r1
  obtain ⟨⟨oc, od, odt, osl⟩, ho, hc, n, hd⟩ := p1
  dsimp only at hc hd
  subst hc hd
  refine wpAny_binaryOp_repeat_ref (T := "tuple") (U := "int") (by decide) ⟨_, ho, rfl⟩ (fun s' => typeIs_int s' k t) noFill_tup_mul F.fills_int_mul F.slot_int_rmul rep_tup F.slot_int_index.lookup
    (call_meets F.slot_int_rmul (typeIs_int s k t) F.entry_int_rmul (F.args_int_rmul_2 _ _) (rmul_tup k t a od _ n osl) ⟨ho, rfl, ⟨_, ho, rfl⟩, ?_⟩)
  rcases hk with rfl | rfl
  · exact call_meets F.slot_tuple_mul ⟨_, ho, rfl⟩ F.entry_tuple_mul (F.args_tuple_mul_2 _ _) (mul_tup1 t a u0 od n osl) ⟨ho, .ref a, H, I, rfl, q1 rfl⟩
  · refine call_meets F.slot_tuple_mul ⟨_, ho, rfl⟩ F.entry_tuple_mul (F.args_tuple_mul_2 _ _) (mul_tup2 t a u0 od n osl) ⟨ho, ?_⟩
    refine ⟨.ref s.heap.objs.size, _, I.laid (t' := s.toks) (o := .tup [v0, v0]) (fun b ob q => Heap.get?_push_of_some _ q) (Nat.le_refl _) ?_, rfl, q2 rfl _ (I.hok.fresh (Nat.le_refl _))⟩
    exact ⟨by rw [sizeLine_eq]; exact Nat.le_of_ble_eq_true rfl, _, .cons ru (.cons ru .nil), IsTup.new _ _⟩
/-- isinstance(e, (C, D, ..)), an exception by IsX -/
theorem call_isiXT {X : Cx} (K : PySem.W.Frag) (hK : X.K = K := by rfl) : CallR X (.builtin "isinstance") (fun xs H Q => ∃ (e C tp : Addr) (ds : List Addr) (b : Bool), xs = [.ref e, .ref tp] ∧ IsX H e (.ref C) ∧ XK1 K C ∧ H tp = some (.tup (ds.map V.ref)) ∧ PySem.W.kitAny K (.ref C) (ds.map Value.ref) = some b ∧ Q (.bl b) H) := by
  subst hK
  intro pins s σ H xs us Q I r h
  obtain ⟨e, C, tp, ds, b, rfl, ⟨φ, he, hφ⟩, Z, ht, kit, q⟩ := h
  obtain ⟨u, v, rfl, ru, rv⟩ := vals2 r
  cases ru
  cases rv
  obtain ⟨its, vi, pl, hz⟩ := I.tuple (SqT.of ht)
  have ei := vals_refs vi
  subst ei
  obtain ⟨o, ho, hc, n, hd⟩ := pl
  obtain ⟨c, dd, dt, sl⟩ := o
  dsimp only at hc hd
  subst hc hd
  exact PySem.W.kia_tup (kitx_exc Z) I.kIn (hφ _ (I.hok e _ he).1) ho kit (fun z => nomatch z) fun tk => ⟨.bl b, H, I.tok tk, rfl, q⟩
/-! ### things that are no rows -/
theorem kind_same {K : PySem.W.Frag} {H H' : Hp} {x : V} {T : String} (h : IsKind K H x T) (s : Same H H') : IsKind K H' x T := by
  obtain ⟨h, m⟩ := h
  refine ⟨?_, m⟩
  generalize Value.type T = t at h ⊢
  cases h with
  | non => exact .non
  | bl b => exact .bl b
  | int i => exact .int i
  | str w => exact .str w
  | flt f => exact .flt f
  | lst e => exact .lst (s _ _ e)
  | frz e => exact .frz (s _ _ e)
  | tup e => exact .tup (s _ _ e)
  | dK e => exact .dK (s _ _ e)
  | ins e a b c d f => exact .ins (s _ _ e) a b c d f
def withB : V → Int → Int → Bool
  | .int i, a, b => decide (a ≤ i) && decide (i ≤ b)
  | _, _, _ => false
def loE : Ek → Int → Int
  | .fee, _ => -1000000000000
  | .rate, _ => 0
  | .late, _ => 0
  | .still, d => d + 1
  | _, _ => 1
def hiE : Ek → Int
  | .rate => 1000000
  | .late => 1000000
  | .still => 1000000
  | _ => 1000000000000
def lenE : Ek → Nat
  | .turn => 1
  | _ => 2
def oddW : List Str := ["sell", "", "Pay", "outs", " pay"]
/-- refused at place 0, 1, 2 -/
def Bad0 (K : PySem.W.Frag) (H : Hp) (x : V) : Prop := (∃ T, IsKind K H x T ∧ T ≠ "tuple") ∨ ∃ r vs, x = .ref r ∧ H r = some (.tup vs) ∧ (vs = [] ∨ (∃ v0 rest T, vs = v0 :: rest ∧ IsKind K H v0 T ∧ T ≠ "str") ∨ (∃ w rest, vs = .str w :: rest ∧ w ∈ oddW) ∨ ∃ k rest, k ≠ Ek.base ∧ vs = .str k.word :: rest ∧ rest.length ≠ lenE k)
def dayV : V → Bool
  | .int i => decide (0 ≤ i) && decide (i ≤ 999999)
  | _ => false
def Bad1 (K : PySem.W.Frag) (H : Hp) (x : V) : Prop := ∃ r k v1 rest T, x = .ref r ∧ H r = some (.tup (.str (Ek.word k) :: v1 :: rest)) ∧ k ≠ .base ∧ rest.length + 1 = lenE k ∧ IsKind K H v1 T ∧ dayV v1 = false
def Bad2 (K : PySem.W.Frag) (H : Hp) (x : V) : Prop := ∃ r k d v2 T, x = .ref r ∧ H r = some (.tup [.str (Ek.word k), .int d, v2]) ∧ k ≠ .base ∧ k ≠ .turn ∧ (0 ≤ d ∧ d ≤ 999999) ∧ IsKind K H v2 T ∧ withB v2 (loE k d) (hiE k) = false
def BadP (K : PySem.W.Frag) (H : Hp) (x : V) (p : Int) : Prop := (Bad0 K H x ∧ p = 0) ∨ (Bad1 K H x ∧ p = 1) ∨ (Bad2 K H x ∧ p = 2)
section
variable {K : PySem.W.Frag} {H H' : Hp} {x : V} {p : Int}
theorem Bad0.same (h : Bad0 K H x) (s : Same H H') : Bad0 K H' x := by
  rcases h with ⟨T, h, n⟩ | ⟨r, vs, e1, e2, h⟩
  · exact .inl ⟨T, kind_same h s, n⟩
  · refine .inr ⟨r, vs, e1, s _ _ e2, ?_⟩
    rcases h with h | ⟨v0, rest, T, h1, h2, h3⟩ | h | h
    · exact .inl h
    · exact .inr (.inl ⟨v0, rest, T, h1, kind_same h2 s, h3⟩)
    · exact .inr (.inr (.inl h))
    · exact .inr (.inr (.inr h))
theorem Bad1.same (h : Bad1 K H x) (s : Same H H') : Bad1 K H' x := by
  obtain ⟨r, k, v1, rest, T, e1, e2, hb, hl, hk, hd⟩ := h
  exact ⟨r, k, v1, rest, T, e1, s _ _ e2, hb, hl, kind_same hk s, hd⟩
theorem Bad2.same (h : Bad2 K H x) (s : Same H H') : Bad2 K H' x := by
  obtain ⟨r, k, d, v2, T, e1, e2, hb, ht, hd, hk, hw⟩ := h
  exact ⟨r, k, d, v2, T, e1, s _ _ e2, hb, ht, hd, kind_same hk s, hw⟩
theorem BadP.same (h : BadP K H x p) (s : Same H H') : BadP K H' x p := by
  rcases h with ⟨h, e⟩ | ⟨h, e⟩ | ⟨h, e⟩
  · exact .inl ⟨h.same s, e⟩
  · exact .inr (.inl ⟨h.same s, e⟩)
  · exact .inr (.inr ⟨h.same s, e⟩)
theorem kn_non : IsKind K H .non "NoneType" := ⟨.non, by simp [kinds]⟩
theorem kn_bl (b : Bool) : IsKind K H (.bl b) "bool" := ⟨.bl b, by simp [kinds]⟩
theorem kn_int (i : Int) : IsKind K H (.int i) "int" := ⟨.int i, by simp [kinds]⟩
theorem kn_str (w : Str) : IsKind K H (.str w) "str" := ⟨.str w, by simp [kinds]⟩
theorem kn_lst {a : Addr} {xs : List V} (e : H a = some (.lst xs)) : IsKind K H (.ref a) "list" := ⟨.lst e, by simp [kinds]⟩
theorem kn_tup {a : Addr} {xs : List V} (e : H a = some (.tup xs)) : IsKind K H (.ref a) "tuple" := ⟨.tup e, by simp [kinds]⟩
theorem kn_dct {a : Addr} {kvs : List (Key × V)} (e : H a = some (.dK kvs)) : IsKind K H (.ref a) "dict" := ⟨.dK e, by simp [kinds]⟩
theorem kit_tup {T : String} (h : T ∈ kinds) : PySem.W.kitOne K (.type T) (.type "tuple") = some (decide (T = "tuple")) := by
  simp only [kinds, List.mem_cons, List.not_mem_nil, or_false] at h
  rcases h with rfl | rfl | rfl | rfl | rfl | rfl | rfl <;> rfl
theorem kit_str {T : String} (h : T ∈ kinds) : PySem.W.kitOne K (.type T) (.type "str") = some (decide (T = "str")) := by
  simp only [kinds, List.mem_cons, List.not_mem_nil, or_false] at h
  rcases h with rfl | rfl | rfl | rfl | rfl | rfl | rfl <;> rfl
end
end L2
/-! the reading, step by step -/
theorem L2.us1 {α : Type} {P : List α → Prop} (h : ∀ a, P [a]) : ∀ us : List α, us.length = 1 → P us
  | [a], _ => h a
theorem L2.us2 {α : Type} {P : List α → Prop} (h : ∀ a b, P [a, b]) : ∀ us : List α, us.length = 2 → P us
  | [a, b], _ => h a b
theorem L2.us3 {α : Type} {P : List α → Prop} (h : ∀ a b c, P [a, b, c]) : ∀ us : List α, us.length = 3 → P us
  | [a, b, c], _ => h a b c
theorem L2.qb {Q : L2.VK} {H : L2.Hp} {a b : Bool} (h : Q (.bl a) H) (e : a = b) : Q (.bl b) H := e ▸ h
local macro_rules | `(tactic| walk_at "cap") => `(tactic| repeat (first | exact trivial | refine ⟨⟨by first | exact Or.inl rfl | exact Or.inr rfl, by first | exact Or.inl rfl | exact Or.inr rfl, rfl⟩, ?_⟩))
local macro_rules | `(tactic| walk_at "sub") => `(tactic| repeat (first | exact trivial | refine ⟨rfl, ?_⟩))
local macro_rules | `(tactic| walk_at "has") => `(tactic| repeat (first | exact trivial | refine ⟨fun _ => ⟨_, rfl⟩, ?_⟩ | refine ⟨(fun z => by (rcases z with z | z <;> first | cases (show PySem.NameKind.local = PySem.NameKind.cell from z) | cases (show PySem.NameKind.local = PySem.NameKind.free from z) | cases (show PySem.NameKind.globalImplicit = PySem.NameKind.cell from z) | cases (show PySem.NameKind.globalImplicit = PySem.NameKind.free from z))), ?_⟩))
local macro_rules | `(tactic| walk_at "rd1") => `(tactic| first
  | with_reducible refine L2.iteT ?_
  | with_reducible refine L2.iteF ?_
  | refine ⟨_, rfl, ?_⟩
  | refine ⟨_, _, rfl, rfl, ?_⟩
  | refine ⟨_, _, rfl, ?_⟩
  | refine ⟨_, _, _, rfl, ?_⟩
  | refine ⟨rfl, ?_⟩
  | refine ⟨(⟨by decide, by decide⟩ : L2.CDiv _ _), ?_⟩
  | refine ⟨(show (0 : Int) < _ by first | decide | omega), ?_⟩
  | refine ⟨(⟨by decide, by decide, by decide⟩ : L2.CPow _ _), ?_⟩
  | refine ⟨(Or.inl ⟨by first | decide | omega, by first | decide | omega⟩ : L2.CMul _ _), ?_⟩
  | refine ⟨(Or.inr ⟨by first | decide | omega, by first | decide | omega⟩ : L2.CMul _ _), ?_⟩
  | refine ⟨_, _, rfl, .inl (by assumption), ?_⟩
  | refine ⟨_, _, _, _, rfl, rfl, L2.SqT.of (by assumption), rfl, ?_⟩
  | (refine ⟨_, _, _, _, rfl, (by assumption), (by first | omega | decide), (by first | omega | decide), (by first | omega | decide), ?_⟩; intro r' r0' r1')
  | (refine ⟨_, _, _, rfl, (by assumption), (by omega), (by omega), ?_⟩; intro r' r0' r1')
  | refine And.intro (by omega) ?_
  | refine And.intro (Nat.le_of_ble_eq_true rfl) ?_
  | with_reducible refine L2.iteNF ?_
  | with_reducible refine L2.iteNT ?_
  | with_reducible refine L2.ifI (fun _ => ?_) (fun _ => ?_)
  | with_reducible refine L2.ifNI (fun _ => ?_) (fun _ => ?_)
  | with_reducible refine L2.ifD (fun _ => ?_) (fun _ => ?_)
  | with_reducible refine L2.ifND (fun _ => ?_) (fun _ => ?_))
local macro_rules | `(tactic| walk_at "rd") => `(tactic| repeat' walk_at "rd1")
seal L2.PSs L2.PS L2.PE L2.PT L2.PA L2.PI L2.PG L2.PGs L2.PW L2.PC L2.PO
local macro_rules | `(tactic| walk_at "rd1") => `(tactic| first
  | with_reducible refine L2.ifST ?_
  | with_reducible refine L2.ifSF (by decide) ?_
  | with_reducible refine L2.ifSNT ?_
  | with_reducible refine L2.ifSNF (by decide) ?_
  | ((with_reducible refine And.intro (a := L2.CDivW _ _) ?_ ?_); (exact ⟨by first | decide | omega, by first | decide | omega⟩))
  | fail)
namespace My
open PySem L2
def top (i : Nat) : Stmt := PySem.Challenge.pw_loanroll_k32_no_entry.main.body.getD i (.Pass ⟨0, 0, 0, 0⟩)
abbrev s_init_BadEntry : Stmt := inClass (top 13) 0
structure Txt (K : PySem.W.Frag) (mg : Str → Option Value) : Prop where
  n_ValueError : mg "ValueError" = none
  n_bool : mg "bool" = none
  n_int : mg "int" = none
  n_isinstance : mg "isinstance" = none
  n_len : mg "len" = none
  n_list : mg "list" = none
  n_max : mg "max" = none
  n_min : mg "min" = none
  n_range : mg "range" = none
  n_str : mg "str" = none
  n_tuple : mg "tuple" = none
  m_Back : mg "Back" = some (.ref (cA K "Back"))
  m_BadEntry : mg "BadEntry" = some (.ref (cA K "BadEntry"))
  m_Due : mg "Due" = some (.ref (cA K "Due"))
  m_Entry : mg "Entry" = some (.ref (cA K "Entry"))
  m_Fee : mg "Fee" = some (.ref (cA K "Fee"))
  m_Late : mg "Late" = some (.ref (cA K "Late"))
  m_LoanError : mg "LoanError" = some (.ref (cA K "LoanError"))
  m_NoCount : mg "NoCount" = some (.ref (cA K "NoCount"))
  m_NoDay : mg "NoDay" = some (.ref (cA K "NoDay"))
  m_NoDays : mg "NoDays" = some (.ref (cA K "NoDays"))
  m_NoFlow : mg "NoFlow" = some (.ref (cA K "NoFlow"))
  m_NoLoan : mg "NoLoan" = some (.ref (cA K "NoLoan"))
  m_NoNumber : mg "NoNumber" = some (.ref (cA K "NoNumber"))
  m_NoRow : mg "NoRow" = some (.ref (cA K "NoRow"))
  m_NoTerms : mg "NoTerms" = some (.ref (cA K "NoTerms"))
  m_NoText : mg "NoText" = some (.ref (cA K "NoText"))
  m_Out : mg "Out" = some (.ref (cA K "Out"))
  m_Pay : mg "Pay" = some (.ref (cA K "Pay"))
  m_Rate : mg "Rate" = some (.ref (cA K "Rate"))
  m_Still : mg "Still" = some (.ref (cA K "Still"))
  m_TooMany : mg "TooMany" = some (.ref (cA K "TooMany"))
  m_Turn : mg "Turn" = some (.ref (cA K "Turn"))
  clE : ∀ k : Ek, Cls K (cA K k.cls)
  naE_amount : ∀ k : Ek, NoAttr K (cA K k.cls) "amount"
  naE_day : ∀ k : Ek, NoAttr K (cA K k.cls) "day"
  naE_rate : ∀ k : Ek, NoAttr K (cA K k.cls) "rate"
  naE_until : ∀ k : Ek, NoAttr K (cA K k.cls) "until"
  mi_Due : MkI K (cA K "Due")
  mi_Fee : MkI K (cA K "Fee")
  mi_Late : MkI K (cA K "Late")
  mi_Out : MkI K (cA K "Out")
  mi_Pay : MkI K (cA K "Pay")
  mi_Rate : MkI K (cA K "Rate")
  mi_Still : MkI K (cA K "Still")
  mi_Turn : MkI K (cA K "Turn")
  i_BadEntry : InitS K (cA K "BadEntry") "__init__" "BadEntry.__init__" s_init_BadEntry ["self", "place"]
  p_BadEntry_place : PySem.W.findIn K (.ref (cA K "BadEntry")) "place" = some none
  z_BadEntry : XK1 K (cA K "BadEntry")
  t_1 : PySem.W.kitAny K (.ref (cA K "BadEntry")) (((["NoDay", "NoCount", "NoTerms", "TooMany", "NoDays", "NoFlow"] : List Str).map (cA K)).map Value.ref) = some false
  t_2 : PySem.W.kitAny K (.ref (cA K "BadEntry")) (((["Back", "NoNumber", "NoText", "NoRow", "NoLoan"] : List Str).map (cA K)).map Value.ref) = some false
  e_BadEntry_LoanError : PySem.W.exmOne K (.ref (cA K "BadEntry")) (.ref (cA K "LoanError")) = some true
  k_BadEntry_BadEntry : PySem.W.kitOne K (.ref (cA K "BadEntry")) (.ref (cA K "BadEntry")) = some true
  k_BadEntry_ValueError : PySem.W.kitOne K (.ref (cA K "BadEntry")) (.type "ValueError") = some true
  g_LAST_DAY : ∃ t, mg "LAST_DAY" = some (.int 999999 t)
  g_MOST_AMOUNT : ∃ t, mg "MOST_AMOUNT" = some (.int 1000000000000 t)
  g_MOST_RATE : ∃ t, mg "MOST_RATE" = some (.int 1000000 t)
  g_WORDS : ∃ a, mg "WORDS" = some (.ref a) ∧ ∀ H, SqT K H a [.str "out", .str "fee", .str "turn", .str "pay", .str "due", .str "rate", .str "late", .str "still"]
abbrev s_is_whole : Stmt := top 16
abbrev s_Entry_init : Stmt := inClass (top 22) 0
abbrev s_Entry_word : Stmt := inClass (top 22) 1
abbrev s_Out_word : Stmt := inClass (top 25) 0
abbrev s_Fee_word : Stmt := inClass (top 26) 0
abbrev s_Pay_word : Stmt := inClass (top 27) 0
abbrev s_Due_word : Stmt := inClass (top 28) 0
abbrev s_Turn_word : Stmt := inClass (top 29) 0
abbrev s_Rate_word : Stmt := inClass (top 30) 0
abbrev s_Late_word : Stmt := inClass (top 31) 0
abbrev s_Still_word : Stmt := inClass (top 32) 1
abbrev s_has_form : Stmt := top 33
abbrev s__law_draw : Stmt := top 39
abbrev s__law_draws : Stmt := top 41
abbrev s__law_whole : Stmt := top 43
abbrev s__law_others : Stmt := top 52
abbrev s_is_day : Stmt := top 17
abbrev s_Entry_row : Stmt := inClass (top 22) 2
abbrev s_AmountEntry_init : Stmt := inClass (top 23) 0
abbrev s_AmountEntry_row : Stmt := inClass (top 23) 1
abbrev s_RateEntry_init : Stmt := inClass (top 24) 0
abbrev s_RateEntry_row : Stmt := inClass (top 24) 1
abbrev s_Still_init : Stmt := inClass (top 32) 0
abbrev s_Still_row : Stmt := inClass (top 32) 2
abbrev s_is_within : Stmt := top 34
abbrev s__law_cell : Stmt := top 40
abbrev s__law_pick : Stmt := top 42
abbrev s_is_third : Stmt := top 35
abbrev s__law_day : Stmt := top 44
abbrev s__law_amount : Stmt := top 45
abbrev s__law_thing : Stmt := top 47
abbrev s__law_first : Stmt := top 48
abbrev s__law_third : Stmt := top 50
abbrev s_made : Stmt := top 36
abbrev s__law_row : Stmt := top 46
abbrev s__law_second : Stmt := top 49
abbrev s_entry_of : Stmt := top 37
abbrev s__law_bad : Stmt := top 51
abbrev s__law_place : Stmt := top 53
abbrev s_law : Stmt := top 54
section
variable {P : Program} {w : World} {K : PySem.W.Frag} {mg : Str → Option Value} {base : Heap}
theorem sc_init_BadEntry : FnScope ["self", "place"] ["self", "place"] (defScope s_init_BadEntry) := ⟨rfl, rfl, rfl, by decide +kernel, rfl, by decide +kernel, by decide +kernel⟩
theorem d_init_BadEntry (T : Txt K mg) : InitX P w K mg base 1 (cA K "BadEntry") "place" := by
  obtain ⟨f, fd, F, Z, hb⟩ := T.i_BadEntry.ex
  refine ⟨f, fd, ["self", "place"], F.ok sc_init_BadEntry (fun vs H Q E h => ?_) (fun cdv A outer s H vs Q E hr h => ?_), Z, rfl, hb⟩
  · obtain ⟨e, v, rfl, he, q⟩ := h
    rfl
  obtain ⟨e, v, rfl, he, q⟩ := h
  refine ⟨_, pss_one (ps_xfld Z T.p_BadEntry_place (pv 0) (pv 1)), ?_⟩
  exact ⟨_, rfl, _, rfl, e, rfl, he, fun d hd hn => q d hd hn⟩
--@ is_whole
def sp_is_whole (K : PySem.W.Frag) : Sp := fun vs H Q _ => ∃ x T, vs = [x] ∧ IsKind K H x T ∧ Q (.bl (decide (T = "int"))) H
theorem sc_is_whole : FnScope ["thing"] ["thing"] (defScope s_is_whole) := ⟨rfl, rfl, rfl, by decide +kernel, rfl, by decide +kernel, by decide +kernel⟩
theorem d_is_whole (S : Src K mg "is_whole" s_is_whole ["thing"]) (T : Txt K mg)  : Def P w K mg base 1 "is_whole" ["thing"] (sp_is_whole K) := by
  refine S.ok sc_is_whole (fun vs H Q E h => ?_) (fun f cdv A outer s H vs Q E hr h => ?_)
  · obtain ⟨x, Tk, rfl, hk, h⟩ := h
    rfl
  obtain ⟨x, Tk, rfl, hk, h⟩ := h
  refine ⟨_, (pss_one (ps_ret (pe_and (pe_callB call_isinst rfl T.n_isinstance PyProof.Rows.boot_isinstance (pa_cons (pv 0) (pa_cons (pe_bltn (v := .ty "int") rfl T.n_int PyProof.Rows.boot_int rfl) pa_nil))) (pe_one (pe_not (pe_callB call_isinst rfl T.n_isinstance PyProof.Rows.boot_isinstance (pa_cons (pv 0) (pa_cons (pe_bltn (v := .ty "bool") rfl T.n_bool PyProof.Rows.boot_bool rfl) pa_nil)))))))), ?_⟩
  walk_at "rd"
  refine ⟨_, _, _, _, rfl, hk.1, kit_int hk.2, ?_⟩
  walk_at "rd"
  · refine ⟨_, _, _, _, rfl, hk.1, kit_bool hk.2, ?_⟩
    walk_at "rd"
    rename_i z
    exact qb h (by rcases z with rfl | rfl <;> decide)
  · rename_i z
    exact qb h (decide_eq_false fun q => z (.inl q))
--@ Entry_init
def sp_Entry_init (K : PySem.W.Frag) : Sp := fun vs H Q _ => ∃ (p C dx : Addr) (fs : List (Str × V)) (d : Int), vs = [.ref p, .int d] ∧ H p = some (.ins C dx fs) ∧ Cls K C ∧ NoAttr K C "day" ∧ fs.length < 1000 ∧ Q .non (upd H p (.ins C dx (putF "day" (.int d) fs)))
theorem sc_Entry_init : FnScope ["self", "day"] ["self", "day"] (defScope s_Entry_init) := ⟨rfl, rfl, rfl, by decide +kernel, rfl, by decide +kernel, by decide +kernel⟩
theorem d_Entry_init (x : Str) (S : MethS K (cA K x) "__init__" "Entry.__init__" s_Entry_init ["self", "day"]) (T : Txt K mg)  : DefM P w K mg base 1 (cA K x) "__init__" ["self", "day"] (sp_Entry_init K) := by

  refine S.ok sc_Entry_init (fun vs H Q E h => ?_) (fun f cdv A outer s H vs Q E hr h => ?_)
  · obtain ⟨p, C, dx, fs, d, rfl, e, hc, hn, hl, h⟩ := h
    rfl
  obtain ⟨p, C, dx, fs, d, rfl, e, hc, hn, hl, h⟩ := h
  refine ⟨_, (pss_one (ps_fld (pv 0) (pv 1) rfl)), ?_⟩
  walk_at "rd"
  refine ⟨p, C, dx, fs, rfl, e, hc, hn, hl, ?_⟩
  exact h
theorem dU_Entry_init (S : UnbS K (cA K "Entry") "__init__" "Entry.__init__" s_Entry_init ["self", "day"]) (T : Txt K mg)  : DefU P w K mg base 1 (cA K "Entry") "__init__" ["self", "day"] (sp_Entry_init K) := by

  refine S.ok sc_Entry_init (fun vs H Q E h => ?_) (fun f cdv A outer s H vs Q E hr h => ?_)
  · obtain ⟨p, C, dx, fs, d, rfl, e, hc, hn, hl, h⟩ := h
    rfl
  obtain ⟨p, C, dx, fs, d, rfl, e, hc, hn, hl, h⟩ := h
  refine ⟨_, (pss_one (ps_fld (pv 0) (pv 1) rfl)), ?_⟩
  walk_at "rd"
  refine ⟨p, C, dx, fs, rfl, e, hc, hn, hl, ?_⟩
  exact h
--@ Entry_word
def sp_e_word (k : Ek) (K : PySem.W.Frag) : Sp := fun vs H Q _ => ∃ (a : Addr), vs = [.ref a] ∧ Q (.str k.word) H
theorem sc_Entry_word : FnScope ["self"] ["self"] (defScope s_Entry_word) := ⟨rfl, rfl, rfl, by decide +kernel, rfl, by decide +kernel, by decide +kernel⟩
theorem d_Entry_word (kd : Ek) (hk : kd = .base) (S : MethS K (cA K kd.cls) "word" "Entry.word" s_Entry_word ["self"]) (T : Txt K mg)  : DefM P w K mg base 1 (cA K kd.cls) "word" ["self"] (sp_e_word kd K) := by
  subst hk
  refine S.ok sc_Entry_word (fun vs H Q E h => ?_) (fun f cdv A outer s H vs Q E hr h => ?_)
  · obtain ⟨a, rfl, h⟩ := h
    rfl
  obtain ⟨a, rfl, h⟩ := h
  refine ⟨_, (pss_one (ps_ret pe_str)), ?_⟩
  walk_at "rd"
  exact h
--@ Out_word

theorem sc_Out_word : FnScope ["self"] ["self"] (defScope s_Out_word) := ⟨rfl, rfl, rfl, by decide +kernel, rfl, by decide +kernel, by decide +kernel⟩
theorem d_Out_word (kd : Ek) (hk : kd = .out) (S : MethS K (cA K kd.cls) "word" "Out.word" s_Out_word ["self"]) (T : Txt K mg)  : DefM P w K mg base 1 (cA K kd.cls) "word" ["self"] (sp_e_word kd K) := by
  subst hk
  refine S.ok sc_Out_word (fun vs H Q E h => ?_) (fun f cdv A outer s H vs Q E hr h => ?_)
  · obtain ⟨a, rfl, h⟩ := h
    rfl
  obtain ⟨a, rfl, h⟩ := h
  refine ⟨_, (pss_one (ps_ret pe_str)), ?_⟩
  walk_at "rd"
  exact h
--@ Fee_word

theorem sc_Fee_word : FnScope ["self"] ["self"] (defScope s_Fee_word) := ⟨rfl, rfl, rfl, by decide +kernel, rfl, by decide +kernel, by decide +kernel⟩
theorem d_Fee_word (kd : Ek) (hk : kd = .fee) (S : MethS K (cA K kd.cls) "word" "Fee.word" s_Fee_word ["self"]) (T : Txt K mg)  : DefM P w K mg base 1 (cA K kd.cls) "word" ["self"] (sp_e_word kd K) := by
  subst hk
  refine S.ok sc_Fee_word (fun vs H Q E h => ?_) (fun f cdv A outer s H vs Q E hr h => ?_)
  · obtain ⟨a, rfl, h⟩ := h
    rfl
  obtain ⟨a, rfl, h⟩ := h
  refine ⟨_, (pss_one (ps_ret pe_str)), ?_⟩
  walk_at "rd"
  exact h
--@ Pay_word

theorem sc_Pay_word : FnScope ["self"] ["self"] (defScope s_Pay_word) := ⟨rfl, rfl, rfl, by decide +kernel, rfl, by decide +kernel, by decide +kernel⟩
theorem d_Pay_word (kd : Ek) (hk : kd = .pay) (S : MethS K (cA K kd.cls) "word" "Pay.word" s_Pay_word ["self"]) (T : Txt K mg)  : DefM P w K mg base 1 (cA K kd.cls) "word" ["self"] (sp_e_word kd K) := by
  subst hk
  refine S.ok sc_Pay_word (fun vs H Q E h => ?_) (fun f cdv A outer s H vs Q E hr h => ?_)
  · obtain ⟨a, rfl, h⟩ := h
    rfl
  obtain ⟨a, rfl, h⟩ := h
  refine ⟨_, (pss_one (ps_ret pe_str)), ?_⟩
  walk_at "rd"
  exact h
--@ Due_word

theorem sc_Due_word : FnScope ["self"] ["self"] (defScope s_Due_word) := ⟨rfl, rfl, rfl, by decide +kernel, rfl, by decide +kernel, by decide +kernel⟩
theorem d_Due_word (kd : Ek) (hk : kd = .due) (S : MethS K (cA K kd.cls) "word" "Due.word" s_Due_word ["self"]) (T : Txt K mg)  : DefM P w K mg base 1 (cA K kd.cls) "word" ["self"] (sp_e_word kd K) := by
  subst hk
  refine S.ok sc_Due_word (fun vs H Q E h => ?_) (fun f cdv A outer s H vs Q E hr h => ?_)
  · obtain ⟨a, rfl, h⟩ := h
    rfl
  obtain ⟨a, rfl, h⟩ := h
  refine ⟨_, (pss_one (ps_ret pe_str)), ?_⟩
  walk_at "rd"
  exact h
--@ Turn_word

theorem sc_Turn_word : FnScope ["self"] ["self"] (defScope s_Turn_word) := ⟨rfl, rfl, rfl, by decide +kernel, rfl, by decide +kernel, by decide +kernel⟩
theorem d_Turn_word (kd : Ek) (hk : kd = .turn) (S : MethS K (cA K kd.cls) "word" "Turn.word" s_Turn_word ["self"]) (T : Txt K mg)  : DefM P w K mg base 1 (cA K kd.cls) "word" ["self"] (sp_e_word kd K) := by
  subst hk
  refine S.ok sc_Turn_word (fun vs H Q E h => ?_) (fun f cdv A outer s H vs Q E hr h => ?_)
  · obtain ⟨a, rfl, h⟩ := h
    rfl
  obtain ⟨a, rfl, h⟩ := h
  refine ⟨_, (pss_one (ps_ret pe_str)), ?_⟩
  walk_at "rd"
  exact h
--@ Rate_word

theorem sc_Rate_word : FnScope ["self"] ["self"] (defScope s_Rate_word) := ⟨rfl, rfl, rfl, by decide +kernel, rfl, by decide +kernel, by decide +kernel⟩
theorem d_Rate_word (kd : Ek) (hk : kd = .rate) (S : MethS K (cA K kd.cls) "word" "Rate.word" s_Rate_word ["self"]) (T : Txt K mg)  : DefM P w K mg base 1 (cA K kd.cls) "word" ["self"] (sp_e_word kd K) := by
  subst hk
  refine S.ok sc_Rate_word (fun vs H Q E h => ?_) (fun f cdv A outer s H vs Q E hr h => ?_)
  · obtain ⟨a, rfl, h⟩ := h
    rfl
  obtain ⟨a, rfl, h⟩ := h
  refine ⟨_, (pss_one (ps_ret pe_str)), ?_⟩
  walk_at "rd"
  exact h
--@ Late_word

theorem sc_Late_word : FnScope ["self"] ["self"] (defScope s_Late_word) := ⟨rfl, rfl, rfl, by decide +kernel, rfl, by decide +kernel, by decide +kernel⟩
theorem d_Late_word (kd : Ek) (hk : kd = .late) (S : MethS K (cA K kd.cls) "word" "Late.word" s_Late_word ["self"]) (T : Txt K mg)  : DefM P w K mg base 1 (cA K kd.cls) "word" ["self"] (sp_e_word kd K) := by
  subst hk
  refine S.ok sc_Late_word (fun vs H Q E h => ?_) (fun f cdv A outer s H vs Q E hr h => ?_)
  · obtain ⟨a, rfl, h⟩ := h
    rfl
  obtain ⟨a, rfl, h⟩ := h
  refine ⟨_, (pss_one (ps_ret pe_str)), ?_⟩
  walk_at "rd"
  exact h
--@ Still_word

theorem sc_Still_word : FnScope ["self"] ["self"] (defScope s_Still_word) := ⟨rfl, rfl, rfl, by decide +kernel, rfl, by decide +kernel, by decide +kernel⟩
theorem d_Still_word (kd : Ek) (hk : kd = .still) (S : MethS K (cA K kd.cls) "word" "Still.word" s_Still_word ["self"]) (T : Txt K mg)  : DefM P w K mg base 1 (cA K kd.cls) "word" ["self"] (sp_e_word kd K) := by
  subst hk
  refine S.ok sc_Still_word (fun vs H Q E h => ?_) (fun f cdv A outer s H vs Q E hr h => ?_)
  · obtain ⟨a, rfl, h⟩ := h
    rfl
  obtain ⟨a, rfl, h⟩ := h
  refine ⟨_, (pss_one (ps_ret pe_str)), ?_⟩
  walk_at "rd"
  exact h
--@ has_form
theorem at0 {v : V} {rest : List V} : atI (v :: rest) 0 = some v := (atI_nat (show (v :: rest)[0]? = some v from rfl) : atI (v :: rest) ((0 : Nat) : Int) = some v)
theorem at1 {v u : V} {rest : List V} : atI (v :: u :: rest) 1 = some u := (atI_nat (show (v :: u :: rest)[1]? = some u from rfl) : atI (v :: u :: rest) ((1 : Nat) : Int) = some u)
theorem shape_of {k : Ek} {rest : List V} (hl : rest.length + 1 = lenE k) : rest = [] ∨ ∃ z, rest = [z] := by
  cases rest with
  | nil => exact .inl rfl
  | cons z r =>
    cases r with
    | nil => exact .inr ⟨z, rfl⟩
    | cons y r =>
      exfalso
      have : lenE k ≤ 2 := by cases k <;> decide
      simp at hl
      omega
def FormT (H : Hp) (x : V) : Prop := ∃ r k rest, x = .ref r ∧ H r = some (.tup (.str (Ek.word k) :: rest)) ∧ k ≠ .base ∧ rest.length = lenE k
def sp_has_form (K : PySem.W.Frag) : Sp := fun vs H Q _ => ∃ (x : V), vs = [x] ∧ ((Bad0 K H x ∧ Q (.bl false) H) ∨ (FormT H x ∧ Q (.bl true) H))
theorem sc_has_form : FnScope ["row", "word"] ["row"] (defScope s_has_form) := ⟨rfl, rfl, rfl, by decide +kernel, rfl, by decide +kernel, by decide +kernel⟩
theorem d_has_form (S : Src K mg "has_form" s_has_form ["row"]) (T : Txt K mg)  : Def P w K mg base 1 "has_form" ["row"] (sp_has_form K) := by
  refine S.ok sc_has_form (fun vs H Q E h => ?_) (fun f cdv A outer s H vs Q E hr h => ?_)
  · obtain ⟨x, rfl, hc⟩ := h
    rfl
  obtain ⟨x, rfl, hc⟩ := h
  refine ⟨_, (pss_cons (ps_if (PW.pt (pw_or (pt_not (pt_val (pe_callB call_isinst rfl T.n_isinstance PyProof.Rows.boot_isinstance (pa_cons (pv 0) (pa_cons (pe_bltn (v := .ty "tuple") rfl T.n_tuple PyProof.Rows.boot_tuple rfl) pa_nil))))) (pw_or1 (pt_cmpR op_eq (pe_callB call_len_seq rfl T.n_len PySem.boot_len (pa_cons (pv 0) pa_nil)) pe_int (nomark _)))))
      (pss_one (ps_ret pe_bl))
      pss_nil)
      (pss_cons (ps_set (i := 1) sc_has_form.nd rfl (by first | exact Or.inl rfl | exact Or.inr rfl) (pe_ix ix_tup (pv 0) pe_int (fun _ _ => rfl)))
      (pss_cons (ps_if (PW.pt (pw_or (pt_not (pt_val (pe_callB call_isinst rfl T.n_isinstance PyProof.Rows.boot_isinstance (pa_cons (pv 1) (pa_cons (pe_bltn (v := .ty "str") rfl T.n_str PyProof.Rows.boot_str rfl) pa_nil))))) (pw_or1 (pt_cmpR op_notIn_seq (pv 1) (pe_gtup T.g_WORDS) (by with_unfolding_all rfl)))))
      (pss_one (ps_ret pe_bl))
      pss_nil)
      (pss_one (ps_ret (pe_cmpR op_eq (pe_callB call_len_seq rfl T.n_len PySem.boot_len (pa_cons (pv 0) pa_nil)) (pe_ifExp (pt_cmpR op_eq (pv 1) pe_str (nomark _)) pe_int pe_int) (nomark _))))))), ?_⟩
  rcases hc with ⟨hf, h⟩ | ⟨⟨r, k, rest, rfl, e, hk, hl⟩, h⟩
  · rcases hf with ⟨Tk, kn, nt⟩ | ⟨r, vs, rfl, e, hf⟩
    · walk_at "rd"
      refine ⟨_, _, _, _, rfl, kn.1, kit_tup kn.2, ?_⟩
      rw [decide_eq_false nt]
      walk_at "rd"
      exact h
    · rcases hf with rfl | ⟨v0, rest, Tk, rfl, kn, nt⟩ | ⟨ww, rest, rfl, hw⟩ | ⟨k, rest, hk, rfl, hl⟩
      · walk_at "rd"
        refine ⟨_, _, _, _, rfl, .tup e, rfl, ?_⟩
        walk_at "rd"
        refine ⟨r, _, rfl, .inr (SqT.of e), ?_⟩
        walk_at "rd"
        · exact h
        · exact absurd rfl (by assumption)
      · walk_at "rd"
        refine ⟨_, _, _, _, rfl, .tup e, rfl, ?_⟩
        walk_at "rd"
        refine ⟨r, _, rfl, .inr (SqT.of e), ?_⟩
        walk_at "rd"
        refine ⟨r, _, _, _, rfl, rfl, SqT.of e, at0, ?_⟩
        walk_at "rd"
        refine ⟨_, _, _, _, rfl, kn.1, kit_str kn.2, ?_⟩
        rw [decide_eq_false nt]
        walk_at "rd"
        exact h
      · simp only [oddW, List.mem_cons, List.not_mem_nil, or_false] at hw
        rcases hw with rfl | rfl | rfl | rfl | rfl
        all_goals
          walk_at "rd"
          refine ⟨_, _, _, _, rfl, .tup e, rfl, ?_⟩
          walk_at "rd"
          refine ⟨r, _, rfl, .inr (SqT.of e), ?_⟩
          walk_at "rd"
          refine ⟨r, _, _, _, rfl, rfl, SqT.of e, at0, ?_⟩
          walk_at "rd"
          refine ⟨_, _, _, _, rfl, .str _, rfl, ?_⟩
          walk_at "rd"
          intro w0 hw0
          refine ⟨w0, _, rfl, .inr (hw0 _), rfl, rfl, ?_⟩
          refine ⟨_, rfl, ?_⟩
          refine ifB (fun z => ?_) (fun z => absurd z (by decide))
          walk_at "rd"
          exact h
      · cases k with
        | base => exact absurd rfl hk
        | _ =>
          dsimp only [Ek.word] at e
          dsimp only [lenE] at hl
          walk_at "rd"
          refine ⟨_, _, _, _, rfl, .tup e, rfl, ?_⟩
          walk_at "rd"
          refine ⟨r, _, rfl, .inr (SqT.of e), ?_⟩
          walk_at "rd"
          refine ⟨r, _, _, _, rfl, rfl, SqT.of e, at0, ?_⟩
          walk_at "rd"
          refine ⟨_, _, _, _, rfl, .str _, rfl, ?_⟩
          walk_at "rd"
          intro w0 hw0
          refine ⟨w0, _, rfl, .inr (hw0 _), rfl, rfl, ?_⟩
          refine ⟨_, rfl, ?_⟩
          refine ifB (fun z => absurd z (by decide)) (fun z => ?_)
          walk_at "rd"
          refine ⟨r, _, rfl, .inr (SqT.of e), ?_⟩
          walk_at "rd"
          refine qb h ?_
          symm
          refine decide_eq_false fun z => hl ?_
          have := V.int.inj z
          rw [List.length_cons] at this
          omega
  · cases k with
    | base => exact absurd rfl hk
    | _ =>
      dsimp only [Ek.word] at e
      dsimp only [lenE] at hl
      walk_at "rd"
      refine ⟨_, _, _, _, rfl, .tup e, rfl, ?_⟩
      walk_at "rd"
      refine ⟨r, _, rfl, .inr (SqT.of e), ?_⟩
      walk_at "rd"
      refine ⟨r, _, _, _, rfl, rfl, SqT.of e, at0, ?_⟩
      walk_at "rd"
      refine ⟨_, _, _, _, rfl, .str _, rfl, ?_⟩
      walk_at "rd"
      intro w0 hw0
      refine ⟨w0, _, rfl, .inr (hw0 _), rfl, rfl, ?_⟩
      refine ⟨_, rfl, ?_⟩
      refine ifB (fun z => absurd z (by decide)) (fun z => ?_)
      walk_at "rd"
      refine ⟨r, _, rfl, .inr (SqT.of e), ?_⟩
      walk_at "rd"
      refine qb h ?_
      symm
      refine decide_eq_true ?_
      rw [List.length_cons, hl]
      rfl
--@ _law_draw
def sp__law_draw (K : PySem.W.Frag) : Sp := fun vs H Q _ => ∃ (a : Addr) (ns : List Int) (k m : Int), vs = [.ref a, .int k, .int m] ∧ SqL K H a (ns.map V.int) ∧ 0 ≤ k ∧ k ≤ 1000000 ∧ 0 < m ∧ ∀ r, 0 ≤ r → r < m → Q (.int r) H
theorem sc__law_draw : FnScope ["_law_script", "_law_k", "_law_many", "_law_cell_here", "_law_one", "_law_other"] ["_law_script", "_law_k", "_law_many"] (defScope s__law_draw) := ⟨rfl, rfl, rfl, by decide +kernel, rfl, by decide +kernel, by decide +kernel⟩
theorem d__law_draw (S : Src K mg "_law_draw" s__law_draw ["_law_script", "_law_k", "_law_many"]) (T : Txt K mg)  : Def P w K mg base 1 "_law_draw" ["_law_script", "_law_k", "_law_many"] (sp__law_draw K) := by
  refine S.ok sc__law_draw (fun vs H Q E h => ?_) (fun f cdv A outer s H vs Q E hr h => ?_)
  · obtain ⟨a, ns, k, m, rfl, hS, h0, h1, hm, h⟩ := h
    rfl
  obtain ⟨a, ns, k, m, rfl, hS, h0, h1, hm, h⟩ := h
  refine ⟨_, (pss_cons (ps_set (i := 3) sc__law_draw.nd rfl (by first | exact Or.inl rfl | exact Or.inr rfl) pe_int)
      (pss_cons (ps_if (pt_cmpR op_gt (pe_callB call_len_seq rfl T.n_len PySem.boot_len (pa_cons (pv 0) pa_nil)) pe_int (nomark _))
      (pss_one (ps_set (i := 3) sc__law_draw.nd rfl (by first | exact Or.inl rfl | exact Or.inr rfl) (pe_ix ix_list (pv 0) (pe_op op_mod (pv 1) (pe_callB call_len_seq rfl T.n_len PySem.boot_len (pa_cons (pv 0) pa_nil))) (fun _ _ => rfl))))
      pss_nil)
      (pss_cons (ps_if (PW.pt (pw_and (pt_cmpR op_gt (pv 3) (pe_powc (v := 1000000000000000000) (by decide +kernel) ⟨by decide, by decide, by decide⟩) (nomark _)) (pw_and (pt_cmpR op_eq (pe_op op_mod (pv 3) pe_int) pe_int (nomark _)) (pw_and1 (pt_cmpR op_lt (pv 1) (pe_callB call_len_seq rfl T.n_len PySem.boot_len (pa_cons (pv 0) pa_nil)) (nomark _))))))
      (pss_one (ps_ret (pe_op op_mod (pe_op op_fdiv (pv 3) pe_int) (pv 2))))
      pss_nil)
      (pss_cons (ps_set (i := 4) sc__law_draw.nd rfl (by first | exact Or.inl rfl | exact Or.inr rfl) (pe_op op_mod (pe_op op_mul (pe_op op_add (pe_op op_mod (pv 3) pe_int) pe_int) (pe_op op_add pe_int (pe_op op_mul (pe_op op_mul pe_int (pv 1)) (pe_op op_add (pv 1) pe_int)))) pe_int))
      (pss_cons (ps_set (i := 5) sc__law_draw.nd rfl (by first | exact Or.inl rfl | exact Or.inr rfl) (pe_op op_mod (pe_op op_add (pe_op op_mul (pv 4) (pv 4)) pe_int) pe_int))
      (pss_one (ps_ret (pe_op op_mod (pe_op op_fdiv (pe_op op_mod (pe_op op_add (pv 4) (pe_op op_mul (pv 5) pe_int)) pe_int) pe_int) (pv 2))))))))), ?_⟩
  have fin : ∀ r : Int, Q (.int (r % m)) H := fun r => h _ (Int.emod_nonneg r (by omega)) (Int.emod_lt_of_pos r hm)
  walk_at "rd"
  · have hl : 0 < (ns.length : Int) := by
      have e := List.length_map (f := V.int) (as := ns)
      omega
    have e : k % ((ns.map V.int).length : Int) = k % (ns.length : Int) := by rw [List.length_map]
    refine ⟨a, _, _, _, rfl, rfl, hS, (by rw [e]; exact at_ints (Int.emod_nonneg k (by omega)) (Int.emod_lt_of_pos k hl)), ?_⟩
    walk_at "rd"
    all_goals exact fin _
  · walk_at "rd"
    all_goals exact fin _
--@ _law_draws
def sp__law_draws (K : PySem.W.Frag) : Sp := fun vs H Q _ => ∃ (c k : Int), vs = [.int c, .int k] ∧ 0 ≤ k ∧ k ≤ 41 ∧ ∀ (p : Addr) (ns : List Int) (H' : Hp), Same H H' → H p = none → H' p = some (.lst (ns.map V.int)) → (ns.length : Int) = k → (∀ x ∈ ns, (0 : Int) ≤ x) → Q (.ref p) H'
theorem sc__law_draws : FnScope ["_law_cell_here", "_law_many", "_law_found", "_law_number", "_law_one", "_law_other", "_law_k"] ["_law_cell_here", "_law_many"] (defScope s__law_draws) := ⟨rfl, rfl, rfl, by decide +kernel, rfl, by decide +kernel, by decide +kernel⟩
theorem d__law_draws (S : Src K mg "_law_draws" s__law_draws ["_law_cell_here", "_law_many"]) (T : Txt K mg)  : Def P w K mg base 1 "_law_draws" ["_law_cell_here", "_law_many"] (sp__law_draws K) := by
  refine S.ok sc__law_draws (fun vs H Q E h => ?_) (fun f cdv A outer s H vs Q E hr h => ?_)
  · obtain ⟨c, k, rfl, k0, k1, h⟩ := h
    rfl
  obtain ⟨c, k, rfl, k0, k1, h⟩ := h
  refine ⟨_, (pss_cons (ps_set (i := 2) sc__law_draws.nd rfl (by first | exact Or.inl rfl | exact Or.inr rfl) (pe_lst pa_nil))
      (pss_cons (ps_set (i := 3) sc__law_draws.nd rfl (by first | exact Or.inl rfl | exact Or.inr rfl) (pe_op op_fdiv (pv 0) pe_int))
      (pss_cons (ps_set (i := 4) sc__law_draws.nd rfl (by first | exact Or.inl rfl | exact Or.inr rfl) (pe_op op_add (pe_op op_mod (pv 0) pe_int) pe_int))
      (pss_cons (ps_set (i := 5) sc__law_draws.nd rfl (by first | exact Or.inl rfl | exact Or.inr rfl) (pe_op op_add (pe_op op_mod (pv 0) pe_int) pe_int))
      (pss_cons (ps_for PassesOwn.never rfl (pi_range1 rfl T.n_range (pa_cons (pv 1) pa_nil)) (pg_name (i := 6) sc__law_draws.nd rfl (by first | exact Or.inl rfl | exact Or.inr rfl))
      (pss_cons (ps_set (i := 4) sc__law_draws.nd rfl (by first | exact Or.inl rfl | exact Or.inr rfl) (pe_op op_mod (pe_op op_mul (pv 4) pe_int) pe_int))
      (pss_cons (ps_set (i := 5) sc__law_draws.nd rfl (by first | exact Or.inl rfl | exact Or.inr rfl) (pe_op op_mod (pe_op op_add (pe_op op_mul (pv 5) (pv 5)) (pv 4)) pe_int))
      (pss_one (ps_if (PW.pt (pw_and (pt_cmpR op_gt (pv 0) (pe_powc (v := 1000000000000000000) (by decide +kernel) ⟨by decide, by decide, by decide⟩) (nomark _)) (pw_and (pt_cmpR op_eq (pe_op op_mod (pv 0) pe_int) pe_int (nomark _)) (pw_and1 (pt_cmpR op_gt (pv 3) pe_int (nomark _))))))
      (pss_cons (ps_expr (pe_bm PySem.F.plainAttrs_list PySem.F.slot_list_append PySem.F.type_list_append mt_append (pv 2) (pa_cons (pe_op op_mod (pv 3) (pe_powc (v := 10000000000000) (by decide +kernel) ⟨by decide, by decide, by decide⟩)) pa_nil)))
      (pss_one (ps_set (i := 3) sc__law_draws.nd rfl (by first | exact Or.inl rfl | exact Or.inr rfl) (pe_op op_fdivW (pv 3) (pe_powc (v := 10000000000000) (by decide +kernel) ⟨by decide, by decide, by decide⟩)))))
      (pss_one (ps_expr (pe_bm PySem.F.plainAttrs_list PySem.F.slot_list_append PySem.F.type_list_append mt_append (pv 2) (pa_cons (pe_op op_fdiv (pe_op op_mod (pe_op op_add (pv 4) (pe_op op_mul (pv 5) pe_int)) pe_int) pe_int) pa_nil)))))))))
      (pss_one (ps_ret (pv 2)))))))), ?_⟩
  have sz := sizeLine_eq
  walk_at "rd"
  intro p np
  have sp := same_new np (.lst [])
  walk_at "rd"
  have o0 : 0 ≤ c % 2147483647 := Int.emod_nonneg _ (by decide)
  have o1 : c % 2147483647 < 2147483647 := Int.emod_lt_of_pos _ (by decide)
  have p0 : 0 ≤ c % 998244353 := Int.emod_nonneg _ (by decide)
  have p1 : c % 998244353 < 998244353 := Int.emod_lt_of_pos _ (by decide)
  refine for_range (fun i σ H' => ∃ (ns : List Int) (a b e : Int) (z : Option V), (Same H H' ∧ H' p = some (.lst (ns.map V.int))) ∧ ns.length = i ∧ (∀ x ∈ ns, (0 : Int) ≤ x) ∧ (0 ≤ a ∧ a < 4294967296 ∧ 0 ≤ b ∧ b < 4294967296) ∧ σ = [some (.int c), some (.int k), some (.ref p), some (.int e), some (.int a), some (.int b), z])
    ⟨[], _, _, _, _, ⟨sp, upd_same⟩, rfl, fun x hx => (by cases hx), ⟨by omega, by omega, by omega, by omega⟩, rfl⟩ ?_ ?_
  · rintro i σ H' hi ⟨ns, a, b, e, z, ⟨sH, eP⟩, nl, nn, ⟨a0, a1, b0, b1⟩, rfl⟩
    have ab := Int.emod_nonneg (a * 48271) (show (2147483647 : Int) ≠ 0 by decide)
    have ab1 := Int.emod_lt_of_pos (a * 48271) (show (0 : Int) < 2147483647 by decide)
    have bb := Int.emod_nonneg (b * b + a * 48271 % 2147483647) (show (998244353 : Int) ≠ 0 by decide)
    have bb1 := Int.emod_lt_of_pos (b * b + a * 48271 % 2147483647) (show (0 : Int) < 998244353 by decide)
    have snoc : ∀ y : Int, 0 ≤ y → ∀ x ∈ ns ++ [y], (0 : Int) ≤ x := fun y hy x hx => by
      rcases List.mem_append.mp hx with hx | hx
      · exact nn x hx
      · obtain rfl : x = y := by simpa using hx
        exact hy
    have eP' : ∀ y : Int, (upd H' p (.lst (ns.map V.int ++ [.int y]))) p = some (.lst ((ns ++ [y]).map V.int)) := fun y => by rw [List.map_append]; exact upd_same
    have i20 : i < 41 := by omega
    walk_at "rd"
    · refine ⟨.inl ⟨rfl, _, SqL.of eP⟩, ?_⟩
      walk_at "rd"
      refine ⟨p, _, _, rfl, rfl, eP, by rw [List.length_map]; omega, ?_⟩
      walk_at "rd"
      exact ⟨ns ++ [_], _, _, _, _, ⟨same_put sH np, eP' _⟩, by rw [List.length_append, nl]; rfl, snoc _ (Int.emod_nonneg _ (by decide)), ⟨ab, by omega, bb, by omega⟩, rfl⟩
    all_goals
      refine ⟨.inl ⟨rfl, _, SqL.of eP⟩, ?_⟩
      walk_at "rd"
      refine ⟨p, _, _, rfl, rfl, eP, by rw [List.length_map]; omega, ?_⟩
      exact ⟨ns ++ [_], _, _, _, _, ⟨same_put sH np, eP' _⟩, by rw [List.length_append, nl]; rfl, snoc _ (Int.ediv_nonneg (Int.emod_nonneg _ (by decide)) (by decide)), ⟨ab, by omega, bb, by omega⟩, rfl⟩
  · rintro σ H' ⟨ns, a, b, e, z, ⟨sH, eP⟩, nl, nn, _, rfl⟩
    walk_at "rd"
    exact h p ns H' sH np eP (by omega) nn
--@ _law_whole
def sp__law_whole (K : PySem.W.Frag) : Sp := fun vs H Q _ => ∃ i, vs = [.int i] ∧ Q (.bl true) H
theorem sc__law_whole : FnScope ["_law_found"] ["_law_found"] (defScope s__law_whole) := ⟨rfl, rfl, rfl, by decide +kernel, rfl, by decide +kernel, by decide +kernel⟩
theorem d__law_whole (S : Src K mg "_law_whole" s__law_whole ["_law_found"]) (T : Txt K mg)  : Def P w K mg base 1 "_law_whole" ["_law_found"] (sp__law_whole K) := by
  refine S.ok sc__law_whole (fun vs H Q E h => ?_) (fun f cdv A outer s H vs Q E hr h => ?_)
  · obtain ⟨i, rfl, h⟩ := h
    rfl
  obtain ⟨i, rfl, h⟩ := h
  refine ⟨_, (pss_one (ps_ret (pe_and (pe_callB call_isinst rfl T.n_isinstance PyProof.Rows.boot_isinstance (pa_cons (pv 0) (pa_cons (pe_bltn (v := .ty "int") rfl T.n_int PyProof.Rows.boot_int rfl) pa_nil))) (pe_one (pe_not (pe_callB call_isinst rfl T.n_isinstance PyProof.Rows.boot_isinstance (pa_cons (pv 0) (pa_cons (pe_bltn (v := .ty "bool") rfl T.n_bool PyProof.Rows.boot_bool rfl) pa_nil)))))))), ?_⟩
  walk_at "rd"
  refine ⟨_, _, _, _, rfl, .int i, kit_ii, ?_⟩
  walk_at "rd"
  refine ⟨_, _, _, _, rfl, .int i, kit_ib, ?_⟩
  walk_at "rd"
  exact h
--@ _law_others
def sp__law_others (K : PySem.W.Frag) : Sp := fun vs H Q _ => ∃ e, vs = [.ref e] ∧ IsX H e (.ref (cA K "BadEntry")) ∧ ∀ H', Same H H' → Q (.bl false) H'
theorem sc__law_others : FnScope ["_law_e"] ["_law_e"] (defScope s__law_others) := ⟨rfl, rfl, rfl, by decide +kernel, rfl, by decide +kernel, by decide +kernel⟩
theorem d__law_others (S : Src K mg "_law_others" s__law_others ["_law_e"]) (T : Txt K mg)  : DefH P w K mg base 1 "_law_others" ["_law_e"] (sp__law_others K) := by
  refine S.okH sc__law_others (fun vs H Q E h => ?_) (fun f cdv A outer s H vs Q E hr h => ?_)
  · obtain ⟨e, rfl, he, h⟩ := h
    rfl
  obtain ⟨e, rfl, he, h⟩ := h
  refine ⟨_, (pss_cons (ps_if (pt_val (pe_callB (call_isiXT K) rfl T.n_isinstance PyProof.Rows.boot_isinstance (pa_cons (pv 0) (pa_cons (pe_tup (pa_cons (pe_glob (v := .ref (cA K "NoDay")) rfl T.m_NoDay rfl) (pa_cons (pe_glob (v := .ref (cA K "NoCount")) rfl T.m_NoCount rfl) (pa_cons (pe_glob (v := .ref (cA K "NoTerms")) rfl T.m_NoTerms rfl) (pa_cons (pe_glob (v := .ref (cA K "TooMany")) rfl T.m_TooMany rfl) (pa_cons (pe_glob (v := .ref (cA K "NoDays")) rfl T.m_NoDays rfl) (pa_cons (pe_glob (v := .ref (cA K "NoFlow")) rfl T.m_NoFlow rfl) pa_nil))))))) pa_nil))))
      (pss_one (ps_ret pe_bl))
      pss_nil)
      (pss_one (ps_ret (pe_callB (call_isiXT K) rfl T.n_isinstance PyProof.Rows.boot_isinstance (pa_cons (pv 0) (pa_cons (pe_tup (pa_cons (pe_glob (v := .ref (cA K "Back")) rfl T.m_Back rfl) (pa_cons (pe_glob (v := .ref (cA K "NoNumber")) rfl T.m_NoNumber rfl) (pa_cons (pe_glob (v := .ref (cA K "NoText")) rfl T.m_NoText rfl) (pa_cons (pe_glob (v := .ref (cA K "NoRow")) rfl T.m_NoRow rfl) (pa_cons (pe_glob (v := .ref (cA K "NoLoan")) rfl T.m_NoLoan rfl) pa_nil)))))) pa_nil)))))), ?_⟩
  walk_at "rd"
  intro tp ht
  have s2 := same_new ht (.tup [.ref (cA K "NoDay"), .ref (cA K "NoCount"), .ref (cA K "NoTerms"), .ref (cA K "TooMany"), .ref (cA K "NoDays"), .ref (cA K "NoFlow")])
  walk_at "rd"
  refine ⟨e, _, tp, (["NoDay", "NoCount", "NoTerms", "TooMany", "NoDays", "NoFlow"] : List Str).map (cA K), _, rfl, he.same s2, T.z_BadEntry, upd_same, T.t_1, ?_⟩
  walk_at "rd"
  intro tq hq
  have s3 := same_new hq (.tup [.ref (cA K "Back"), .ref (cA K "NoNumber"), .ref (cA K "NoText"), .ref (cA K "NoRow"), .ref (cA K "NoLoan")])
  walk_at "rd"
  refine ⟨e, _, tq, (["Back", "NoNumber", "NoText", "NoRow", "NoLoan"] : List Str).map (cA K), _, rfl, he.same (s2.trans s3), T.z_BadEntry, upd_same, T.t_2, ?_⟩
  exact h _ (s2.trans s3)
--@ is_day
def dayB : V → Bool
  | .int i => decide (0 ≤ i) && decide (i ≤ 999999)
  | _ => false
def sp_is_day (K : PySem.W.Frag) : Sp := fun vs H Q _ => ∃ x T, vs = [x] ∧ IsKind K H x T ∧ Q (.bl (dayB x)) H
theorem sc_is_day : FnScope ["thing"] ["thing"] (defScope s_is_day) := ⟨rfl, rfl, rfl, by decide +kernel, rfl, by decide +kernel, by decide +kernel⟩
theorem d_is_day (S : Src K mg "is_day" s_is_day ["thing"]) (T : Txt K mg) (D_is_whole : Def P w K mg base 1 "is_whole" ["thing"] (sp_is_whole K)) : Def P w K mg base 2 "is_day" ["thing"] (sp_is_day K) := by
  refine S.ok sc_is_day (fun vs H Q E h => ?_) (fun f cdv A outer s H vs Q E hr h => ?_)
  · obtain ⟨x, Tk, rfl, hk, h⟩ := h
    rfl
  obtain ⟨x, Tk, rfl, hk, h⟩ := h
  refine ⟨_, (pss_one (ps_ret (pe_and (pe_fn D_is_whole hr (pa_cons (pv 0) pa_nil)) (pe_one (pe_chain op_le op_le pe_int (pv 0) (pe_gint T.g_LAST_DAY)))))), ?_⟩
  walk_at "rd"
  refine ⟨_, _, rfl, hk, ?_⟩
  walk_at "rd"
  · rename_i z
    subst z
    obtain ⟨i, rfl⟩ := ty_int hk.1
    walk_at "rd"
    · exact qb h (by simp [dayB, *])
    · exact qb h (by simp [dayB, *])
  · rename_i z
    refine qb h ?_
    cases x with
    | int i => exact absurd (int_ty hk.1) z
    | _ => rfl
--@ Entry_row
def sp_e_row (k : Ek) (K : PySem.W.Frag) : Sp := fun vs H Q _ => ∃ (a dx : Addr) (d x : Int), vs = [.ref a] ∧ IsEnt K H a dx k d x ∧ ∀ q, H q = none → Q (.ref q) (upd H q (.tup (rowV k d x)))
theorem sc_Entry_row : FnScope ["self"] ["self"] (defScope s_Entry_row) := ⟨rfl, rfl, rfl, by decide +kernel, rfl, by decide +kernel, by decide +kernel⟩
theorem d_Entry_row (kd : Ek) (hk : kd = .turn ∨ kd = .base) (S : MethS K (cA K kd.cls) "row" "Entry.row" s_Entry_row ["self"]) (T : Txt K mg) (D_e_word : ∀ k : Ek, DefM P w K mg base 1 (cA K k.cls) "word" ["self"] (sp_e_word k K)) : DefM P w K mg base 2 (cA K kd.cls) "row" ["self"] (sp_e_row kd K) := by

  refine S.ok sc_Entry_row (fun vs H Q E h => ?_) (fun f cdv A outer s H vs Q E hr h => ?_)
  · obtain ⟨a, dx, d, x, rfl, e, h⟩ := h
    rfl
  obtain ⟨a, dx, d, x, rfl, e, h⟩ := h
  refine ⟨_, (pss_one (ps_ret (pe_tup (pa_cons (pe_methE0 D_e_word T.clE hr (pv 0)) (pa_cons (pe_fld (pv 0) rfl) pa_nil))))), ?_⟩
  rcases hk with rfl | rfl
  · walk_at "rd"
    refine ⟨.turn, a, dx, _, rfl, e, entF_word .turn d x, a, rfl, ?_⟩
    walk_at "rd"
    refine ⟨a, _, dx, _, _, rfl, e, T.clE .turn, T.naE_day .turn, rfl, ?_⟩
    walk_at "rd"
    intro q nq
    exact h q nq
  · walk_at "rd"
    refine ⟨.base, a, dx, _, rfl, e, entF_word .base d x, a, rfl, ?_⟩
    walk_at "rd"
    refine ⟨a, _, dx, _, _, rfl, e, T.clE .base, T.naE_day .base, rfl, ?_⟩
    walk_at "rd"
    intro q nq
    exact h q nq
--@ AmountEntry_init
def sp_AmountEntry_init (K : PySem.W.Frag) : Sp := fun vs H Q _ => ∃ (p C dx : Addr) (d x : Int), vs = [.ref p, .int d, .int x] ∧ H p = some (.ins C dx []) ∧ Cls K C ∧ NoAttr K C "day" ∧ NoAttr K C "amount" ∧ Q .non (upd H p (.ins C dx [("day", .int d), ("amount", .int x)]))
theorem sc_AmountEntry_init : FnScope ["self", "day", "amount"] ["self", "day", "amount"] (defScope s_AmountEntry_init) := ⟨rfl, rfl, rfl, by decide +kernel, rfl, by decide +kernel, by decide +kernel⟩
theorem d_AmountEntry_init (x : Str) (S : MethS K (cA K x) "__init__" "AmountEntry.__init__" s_AmountEntry_init ["self", "day", "amount"]) (T : Txt K mg) (D_U_Entry_init : DefU P w K mg base 1 (cA K "Entry") "__init__" ["self", "day"] (sp_Entry_init K)) : DefM P w K mg base 2 (cA K x) "__init__" ["self", "day", "amount"] (sp_AmountEntry_init K) := by

  refine S.ok sc_AmountEntry_init (fun vs H Q E h => ?_) (fun f cdv A outer s H vs Q E hr h => ?_)
  · obtain ⟨p, C, dx, d, x, rfl, e, hc, n1, n2, h⟩ := h
    rfl
  obtain ⟨p, C, dx, d, x, rfl, e, hc, n1, n2, h⟩ := h
  refine ⟨_, (pss_cons (ps_expr (pe_unb D_U_Entry_init (pe_glob (v := .ref (cA K "Entry")) rfl T.m_Entry rfl) hr (pa_cons (pv 0) (pa_cons (pv 1) pa_nil))))
      (pss_one (ps_fld (pv 0) (pv 2) rfl))), ?_⟩
  walk_at "rd"
  refine ⟨p, C, dx, [], d, rfl, e, hc, n1, by decide, ?_⟩
  walk_at "rd"
  refine ⟨p, C, dx, _, rfl, upd_same, hc, n2, Nat.lt_of_le_of_lt (Nat.le_refl 1) (by decide), ?_⟩
  rw [upd_upd]
  exact h
--@ AmountEntry_row

theorem sc_AmountEntry_row : FnScope ["self"] ["self"] (defScope s_AmountEntry_row) := ⟨rfl, rfl, rfl, by decide +kernel, rfl, by decide +kernel, by decide +kernel⟩
theorem d_AmountEntry_row (kd : Ek) (hk : kd = .out ∨ kd = .fee ∨ kd = .pay ∨ kd = .due) (S : MethS K (cA K kd.cls) "row" "AmountEntry.row" s_AmountEntry_row ["self"]) (T : Txt K mg) (D_e_word : ∀ k : Ek, DefM P w K mg base 1 (cA K k.cls) "word" ["self"] (sp_e_word k K)) : DefM P w K mg base 2 (cA K kd.cls) "row" ["self"] (sp_e_row kd K) := by

  refine S.ok sc_AmountEntry_row (fun vs H Q E h => ?_) (fun f cdv A outer s H vs Q E hr h => ?_)
  · obtain ⟨a, dx, d, x, rfl, e, h⟩ := h
    rfl
  obtain ⟨a, dx, d, x, rfl, e, h⟩ := h
  refine ⟨_, (pss_one (ps_ret (pe_tup (pa_cons (pe_methE0 D_e_word T.clE hr (pv 0)) (pa_cons (pe_fld (pv 0) rfl) (pa_cons (pe_fld (pv 0) rfl) pa_nil)))))), ?_⟩
  rcases hk with rfl | rfl | rfl | rfl
  · walk_at "rd"
    refine ⟨.out, a, dx, _, rfl, e, entF_word .out d x, a, rfl, ?_⟩
    walk_at "rd"
    refine ⟨a, _, dx, _, _, rfl, e, T.clE .out, T.naE_day .out, rfl, ?_⟩
    walk_at "rd"
    refine ⟨a, _, dx, _, _, rfl, e, T.clE .out, T.naE_amount .out, rfl, ?_⟩
    walk_at "rd"
    intro q nq
    exact h q nq
  · walk_at "rd"
    refine ⟨.fee, a, dx, _, rfl, e, entF_word .fee d x, a, rfl, ?_⟩
    walk_at "rd"
    refine ⟨a, _, dx, _, _, rfl, e, T.clE .fee, T.naE_day .fee, rfl, ?_⟩
    walk_at "rd"
    refine ⟨a, _, dx, _, _, rfl, e, T.clE .fee, T.naE_amount .fee, rfl, ?_⟩
    walk_at "rd"
    intro q nq
    exact h q nq
  · walk_at "rd"
    refine ⟨.pay, a, dx, _, rfl, e, entF_word .pay d x, a, rfl, ?_⟩
    walk_at "rd"
    refine ⟨a, _, dx, _, _, rfl, e, T.clE .pay, T.naE_day .pay, rfl, ?_⟩
    walk_at "rd"
    refine ⟨a, _, dx, _, _, rfl, e, T.clE .pay, T.naE_amount .pay, rfl, ?_⟩
    walk_at "rd"
    intro q nq
    exact h q nq
  · walk_at "rd"
    refine ⟨.due, a, dx, _, rfl, e, entF_word .due d x, a, rfl, ?_⟩
    walk_at "rd"
    refine ⟨a, _, dx, _, _, rfl, e, T.clE .due, T.naE_day .due, rfl, ?_⟩
    walk_at "rd"
    refine ⟨a, _, dx, _, _, rfl, e, T.clE .due, T.naE_amount .due, rfl, ?_⟩
    walk_at "rd"
    intro q nq
    exact h q nq
--@ RateEntry_init
def sp_RateEntry_init (K : PySem.W.Frag) : Sp := fun vs H Q _ => ∃ (p C dx : Addr) (d x : Int), vs = [.ref p, .int d, .int x] ∧ H p = some (.ins C dx []) ∧ Cls K C ∧ NoAttr K C "day" ∧ NoAttr K C "rate" ∧ Q .non (upd H p (.ins C dx [("day", .int d), ("rate", .int x)]))
theorem sc_RateEntry_init : FnScope ["self", "day", "rate"] ["self", "day", "rate"] (defScope s_RateEntry_init) := ⟨rfl, rfl, rfl, by decide +kernel, rfl, by decide +kernel, by decide +kernel⟩
theorem d_RateEntry_init (x : Str) (S : MethS K (cA K x) "__init__" "RateEntry.__init__" s_RateEntry_init ["self", "day", "rate"]) (T : Txt K mg) (D_U_Entry_init : DefU P w K mg base 1 (cA K "Entry") "__init__" ["self", "day"] (sp_Entry_init K)) : DefM P w K mg base 2 (cA K x) "__init__" ["self", "day", "rate"] (sp_RateEntry_init K) := by

  refine S.ok sc_RateEntry_init (fun vs H Q E h => ?_) (fun f cdv A outer s H vs Q E hr h => ?_)
  · obtain ⟨p, C, dx, d, x, rfl, e, hc, n1, n2, h⟩ := h
    rfl
  obtain ⟨p, C, dx, d, x, rfl, e, hc, n1, n2, h⟩ := h
  refine ⟨_, (pss_cons (ps_expr (pe_unb D_U_Entry_init (pe_glob (v := .ref (cA K "Entry")) rfl T.m_Entry rfl) hr (pa_cons (pv 0) (pa_cons (pv 1) pa_nil))))
      (pss_one (ps_fld (pv 0) (pv 2) rfl))), ?_⟩
  walk_at "rd"
  refine ⟨p, C, dx, [], d, rfl, e, hc, n1, by decide, ?_⟩
  walk_at "rd"
  refine ⟨p, C, dx, _, rfl, upd_same, hc, n2, Nat.lt_of_le_of_lt (Nat.le_refl 1) (by decide), ?_⟩
  rw [upd_upd]
  exact h
--@ RateEntry_row

theorem sc_RateEntry_row : FnScope ["self"] ["self"] (defScope s_RateEntry_row) := ⟨rfl, rfl, rfl, by decide +kernel, rfl, by decide +kernel, by decide +kernel⟩
theorem d_RateEntry_row (kd : Ek) (hk : kd = .rate ∨ kd = .late) (S : MethS K (cA K kd.cls) "row" "RateEntry.row" s_RateEntry_row ["self"]) (T : Txt K mg) (D_e_word : ∀ k : Ek, DefM P w K mg base 1 (cA K k.cls) "word" ["self"] (sp_e_word k K)) : DefM P w K mg base 2 (cA K kd.cls) "row" ["self"] (sp_e_row kd K) := by

  refine S.ok sc_RateEntry_row (fun vs H Q E h => ?_) (fun f cdv A outer s H vs Q E hr h => ?_)
  · obtain ⟨a, dx, d, x, rfl, e, h⟩ := h
    rfl
  obtain ⟨a, dx, d, x, rfl, e, h⟩ := h
  refine ⟨_, (pss_one (ps_ret (pe_tup (pa_cons (pe_methE0 D_e_word T.clE hr (pv 0)) (pa_cons (pe_fld (pv 0) rfl) (pa_cons (pe_fld (pv 0) rfl) pa_nil)))))), ?_⟩
  rcases hk with rfl | rfl
  · walk_at "rd"
    refine ⟨.rate, a, dx, _, rfl, e, entF_word .rate d x, a, rfl, ?_⟩
    walk_at "rd"
    refine ⟨a, _, dx, _, _, rfl, e, T.clE .rate, T.naE_day .rate, rfl, ?_⟩
    walk_at "rd"
    refine ⟨a, _, dx, _, _, rfl, e, T.clE .rate, T.naE_rate .rate, rfl, ?_⟩
    walk_at "rd"
    intro q nq
    exact h q nq
  · walk_at "rd"
    refine ⟨.late, a, dx, _, rfl, e, entF_word .late d x, a, rfl, ?_⟩
    walk_at "rd"
    refine ⟨a, _, dx, _, _, rfl, e, T.clE .late, T.naE_day .late, rfl, ?_⟩
    walk_at "rd"
    refine ⟨a, _, dx, _, _, rfl, e, T.clE .late, T.naE_rate .late, rfl, ?_⟩
    walk_at "rd"
    intro q nq
    exact h q nq
--@ Still_init
def sp_Still_init (K : PySem.W.Frag) : Sp := fun vs H Q _ => ∃ (p C dx : Addr) (d x : Int), vs = [.ref p, .int d, .int x] ∧ H p = some (.ins C dx []) ∧ Cls K C ∧ NoAttr K C "day" ∧ NoAttr K C "until" ∧ Q .non (upd H p (.ins C dx [("day", .int d), ("until", .int x)]))
theorem sc_Still_init : FnScope ["self", "day", "until"] ["self", "day", "until"] (defScope s_Still_init) := ⟨rfl, rfl, rfl, by decide +kernel, rfl, by decide +kernel, by decide +kernel⟩
theorem d_Still_init (x : Str) (S : MethS K (cA K x) "__init__" "Still.__init__" s_Still_init ["self", "day", "until"]) (T : Txt K mg) (D_U_Entry_init : DefU P w K mg base 1 (cA K "Entry") "__init__" ["self", "day"] (sp_Entry_init K)) : DefM P w K mg base 2 (cA K x) "__init__" ["self", "day", "until"] (sp_Still_init K) := by

  refine S.ok sc_Still_init (fun vs H Q E h => ?_) (fun f cdv A outer s H vs Q E hr h => ?_)
  · obtain ⟨p, C, dx, d, x, rfl, e, hc, n1, n2, h⟩ := h
    rfl
  obtain ⟨p, C, dx, d, x, rfl, e, hc, n1, n2, h⟩ := h
  refine ⟨_, (pss_cons (ps_expr (pe_unb D_U_Entry_init (pe_glob (v := .ref (cA K "Entry")) rfl T.m_Entry rfl) hr (pa_cons (pv 0) (pa_cons (pv 1) pa_nil))))
      (pss_one (ps_fld (pv 0) (pv 2) rfl))), ?_⟩
  walk_at "rd"
  refine ⟨p, C, dx, [], d, rfl, e, hc, n1, by decide, ?_⟩
  walk_at "rd"
  refine ⟨p, C, dx, _, rfl, upd_same, hc, n2, Nat.lt_of_le_of_lt (Nat.le_refl 1) (by decide), ?_⟩
  rw [upd_upd]
  exact h
--@ Still_row

theorem sc_Still_row : FnScope ["self"] ["self"] (defScope s_Still_row) := ⟨rfl, rfl, rfl, by decide +kernel, rfl, by decide +kernel, by decide +kernel⟩
theorem d_Still_row (kd : Ek) (hk : kd = .still) (S : MethS K (cA K kd.cls) "row" "Still.row" s_Still_row ["self"]) (T : Txt K mg) (D_e_word : ∀ k : Ek, DefM P w K mg base 1 (cA K k.cls) "word" ["self"] (sp_e_word k K)) : DefM P w K mg base 2 (cA K kd.cls) "row" ["self"] (sp_e_row kd K) := by
  subst hk
  refine S.ok sc_Still_row (fun vs H Q E h => ?_) (fun f cdv A outer s H vs Q E hr h => ?_)
  · obtain ⟨a, dx, d, x, rfl, e, h⟩ := h
    rfl
  obtain ⟨a, dx, d, x, rfl, e, h⟩ := h
  refine ⟨_, (pss_one (ps_ret (pe_tup (pa_cons (pe_methE0 D_e_word T.clE hr (pv 0)) (pa_cons (pe_fld (pv 0) rfl) (pa_cons (pe_fld (pv 0) rfl) pa_nil)))))), ?_⟩
  · walk_at "rd"
    refine ⟨.still, a, dx, _, rfl, e, entF_word .still d x, a, rfl, ?_⟩
    walk_at "rd"
    refine ⟨a, _, dx, _, _, rfl, e, T.clE .still, T.naE_day .still, rfl, ?_⟩
    walk_at "rd"
    refine ⟨a, _, dx, _, _, rfl, e, T.clE .still, T.naE_until .still, rfl, ?_⟩
    walk_at "rd"
    intro q nq
    exact h q nq
--@ is_within
def sp_is_within (K : PySem.W.Frag) : Sp := fun vs H Q _ => ∃ (x : V) (T : String) (a b : Int), vs = [x, .int a, .int b] ∧ IsKind K H x T ∧ Q (.bl (withB x a b)) H
theorem sc_is_within : FnScope ["thing", "least", "most"] ["thing", "least", "most"] (defScope s_is_within) := ⟨rfl, rfl, rfl, by decide +kernel, rfl, by decide +kernel, by decide +kernel⟩
theorem d_is_within (S : Src K mg "is_within" s_is_within ["thing", "least", "most"]) (T : Txt K mg) (D_is_whole : Def P w K mg base 1 "is_whole" ["thing"] (sp_is_whole K)) : Def P w K mg base 2 "is_within" ["thing", "least", "most"] (sp_is_within K) := by
  refine S.ok sc_is_within (fun vs H Q E h => ?_) (fun f cdv A outer s H vs Q E hr h => ?_)
  · obtain ⟨x, Tk, a, b, rfl, hk, h⟩ := h
    rfl
  obtain ⟨x, Tk, a, b, rfl, hk, h⟩ := h
  refine ⟨_, (pss_one (ps_ret (pe_and (pe_fn D_is_whole hr (pa_cons (pv 0) pa_nil)) (pe_one (pe_chain op_le op_le (pv 1) (pv 0) (pv 2)))))), ?_⟩
  walk_at "rd"
  refine ⟨_, _, rfl, hk, ?_⟩
  walk_at "rd"
  · rename_i z
    subst z
    obtain ⟨i, rfl⟩ := ty_int hk.1
    walk_at "rd"
    · exact qb h (by simp [withB, *])
    · exact qb h (by simp [withB, *])
  · rename_i z
    refine qb h ?_
    cases x with
    | int i => exact absurd (int_ty hk.1) z
    | _ => rfl
--@ _law_cell
def sp__law_cell (K : PySem.W.Frag) : Sp := fun vs H Q _ => ∃ (a : Addr) (ns : List Int) (k : Int), vs = [.ref a, .int k] ∧ SqL K H a (ns.map V.int) ∧ 0 ≤ k ∧ k ≤ 990000 ∧ ∀ r, Q (.int r) H
theorem sc__law_cell : FnScope ["_law_script", "_law_k"] ["_law_script", "_law_k"] (defScope s__law_cell) := ⟨rfl, rfl, rfl, by decide +kernel, rfl, by decide +kernel, by decide +kernel⟩
theorem d__law_cell (S : Src K mg "_law_cell" s__law_cell ["_law_script", "_law_k"]) (T : Txt K mg) (D__law_draw : Def P w K mg base 1 "_law_draw" ["_law_script", "_law_k", "_law_many"] (sp__law_draw K)) : Def P w K mg base 2 "_law_cell" ["_law_script", "_law_k"] (sp__law_cell K) := by
  refine S.ok sc__law_cell (fun vs H Q E h => ?_) (fun f cdv A outer s H vs Q E hr h => ?_)
  · obtain ⟨a, ns, k, rfl, hS, k0, k1, h⟩ := h
    rfl
  obtain ⟨a, ns, k, rfl, hS, k0, k1, h⟩ := h
  refine ⟨_, (pss_cons (ps_if (PW.pt (pw_and (pt_cmpR op_lt (pv 1) (pe_callB call_len_seq rfl T.n_len PySem.boot_len (pa_cons (pv 0) pa_nil)) (nomark _)) (pw_and (pt_cmpR op_gt (pe_ix ix_list (pv 0) (pv 1) (fun _ _ => rfl)) (pe_powc (v := 1000000000000000000) (by decide +kernel) ⟨by decide, by decide, by decide⟩) (nomark _)) (pw_and1 (pt_cmpR op_eq (pe_op op_mod (pe_ix ix_list (pv 0) (pv 1) (fun _ _ => rfl)) pe_int) pe_int (nomark _))))))
      (pss_one (ps_ret (pe_ix ix_list (pv 0) (pv 1) (fun _ _ => rfl))))
      pss_nil)
      (pss_one (ps_ret (pe_op op_mul pe_int (pe_fn D__law_draw hr (pa_cons (pv 0) (pa_cons (pv 1) (pa_cons (pe_op op_mul pe_int (pe_powc (v := 100000000) (by decide +kernel) ⟨by decide, by decide, by decide⟩)) pa_nil)))))))), ?_⟩
  walk_at "rd"
  · rename_i q
    have at_ : atI (ns.map V.int) k = some (.int (ns.getD k.toNat 0)) := at_ints k0 (by rw [List.length_map] at q; exact q)
    refine ⟨a, _, _, _, rfl, rfl, hS, at_, ?_⟩
    walk_at "rd"
    · refine ⟨a, _, _, _, rfl, rfl, hS, at_, ?_⟩
      walk_at "rd"
      · refine ⟨a, _, _, _, rfl, rfl, hS, at_, ?_⟩
        walk_at "rd"
        exact h _
      · exact h _
    · exact h _
  · exact h _
--@ _law_pick
def sp__law_pick (K : PySem.W.Frag) : Sp := fun vs H Q _ => ∃ (c k m : Int), vs = [.int c, .int k, .int m] ∧ 0 ≤ k ∧ k ≤ 40 ∧ 0 < m ∧ ∀ r, 0 ≤ r → r < m → Q (.int r) H
theorem sc__law_pick : FnScope ["_law_cell_here", "_law_by", "_law_many"] ["_law_cell_here", "_law_by", "_law_many"] (defScope s__law_pick) := ⟨rfl, rfl, rfl, by decide +kernel, rfl, by decide +kernel, by decide +kernel⟩
theorem d__law_pick (S : Src K mg "_law_pick" s__law_pick ["_law_cell_here", "_law_by", "_law_many"]) (T : Txt K mg) (D__law_draws : Def P w K mg base 1 "_law_draws" ["_law_cell_here", "_law_many"] (sp__law_draws K)) : Def P w K mg base 2 "_law_pick" ["_law_cell_here", "_law_by", "_law_many"] (sp__law_pick K) := by
  refine S.okF sc__law_pick (fun vs H Q E h => ?_) (fun f cdv A outer s H vs Q E hr h => ?_)
  · obtain ⟨c, k, m, rfl, k0, k1, m0, h⟩ := h
    rfl
  obtain ⟨c, k, m, rfl, k0, k1, m0, h⟩ := h
  refine ⟨_, (pss_one (ps_ret (pe_op op_mod (pe_ix ix_list (pe_fn D__law_draws hr (pa_cons (pv 0) (pa_cons (pe_op op_add (pv 1) pe_int) pa_nil))) (pv 1) (fun _ _ => rfl)) (pv 2)))), ?_⟩
  walk_at "rd"
  intro p ns H' sH np eP nl nn
  walk_at "rd"
  refine ⟨p, _, _, _, rfl, rfl, SqL.of eP, at_ints k0 (by omega), ?_⟩
  walk_at "rd"
  first | exact ⟨sH, h _ (Int.emod_nonneg _ (by omega)) (Int.emod_lt_of_pos _ m0)⟩ | exact h _ (Int.emod_nonneg _ (by omega)) (Int.emod_lt_of_pos _ m0)
--@ is_third
def sp_is_third (K : PySem.W.Frag) : Sp := fun vs H Q _ => ∃ (k : Ek) (d : Int) (x : V) (T : String), vs = [.str k.word, .int d, x] ∧ k ≠ .turn ∧ k ≠ .base ∧ IsKind K H x T ∧ Q (.bl (withB x (loE k d) (hiE k))) H
theorem sc_is_third : FnScope ["word", "day", "thing"] ["word", "day", "thing"] (defScope s_is_third) := ⟨rfl, rfl, rfl, by decide +kernel, rfl, by decide +kernel, by decide +kernel⟩
theorem d_is_third (S : Src K mg "is_third" s_is_third ["word", "day", "thing"]) (T : Txt K mg) (D_is_within : Def P w K mg base 2 "is_within" ["thing", "least", "most"] (sp_is_within K)) : Def P w K mg base 3 "is_third" ["word", "day", "thing"] (sp_is_third K) := by
  refine S.okF sc_is_third (fun vs H Q E h => ?_) (fun f cdv A outer s H vs Q E hr h => ?_)
  · obtain ⟨k, d, x, Tk, rfl, hk, hb, kn, h⟩ := h
    rfl
  obtain ⟨k, d, x, Tk, rfl, hk, hb, kn, h⟩ := h
  refine ⟨_, (pss_cons (ps_if (pt_cmpR op_eq (pv 0) pe_str (nomark _))
      (pss_one (ps_ret (pe_fn D_is_within hr (pa_cons (pv 2) (pa_cons (pe_un un_neg (pe_gint T.g_MOST_AMOUNT)) (pa_cons (pe_gint T.g_MOST_AMOUNT) pa_nil))))))
      pss_nil)
      (pss_cons (ps_if (pt_cmpR op_in_seq (pv 0) (pe_tup (pa_cons pe_str (pa_cons pe_str pa_nil))) (by with_unfolding_all rfl))
      (pss_one (ps_ret (pe_fn D_is_within hr (pa_cons (pv 2) (pa_cons pe_int (pa_cons (pe_gint T.g_MOST_RATE) pa_nil))))))
      pss_nil)
      (pss_cons (ps_if (pt_cmpR op_eq (pv 0) pe_str (nomark _))
      (pss_one (ps_ret (pe_fn D_is_within hr (pa_cons (pv 2) (pa_cons (pe_op op_add (pv 1) pe_int) (pa_cons (pe_op op_add (pe_gint T.g_LAST_DAY) pe_int) pa_nil))))))
      pss_nil)
      (pss_one (ps_ret (pe_fn D_is_within hr (pa_cons (pv 2) (pa_cons pe_int (pa_cons (pe_gint T.g_MOST_AMOUNT) pa_nil))))))))), ?_⟩
  have sz := sizeLine_eq
  cases k with
  | base => exact absurd rfl hb
  | turn => exact absurd rfl hk
  | fee =>
    dsimp only [Ek.word]
    dsimp only [loE, hiE] at h
    walk_at "rd"
    refine ⟨x, Tk, _, _, rfl, kn, ?_⟩
    exact (show Same H H ∧ _ from ⟨Same.refl _, h⟩)
  | out =>
    dsimp only [Ek.word]
    dsimp only [loE, hiE] at h
    walk_at "rd"
    intro t nt
    have st := same_new nt (.tup [.str "rate", .str "late"])
    have kn' := kind_same kn st
    walk_at "rd"
    refine ⟨t, _, rfl, .inr (SqT.of upd_same), rfl, rfl, ?_⟩
    refine ⟨_, rfl, ?_⟩
    refine ifB (fun z => ?_) (fun z => ?_)
    · first
        | exact absurd z (by decide)
        | (walk_at "rd"
           refine ⟨x, Tk, _, _, rfl, kn', ?_⟩
           first | exact ⟨st, h⟩ | exact h)
    · first
        | exact absurd z (by decide)
        | (walk_at "rd"
           refine ⟨x, Tk, _, _, rfl, kn', ?_⟩
           first | exact ⟨st, h⟩ | exact h)
  | pay =>
    dsimp only [Ek.word]
    dsimp only [loE, hiE] at h
    walk_at "rd"
    intro t nt
    have st := same_new nt (.tup [.str "rate", .str "late"])
    have kn' := kind_same kn st
    walk_at "rd"
    refine ⟨t, _, rfl, .inr (SqT.of upd_same), rfl, rfl, ?_⟩
    refine ⟨_, rfl, ?_⟩
    refine ifB (fun z => ?_) (fun z => ?_)
    · first
        | exact absurd z (by decide)
        | (walk_at "rd"
           refine ⟨x, Tk, _, _, rfl, kn', ?_⟩
           first | exact ⟨st, h⟩ | exact h)
    · first
        | exact absurd z (by decide)
        | (walk_at "rd"
           refine ⟨x, Tk, _, _, rfl, kn', ?_⟩
           first | exact ⟨st, h⟩ | exact h)
  | due =>
    dsimp only [Ek.word]
    dsimp only [loE, hiE] at h
    walk_at "rd"
    intro t nt
    have st := same_new nt (.tup [.str "rate", .str "late"])
    have kn' := kind_same kn st
    walk_at "rd"
    refine ⟨t, _, rfl, .inr (SqT.of upd_same), rfl, rfl, ?_⟩
    refine ⟨_, rfl, ?_⟩
    refine ifB (fun z => ?_) (fun z => ?_)
    · first
        | exact absurd z (by decide)
        | (walk_at "rd"
           refine ⟨x, Tk, _, _, rfl, kn', ?_⟩
           first | exact ⟨st, h⟩ | exact h)
    · first
        | exact absurd z (by decide)
        | (walk_at "rd"
           refine ⟨x, Tk, _, _, rfl, kn', ?_⟩
           first | exact ⟨st, h⟩ | exact h)
  | rate =>
    dsimp only [Ek.word]
    dsimp only [loE, hiE] at h
    walk_at "rd"
    intro t nt
    have st := same_new nt (.tup [.str "rate", .str "late"])
    have kn' := kind_same kn st
    walk_at "rd"
    refine ⟨t, _, rfl, .inr (SqT.of upd_same), rfl, rfl, ?_⟩
    refine ⟨_, rfl, ?_⟩
    refine ifB (fun z => ?_) (fun z => ?_)
    · first
        | exact absurd z (by decide)
        | (walk_at "rd"
           refine ⟨x, Tk, _, _, rfl, kn', ?_⟩
           first | exact ⟨st, h⟩ | exact h)
    · first
        | exact absurd z (by decide)
        | (walk_at "rd"
           refine ⟨x, Tk, _, _, rfl, kn', ?_⟩
           first | exact ⟨st, h⟩ | exact h)
  | late =>
    dsimp only [Ek.word]
    dsimp only [loE, hiE] at h
    walk_at "rd"
    intro t nt
    have st := same_new nt (.tup [.str "rate", .str "late"])
    have kn' := kind_same kn st
    walk_at "rd"
    refine ⟨t, _, rfl, .inr (SqT.of upd_same), rfl, rfl, ?_⟩
    refine ⟨_, rfl, ?_⟩
    refine ifB (fun z => ?_) (fun z => ?_)
    · first
        | exact absurd z (by decide)
        | (walk_at "rd"
           refine ⟨x, Tk, _, _, rfl, kn', ?_⟩
           first | exact ⟨st, h⟩ | exact h)
    · first
        | exact absurd z (by decide)
        | (walk_at "rd"
           refine ⟨x, Tk, _, _, rfl, kn', ?_⟩
           first | exact ⟨st, h⟩ | exact h)
  | still =>
    dsimp only [Ek.word]
    dsimp only [loE, hiE] at h
    walk_at "rd"
    intro t nt
    have st := same_new nt (.tup [.str "rate", .str "late"])
    have kn' := kind_same kn st
    walk_at "rd"
    refine ⟨t, _, rfl, .inr (SqT.of upd_same), rfl, rfl, ?_⟩
    refine ⟨_, rfl, ?_⟩
    refine ifB (fun z => ?_) (fun z => ?_)
    · first
        | exact absurd z (by decide)
        | (walk_at "rd"
           refine ⟨x, Tk, _, _, rfl, kn', ?_⟩
           first | exact ⟨st, h⟩ | exact h)
    · first
        | exact absurd z (by decide)
        | (walk_at "rd"
           refine ⟨x, Tk, _, _, rfl, kn', ?_⟩
           first | exact ⟨st, h⟩ | exact h)
--@ _law_day
def sp__law_day (K : PySem.W.Frag) : Sp := fun vs H Q _ => ∃ (c : Int), vs = [.int c] ∧ ∀ r, 0 ≤ r → r ≤ 999999 → Q (.int r) H
theorem sc__law_day : FnScope ["_law_cell_here"] ["_law_cell_here"] (defScope s__law_day) := ⟨rfl, rfl, rfl, by decide +kernel, rfl, by decide +kernel, by decide +kernel⟩
theorem d__law_day (S : Src K mg "_law_day" s__law_day ["_law_cell_here"]) (T : Txt K mg) (D__law_pick : Def P w K mg base 2 "_law_pick" ["_law_cell_here", "_law_by", "_law_many"] (sp__law_pick K)) : Def P w K mg base 3 "_law_day" ["_law_cell_here"] (sp__law_day K) := by
  refine S.okF sc__law_day (fun vs H Q E h => ?_) (fun f cdv A outer s H vs Q E hr h => ?_)
  · obtain ⟨c, rfl, h⟩ := h
    rfl
  obtain ⟨c, rfl, h⟩ := h
  refine ⟨_, (pss_one (ps_ret (pe_ix ix_list (pe_lst (pa_cons (pe_fn D__law_pick hr (pa_cons (pv 0) (pa_cons pe_int (pa_cons (pe_powc (v := 1000000) (by decide +kernel) ⟨by decide, by decide, by decide⟩) pa_nil)))) (pa_cons (pe_fn D__law_pick hr (pa_cons (pv 0) (pa_cons pe_int (pa_cons pe_int pa_nil)))) (pa_cons pe_int (pa_cons pe_int pa_nil))))) (pe_op op_fdiv (pe_fn D__law_pick hr (pa_cons (pv 0) (pa_cons pe_int (pa_cons pe_int pa_nil)))) pe_int) (fun _ _ => rfl)))), ?_⟩
  have sz := sizeLine_eq
  walk_at "rd"
  intro a a0 a1
  walk_at "rd"
  intro b b0 b1
  walk_at "rd"
  intro l nl
  have sl := same_new nl (.lst [.int a, .int b, .int 0, .int 999999])
  walk_at "rd"
  intro i i0 i1
  walk_at "rd"
  obtain ⟨v, hv, hm⟩ := at_mem (xs := [.int a, .int b, .int 0, .int 999999]) (k := i / 2) (by omega) (by simp; omega)
  obtain ⟨r, rfl, r0, r1⟩ := (mem1 ⟨_, rfl, by omega, by omega⟩ (mem1 ⟨_, rfl, by omega, by omega⟩ (mem1 ⟨_, rfl, by omega, by omega⟩ (mem1 ⟨_, rfl, by omega, by omega⟩ mem0))) : ∀ v ∈ ([.int a, .int b, .int 0, .int 999999] : List V), ∃ w : Int, v = .int w ∧ 0 ≤ w ∧ w ≤ 999999) v hm
  refine ⟨l, _, _, _, rfl, rfl, SqL.of upd_same, hv, ?_⟩
  first | exact ⟨sl, h r r0 r1⟩ | exact h r r0 r1
--@ _law_amount
def sp__law_amount (K : PySem.W.Frag) : Sp := fun vs H Q _ => ∃ (c : Int), vs = [.int c] ∧ ∀ r, 1 ≤ r → r ≤ 1000000000000 → Q (.int r) H
theorem sc__law_amount : FnScope ["_law_cell_here", "_law_some"] ["_law_cell_here"] (defScope s__law_amount) := ⟨rfl, rfl, rfl, by decide +kernel, rfl, by decide +kernel, by decide +kernel⟩
theorem d__law_amount (S : Src K mg "_law_amount" s__law_amount ["_law_cell_here"]) (T : Txt K mg) (D__law_pick : Def P w K mg base 2 "_law_pick" ["_law_cell_here", "_law_by", "_law_many"] (sp__law_pick K)) : Def P w K mg base 3 "_law_amount" ["_law_cell_here"] (sp__law_amount K) := by
  refine S.okF sc__law_amount (fun vs H Q E h => ?_) (fun f cdv A outer s H vs Q E hr h => ?_)
  · obtain ⟨c, rfl, h⟩ := h
    rfl
  obtain ⟨c, rfl, h⟩ := h
  refine ⟨_, (pss_cons (ps_set (i := 1) sc__law_amount.nd rfl (by first | exact Or.inl rfl | exact Or.inr rfl) (pe_lst (pa_cons (pe_op op_add pe_int (pe_fn D__law_pick hr (pa_cons (pv 0) (pa_cons pe_int (pa_cons (pe_powc (v := 1000000000000) (by decide +kernel) ⟨by decide, by decide, by decide⟩) pa_nil))))) (pa_cons (pe_op op_add pe_int (pe_fn D__law_pick hr (pa_cons (pv 0) (pa_cons pe_int (pa_cons pe_int pa_nil))))) (pa_cons pe_int (pa_cons (pe_powc (v := 1000000000000) (by decide +kernel) ⟨by decide, by decide, by decide⟩) pa_nil))))))
      (pss_one (ps_ret (pe_ix ix_list (pv 1) (pe_op op_fdiv (pe_fn D__law_pick hr (pa_cons (pv 0) (pa_cons pe_int (pa_cons pe_int pa_nil)))) pe_int) (fun _ _ => rfl))))), ?_⟩
  have sz := sizeLine_eq
  walk_at "rd"
  intro a a0 a1
  walk_at "rd"
  intro b b0 b1
  walk_at "rd"
  intro l nl
  have sl := same_new nl (.lst [.int (1 + a), .int (1 + b), .int 1, .int 1000000000000])
  walk_at "rd"
  intro i i0 i1
  walk_at "rd"
  obtain ⟨v, hv, hm⟩ := at_mem (xs := [.int (1 + a), .int (1 + b), .int 1, .int 1000000000000]) (k := i / 2) (by omega) (by simp; omega)
  obtain ⟨r, rfl, r0, r1⟩ := (mem1 ⟨_, rfl, by omega, by omega⟩ (mem1 ⟨_, rfl, by omega, by omega⟩ (mem1 ⟨_, rfl, by omega, by omega⟩ (mem1 ⟨_, rfl, by omega, by omega⟩ mem0))) : ∀ v ∈ ([.int (1 + a), .int (1 + b), .int 1, .int 1000000000000] : List V), ∃ w : Int, v = .int w ∧ 1 ≤ w ∧ w ≤ 1000000000000) v hm
  refine ⟨l, _, _, _, rfl, rfl, SqL.of upd_same, hv, ?_⟩
  first | exact ⟨sl, h r r0 r1⟩ | exact h r r0 r1
--@ _law_thing
def sp__law_thing (K : PySem.W.Frag) : Sp := fun vs H Q _ => ∃ (c b : Int), vs = [.int c, .int b] ∧ 0 ≤ b ∧ b ≤ 39 ∧ ∀ (x : V) (T : String) (H' : Hp), Same H H' → IsKind K H' x T → dayV x = false → Q x H'
theorem sc__law_thing : FnScope ["_law_cell_here", "_law_by", "_law_some"] ["_law_cell_here", "_law_by"] (defScope s__law_thing) := ⟨rfl, rfl, rfl, by decide +kernel, rfl, by decide +kernel, by decide +kernel⟩
theorem d__law_thing (S : Src K mg "_law_thing" s__law_thing ["_law_cell_here", "_law_by"]) (T : Txt K mg) (D__law_pick : Def P w K mg base 2 "_law_pick" ["_law_cell_here", "_law_by", "_law_many"] (sp__law_pick K)) : Def P w K mg base 3 "_law_thing" ["_law_cell_here", "_law_by"] (sp__law_thing K) := by
  refine S.ok sc__law_thing (fun vs H Q E h => ?_) (fun f cdv A outer s H vs Q E hr h => ?_)
  · obtain ⟨c, b, rfl, b0, b1, h⟩ := h
    rfl
  obtain ⟨c, b, rfl, b0, b1, h⟩ := h
  refine ⟨_, (pss_cons (ps_set (i := 2) sc__law_thing.nd rfl (by first | exact Or.inl rfl | exact Or.inr rfl) (pe_lst (pa_cons pe_bl (pa_cons pe_bl (pa_cons pe_non (pa_cons pe_str (pa_cons pe_str (pa_cons (pe_lst (pa_cons pe_int pa_nil)) (pa_cons (pe_tup (pa_cons pe_int pa_nil)) (pa_cons pe_dnew (pa_cons (pe_op op_sub (pe_op op_sub pe_int pe_int) (pe_fn D__law_pick hr (pa_cons (pv 0) (pa_cons (pv 1) (pa_cons (pe_powc (v := 1000000000) (by decide +kernel) ⟨by decide, by decide, by decide⟩) pa_nil))))) pa_nil)))))))))))
      (pss_one (ps_ret (pe_ix ix_list (pv 2) (pe_fn D__law_pick hr (pa_cons (pv 0) (pa_cons (pe_op op_add (pv 1) pe_int) (pa_cons pe_int pa_nil)))) (fun _ _ => rfl))))), ?_⟩
  have sz := sizeLine_eq
  walk_at "rd"
  intro p1 n1
  have s1 := same_new n1 (.lst [.int 7])
  have e1 := at_new (.lst [.int 7]) n1
  generalize upd H p1 (.lst [.int 7]) = H1 at s1 e1 ⊢
  walk_at "rd"
  intro p2 n2
  have s2 := same_new n2 (.tup [.int 7])
  have e2 := at_new (.tup [.int 7]) n2
  generalize upd H1 p2 (.tup [.int 7]) = H2 at s2 e2 ⊢
  refine fun p3 n3 => ?_
  have s3 := same_new n3 (.dK [])
  have e3 := at_new (.dK []) n3
  generalize upd H2 p3 (.dK []) = H3 at s3 e3 ⊢
  walk_at "rd"
  intro g g0 g1
  walk_at "rd"
  intro p4 n4
  have s4 := same_new n4 (.lst [.bl true, .bl false, .non, .str "7", .str "", .ref p1, .ref p2, .ref p3, .int (0 - 1 - g)])
  have e4 := at_new (.lst [.bl true, .bl false, .non, .str "7", .str "", .ref p1, .ref p2, .ref p3, .int (0 - 1 - g)]) n4
  generalize upd H3 p4 (.lst [.bl true, .bl false, .non, .str "7", .str "", .ref p1, .ref p2, .ref p3, .int (0 - 1 - g)]) = H4 at s4 e4 ⊢
  have all : ∀ v ∈ ([.bl true, .bl false, .non, .str "7", .str "", .ref p1, .ref p2, .ref p3, .int (0 - 1 - g)] : List V), ∃ T, IsKind K H4 v T ∧ dayV v = false := mem1 ⟨_, kn_bl _, rfl⟩ (mem1 ⟨_, kn_bl _, rfl⟩ (mem1 ⟨_, kn_non, rfl⟩ (mem1 ⟨_, kn_str _, rfl⟩ (mem1 ⟨_, kn_str _, rfl⟩ (mem1 ⟨_, kn_lst ((s2.trans (s3.trans s4)) _ _ e1), rfl⟩ (mem1 ⟨_, kn_tup ((s3.trans s4) _ _ e2), rfl⟩ (mem1 ⟨_, kn_dct (s4 _ _ e3), rfl⟩ (mem1 ⟨_, kn_int _, (by
    show (decide (0 ≤ 0 - 1 - g) && _) = false
    rw [decide_eq_false (by omega), Bool.false_and])⟩ mem0))))))))
  walk_at "rd"
  intro j j0 j1
  obtain ⟨v, hv, hm⟩ := at_mem (xs := [.bl true, .bl false, .non, .str "7", .str "", .ref p1, .ref p2, .ref p3, .int (0 - 1 - g)]) j0 (by simpa using j1)
  obtain ⟨Tk, kn, nd⟩ := all v hm
  refine ⟨p4, _, _, _, rfl, rfl, SqL.of e4, hv, ?_⟩
  walk_at "rd"
  exact h v Tk H4 (s1.trans (s2.trans (s3.trans s4))) kn nd
--@ _law_first
def sp__law_first (K : PySem.W.Frag) : Sp := fun vs H Q _ => ∃ (c : Int) (r : Addr) (k : Ek) (v1 : V) (rest : List V), vs = [.int c, .ref r] ∧ H r = some (.tup (.str k.word :: v1 :: rest)) ∧ k ≠ .base ∧ rest.length + 1 = lenE k ∧ ∀ (x : V) (H' : Hp), Same H H' → Bad0 K H' x → Q x H'
theorem sc__law_first : FnScope ["_law_cell_here", "_law_row_here", "_law_way", "_law_word"] ["_law_cell_here", "_law_row_here"] (defScope s__law_first) := ⟨rfl, rfl, rfl, by decide +kernel, rfl, by decide +kernel, by decide +kernel⟩
theorem d__law_first (S : Src K mg "_law_first" s__law_first ["_law_cell_here", "_law_row_here"]) (T : Txt K mg) (D__law_pick : Def P w K mg base 2 "_law_pick" ["_law_cell_here", "_law_by", "_law_many"] (sp__law_pick K)) : Def P w K mg base 3 "_law_first" ["_law_cell_here", "_law_row_here"] (sp__law_first K) := by
  refine S.ok sc__law_first (fun vs H Q E h => ?_) (fun f cdv A outer s H vs Q E hr h => ?_)
  · obtain ⟨c, r, k, v1, rest, rfl, e, hk, hl, h⟩ := h
    rfl
  obtain ⟨c, r, k, v1, rest, rfl, e, hk, hl, h⟩ := h
  refine ⟨_, (pss_cons (ps_set (i := 2) sc__law_first.nd rfl (by first | exact Or.inl rfl | exact Or.inr rfl) (pe_fn D__law_pick hr (pa_cons (pv 0) (pa_cons pe_int (pa_cons pe_int pa_nil)))))
      (pss_cons (ps_if (pt_cmpR op_lt (pv 2) pe_int (nomark _))
      (pss_cons (ps_set (i := 3) sc__law_first.nd rfl (by first | exact Or.inl rfl | exact Or.inr rfl) (pe_ix ix_list (pe_lst (pa_cons pe_str (pa_cons pe_str (pa_cons pe_str (pa_cons pe_str (pa_cons pe_int (pa_cons pe_non (pa_cons (pe_tup (pa_cons pe_str pa_nil)) (pa_cons pe_str (pa_cons (pe_lst (pa_cons pe_str pa_nil)) (pa_cons pe_dnew pa_nil))))))))))) (pe_fn D__law_pick hr (pa_cons (pv 0) (pa_cons pe_int (pa_cons pe_int pa_nil)))) (fun _ _ => rfl)))
      (pss_one (ps_ret (pe_op op_catT (pe_tup (pa_cons (pv 3) pa_nil)) (pe_slice sl_tup (pv 1) (po_some pe_int) po_none)))))
      pss_nil)
      (pss_cons (ps_if (pt_cmpR op_eq (pv 2) pe_int (nomark _))
      (pss_one (ps_ret (pe_callTy call_list_of rfl T.n_list PyProof.Rows.boot_list (pa_cons (pv 1) pa_nil))))
      pss_nil)
      (pss_cons (ps_if (pt_cmpR op_eq (pv 2) pe_int (nomark _))
      (pss_one (ps_ret (pe_ix ix_list (pe_lst (pa_cons (pe_tup pa_nil) (pa_cons pe_non (pa_cons pe_int (pa_cons pe_str (pa_cons (pe_lst pa_nil) (pa_cons pe_bl (pa_cons pe_dnew pa_nil)))))))) (pe_fn D__law_pick hr (pa_cons (pv 0) (pa_cons pe_int (pa_cons pe_int pa_nil)))) (fun _ _ => rfl))))
      pss_nil)
      (pss_cons (ps_if (pt_cmpR op_eq (pv 2) pe_int (nomark _))
      (pss_one (ps_ret (pe_slice sl_tup (pv 1) po_none (po_some (pe_un un_neg pe_int)))))
      pss_nil)
      (pss_one (ps_ret (pe_op op_catT (pv 1) (pe_op op_repT (pe_tup (pa_cons (pe_ix ix_list (pe_lst (pa_cons (pe_ix ix_tup (pv 1) pe_int (fun _ _ => rfl)) (pa_cons pe_non (pa_cons (pe_tup pa_nil) pa_nil)))) (pe_fn D__law_pick hr (pa_cons (pv 0) (pa_cons pe_int (pa_cons pe_int pa_nil)))) (fun _ _ => rfl)) pa_nil)) (pe_op op_add pe_int (pe_op op_mod (pv 2) pe_int))))))))))), ?_⟩
  have sz := sizeLine_eq
  walk_at "rd"
  intro way w0 w1
  walk_at "rd"
  · intro p1 n1
    have s1 := same_new n1 (.tup [.str "pay"])
    have e1 := at_new (.tup [.str "pay"]) n1
    generalize upd H p1 (.tup [.str "pay"]) = H1 at s1 e1 ⊢
    walk_at "rd"
    intro p2 n2
    have s2 := same_new n2 (.lst [.str "pay"])
    have e2 := at_new (.lst [.str "pay"]) n2
    generalize upd H1 p2 (.lst [.str "pay"]) = H2 at s2 e2 ⊢
    walk_at "rd"
    refine fun p3 n3 => ?_
    have s3 := same_new n3 (.dK [])
    have e3 := at_new (.dK []) n3
    generalize upd H2 p3 (.dK []) = H3 at s3 e3 ⊢
    walk_at "rd"
    intro l4 n4
    have s4 := same_new n4 (.lst [.str "sell", .str "", .str "Pay", .str "outs", .int 7, .non, .ref p1, .str " pay", .ref p2, .ref p3])
    have e4 := at_new (.lst [.str "sell", .str "", .str "Pay", .str "outs", .int 7, .non, .ref p1, .str " pay", .ref p2, .ref p3]) n4
    generalize upd H3 l4 (.lst [.str "sell", .str "", .str "Pay", .str "outs", .int 7, .non, .ref p1, .str " pay", .ref p2, .ref p3]) = H4 at s4 e4 ⊢
    have all : ∀ v ∈ ([.str "sell", .str "", .str "Pay", .str "outs", .int 7, .non, .ref p1, .str " pay", .ref p2, .ref p3] : List V), (∃ T, IsKind K H4 v T ∧ T ≠ "str") ∨ ∃ w, v = .str w ∧ w ∈ oddW := mem1 (.inr ⟨_, rfl, by decide⟩) (mem1 (.inr ⟨_, rfl, by decide⟩) (mem1 (.inr ⟨_, rfl, by decide⟩) (mem1 (.inr ⟨_, rfl, by decide⟩) (mem1 (.inl ⟨_, kn_int _, by decide⟩) (mem1 (.inl ⟨_, kn_non, by decide⟩) (mem1 (.inl ⟨_, kn_tup ((s2.trans (s3.trans s4)) _ _ e1), by decide⟩)
      (mem1 (.inr ⟨_, rfl, by decide⟩) (mem1 (.inl ⟨_, kn_lst ((s3.trans s4) _ _ e2), by decide⟩) (mem1 (.inl ⟨_, kn_dct (s4 _ _ e3), by decide⟩) mem0)))))))))
    have s04 := s1.trans (s2.trans (s3.trans s4))
    walk_at "rd"
    intro i i0 i1
    obtain ⟨v, hv, hm⟩ := at_mem (xs := [.str "sell", .str "", .str "Pay", .str "outs", .int 7, .non, .ref p1, .str " pay", .ref p2, .ref p3]) i0 (by simpa using i1)
    have hb := all v hm
    refine ⟨l4, _, _, _, rfl, rfl, SqL.of e4, hv, ?_⟩
    walk_at "rd"
    intro q5 n5
    have s5 := same_new n5 (.tup [v])
    have e5 := at_new (.tup [v]) n5
    generalize upd H4 q5 (.tup [v]) = H5 at s5 e5 ⊢
    have er5 := (s04.trans s5) _ _ e
    have fin : ∀ (p : Addr) (G : Hp) (tl : List V), Same H5 G → G p = some (.tup (v :: tl)) → Q (.ref p) G := fun p G tl sG ep => by
      refine h (.ref p) G (s04.trans (s5.trans sG)) (.inr ⟨p, _, rfl, ep, ?_⟩)
      rcases hb with ⟨Tk, kn, nt⟩ | ⟨w', rfl, hw⟩
      · exact .inr (.inl ⟨v, tl, Tk, rfl, kind_same kn (s5.trans sG), nt⟩)
      · exact .inr (.inr (.inl ⟨w', tl, rfl, hw⟩))
    rcases shape_of hl with rfl | ⟨z, rfl⟩
    · walk_at "rd"
      refine ⟨r, _, rfl, SqT.of er5, (by intro z; exact absurd (show HT.sIx 2 0 (some 1) = 0 from z.1) (by decide)), ?_⟩
      intro q6 n6
      have e6 : (upd H5 q6 (.tup (cutV [V.str k.word, v1] (some 1) none))) q6 = some (.tup [v1]) := upd_same
      refine ⟨q5, q6, _, _, rfl, rfl, SqT.of (same_new n6 _ _ _ e5), SqT.of e6, (by intro z; cases z), Nat.le_trans (Nat.le_of_ble_eq_true (by decide) : 2 ≤ 16777216) (by rw [sz]; exact Nat.le_refl _), fun z => absurd z (by intro z; cases z), fun _ p np => ?_⟩
      exact fin p _ _ ((same_new n6 _).trans (same_new np _)) upd_same
    · walk_at "rd"
      refine ⟨r, _, rfl, SqT.of er5, (by intro z; exact absurd (show HT.sIx 3 0 (some 1) = 0 from z.1) (by decide)), ?_⟩
      intro q6 n6
      have e6 : (upd H5 q6 (.tup (cutV [V.str k.word, v1, z] (some 1) none))) q6 = some (.tup [v1, z]) := upd_same
      refine ⟨q5, q6, _, _, rfl, rfl, SqT.of (same_new n6 _ _ _ e5), SqT.of e6, (by intro z; cases z), Nat.le_trans (Nat.le_of_ble_eq_true (by decide) : 3 ≤ 16777216) (by rw [sz]; exact Nat.le_refl _), fun z => absurd z (by intro z; cases z), fun _ p np => ?_⟩
      exact fin p _ _ ((same_new n6 _).trans (same_new np _)) upd_same
  · refine ⟨r, _, rfl, .inr (SqT.of e), ?_⟩
    intro l nl
    exact h _ _ (same_new nl _) (.inl ⟨"list", kn_lst upd_same, by decide⟩)
  · intro p1 n1
    have s1 := same_new n1 (.tup [])
    have e1 := at_new (.tup []) n1
    generalize upd H p1 (.tup []) = H1 at s1 e1 ⊢
    walk_at "rd"
    intro p2 n2
    have s2 := same_new n2 (.lst [])
    have e2 := at_new (.lst []) n2
    generalize upd H1 p2 (.lst []) = H2 at s2 e2 ⊢
    walk_at "rd"
    refine fun p3 n3 => ?_
    have s3 := same_new n3 (.dK [])
    have e3 := at_new (.dK []) n3
    generalize upd H2 p3 (.dK []) = H3 at s3 e3 ⊢
    walk_at "rd"
    intro l4 n4
    have s4 := same_new n4 (.lst [.ref p1, .non, .int 5, .str "pay", .ref p2, .bl true, .ref p3])
    have e4 := at_new (.lst [.ref p1, .non, .int 5, .str "pay", .ref p2, .bl true, .ref p3]) n4
    generalize upd H3 l4 (.lst [.ref p1, .non, .int 5, .str "pay", .ref p2, .bl true, .ref p3]) = H4 at s4 e4 ⊢
    have all : ∀ v ∈ ([.ref p1, .non, .int 5, .str "pay", .ref p2, .bl true, .ref p3] : List V), Bad0 K H4 v := mem1 (.inr ⟨p1, [], rfl, (s2.trans (s3.trans s4)) _ _ e1, .inl rfl⟩) (mem1 (.inl ⟨_, kn_non, by decide⟩) (mem1 (.inl ⟨_, kn_int _, by decide⟩) (mem1 (.inl ⟨_, kn_str _, by decide⟩) (mem1 (.inl ⟨_, kn_lst ((s3.trans s4) _ _ e2), by decide⟩) (mem1 (.inl ⟨_, kn_bl _, by decide⟩) (mem1 (.inl ⟨_, kn_dct (s4 _ _ e3), by decide⟩) mem0))))))
    walk_at "rd"
    intro i i0 i1
    obtain ⟨v, hv, hm⟩ := at_mem (xs := [.ref p1, .non, .int 5, .str "pay", .ref p2, .bl true, .ref p3]) i0 (by simpa using i1)
    have hb := all v hm
    refine ⟨l4, _, _, _, rfl, rfl, SqL.of e4, hv, ?_⟩
    exact h v H4 (s1.trans (s2.trans (s3.trans s4))) hb
  · rcases shape_of hl with rfl | ⟨z, rfl⟩
    · refine ⟨r, _, rfl, SqT.of e, (by intro z; exact absurd (show HT.sIx 2 2 (some (-1)) = 2 from z.2) (by decide)), ?_⟩
      intro q nq
      refine h (.ref q) _ (same_new nq _) (.inr ⟨q, [.str k.word], rfl, upd_same, .inr (.inr (.inr ⟨k, [], hk, rfl, fun z => ?_⟩))⟩)
      rw [← hl] at z
      cases z
    · refine ⟨r, _, rfl, SqT.of e, (by intro z; exact absurd (show HT.sIx 3 3 (some (-1)) = 3 from z.2) (by decide)), ?_⟩
      intro q nq
      refine h (.ref q) _ (same_new nq _) (.inr ⟨q, [.str k.word, v1], rfl, upd_same, .inr (.inr (.inr ⟨k, [v1], hk, rfl, fun z => ?_⟩))⟩)
      rw [← hl] at z
      cases z
  · refine ⟨r, _, _, _, rfl, rfl, SqT.of e, at1, ?_⟩
    walk_at "rd"
    intro p1 n1
    have s1 := same_new n1 (.tup [])
    have e1 := at_new (.tup []) n1
    generalize upd H p1 (.tup []) = H1 at s1 e1 ⊢
    walk_at "rd"
    intro l2 n2
    have s2 := same_new n2 (.lst [v1, .non, .ref p1])
    have e2 := at_new (.lst [v1, .non, .ref p1]) n2
    generalize upd H1 l2 (.lst [v1, .non, .ref p1]) = H2 at s2 e2 ⊢
    walk_at "rd"
    intro i i0 i1
    obtain ⟨v, hv, hm⟩ := at_mem (xs := [v1, .non, .ref p1]) i0 (by simpa using i1)
    refine ⟨l2, _, _, _, rfl, rfl, SqL.of e2, hv, ?_⟩
    walk_at "rd"
    intro q3 n3
    have s3 := same_new n3 (.tup [v])
    have e3 := at_new (.tup [v]) n3
    generalize upd H2 q3 (.tup [v]) = H3 at s3 e3 ⊢
    have s03 := s1.trans (s2.trans s3)
    have er3 := s03 _ _ e
    have fin : ∀ (p : Addr) (G : Hp) (tl : List V), Same H3 G → G p = some (.tup (.str k.word :: v1 :: (rest ++ v :: tl))) → Q (.ref p) G := fun p G tl sG ep => by
      refine h (.ref p) G (s03.trans sG) (.inr ⟨p, _, rfl, ep, .inr (.inr (.inr ⟨k, v1 :: (rest ++ v :: tl), hk, rfl, fun z => ?_⟩))⟩)
      rw [← hl, List.length_cons, List.length_append, List.length_cons] at z
      omega
    have rl : rest.length ≤ 1 := by
      have : lenE k ≤ 2 := by cases k <;> decide
      omega
    walk_at "rd"
    refine ⟨q3, _, v, rfl, rfl, SqT.of e3, (by omega), fun _ => ?_, fun _ q4 n4 => ?_⟩
    · refine ⟨r, q3, _, _, rfl, rfl, SqT.of er3, SqT.of e3, (by intro z; cases z), (by rw [sz]; simp; omega), fun z => absurd z (by intro z; cases z), fun _ p np => ?_⟩
      exact fin p _ [] (same_new np _) upd_same
    · refine ⟨r, q4, _, _, rfl, rfl, SqT.of (same_new n4 _ _ _ er3), SqT.of upd_same, (by intro z; cases z), (by rw [sz]; simp; omega), fun z => absurd z (by intro z; cases z), fun _ p np => ?_⟩
      exact fin p _ [v] ((same_new n4 _).trans (same_new np _)) upd_same
--@ _law_third
theorem wb_lo {i a b : Int} (h : i < a) : withB (.int i) a b = false := by
  show (decide (a ≤ i) && _) = false
  rw [decide_eq_false (by omega), Bool.false_and]
theorem wb_hi {i a b : Int} (h : b < i) : withB (.int i) a b = false := by
  show (decide (a ≤ i) && decide (i ≤ b)) = false
  rw [decide_eq_false (show ¬ i ≤ b by omega), Bool.and_false]
def sp__law_third (K : PySem.W.Frag) : Sp := fun vs H Q _ => ∃ (c : Int) (r : Addr) (k : Ek) (d x : Int), vs = [.int c, .ref r] ∧ H r = some (.tup [.str k.word, .int d, .int x]) ∧ k ≠ .base ∧ k ≠ .turn ∧ ∀ (q : Addr) (u : V) (T : String) (H' : Hp), Same H H' → H' q = some (.tup [.str k.word, .int d, u]) → IsKind K H' u T → withB u (loE k d) (hiE k) = false → Q (.ref q) H'
theorem sc__law_third : FnScope ["_law_cell_here", "_law_row_here", "_law_word", "_law_day_here", "_law_good", "_law_least", "_law_most", "_law_far", "_law_some"] ["_law_cell_here", "_law_row_here"] (defScope s__law_third) := ⟨rfl, rfl, rfl, by decide +kernel, rfl, by decide +kernel, by decide +kernel⟩
theorem d__law_third (S : Src K mg "_law_third" s__law_third ["_law_cell_here", "_law_row_here"]) (T : Txt K mg) (D__law_pick : Def P w K mg base 2 "_law_pick" ["_law_cell_here", "_law_by", "_law_many"] (sp__law_pick K)) : Def P w K mg base 3 "_law_third" ["_law_cell_here", "_law_row_here"] (sp__law_third K) := by
  refine S.ok sc__law_third (fun vs H Q E h => ?_) (fun f cdv A outer s H vs Q E hr h => ?_)
  · obtain ⟨c, r, k, d, x, rfl, e, hk, ht, h⟩ := h
    rfl
  obtain ⟨c, r, k, d, x, rfl, e, hk, ht, h⟩ := h
  refine ⟨_, (pss_cons (ps_asg (pv 1) (pg_tup rfl (pgs_cons (pg_name (i := 2) sc__law_third.nd rfl (by first | exact Or.inl rfl | exact Or.inr rfl)) (pgs_cons (pg_name (i := 3) sc__law_third.nd rfl (by first | exact Or.inl rfl | exact Or.inr rfl)) (pgs_cons (pg_name (i := 4) sc__law_third.nd rfl (by first | exact Or.inl rfl | exact Or.inr rfl)) pgs_nil)))))
      (pss_cons (ps_set (i := 5) sc__law_third.nd rfl (by first | exact Or.inl rfl | exact Or.inr rfl) (pe_ix ix_list (pe_lst (pa_cons pe_int (pa_cons (pe_op op_sub pe_int (pe_powc (v := 1000000000000) (by decide +kernel) ⟨by decide, by decide, by decide⟩)) pa_nil))) (pe_callTy call_intB rfl T.n_int PyProof.Rows.boot_int (pa_cons (pe_cmpR op_eq (pv 2) pe_str (nomark _)) pa_nil)) (fun _ _ => rfl)))
      (pss_cons (ps_set (i := 6) sc__law_third.nd rfl (by first | exact Or.inl rfl | exact Or.inr rfl) (pe_powc (v := 1000000000000) (by decide +kernel) ⟨by decide, by decide, by decide⟩))
      (pss_cons (ps_if (PW.pt (pw_or (pt_cmpR op_eq (pv 2) pe_str (nomark _)) (pw_or1 (pt_cmpR op_eq (pv 2) pe_str (nomark _)))))
      (pss_cons (ps_set (i := 5) sc__law_third.nd rfl (by first | exact Or.inl rfl | exact Or.inr rfl) pe_int)
      (pss_one (ps_set (i := 6) sc__law_third.nd rfl (by first | exact Or.inl rfl | exact Or.inr rfl) (pe_powc (v := 1000000) (by decide +kernel) ⟨by decide, by decide, by decide⟩))))
      pss_nil)
      (pss_cons (ps_if (pt_cmpR op_eq (pv 2) pe_str (nomark _))
      (pss_cons (ps_set (i := 5) sc__law_third.nd rfl (by first | exact Or.inl rfl | exact Or.inr rfl) (pe_op op_add (pv 3) pe_int))
      (pss_one (ps_set (i := 6) sc__law_third.nd rfl (by first | exact Or.inl rfl | exact Or.inr rfl) (pe_powc (v := 1000000) (by decide +kernel) ⟨by decide, by decide, by decide⟩))))
      pss_nil)
      (pss_cons (ps_set (i := 7) sc__law_third.nd rfl (by first | exact Or.inl rfl | exact Or.inr rfl) (pe_op op_mul (pe_fn D__law_pick hr (pa_cons (pv 0) (pa_cons pe_int (pa_cons (pe_powc (v := 10000000000000) (by decide +kernel) ⟨by decide, by decide, by decide⟩) pa_nil)))) (pe_ix ix_list (pe_lst (pa_cons pe_int (pa_cons (pe_powc (v := 100000000000000000) (by decide +kernel) ⟨by decide, by decide, by decide⟩) pa_nil))) (pe_fn D__law_pick hr (pa_cons (pv 0) (pa_cons pe_int (pa_cons pe_int pa_nil)))) (fun _ _ => rfl))))
      (pss_cons (ps_set (i := 8) sc__law_third.nd rfl (by first | exact Or.inl rfl | exact Or.inr rfl) (pe_lst (pa_cons (pe_op op_sub (pv 5) pe_int) (pa_cons (pe_op op_add (pv 6) pe_int) (pa_cons (pe_op op_sub (pe_op op_sub (pv 5) pe_int) (pv 7)) (pa_cons (pe_op op_add (pe_op op_add (pv 6) pe_int) (pv 7)) pa_nil))))))
      (pss_cons (ps_set (i := 8) sc__law_third.nd rfl (by first | exact Or.inl rfl | exact Or.inr rfl) (pe_op op_cat (pv 8) (pe_lst (pa_cons pe_bl (pa_cons pe_bl (pa_cons pe_non (pa_cons pe_str (pa_cons (pe_lst (pa_cons (pv 4) pa_nil)) (pa_cons (pe_tup (pa_cons (pv 4) pa_nil)) (pa_cons pe_dnew pa_nil))))))))))
      (pss_one (ps_ret (pe_tup (pa_cons (pv 2) (pa_cons (pv 3) (pa_cons (pe_ix ix_list (pv 8) (pe_fn D__law_pick hr (pa_cons (pv 0) (pa_cons pe_int (pa_cons pe_int pa_nil)))) (fun _ _ => rfl)) pa_nil)))))))))))))), ?_⟩
  have sz := sizeLine_eq
  cases k with
  | base => exact absurd rfl hk
  | turn => exact absurd rfl ht
  | out =>
    dsimp only [Ek.word] at e
    walk_at "rd"
    refine ⟨r, _, rfl, SqT.of e, ?_⟩
    refine ⟨rfl, _, _, rfl, _, _, rfl, _, _, rfl, rfl, ?_⟩
    walk_at "rd"
    intro l1 n1
    have s1 := same_new n1 (.lst [.int 1, .int (0 - 1000000000000)])
    have e1 := at_new (.lst [.int 1, .int (0 - 1000000000000)]) n1
    generalize upd H l1 (.lst [.int 1, .int (0 - 1000000000000)]) = H1 at s1 e1 ⊢
    walk_at "rd"
    intro t tt tb
    obtain rfl : t = 0 := tt
    walk_at "rd"
    refine ⟨l1, _, _, _, rfl, rfl, SqL.of e1, rfl, ?_⟩
    walk_at "rd"
    intro p p0 p1
    walk_at "rd"
    intro l2 n2
    have s2 := same_new n2 (.lst [.int 1, .int 100000000000000000])
    have e2 := at_new (.lst [.int 1, .int 100000000000000000]) n2
    generalize upd H1 l2 (.lst [.int 1, .int 100000000000000000]) = H2 at s2 e2 ⊢
    walk_at "rd"
    intro j j0 j1
    obtain ⟨v, hv, hm⟩ := at_mem (xs := [.int 1, .int 100000000000000000]) j0 (by simpa using j1)
    obtain ⟨y, rfl, y0⟩ := (mem1 ⟨_, rfl, by omega⟩ (mem1 ⟨_, rfl, by omega⟩ mem0) : ∀ v ∈ ([.int 1, .int 100000000000000000] : List V), ∃ w : Int, v = .int w ∧ 0 ≤ w) v hm
    refine ⟨l2, _, _, _, rfl, rfl, SqL.of e2, hv, ?_⟩
    have py : 0 ≤ p * y := Int.mul_nonneg p0 y0
    walk_at "rd"
    intro l3 n3
    have s3 := same_new n3 (.lst [.int (1 - 1), .int (1000000000000 + 1), .int (1 - 1 - p * y), .int (1000000000000 + 1 + p * y)])
    have e3 := at_new (.lst [.int (1 - 1), .int (1000000000000 + 1), .int (1 - 1 - p * y), .int (1000000000000 + 1 + p * y)]) n3
    generalize upd H2 l3 (.lst [.int (1 - 1), .int (1000000000000 + 1), .int (1 - 1 - p * y), .int (1000000000000 + 1 + p * y)]) = H3 at s3 e3 ⊢
    walk_at "rd"
    intro a5 n5
    have s5 := same_new n5 (.lst [.int x])
    have e5 := at_new (.lst [.int x]) n5
    generalize upd H3 a5 (.lst [.int x]) = H5 at s5 e5 ⊢
    walk_at "rd"
    intro a6 n6
    have s6 := same_new n6 (.tup [.int x])
    have e6 := at_new (.tup [.int x]) n6
    generalize upd H5 a6 (.tup [.int x]) = H6 at s6 e6 ⊢
    walk_at "rd"
    refine fun a7 n7 => ?_
    have s7 := same_new n7 (.dK [])
    have e7 := at_new (.dK []) n7
    generalize upd H6 a7 (.dK []) = H7 at s7 e7 ⊢
    walk_at "rd"
    intro l8 n8
    have s8 := same_new n8 (.lst [.bl true, .bl false, .non, .str "7", .ref a5, .ref a6, .ref a7])
    have e8 := at_new (.lst [.bl true, .bl false, .non, .str "7", .ref a5, .ref a6, .ref a7]) n8
    generalize upd H7 l8 (.lst [.bl true, .bl false, .non, .str "7", .ref a5, .ref a6, .ref a7]) = H8 at s8 e8 ⊢
    walk_at "rd"
    refine ⟨l3, l8, _, _, rfl, rfl, (s5.trans (s6.trans (s7.trans s8))) _ _ e3, e8, Nat.le_trans (Nat.le_of_ble_eq_true (by decide) : 11 ≤ 16777216) (by rw [sz]; exact Nat.le_refl _), ?_⟩
    intro l9 n9
    have s9 := same_new n9 (.lst ([.int (1 - 1), .int (1000000000000 + 1), .int (1 - 1 - p * y), .int (1000000000000 + 1 + p * y)] ++ [.bl true, .bl false, .non, .str "7", .ref a5, .ref a6, .ref a7]))
    have e9 := at_new (.lst ([.int (1 - 1), .int (1000000000000 + 1), .int (1 - 1 - p * y), .int (1000000000000 + 1 + p * y)] ++ [.bl true, .bl false, .non, .str "7", .ref a5, .ref a6, .ref a7])) n9
    generalize upd H8 l9 (.lst ([.int (1 - 1), .int (1000000000000 + 1), .int (1 - 1 - p * y), .int (1000000000000 + 1 + p * y)] ++ [.bl true, .bl false, .non, .str "7", .ref a5, .ref a6, .ref a7])) = H9 at s9 e9 ⊢
    have all : ∀ v ∈ ([.int (1 - 1), .int (1000000000000 + 1), .int (1 - 1 - p * y), .int (1000000000000 + 1 + p * y)] ++ [.bl true, .bl false, .non, .str "7", .ref a5, .ref a6, .ref a7] : List V), ∃ T, IsKind K H9 v T ∧ withB v (loE .out d) (hiE .out) = false := mem1 ⟨_, kn_int _, wb_lo (by show _ < (1 : Int); omega)⟩ (mem1 ⟨_, kn_int _, wb_hi (by show (1000000000000 : Int) < _; omega)⟩ (mem1 ⟨_, kn_int _, wb_lo (by show _ < (1 : Int); omega)⟩ (mem1 ⟨_, kn_int _, wb_hi (by show (1000000000000 : Int) < _; omega)⟩
      (mem1 ⟨_, kn_bl _, rfl⟩ (mem1 ⟨_, kn_bl _, rfl⟩ (mem1 ⟨_, kn_non, rfl⟩ (mem1 ⟨_, kn_str _, rfl⟩ (mem1 ⟨_, kn_lst ((s6.trans (s7.trans (s8.trans s9))) _ _ e5), rfl⟩ (mem1 ⟨_, kn_tup ((s7.trans (s8.trans s9)) _ _ e6), rfl⟩ (mem1 ⟨_, kn_dct ((s8.trans s9) _ _ e7), rfl⟩ mem0))))))))))
    walk_at "rd"
    intro i i0 i1
    obtain ⟨v, hv, hm⟩ := at_mem (xs := [.int (1 - 1), .int (1000000000000 + 1), .int (1 - 1 - p * y), .int (1000000000000 + 1 + p * y)] ++ [.bl true, .bl false, .non, .str "7", .ref a5, .ref a6, .ref a7]) i0 (by simpa using i1)
    obtain ⟨Tk, kn, nw⟩ := all v hm
    refine ⟨l9, _, _, _, rfl, rfl, SqL.of e9, hv, ?_⟩
    walk_at "rd"
    intro q nq
    have sq := same_new nq (.tup [.str "out", .int d, v])
    exact h q v Tk _ (s1.trans (s2.trans (s3.trans (s5.trans (s6.trans (s7.trans (s8.trans (s9.trans sq)))))))) upd_same (kind_same kn sq) nw
  | fee =>
    dsimp only [Ek.word] at e
    walk_at "rd"
    refine ⟨r, _, rfl, SqT.of e, ?_⟩
    refine ⟨rfl, _, _, rfl, _, _, rfl, _, _, rfl, rfl, ?_⟩
    walk_at "rd"
    intro l1 n1
    have s1 := same_new n1 (.lst [.int 1, .int (0 - 1000000000000)])
    have e1 := at_new (.lst [.int 1, .int (0 - 1000000000000)]) n1
    generalize upd H l1 (.lst [.int 1, .int (0 - 1000000000000)]) = H1 at s1 e1 ⊢
    walk_at "rd"
    intro t tt tb
    obtain rfl : t = 1 := tt
    walk_at "rd"
    refine ⟨l1, _, _, _, rfl, rfl, SqL.of e1, rfl, ?_⟩
    walk_at "rd"
    intro p p0 p1
    walk_at "rd"
    intro l2 n2
    have s2 := same_new n2 (.lst [.int 1, .int 100000000000000000])
    have e2 := at_new (.lst [.int 1, .int 100000000000000000]) n2
    generalize upd H1 l2 (.lst [.int 1, .int 100000000000000000]) = H2 at s2 e2 ⊢
    walk_at "rd"
    intro j j0 j1
    obtain ⟨v, hv, hm⟩ := at_mem (xs := [.int 1, .int 100000000000000000]) j0 (by simpa using j1)
    obtain ⟨y, rfl, y0⟩ := (mem1 ⟨_, rfl, by omega⟩ (mem1 ⟨_, rfl, by omega⟩ mem0) : ∀ v ∈ ([.int 1, .int 100000000000000000] : List V), ∃ w : Int, v = .int w ∧ 0 ≤ w) v hm
    refine ⟨l2, _, _, _, rfl, rfl, SqL.of e2, hv, ?_⟩
    have py : 0 ≤ p * y := Int.mul_nonneg p0 y0
    walk_at "rd"
    intro l3 n3
    have s3 := same_new n3 (.lst [.int ((0 - 1000000000000) - 1), .int (1000000000000 + 1), .int ((0 - 1000000000000) - 1 - p * y), .int (1000000000000 + 1 + p * y)])
    have e3 := at_new (.lst [.int ((0 - 1000000000000) - 1), .int (1000000000000 + 1), .int ((0 - 1000000000000) - 1 - p * y), .int (1000000000000 + 1 + p * y)]) n3
    generalize upd H2 l3 (.lst [.int ((0 - 1000000000000) - 1), .int (1000000000000 + 1), .int ((0 - 1000000000000) - 1 - p * y), .int (1000000000000 + 1 + p * y)]) = H3 at s3 e3 ⊢
    walk_at "rd"
    intro a5 n5
    have s5 := same_new n5 (.lst [.int x])
    have e5 := at_new (.lst [.int x]) n5
    generalize upd H3 a5 (.lst [.int x]) = H5 at s5 e5 ⊢
    walk_at "rd"
    intro a6 n6
    have s6 := same_new n6 (.tup [.int x])
    have e6 := at_new (.tup [.int x]) n6
    generalize upd H5 a6 (.tup [.int x]) = H6 at s6 e6 ⊢
    walk_at "rd"
    refine fun a7 n7 => ?_
    have s7 := same_new n7 (.dK [])
    have e7 := at_new (.dK []) n7
    generalize upd H6 a7 (.dK []) = H7 at s7 e7 ⊢
    walk_at "rd"
    intro l8 n8
    have s8 := same_new n8 (.lst [.bl true, .bl false, .non, .str "7", .ref a5, .ref a6, .ref a7])
    have e8 := at_new (.lst [.bl true, .bl false, .non, .str "7", .ref a5, .ref a6, .ref a7]) n8
    generalize upd H7 l8 (.lst [.bl true, .bl false, .non, .str "7", .ref a5, .ref a6, .ref a7]) = H8 at s8 e8 ⊢
    walk_at "rd"
    refine ⟨l3, l8, _, _, rfl, rfl, (s5.trans (s6.trans (s7.trans s8))) _ _ e3, e8, Nat.le_trans (Nat.le_of_ble_eq_true (by decide) : 11 ≤ 16777216) (by rw [sz]; exact Nat.le_refl _), ?_⟩
    intro l9 n9
    have s9 := same_new n9 (.lst ([.int ((0 - 1000000000000) - 1), .int (1000000000000 + 1), .int ((0 - 1000000000000) - 1 - p * y), .int (1000000000000 + 1 + p * y)] ++ [.bl true, .bl false, .non, .str "7", .ref a5, .ref a6, .ref a7]))
    have e9 := at_new (.lst ([.int ((0 - 1000000000000) - 1), .int (1000000000000 + 1), .int ((0 - 1000000000000) - 1 - p * y), .int (1000000000000 + 1 + p * y)] ++ [.bl true, .bl false, .non, .str "7", .ref a5, .ref a6, .ref a7])) n9
    generalize upd H8 l9 (.lst ([.int ((0 - 1000000000000) - 1), .int (1000000000000 + 1), .int ((0 - 1000000000000) - 1 - p * y), .int (1000000000000 + 1 + p * y)] ++ [.bl true, .bl false, .non, .str "7", .ref a5, .ref a6, .ref a7])) = H9 at s9 e9 ⊢
    have all : ∀ v ∈ ([.int ((0 - 1000000000000) - 1), .int (1000000000000 + 1), .int ((0 - 1000000000000) - 1 - p * y), .int (1000000000000 + 1 + p * y)] ++ [.bl true, .bl false, .non, .str "7", .ref a5, .ref a6, .ref a7] : List V), ∃ T, IsKind K H9 v T ∧ withB v (loE .fee d) (hiE .fee) = false := mem1 ⟨_, kn_int _, wb_lo (by show _ < (-1000000000000 : Int); omega)⟩ (mem1 ⟨_, kn_int _, wb_hi (by show (1000000000000 : Int) < _; omega)⟩ (mem1 ⟨_, kn_int _, wb_lo (by show _ < (-1000000000000 : Int); omega)⟩ (mem1 ⟨_, kn_int _, wb_hi (by show (1000000000000 : Int) < _; omega)⟩
      (mem1 ⟨_, kn_bl _, rfl⟩ (mem1 ⟨_, kn_bl _, rfl⟩ (mem1 ⟨_, kn_non, rfl⟩ (mem1 ⟨_, kn_str _, rfl⟩ (mem1 ⟨_, kn_lst ((s6.trans (s7.trans (s8.trans s9))) _ _ e5), rfl⟩ (mem1 ⟨_, kn_tup ((s7.trans (s8.trans s9)) _ _ e6), rfl⟩ (mem1 ⟨_, kn_dct ((s8.trans s9) _ _ e7), rfl⟩ mem0))))))))))
    walk_at "rd"
    intro i i0 i1
    obtain ⟨v, hv, hm⟩ := at_mem (xs := [.int ((0 - 1000000000000) - 1), .int (1000000000000 + 1), .int ((0 - 1000000000000) - 1 - p * y), .int (1000000000000 + 1 + p * y)] ++ [.bl true, .bl false, .non, .str "7", .ref a5, .ref a6, .ref a7]) i0 (by simpa using i1)
    obtain ⟨Tk, kn, nw⟩ := all v hm
    refine ⟨l9, _, _, _, rfl, rfl, SqL.of e9, hv, ?_⟩
    walk_at "rd"
    intro q nq
    have sq := same_new nq (.tup [.str "fee", .int d, v])
    exact h q v Tk _ (s1.trans (s2.trans (s3.trans (s5.trans (s6.trans (s7.trans (s8.trans (s9.trans sq)))))))) upd_same (kind_same kn sq) nw
  | pay =>
    dsimp only [Ek.word] at e
    walk_at "rd"
    refine ⟨r, _, rfl, SqT.of e, ?_⟩
    refine ⟨rfl, _, _, rfl, _, _, rfl, _, _, rfl, rfl, ?_⟩
    walk_at "rd"
    intro l1 n1
    have s1 := same_new n1 (.lst [.int 1, .int (0 - 1000000000000)])
    have e1 := at_new (.lst [.int 1, .int (0 - 1000000000000)]) n1
    generalize upd H l1 (.lst [.int 1, .int (0 - 1000000000000)]) = H1 at s1 e1 ⊢
    walk_at "rd"
    intro t tt tb
    obtain rfl : t = 0 := tt
    walk_at "rd"
    refine ⟨l1, _, _, _, rfl, rfl, SqL.of e1, rfl, ?_⟩
    walk_at "rd"
    intro p p0 p1
    walk_at "rd"
    intro l2 n2
    have s2 := same_new n2 (.lst [.int 1, .int 100000000000000000])
    have e2 := at_new (.lst [.int 1, .int 100000000000000000]) n2
    generalize upd H1 l2 (.lst [.int 1, .int 100000000000000000]) = H2 at s2 e2 ⊢
    walk_at "rd"
    intro j j0 j1
    obtain ⟨v, hv, hm⟩ := at_mem (xs := [.int 1, .int 100000000000000000]) j0 (by simpa using j1)
    obtain ⟨y, rfl, y0⟩ := (mem1 ⟨_, rfl, by omega⟩ (mem1 ⟨_, rfl, by omega⟩ mem0) : ∀ v ∈ ([.int 1, .int 100000000000000000] : List V), ∃ w : Int, v = .int w ∧ 0 ≤ w) v hm
    refine ⟨l2, _, _, _, rfl, rfl, SqL.of e2, hv, ?_⟩
    have py : 0 ≤ p * y := Int.mul_nonneg p0 y0
    walk_at "rd"
    intro l3 n3
    have s3 := same_new n3 (.lst [.int (1 - 1), .int (1000000000000 + 1), .int (1 - 1 - p * y), .int (1000000000000 + 1 + p * y)])
    have e3 := at_new (.lst [.int (1 - 1), .int (1000000000000 + 1), .int (1 - 1 - p * y), .int (1000000000000 + 1 + p * y)]) n3
    generalize upd H2 l3 (.lst [.int (1 - 1), .int (1000000000000 + 1), .int (1 - 1 - p * y), .int (1000000000000 + 1 + p * y)]) = H3 at s3 e3 ⊢
    walk_at "rd"
    intro a5 n5
    have s5 := same_new n5 (.lst [.int x])
    have e5 := at_new (.lst [.int x]) n5
    generalize upd H3 a5 (.lst [.int x]) = H5 at s5 e5 ⊢
    walk_at "rd"
    intro a6 n6
    have s6 := same_new n6 (.tup [.int x])
    have e6 := at_new (.tup [.int x]) n6
    generalize upd H5 a6 (.tup [.int x]) = H6 at s6 e6 ⊢
    walk_at "rd"
    refine fun a7 n7 => ?_
    have s7 := same_new n7 (.dK [])
    have e7 := at_new (.dK []) n7
    generalize upd H6 a7 (.dK []) = H7 at s7 e7 ⊢
    walk_at "rd"
    intro l8 n8
    have s8 := same_new n8 (.lst [.bl true, .bl false, .non, .str "7", .ref a5, .ref a6, .ref a7])
    have e8 := at_new (.lst [.bl true, .bl false, .non, .str "7", .ref a5, .ref a6, .ref a7]) n8
    generalize upd H7 l8 (.lst [.bl true, .bl false, .non, .str "7", .ref a5, .ref a6, .ref a7]) = H8 at s8 e8 ⊢
    walk_at "rd"
    refine ⟨l3, l8, _, _, rfl, rfl, (s5.trans (s6.trans (s7.trans s8))) _ _ e3, e8, Nat.le_trans (Nat.le_of_ble_eq_true (by decide) : 11 ≤ 16777216) (by rw [sz]; exact Nat.le_refl _), ?_⟩
    intro l9 n9
    have s9 := same_new n9 (.lst ([.int (1 - 1), .int (1000000000000 + 1), .int (1 - 1 - p * y), .int (1000000000000 + 1 + p * y)] ++ [.bl true, .bl false, .non, .str "7", .ref a5, .ref a6, .ref a7]))
    have e9 := at_new (.lst ([.int (1 - 1), .int (1000000000000 + 1), .int (1 - 1 - p * y), .int (1000000000000 + 1 + p * y)] ++ [.bl true, .bl false, .non, .str "7", .ref a5, .ref a6, .ref a7])) n9
    generalize upd H8 l9 (.lst ([.int (1 - 1), .int (1000000000000 + 1), .int (1 - 1 - p * y), .int (1000000000000 + 1 + p * y)] ++ [.bl true, .bl false, .non, .str "7", .ref a5, .ref a6, .ref a7])) = H9 at s9 e9 ⊢
    have all : ∀ v ∈ ([.int (1 - 1), .int (1000000000000 + 1), .int (1 - 1 - p * y), .int (1000000000000 + 1 + p * y)] ++ [.bl true, .bl false, .non, .str "7", .ref a5, .ref a6, .ref a7] : List V), ∃ T, IsKind K H9 v T ∧ withB v (loE .pay d) (hiE .pay) = false := mem1 ⟨_, kn_int _, wb_lo (by show _ < (1 : Int); omega)⟩ (mem1 ⟨_, kn_int _, wb_hi (by show (1000000000000 : Int) < _; omega)⟩ (mem1 ⟨_, kn_int _, wb_lo (by show _ < (1 : Int); omega)⟩ (mem1 ⟨_, kn_int _, wb_hi (by show (1000000000000 : Int) < _; omega)⟩
      (mem1 ⟨_, kn_bl _, rfl⟩ (mem1 ⟨_, kn_bl _, rfl⟩ (mem1 ⟨_, kn_non, rfl⟩ (mem1 ⟨_, kn_str _, rfl⟩ (mem1 ⟨_, kn_lst ((s6.trans (s7.trans (s8.trans s9))) _ _ e5), rfl⟩ (mem1 ⟨_, kn_tup ((s7.trans (s8.trans s9)) _ _ e6), rfl⟩ (mem1 ⟨_, kn_dct ((s8.trans s9) _ _ e7), rfl⟩ mem0))))))))))
    walk_at "rd"
    intro i i0 i1
    obtain ⟨v, hv, hm⟩ := at_mem (xs := [.int (1 - 1), .int (1000000000000 + 1), .int (1 - 1 - p * y), .int (1000000000000 + 1 + p * y)] ++ [.bl true, .bl false, .non, .str "7", .ref a5, .ref a6, .ref a7]) i0 (by simpa using i1)
    obtain ⟨Tk, kn, nw⟩ := all v hm
    refine ⟨l9, _, _, _, rfl, rfl, SqL.of e9, hv, ?_⟩
    walk_at "rd"
    intro q nq
    have sq := same_new nq (.tup [.str "pay", .int d, v])
    exact h q v Tk _ (s1.trans (s2.trans (s3.trans (s5.trans (s6.trans (s7.trans (s8.trans (s9.trans sq)))))))) upd_same (kind_same kn sq) nw
  | due =>
    dsimp only [Ek.word] at e
    walk_at "rd"
    refine ⟨r, _, rfl, SqT.of e, ?_⟩
    refine ⟨rfl, _, _, rfl, _, _, rfl, _, _, rfl, rfl, ?_⟩
    walk_at "rd"
    intro l1 n1
    have s1 := same_new n1 (.lst [.int 1, .int (0 - 1000000000000)])
    have e1 := at_new (.lst [.int 1, .int (0 - 1000000000000)]) n1
    generalize upd H l1 (.lst [.int 1, .int (0 - 1000000000000)]) = H1 at s1 e1 ⊢
    walk_at "rd"
    intro t tt tb
    obtain rfl : t = 0 := tt
    walk_at "rd"
    refine ⟨l1, _, _, _, rfl, rfl, SqL.of e1, rfl, ?_⟩
    walk_at "rd"
    intro p p0 p1
    walk_at "rd"
    intro l2 n2
    have s2 := same_new n2 (.lst [.int 1, .int 100000000000000000])
    have e2 := at_new (.lst [.int 1, .int 100000000000000000]) n2
    generalize upd H1 l2 (.lst [.int 1, .int 100000000000000000]) = H2 at s2 e2 ⊢
    walk_at "rd"
    intro j j0 j1
    obtain ⟨v, hv, hm⟩ := at_mem (xs := [.int 1, .int 100000000000000000]) j0 (by simpa using j1)
    obtain ⟨y, rfl, y0⟩ := (mem1 ⟨_, rfl, by omega⟩ (mem1 ⟨_, rfl, by omega⟩ mem0) : ∀ v ∈ ([.int 1, .int 100000000000000000] : List V), ∃ w : Int, v = .int w ∧ 0 ≤ w) v hm
    refine ⟨l2, _, _, _, rfl, rfl, SqL.of e2, hv, ?_⟩
    have py : 0 ≤ p * y := Int.mul_nonneg p0 y0
    walk_at "rd"
    intro l3 n3
    have s3 := same_new n3 (.lst [.int (1 - 1), .int (1000000000000 + 1), .int (1 - 1 - p * y), .int (1000000000000 + 1 + p * y)])
    have e3 := at_new (.lst [.int (1 - 1), .int (1000000000000 + 1), .int (1 - 1 - p * y), .int (1000000000000 + 1 + p * y)]) n3
    generalize upd H2 l3 (.lst [.int (1 - 1), .int (1000000000000 + 1), .int (1 - 1 - p * y), .int (1000000000000 + 1 + p * y)]) = H3 at s3 e3 ⊢
    walk_at "rd"
    intro a5 n5
    have s5 := same_new n5 (.lst [.int x])
    have e5 := at_new (.lst [.int x]) n5
    generalize upd H3 a5 (.lst [.int x]) = H5 at s5 e5 ⊢
    walk_at "rd"
    intro a6 n6
    have s6 := same_new n6 (.tup [.int x])
    have e6 := at_new (.tup [.int x]) n6
    generalize upd H5 a6 (.tup [.int x]) = H6 at s6 e6 ⊢
    walk_at "rd"
    refine fun a7 n7 => ?_
    have s7 := same_new n7 (.dK [])
    have e7 := at_new (.dK []) n7
    generalize upd H6 a7 (.dK []) = H7 at s7 e7 ⊢
    walk_at "rd"
    intro l8 n8
    have s8 := same_new n8 (.lst [.bl true, .bl false, .non, .str "7", .ref a5, .ref a6, .ref a7])
    have e8 := at_new (.lst [.bl true, .bl false, .non, .str "7", .ref a5, .ref a6, .ref a7]) n8
    generalize upd H7 l8 (.lst [.bl true, .bl false, .non, .str "7", .ref a5, .ref a6, .ref a7]) = H8 at s8 e8 ⊢
    walk_at "rd"
    refine ⟨l3, l8, _, _, rfl, rfl, (s5.trans (s6.trans (s7.trans s8))) _ _ e3, e8, Nat.le_trans (Nat.le_of_ble_eq_true (by decide) : 11 ≤ 16777216) (by rw [sz]; exact Nat.le_refl _), ?_⟩
    intro l9 n9
    have s9 := same_new n9 (.lst ([.int (1 - 1), .int (1000000000000 + 1), .int (1 - 1 - p * y), .int (1000000000000 + 1 + p * y)] ++ [.bl true, .bl false, .non, .str "7", .ref a5, .ref a6, .ref a7]))
    have e9 := at_new (.lst ([.int (1 - 1), .int (1000000000000 + 1), .int (1 - 1 - p * y), .int (1000000000000 + 1 + p * y)] ++ [.bl true, .bl false, .non, .str "7", .ref a5, .ref a6, .ref a7])) n9
    generalize upd H8 l9 (.lst ([.int (1 - 1), .int (1000000000000 + 1), .int (1 - 1 - p * y), .int (1000000000000 + 1 + p * y)] ++ [.bl true, .bl false, .non, .str "7", .ref a5, .ref a6, .ref a7])) = H9 at s9 e9 ⊢
    have all : ∀ v ∈ ([.int (1 - 1), .int (1000000000000 + 1), .int (1 - 1 - p * y), .int (1000000000000 + 1 + p * y)] ++ [.bl true, .bl false, .non, .str "7", .ref a5, .ref a6, .ref a7] : List V), ∃ T, IsKind K H9 v T ∧ withB v (loE .due d) (hiE .due) = false := mem1 ⟨_, kn_int _, wb_lo (by show _ < (1 : Int); omega)⟩ (mem1 ⟨_, kn_int _, wb_hi (by show (1000000000000 : Int) < _; omega)⟩ (mem1 ⟨_, kn_int _, wb_lo (by show _ < (1 : Int); omega)⟩ (mem1 ⟨_, kn_int _, wb_hi (by show (1000000000000 : Int) < _; omega)⟩
      (mem1 ⟨_, kn_bl _, rfl⟩ (mem1 ⟨_, kn_bl _, rfl⟩ (mem1 ⟨_, kn_non, rfl⟩ (mem1 ⟨_, kn_str _, rfl⟩ (mem1 ⟨_, kn_lst ((s6.trans (s7.trans (s8.trans s9))) _ _ e5), rfl⟩ (mem1 ⟨_, kn_tup ((s7.trans (s8.trans s9)) _ _ e6), rfl⟩ (mem1 ⟨_, kn_dct ((s8.trans s9) _ _ e7), rfl⟩ mem0))))))))))
    walk_at "rd"
    intro i i0 i1
    obtain ⟨v, hv, hm⟩ := at_mem (xs := [.int (1 - 1), .int (1000000000000 + 1), .int (1 - 1 - p * y), .int (1000000000000 + 1 + p * y)] ++ [.bl true, .bl false, .non, .str "7", .ref a5, .ref a6, .ref a7]) i0 (by simpa using i1)
    obtain ⟨Tk, kn, nw⟩ := all v hm
    refine ⟨l9, _, _, _, rfl, rfl, SqL.of e9, hv, ?_⟩
    walk_at "rd"
    intro q nq
    have sq := same_new nq (.tup [.str "due", .int d, v])
    exact h q v Tk _ (s1.trans (s2.trans (s3.trans (s5.trans (s6.trans (s7.trans (s8.trans (s9.trans sq)))))))) upd_same (kind_same kn sq) nw
  | rate =>
    dsimp only [Ek.word] at e
    walk_at "rd"
    refine ⟨r, _, rfl, SqT.of e, ?_⟩
    refine ⟨rfl, _, _, rfl, _, _, rfl, _, _, rfl, rfl, ?_⟩
    walk_at "rd"
    intro l1 n1
    have s1 := same_new n1 (.lst [.int 1, .int (0 - 1000000000000)])
    have e1 := at_new (.lst [.int 1, .int (0 - 1000000000000)]) n1
    generalize upd H l1 (.lst [.int 1, .int (0 - 1000000000000)]) = H1 at s1 e1 ⊢
    walk_at "rd"
    intro t tt tb
    obtain rfl : t = 0 := tt
    walk_at "rd"
    refine ⟨l1, _, _, _, rfl, rfl, SqL.of e1, rfl, ?_⟩
    walk_at "rd"
    intro p p0 p1
    walk_at "rd"
    intro l2 n2
    have s2 := same_new n2 (.lst [.int 1, .int 100000000000000000])
    have e2 := at_new (.lst [.int 1, .int 100000000000000000]) n2
    generalize upd H1 l2 (.lst [.int 1, .int 100000000000000000]) = H2 at s2 e2 ⊢
    walk_at "rd"
    intro j j0 j1
    obtain ⟨v, hv, hm⟩ := at_mem (xs := [.int 1, .int 100000000000000000]) j0 (by simpa using j1)
    obtain ⟨y, rfl, y0⟩ := (mem1 ⟨_, rfl, by omega⟩ (mem1 ⟨_, rfl, by omega⟩ mem0) : ∀ v ∈ ([.int 1, .int 100000000000000000] : List V), ∃ w : Int, v = .int w ∧ 0 ≤ w) v hm
    refine ⟨l2, _, _, _, rfl, rfl, SqL.of e2, hv, ?_⟩
    have py : 0 ≤ p * y := Int.mul_nonneg p0 y0
    walk_at "rd"
    intro l3 n3
    have s3 := same_new n3 (.lst [.int (0 - 1), .int (1000000 + 1), .int (0 - 1 - p * y), .int (1000000 + 1 + p * y)])
    have e3 := at_new (.lst [.int (0 - 1), .int (1000000 + 1), .int (0 - 1 - p * y), .int (1000000 + 1 + p * y)]) n3
    generalize upd H2 l3 (.lst [.int (0 - 1), .int (1000000 + 1), .int (0 - 1 - p * y), .int (1000000 + 1 + p * y)]) = H3 at s3 e3 ⊢
    walk_at "rd"
    intro a5 n5
    have s5 := same_new n5 (.lst [.int x])
    have e5 := at_new (.lst [.int x]) n5
    generalize upd H3 a5 (.lst [.int x]) = H5 at s5 e5 ⊢
    walk_at "rd"
    intro a6 n6
    have s6 := same_new n6 (.tup [.int x])
    have e6 := at_new (.tup [.int x]) n6
    generalize upd H5 a6 (.tup [.int x]) = H6 at s6 e6 ⊢
    walk_at "rd"
    refine fun a7 n7 => ?_
    have s7 := same_new n7 (.dK [])
    have e7 := at_new (.dK []) n7
    generalize upd H6 a7 (.dK []) = H7 at s7 e7 ⊢
    walk_at "rd"
    intro l8 n8
    have s8 := same_new n8 (.lst [.bl true, .bl false, .non, .str "7", .ref a5, .ref a6, .ref a7])
    have e8 := at_new (.lst [.bl true, .bl false, .non, .str "7", .ref a5, .ref a6, .ref a7]) n8
    generalize upd H7 l8 (.lst [.bl true, .bl false, .non, .str "7", .ref a5, .ref a6, .ref a7]) = H8 at s8 e8 ⊢
    walk_at "rd"
    refine ⟨l3, l8, _, _, rfl, rfl, (s5.trans (s6.trans (s7.trans s8))) _ _ e3, e8, Nat.le_trans (Nat.le_of_ble_eq_true (by decide) : 11 ≤ 16777216) (by rw [sz]; exact Nat.le_refl _), ?_⟩
    intro l9 n9
    have s9 := same_new n9 (.lst ([.int (0 - 1), .int (1000000 + 1), .int (0 - 1 - p * y), .int (1000000 + 1 + p * y)] ++ [.bl true, .bl false, .non, .str "7", .ref a5, .ref a6, .ref a7]))
    have e9 := at_new (.lst ([.int (0 - 1), .int (1000000 + 1), .int (0 - 1 - p * y), .int (1000000 + 1 + p * y)] ++ [.bl true, .bl false, .non, .str "7", .ref a5, .ref a6, .ref a7])) n9
    generalize upd H8 l9 (.lst ([.int (0 - 1), .int (1000000 + 1), .int (0 - 1 - p * y), .int (1000000 + 1 + p * y)] ++ [.bl true, .bl false, .non, .str "7", .ref a5, .ref a6, .ref a7])) = H9 at s9 e9 ⊢
    have all : ∀ v ∈ ([.int (0 - 1), .int (1000000 + 1), .int (0 - 1 - p * y), .int (1000000 + 1 + p * y)] ++ [.bl true, .bl false, .non, .str "7", .ref a5, .ref a6, .ref a7] : List V), ∃ T, IsKind K H9 v T ∧ withB v (loE .rate d) (hiE .rate) = false := mem1 ⟨_, kn_int _, wb_lo (by show _ < (0 : Int); omega)⟩ (mem1 ⟨_, kn_int _, wb_hi (by show (1000000 : Int) < _; omega)⟩ (mem1 ⟨_, kn_int _, wb_lo (by show _ < (0 : Int); omega)⟩ (mem1 ⟨_, kn_int _, wb_hi (by show (1000000 : Int) < _; omega)⟩
      (mem1 ⟨_, kn_bl _, rfl⟩ (mem1 ⟨_, kn_bl _, rfl⟩ (mem1 ⟨_, kn_non, rfl⟩ (mem1 ⟨_, kn_str _, rfl⟩ (mem1 ⟨_, kn_lst ((s6.trans (s7.trans (s8.trans s9))) _ _ e5), rfl⟩ (mem1 ⟨_, kn_tup ((s7.trans (s8.trans s9)) _ _ e6), rfl⟩ (mem1 ⟨_, kn_dct ((s8.trans s9) _ _ e7), rfl⟩ mem0))))))))))
    walk_at "rd"
    intro i i0 i1
    obtain ⟨v, hv, hm⟩ := at_mem (xs := [.int (0 - 1), .int (1000000 + 1), .int (0 - 1 - p * y), .int (1000000 + 1 + p * y)] ++ [.bl true, .bl false, .non, .str "7", .ref a5, .ref a6, .ref a7]) i0 (by simpa using i1)
    obtain ⟨Tk, kn, nw⟩ := all v hm
    refine ⟨l9, _, _, _, rfl, rfl, SqL.of e9, hv, ?_⟩
    walk_at "rd"
    intro q nq
    have sq := same_new nq (.tup [.str "rate", .int d, v])
    exact h q v Tk _ (s1.trans (s2.trans (s3.trans (s5.trans (s6.trans (s7.trans (s8.trans (s9.trans sq)))))))) upd_same (kind_same kn sq) nw
  | late =>
    dsimp only [Ek.word] at e
    walk_at "rd"
    refine ⟨r, _, rfl, SqT.of e, ?_⟩
    refine ⟨rfl, _, _, rfl, _, _, rfl, _, _, rfl, rfl, ?_⟩
    walk_at "rd"
    intro l1 n1
    have s1 := same_new n1 (.lst [.int 1, .int (0 - 1000000000000)])
    have e1 := at_new (.lst [.int 1, .int (0 - 1000000000000)]) n1
    generalize upd H l1 (.lst [.int 1, .int (0 - 1000000000000)]) = H1 at s1 e1 ⊢
    walk_at "rd"
    intro t tt tb
    obtain rfl : t = 0 := tt
    walk_at "rd"
    refine ⟨l1, _, _, _, rfl, rfl, SqL.of e1, rfl, ?_⟩
    walk_at "rd"
    intro p p0 p1
    walk_at "rd"
    intro l2 n2
    have s2 := same_new n2 (.lst [.int 1, .int 100000000000000000])
    have e2 := at_new (.lst [.int 1, .int 100000000000000000]) n2
    generalize upd H1 l2 (.lst [.int 1, .int 100000000000000000]) = H2 at s2 e2 ⊢
    walk_at "rd"
    intro j j0 j1
    obtain ⟨v, hv, hm⟩ := at_mem (xs := [.int 1, .int 100000000000000000]) j0 (by simpa using j1)
    obtain ⟨y, rfl, y0⟩ := (mem1 ⟨_, rfl, by omega⟩ (mem1 ⟨_, rfl, by omega⟩ mem0) : ∀ v ∈ ([.int 1, .int 100000000000000000] : List V), ∃ w : Int, v = .int w ∧ 0 ≤ w) v hm
    refine ⟨l2, _, _, _, rfl, rfl, SqL.of e2, hv, ?_⟩
    have py : 0 ≤ p * y := Int.mul_nonneg p0 y0
    walk_at "rd"
    intro l3 n3
    have s3 := same_new n3 (.lst [.int (0 - 1), .int (1000000 + 1), .int (0 - 1 - p * y), .int (1000000 + 1 + p * y)])
    have e3 := at_new (.lst [.int (0 - 1), .int (1000000 + 1), .int (0 - 1 - p * y), .int (1000000 + 1 + p * y)]) n3
    generalize upd H2 l3 (.lst [.int (0 - 1), .int (1000000 + 1), .int (0 - 1 - p * y), .int (1000000 + 1 + p * y)]) = H3 at s3 e3 ⊢
    walk_at "rd"
    intro a5 n5
    have s5 := same_new n5 (.lst [.int x])
    have e5 := at_new (.lst [.int x]) n5
    generalize upd H3 a5 (.lst [.int x]) = H5 at s5 e5 ⊢
    walk_at "rd"
    intro a6 n6
    have s6 := same_new n6 (.tup [.int x])
    have e6 := at_new (.tup [.int x]) n6
    generalize upd H5 a6 (.tup [.int x]) = H6 at s6 e6 ⊢
    walk_at "rd"
    refine fun a7 n7 => ?_
    have s7 := same_new n7 (.dK [])
    have e7 := at_new (.dK []) n7
    generalize upd H6 a7 (.dK []) = H7 at s7 e7 ⊢
    walk_at "rd"
    intro l8 n8
    have s8 := same_new n8 (.lst [.bl true, .bl false, .non, .str "7", .ref a5, .ref a6, .ref a7])
    have e8 := at_new (.lst [.bl true, .bl false, .non, .str "7", .ref a5, .ref a6, .ref a7]) n8
    generalize upd H7 l8 (.lst [.bl true, .bl false, .non, .str "7", .ref a5, .ref a6, .ref a7]) = H8 at s8 e8 ⊢
    walk_at "rd"
    refine ⟨l3, l8, _, _, rfl, rfl, (s5.trans (s6.trans (s7.trans s8))) _ _ e3, e8, Nat.le_trans (Nat.le_of_ble_eq_true (by decide) : 11 ≤ 16777216) (by rw [sz]; exact Nat.le_refl _), ?_⟩
    intro l9 n9
    have s9 := same_new n9 (.lst ([.int (0 - 1), .int (1000000 + 1), .int (0 - 1 - p * y), .int (1000000 + 1 + p * y)] ++ [.bl true, .bl false, .non, .str "7", .ref a5, .ref a6, .ref a7]))
    have e9 := at_new (.lst ([.int (0 - 1), .int (1000000 + 1), .int (0 - 1 - p * y), .int (1000000 + 1 + p * y)] ++ [.bl true, .bl false, .non, .str "7", .ref a5, .ref a6, .ref a7])) n9
    generalize upd H8 l9 (.lst ([.int (0 - 1), .int (1000000 + 1), .int (0 - 1 - p * y), .int (1000000 + 1 + p * y)] ++ [.bl true, .bl false, .non, .str "7", .ref a5, .ref a6, .ref a7])) = H9 at s9 e9 ⊢
    have all : ∀ v ∈ ([.int (0 - 1), .int (1000000 + 1), .int (0 - 1 - p * y), .int (1000000 + 1 + p * y)] ++ [.bl true, .bl false, .non, .str "7", .ref a5, .ref a6, .ref a7] : List V), ∃ T, IsKind K H9 v T ∧ withB v (loE .late d) (hiE .late) = false := mem1 ⟨_, kn_int _, wb_lo (by show _ < (0 : Int); omega)⟩ (mem1 ⟨_, kn_int _, wb_hi (by show (1000000 : Int) < _; omega)⟩ (mem1 ⟨_, kn_int _, wb_lo (by show _ < (0 : Int); omega)⟩ (mem1 ⟨_, kn_int _, wb_hi (by show (1000000 : Int) < _; omega)⟩
      (mem1 ⟨_, kn_bl _, rfl⟩ (mem1 ⟨_, kn_bl _, rfl⟩ (mem1 ⟨_, kn_non, rfl⟩ (mem1 ⟨_, kn_str _, rfl⟩ (mem1 ⟨_, kn_lst ((s6.trans (s7.trans (s8.trans s9))) _ _ e5), rfl⟩ (mem1 ⟨_, kn_tup ((s7.trans (s8.trans s9)) _ _ e6), rfl⟩ (mem1 ⟨_, kn_dct ((s8.trans s9) _ _ e7), rfl⟩ mem0))))))))))
    walk_at "rd"
    intro i i0 i1
    obtain ⟨v, hv, hm⟩ := at_mem (xs := [.int (0 - 1), .int (1000000 + 1), .int (0 - 1 - p * y), .int (1000000 + 1 + p * y)] ++ [.bl true, .bl false, .non, .str "7", .ref a5, .ref a6, .ref a7]) i0 (by simpa using i1)
    obtain ⟨Tk, kn, nw⟩ := all v hm
    refine ⟨l9, _, _, _, rfl, rfl, SqL.of e9, hv, ?_⟩
    walk_at "rd"
    intro q nq
    have sq := same_new nq (.tup [.str "late", .int d, v])
    exact h q v Tk _ (s1.trans (s2.trans (s3.trans (s5.trans (s6.trans (s7.trans (s8.trans (s9.trans sq)))))))) upd_same (kind_same kn sq) nw
  | still =>
    dsimp only [Ek.word] at e
    walk_at "rd"
    refine ⟨r, _, rfl, SqT.of e, ?_⟩
    refine ⟨rfl, _, _, rfl, _, _, rfl, _, _, rfl, rfl, ?_⟩
    walk_at "rd"
    intro l1 n1
    have s1 := same_new n1 (.lst [.int 1, .int (0 - 1000000000000)])
    have e1 := at_new (.lst [.int 1, .int (0 - 1000000000000)]) n1
    generalize upd H l1 (.lst [.int 1, .int (0 - 1000000000000)]) = H1 at s1 e1 ⊢
    walk_at "rd"
    intro t tt tb
    obtain rfl : t = 0 := tt
    walk_at "rd"
    refine ⟨l1, _, _, _, rfl, rfl, SqL.of e1, rfl, ?_⟩
    walk_at "rd"
    intro p p0 p1
    walk_at "rd"
    intro l2 n2
    have s2 := same_new n2 (.lst [.int 1, .int 100000000000000000])
    have e2 := at_new (.lst [.int 1, .int 100000000000000000]) n2
    generalize upd H1 l2 (.lst [.int 1, .int 100000000000000000]) = H2 at s2 e2 ⊢
    walk_at "rd"
    intro j j0 j1
    obtain ⟨v, hv, hm⟩ := at_mem (xs := [.int 1, .int 100000000000000000]) j0 (by simpa using j1)
    obtain ⟨y, rfl, y0⟩ := (mem1 ⟨_, rfl, by omega⟩ (mem1 ⟨_, rfl, by omega⟩ mem0) : ∀ v ∈ ([.int 1, .int 100000000000000000] : List V), ∃ w : Int, v = .int w ∧ 0 ≤ w) v hm
    refine ⟨l2, _, _, _, rfl, rfl, SqL.of e2, hv, ?_⟩
    have py : 0 ≤ p * y := Int.mul_nonneg p0 y0
    walk_at "rd"
    intro l3 n3
    have s3 := same_new n3 (.lst [.int ((d + 1) - 1), .int (1000000 + 1), .int ((d + 1) - 1 - p * y), .int (1000000 + 1 + p * y)])
    have e3 := at_new (.lst [.int ((d + 1) - 1), .int (1000000 + 1), .int ((d + 1) - 1 - p * y), .int (1000000 + 1 + p * y)]) n3
    generalize upd H2 l3 (.lst [.int ((d + 1) - 1), .int (1000000 + 1), .int ((d + 1) - 1 - p * y), .int (1000000 + 1 + p * y)]) = H3 at s3 e3 ⊢
    walk_at "rd"
    intro a5 n5
    have s5 := same_new n5 (.lst [.int x])
    have e5 := at_new (.lst [.int x]) n5
    generalize upd H3 a5 (.lst [.int x]) = H5 at s5 e5 ⊢
    walk_at "rd"
    intro a6 n6
    have s6 := same_new n6 (.tup [.int x])
    have e6 := at_new (.tup [.int x]) n6
    generalize upd H5 a6 (.tup [.int x]) = H6 at s6 e6 ⊢
    walk_at "rd"
    refine fun a7 n7 => ?_
    have s7 := same_new n7 (.dK [])
    have e7 := at_new (.dK []) n7
    generalize upd H6 a7 (.dK []) = H7 at s7 e7 ⊢
    walk_at "rd"
    intro l8 n8
    have s8 := same_new n8 (.lst [.bl true, .bl false, .non, .str "7", .ref a5, .ref a6, .ref a7])
    have e8 := at_new (.lst [.bl true, .bl false, .non, .str "7", .ref a5, .ref a6, .ref a7]) n8
    generalize upd H7 l8 (.lst [.bl true, .bl false, .non, .str "7", .ref a5, .ref a6, .ref a7]) = H8 at s8 e8 ⊢
    walk_at "rd"
    refine ⟨l3, l8, _, _, rfl, rfl, (s5.trans (s6.trans (s7.trans s8))) _ _ e3, e8, Nat.le_trans (Nat.le_of_ble_eq_true (by decide) : 11 ≤ 16777216) (by rw [sz]; exact Nat.le_refl _), ?_⟩
    intro l9 n9
    have s9 := same_new n9 (.lst ([.int ((d + 1) - 1), .int (1000000 + 1), .int ((d + 1) - 1 - p * y), .int (1000000 + 1 + p * y)] ++ [.bl true, .bl false, .non, .str "7", .ref a5, .ref a6, .ref a7]))
    have e9 := at_new (.lst ([.int ((d + 1) - 1), .int (1000000 + 1), .int ((d + 1) - 1 - p * y), .int (1000000 + 1 + p * y)] ++ [.bl true, .bl false, .non, .str "7", .ref a5, .ref a6, .ref a7])) n9
    generalize upd H8 l9 (.lst ([.int ((d + 1) - 1), .int (1000000 + 1), .int ((d + 1) - 1 - p * y), .int (1000000 + 1 + p * y)] ++ [.bl true, .bl false, .non, .str "7", .ref a5, .ref a6, .ref a7])) = H9 at s9 e9 ⊢
    have all : ∀ v ∈ ([.int ((d + 1) - 1), .int (1000000 + 1), .int ((d + 1) - 1 - p * y), .int (1000000 + 1 + p * y)] ++ [.bl true, .bl false, .non, .str "7", .ref a5, .ref a6, .ref a7] : List V), ∃ T, IsKind K H9 v T ∧ withB v (loE .still d) (hiE .still) = false := mem1 ⟨_, kn_int _, wb_lo (by show _ < (d + 1 : Int); omega)⟩ (mem1 ⟨_, kn_int _, wb_hi (by show (1000000 : Int) < _; omega)⟩ (mem1 ⟨_, kn_int _, wb_lo (by show _ < (d + 1 : Int); omega)⟩ (mem1 ⟨_, kn_int _, wb_hi (by show (1000000 : Int) < _; omega)⟩
      (mem1 ⟨_, kn_bl _, rfl⟩ (mem1 ⟨_, kn_bl _, rfl⟩ (mem1 ⟨_, kn_non, rfl⟩ (mem1 ⟨_, kn_str _, rfl⟩ (mem1 ⟨_, kn_lst ((s6.trans (s7.trans (s8.trans s9))) _ _ e5), rfl⟩ (mem1 ⟨_, kn_tup ((s7.trans (s8.trans s9)) _ _ e6), rfl⟩ (mem1 ⟨_, kn_dct ((s8.trans s9) _ _ e7), rfl⟩ mem0))))))))))
    walk_at "rd"
    intro i i0 i1
    obtain ⟨v, hv, hm⟩ := at_mem (xs := [.int ((d + 1) - 1), .int (1000000 + 1), .int ((d + 1) - 1 - p * y), .int (1000000 + 1 + p * y)] ++ [.bl true, .bl false, .non, .str "7", .ref a5, .ref a6, .ref a7]) i0 (by simpa using i1)
    obtain ⟨Tk, kn, nw⟩ := all v hm
    refine ⟨l9, _, _, _, rfl, rfl, SqL.of e9, hv, ?_⟩
    walk_at "rd"
    intro q nq
    have sq := same_new nq (.tup [.str "still", .int d, v])
    exact h q v Tk _ (s1.trans (s2.trans (s3.trans (s5.trans (s6.trans (s7.trans (s8.trans (s9.trans sq)))))))) upd_same (kind_same kn sq) nw
--@ made
def sp_made (K : PySem.W.Frag) : Sp := fun vs H Q _ => ∃ (k : Ek) (d x : Int), vs = [.str k.word, .int d, .int x] ∧ k ≠ .turn ∧ k ≠ .base ∧ ∀ (a dx : Addr) (H' : Hp), Same H H' → H a = none → IsEnt K H' a dx k d x → Q (.ref a) H'
theorem sc_made : FnScope ["word", "day", "thing"] ["word", "day", "thing"] (defScope s_made) := ⟨rfl, rfl, rfl, by decide +kernel, rfl, by decide +kernel, by decide +kernel⟩
theorem d_made (S : Src K mg "made" s_made ["word", "day", "thing"]) (T : Txt K mg) (D_init_Out : DefM P w K mg base 2 (cA K "Out") "__init__" ["self", "day", "amount"] (sp_AmountEntry_init K)) (D_init_Fee : DefM P w K mg base 2 (cA K "Fee") "__init__" ["self", "day", "amount"] (sp_AmountEntry_init K)) (D_init_Pay : DefM P w K mg base 2 (cA K "Pay") "__init__" ["self", "day", "amount"] (sp_AmountEntry_init K)) (D_init_Due : DefM P w K mg base 2 (cA K "Due") "__init__" ["self", "day", "amount"] (sp_AmountEntry_init K)) (D_init_Rate : DefM P w K mg base 2 (cA K "Rate") "__init__" ["self", "day", "rate"] (sp_RateEntry_init K)) (D_init_Late : DefM P w K mg base 2 (cA K "Late") "__init__" ["self", "day", "rate"] (sp_RateEntry_init K)) (D_init_Still : DefM P w K mg base 2 (cA K "Still") "__init__" ["self", "day", "until"] (sp_Still_init K)) : Def P w K mg base 4 "made" ["word", "day", "thing"] (sp_made K) := by
  refine S.ok sc_made (fun vs H Q E h => ?_) (fun f cdv A outer s H vs Q E hr h => ?_)
  · obtain ⟨k, d, x, rfl, h1, h2, h⟩ := h
    rfl
  obtain ⟨k, d, x, rfl, h1, h2, h⟩ := h
  refine ⟨_, (pss_cons (ps_if (pt_cmpR op_eq (pv 0) pe_str (nomark _))
      (pss_one (ps_ret (pe_makeC T.mi_Out D_init_Out hr T.m_Out (pa_cons (pv 1) (pa_cons (pv 2) pa_nil)))))
      pss_nil)
      (pss_cons (ps_if (pt_cmpR op_eq (pv 0) pe_str (nomark _))
      (pss_one (ps_ret (pe_makeC T.mi_Fee D_init_Fee hr T.m_Fee (pa_cons (pv 1) (pa_cons (pv 2) pa_nil)))))
      pss_nil)
      (pss_cons (ps_if (pt_cmpR op_eq (pv 0) pe_str (nomark _))
      (pss_one (ps_ret (pe_makeC T.mi_Pay D_init_Pay hr T.m_Pay (pa_cons (pv 1) (pa_cons (pv 2) pa_nil)))))
      pss_nil)
      (pss_cons (ps_if (pt_cmpR op_eq (pv 0) pe_str (nomark _))
      (pss_one (ps_ret (pe_makeC T.mi_Due D_init_Due hr T.m_Due (pa_cons (pv 1) (pa_cons (pv 2) pa_nil)))))
      pss_nil)
      (pss_cons (ps_if (pt_cmpR op_eq (pv 0) pe_str (nomark _))
      (pss_one (ps_ret (pe_makeC T.mi_Rate D_init_Rate hr T.m_Rate (pa_cons (pv 1) (pa_cons (pv 2) pa_nil)))))
      pss_nil)
      (pss_cons (ps_if (pt_cmpR op_eq (pv 0) pe_str (nomark _))
      (pss_one (ps_ret (pe_makeC T.mi_Late D_init_Late hr T.m_Late (pa_cons (pv 1) (pa_cons (pv 2) pa_nil)))))
      pss_nil)
      (pss_one (ps_ret (pe_makeC T.mi_Still D_init_Still hr T.m_Still (pa_cons (pv 1) (pa_cons (pv 2) pa_nil))))))))))), ?_⟩
  cases k with
  | turn => exact absurd rfl h1
  | base => exact absurd rfl h2
  | out =>
    dsimp only [Ek.word]
    walk_at "rd"
    intro a dx na nd ne
    refine ⟨a, _, dx, d, x, rfl, upd_same, T.clE .out, T.naE_day .out, T.naE_amount .out, rfl, ?_⟩
    rw [upd_upd]
    walk_at "rd"
    exact h a dx _ ((same_new nd _).trans (same_new (by rw [upd_ne ne.symm]; exact na) _)) na upd_same
  | fee =>
    dsimp only [Ek.word]
    walk_at "rd"
    intro a dx na nd ne
    refine ⟨a, _, dx, d, x, rfl, upd_same, T.clE .fee, T.naE_day .fee, T.naE_amount .fee, rfl, ?_⟩
    rw [upd_upd]
    walk_at "rd"
    exact h a dx _ ((same_new nd _).trans (same_new (by rw [upd_ne ne.symm]; exact na) _)) na upd_same
  | pay =>
    dsimp only [Ek.word]
    walk_at "rd"
    intro a dx na nd ne
    refine ⟨a, _, dx, d, x, rfl, upd_same, T.clE .pay, T.naE_day .pay, T.naE_amount .pay, rfl, ?_⟩
    rw [upd_upd]
    walk_at "rd"
    exact h a dx _ ((same_new nd _).trans (same_new (by rw [upd_ne ne.symm]; exact na) _)) na upd_same
  | due =>
    dsimp only [Ek.word]
    walk_at "rd"
    intro a dx na nd ne
    refine ⟨a, _, dx, d, x, rfl, upd_same, T.clE .due, T.naE_day .due, T.naE_amount .due, rfl, ?_⟩
    rw [upd_upd]
    walk_at "rd"
    exact h a dx _ ((same_new nd _).trans (same_new (by rw [upd_ne ne.symm]; exact na) _)) na upd_same
  | rate =>
    dsimp only [Ek.word]
    walk_at "rd"
    intro a dx na nd ne
    refine ⟨a, _, dx, d, x, rfl, upd_same, T.clE .rate, T.naE_day .rate, T.naE_rate .rate, rfl, ?_⟩
    rw [upd_upd]
    walk_at "rd"
    exact h a dx _ ((same_new nd _).trans (same_new (by rw [upd_ne ne.symm]; exact na) _)) na upd_same
  | late =>
    dsimp only [Ek.word]
    walk_at "rd"
    intro a dx na nd ne
    refine ⟨a, _, dx, d, x, rfl, upd_same, T.clE .late, T.naE_day .late, T.naE_rate .late, rfl, ?_⟩
    rw [upd_upd]
    walk_at "rd"
    exact h a dx _ ((same_new nd _).trans (same_new (by rw [upd_ne ne.symm]; exact na) _)) na upd_same
  | still =>
    dsimp only [Ek.word]
    walk_at "rd"
    intro a dx na nd ne
    refine ⟨a, _, dx, d, x, rfl, upd_same, T.clE .still, T.naE_day .still, T.naE_until .still, rfl, ?_⟩
    rw [upd_upd]
    walk_at "rd"
    exact h a dx _ ((same_new nd _).trans (same_new (by rw [upd_ne ne.symm]; exact na) _)) na upd_same
--@ _law_row
def sp__law_row (K : PySem.W.Frag) : Sp := fun vs H Q _ => ∃ (c : Int), vs = [.int c] ∧ ∀ (r : Addr) (k : Ek) (d x : Int) (H' : Hp), Same H H' → H r = none → H' r = some (.tup (rowV k d x)) → k ≠ .base → GoodRow k d x → Q (.ref r) H'
theorem sc__law_row : FnScope ["_law_cell_here", "_law_word", "_law_day_here", "_law_thing_here", "_law_some"] ["_law_cell_here"] (defScope s__law_row) := ⟨rfl, rfl, rfl, by decide +kernel, rfl, by decide +kernel, by decide +kernel⟩
theorem d__law_row (S : Src K mg "_law_row" s__law_row ["_law_cell_here"]) (T : Txt K mg) (D__law_pick : Def P w K mg base 2 "_law_pick" ["_law_cell_here", "_law_by", "_law_many"] (sp__law_pick K)) (D__law_day : Def P w K mg base 3 "_law_day" ["_law_cell_here"] (sp__law_day K)) (D__law_amount : Def P w K mg base 3 "_law_amount" ["_law_cell_here"] (sp__law_amount K)) : Def P w K mg base 4 "_law_row" ["_law_cell_here"] (sp__law_row K) := by
  refine S.ok sc__law_row (fun vs H Q E h => ?_) (fun f cdv A outer s H vs Q E hr h => ?_)
  · obtain ⟨c, rfl, h⟩ := h
    rfl
  obtain ⟨c, rfl, h⟩ := h
  refine ⟨_, (pss_cons (ps_set (i := 1) sc__law_row.nd rfl (by first | exact Or.inl rfl | exact Or.inr rfl) (pe_ix ix_list (pe_lst (pa_cons pe_str (pa_cons pe_str (pa_cons pe_str (pa_cons pe_str (pa_cons pe_str (pa_cons pe_str (pa_cons pe_str (pa_cons pe_str pa_nil))))))))) (pe_fn D__law_pick hr (pa_cons (pv 0) (pa_cons pe_int (pa_cons pe_int pa_nil)))) (fun _ _ => rfl)))
      (pss_cons (ps_set (i := 2) sc__law_row.nd rfl (by first | exact Or.inl rfl | exact Or.inr rfl) (pe_fn D__law_day hr (pa_cons (pv 0) pa_nil)))
      (pss_cons (ps_set (i := 3) sc__law_row.nd rfl (by first | exact Or.inl rfl | exact Or.inr rfl) (pe_fn D__law_amount hr (pa_cons (pv 0) pa_nil)))
      (pss_cons (ps_if (pt_cmpR op_eq (pv 1) pe_str (nomark _))
      (pss_one (ps_ret (pe_tup (pa_cons (pv 1) (pa_cons (pv 2) pa_nil)))))
      pss_nil)
      (pss_cons (ps_if (pt_cmpR op_eq (pv 1) pe_str (nomark _))
      (pss_one (ps_set (i := 3) sc__law_row.nd rfl (by first | exact Or.inl rfl | exact Or.inr rfl) (pe_ix ix_list (pe_lst (pa_cons (pv 3) (pa_cons (pe_op op_sub pe_int (pv 3)) (pa_cons pe_int pa_nil)))) (pe_op op_fdiv (pe_fn D__law_pick hr (pa_cons (pv 0) (pa_cons pe_int (pa_cons pe_int pa_nil)))) pe_int) (fun _ _ => rfl))))
      pss_nil)
      (pss_cons (ps_if (PW.pt (pw_or (pt_cmpR op_eq (pv 1) pe_str (nomark _)) (pw_or1 (pt_cmpR op_eq (pv 1) pe_str (nomark _)))))
      (pss_cons (ps_set (i := 4) sc__law_row.nd rfl (by first | exact Or.inl rfl | exact Or.inr rfl) (pe_lst (pa_cons (pe_fn D__law_pick hr (pa_cons (pv 0) (pa_cons pe_int (pa_cons (pe_op op_add (pe_powc (v := 1000000) (by decide +kernel) ⟨by decide, by decide, by decide⟩) pe_int) pa_nil)))) (pa_cons (pe_fn D__law_pick hr (pa_cons (pv 0) (pa_cons pe_int (pa_cons pe_int pa_nil)))) (pa_cons pe_int (pa_cons (pe_powc (v := 1000000) (by decide +kernel) ⟨by decide, by decide, by decide⟩) pa_nil))))))
      (pss_one (ps_set (i := 3) sc__law_row.nd rfl (by first | exact Or.inl rfl | exact Or.inr rfl) (pe_ix ix_list (pv 4) (pe_fn D__law_pick hr (pa_cons (pv 0) (pa_cons pe_int (pa_cons pe_int pa_nil)))) (fun _ _ => rfl)))))
      pss_nil)
      (pss_cons (ps_if (pt_cmpR op_eq (pv 1) pe_str (nomark _))
      (pss_cons (ps_set (i := 4) sc__law_row.nd rfl (by first | exact Or.inl rfl | exact Or.inr rfl) (pe_lst (pa_cons (pe_op op_add (pe_op op_add (pv 2) pe_int) (pe_fn D__law_pick hr (pa_cons (pv 0) (pa_cons pe_int (pa_cons (pe_op op_sub (pe_powc (v := 1000000) (by decide +kernel) ⟨by decide, by decide, by decide⟩) (pv 2)) pa_nil))))) (pa_cons (pe_op op_add (pv 2) pe_int) (pa_cons (pe_powc (v := 1000000) (by decide +kernel) ⟨by decide, by decide, by decide⟩) pa_nil)))))
      (pss_one (ps_set (i := 3) sc__law_row.nd rfl (by first | exact Or.inl rfl | exact Or.inr rfl) (pe_ix ix_list (pv 4) (pe_fn D__law_pick hr (pa_cons (pv 0) (pa_cons pe_int (pa_cons pe_int pa_nil)))) (fun _ _ => rfl)))))
      pss_nil)
      (pss_one (ps_ret (pe_tup (pa_cons (pv 1) (pa_cons (pv 2) (pa_cons (pv 3) pa_nil))))))))))))), ?_⟩
  have sz := sizeLine_eq
  walk_at "rd"
  intro l nl
  have sl := same_new nl (.lst [.str "out", .str "fee", .str "pay", .str "due", .str "turn", .str "rate", .str "late", .str "still"])
  walk_at "rd"
  intro i i0 i1
  obtain ⟨v, hv, hm⟩ := at_mem (xs := [.str "out", .str "fee", .str "pay", .str "due", .str "turn", .str "rate", .str "late", .str "still"]) i0 (by simpa using i1)
  obtain ⟨k, rfl, hk⟩ := (mem1 ⟨.out, rfl, by intro z; cases z⟩ (mem1 ⟨.fee, rfl, by intro z; cases z⟩ (mem1 ⟨.pay, rfl, by intro z; cases z⟩ (mem1 ⟨.due, rfl, by intro z; cases z⟩ (mem1 ⟨.turn, rfl, by intro z; cases z⟩ (mem1 ⟨.rate, rfl, by intro z; cases z⟩ (mem1 ⟨.late, rfl, by intro z; cases z⟩ (mem1 ⟨.still, rfl, by intro z; cases z⟩ mem0))))))) : ∀ v ∈ ([.str "out", .str "fee", .str "pay", .str "due", .str "turn", .str "rate", .str "late", .str "still"] : List V), ∃ k : Ek, v = .str k.word ∧ k ≠ .base) v hm
  refine ⟨l, _, _, _, rfl, rfl, SqL.of upd_same, hv, ?_⟩
  clear hv hm
  have nl1 : ∀ q, upd H l (.lst [.str "out", .str "fee", .str "pay", .str "due", .str "turn", .str "rate", .str "late", .str "still"]) q = none → H q = none := fun q nq => same_gone sl nq
  generalize upd H l (.lst [.str "out", .str "fee", .str "pay", .str "due", .str "turn", .str "rate", .str "late", .str "still"]) = H1 at sl nl1 ⊢
  walk_at "rd"
  intro d d0 d1
  walk_at "rd"
  intro x x0 x1
  cases k with
  | base => exact absurd rfl hk
  | turn =>
    dsimp only [Ek.word]
    walk_at "rd"
    intro r nr
    exact h r .turn d 0 _ (sl.trans (same_new nr _)) (nl1 r nr) upd_same hk ⟨⟨d0, d1⟩, trivial⟩
  | out =>
    dsimp only [Ek.word]
    walk_at "rd"
    intro r nr
    exact h r .out d x _ (sl.trans (same_new nr _)) (nl1 r nr) upd_same hk ⟨⟨d0, d1⟩, x0, x1⟩
  | pay =>
    dsimp only [Ek.word]
    walk_at "rd"
    intro r nr
    exact h r .pay d x _ (sl.trans (same_new nr _)) (nl1 r nr) upd_same hk ⟨⟨d0, d1⟩, x0, x1⟩
  | due =>
    dsimp only [Ek.word]
    walk_at "rd"
    intro r nr
    exact h r .due d x _ (sl.trans (same_new nr _)) (nl1 r nr) upd_same hk ⟨⟨d0, d1⟩, x0, x1⟩
  | fee =>
    dsimp only [Ek.word]
    walk_at "rd"
    intro l2 n2
    have s2 := same_new n2 (.lst [.int x, .int (0 - x), .int 0])
    walk_at "rd"
    intro j j0 j1
    walk_at "rd"
    obtain ⟨v, hv, hm⟩ := at_mem (xs := [.int x, .int (0 - x), .int 0]) (k := j / 2) (by omega) (by simp; omega)
    obtain ⟨y, rfl, y0, y1⟩ := (mem1 ⟨_, rfl, by omega, by omega⟩ (mem1 ⟨_, rfl, by omega, by omega⟩ (mem1 ⟨_, rfl, by omega, by omega⟩ mem0)) : ∀ v ∈ ([.int x, .int (0 - x), .int 0] : List V), ∃ w : Int, v = .int w ∧ -1000000000000 ≤ w ∧ w ≤ 1000000000000) v hm
    refine ⟨l2, _, _, _, rfl, rfl, SqL.of upd_same, hv, ?_⟩
    walk_at "rd"
    intro r nr
    exact h r .fee d y _ (sl.trans (s2.trans (same_new nr _))) (nl1 r (same_gone s2 nr)) upd_same hk ⟨⟨d0, d1⟩, y0, y1⟩
  | rate =>
    dsimp only [Ek.word]
    walk_at "rd"
    intro p p0 p1
    walk_at "rd"
    intro p' p0' p1'
    walk_at "rd"
    intro l2 n2
    have s2 := same_new n2 (.lst [.int p, .int p', .int 0, .int 1000000])
    walk_at "rd"
    intro j j0 j1
    obtain ⟨v, hv, hm⟩ := at_mem (xs := [.int p, .int p', .int 0, .int 1000000]) j0 (by simpa using j1)
    obtain ⟨y, rfl, y0, y1⟩ := (mem1 ⟨_, rfl, by omega, by omega⟩ (mem1 ⟨_, rfl, by omega, by omega⟩ (mem1 ⟨_, rfl, by omega, by omega⟩ (mem1 ⟨_, rfl, by omega, by omega⟩ mem0))) : ∀ v ∈ ([.int p, .int p', .int 0, .int 1000000] : List V), ∃ w : Int, v = .int w ∧ 0 ≤ w ∧ w ≤ 1000000) v hm
    refine ⟨l2, _, _, _, rfl, rfl, SqL.of upd_same, hv, ?_⟩
    walk_at "rd"
    intro r nr
    exact h r .rate d y _ (sl.trans (s2.trans (same_new nr _))) (nl1 r (same_gone s2 nr)) upd_same hk ⟨⟨d0, d1⟩, y0, y1⟩
  | late =>
    dsimp only [Ek.word]
    walk_at "rd"
    intro p p0 p1
    walk_at "rd"
    intro p' p0' p1'
    walk_at "rd"
    intro l2 n2
    have s2 := same_new n2 (.lst [.int p, .int p', .int 0, .int 1000000])
    walk_at "rd"
    intro j j0 j1
    obtain ⟨v, hv, hm⟩ := at_mem (xs := [.int p, .int p', .int 0, .int 1000000]) j0 (by simpa using j1)
    obtain ⟨y, rfl, y0, y1⟩ := (mem1 ⟨_, rfl, by omega, by omega⟩ (mem1 ⟨_, rfl, by omega, by omega⟩ (mem1 ⟨_, rfl, by omega, by omega⟩ (mem1 ⟨_, rfl, by omega, by omega⟩ mem0))) : ∀ v ∈ ([.int p, .int p', .int 0, .int 1000000] : List V), ∃ w : Int, v = .int w ∧ 0 ≤ w ∧ w ≤ 1000000) v hm
    refine ⟨l2, _, _, _, rfl, rfl, SqL.of upd_same, hv, ?_⟩
    walk_at "rd"
    intro r nr
    exact h r .late d y _ (sl.trans (s2.trans (same_new nr _))) (nl1 r (same_gone s2 nr)) upd_same hk ⟨⟨d0, d1⟩, y0, y1⟩
  | still =>
    dsimp only [Ek.word]
    walk_at "rd"
    intro p p0 p1
    walk_at "rd"
    intro l2 n2
    have s2 := same_new n2 (.lst [.int (d + 1 + p), .int (d + 1), .int 1000000])
    walk_at "rd"
    intro j j0 j1
    obtain ⟨v, hv, hm⟩ := at_mem (xs := [.int (d + 1 + p), .int (d + 1), .int 1000000]) j0 (by simpa using j1)
    obtain ⟨y, rfl, y0, y1⟩ := (mem1 ⟨_, rfl, by omega, by omega⟩ (mem1 ⟨_, rfl, by omega, by omega⟩ (mem1 ⟨_, rfl, by omega, by omega⟩ mem0)) : ∀ v ∈ ([.int (d + 1 + p), .int (d + 1), .int 1000000] : List V), ∃ w : Int, v = .int w ∧ d + 1 ≤ w ∧ w ≤ 1000000) v hm
    refine ⟨l2, _, _, _, rfl, rfl, SqL.of upd_same, hv, ?_⟩
    walk_at "rd"
    intro r nr
    exact h r .still d y _ (sl.trans (s2.trans (same_new nr _))) (nl1 r (same_gone s2 nr)) upd_same hk ⟨⟨d0, d1⟩, y0, y1⟩
--@ _law_second
def sp__law_second (K : PySem.W.Frag) : Sp := fun vs H Q _ => ∃ (c : Int) (r : Addr) (k : Ek) (v1 : V) (rest : List V), vs = [.int c, .ref r] ∧ H r = some (.tup (.str k.word :: v1 :: rest)) ∧ k ≠ .base ∧ rest.length + 1 = lenE k ∧ ∀ (q : Addr) (u : V) (T : String) (H' : Hp), Same H H' → H' q = some (.tup (.str k.word :: u :: rest)) → IsKind K H' u T → dayV u = false → Q (.ref q) H'
theorem sc__law_second : FnScope ["_law_cell_here", "_law_row_here", "_law_some"] ["_law_cell_here", "_law_row_here"] (defScope s__law_second) := ⟨rfl, rfl, rfl, by decide +kernel, rfl, by decide +kernel, by decide +kernel⟩
theorem d__law_second (S : Src K mg "_law_second" s__law_second ["_law_cell_here", "_law_row_here"]) (T : Txt K mg) (D__law_thing : Def P w K mg base 3 "_law_thing" ["_law_cell_here", "_law_by"] (sp__law_thing K)) (D__law_pick : Def P w K mg base 2 "_law_pick" ["_law_cell_here", "_law_by", "_law_many"] (sp__law_pick K)) : Def P w K mg base 4 "_law_second" ["_law_cell_here", "_law_row_here"] (sp__law_second K) := by
  refine S.ok sc__law_second (fun vs H Q E h => ?_) (fun f cdv A outer s H vs Q E hr h => ?_)
  · obtain ⟨c, r, k, v1, rest, rfl, e, hk, hl, h⟩ := h
    rfl
  obtain ⟨c, r, k, v1, rest, rfl, e, hk, hl, h⟩ := h
  refine ⟨_, (pss_cons (ps_set (i := 2) sc__law_second.nd rfl (by first | exact Or.inl rfl | exact Or.inr rfl) (pe_lst (pa_cons (pe_op op_sub pe_int pe_int) (pa_cons (pe_powc (v := 1000000) (by decide +kernel) ⟨by decide, by decide, by decide⟩) (pa_cons (pe_op op_add (pe_powc (v := 1000000) (by decide +kernel) ⟨by decide, by decide, by decide⟩) (pe_fn D__law_pick hr (pa_cons (pv 0) (pa_cons pe_int (pa_cons (pe_powc (v := 10000000000000) (by decide +kernel) ⟨by decide, by decide, by decide⟩) pa_nil))))) (pa_cons (pe_fn D__law_thing hr (pa_cons (pv 0) (pa_cons pe_int pa_nil))) pa_nil))))))
      (pss_one (ps_ret (pe_op op_catT (pe_tup (pa_cons (pe_ix ix_tup (pv 1) pe_int (fun _ _ => rfl)) (pa_cons (pe_ix ix_list (pv 2) (pe_fn D__law_pick hr (pa_cons (pv 0) (pa_cons pe_int (pa_cons pe_int pa_nil)))) (fun _ _ => rfl)) pa_nil))) (pe_slice sl_tup (pv 1) (po_some pe_int) po_none))))), ?_⟩
  have sz := sizeLine_eq
  walk_at "rd"
  intro g g0 g1
  walk_at "rd"
  intro u Tk H1 s1 kn nd
  walk_at "rd"
  intro l2 n2
  have s2 := same_new n2 (.lst [.int (0 - 1), .int 1000000, .int (1000000 + g), u])
  have e2 := at_new (.lst [.int (0 - 1), .int 1000000, .int (1000000 + g), u]) n2
  generalize upd H1 l2 (.lst [.int (0 - 1), .int 1000000, .int (1000000 + g), u]) = H2 at s2 e2 ⊢
  have all : ∀ v ∈ ([.int (0 - 1), .int 1000000, .int (1000000 + g), u] : List V), ∃ T, IsKind K H2 v T ∧ dayV v = false := mem1 ⟨_, kn_int _, rfl⟩ (mem1 ⟨_, kn_int _, rfl⟩ (mem1 ⟨_, kn_int _, (by
    show (decide (0 ≤ 1000000 + g) && decide (1000000 + g ≤ 999999)) = false
    rw [decide_eq_false (show ¬ 1000000 + g ≤ 999999 by omega), Bool.and_false])⟩ (mem1 ⟨_, kind_same kn s2, nd⟩ mem0)))
  have er2 := (s1.trans s2) _ _ e
  walk_at "rd"
  refine ⟨r, _, _, _, rfl, rfl, SqT.of er2, at0, ?_⟩
  walk_at "rd"
  intro i i0 i1
  obtain ⟨v, hv, hm⟩ := at_mem (xs := [.int (0 - 1), .int 1000000, .int (1000000 + g), u]) i0 (by simpa using i1)
  obtain ⟨Tv, kv, nv⟩ := all v hm
  refine ⟨l2, _, _, _, rfl, rfl, SqL.of e2, hv, ?_⟩
  walk_at "rd"
  intro q3 n3
  have s3 := same_new n3 (.tup [.str k.word, v])
  have e3 := at_new (.tup [.str k.word, v]) n3
  generalize upd H2 q3 (.tup [.str k.word, v]) = H3 at s3 e3 ⊢
  have er3 := s3 _ _ er2
  rcases shape_of hl with rfl | ⟨z, rfl⟩
  · walk_at "rd"
    refine ⟨r, _, rfl, SqT.of er3, (by intro z; exact absurd (show HT.sIx 2 0 (some 2) = 0 from z.1) (by decide)), ?_⟩
    intro q4 n4
    have s4 := same_new n4 (.tup [])
    have e4 : (upd H3 q4 (.tup (cutV [V.str k.word, v1] (some 2) none))) q4 = some (.tup []) := upd_same
    refine ⟨q3, q4, _, _, rfl, rfl, SqT.of (same_new n4 _ _ _ e3), SqT.of e4, (by intro z; cases z), Nat.le_trans (Nat.le_of_ble_eq_true (by decide) : 2 ≤ 16777216) (by rw [sz]; exact Nat.le_refl _), fun _ => ?_, fun z => absurd rfl z⟩
    exact h q3 v Tv _ (s1.trans (s2.trans (s3.trans (same_new n4 _)))) (same_new n4 _ _ _ e3) (kind_same kv (s3.trans (same_new n4 _))) nv
  · walk_at "rd"
    refine ⟨r, _, rfl, SqT.of er3, (by intro z; exact absurd (show HT.sIx 3 0 (some 2) = 0 from z.1) (by decide)), ?_⟩
    intro q4 n4
    have e4 : (upd H3 q4 (.tup (cutV [V.str k.word, v1, z] (some 2) none))) q4 = some (.tup [z]) := upd_same
    refine ⟨q3, q4, _, _, rfl, rfl, SqT.of (same_new n4 _ _ _ e3), SqT.of e4, (by intro z; cases z), Nat.le_trans (Nat.le_of_ble_eq_true (by decide) : 3 ≤ 16777216) (by rw [sz]; exact Nat.le_refl _), fun z => absurd z (by intro z; cases z), fun _ p np => ?_⟩
    exact h p v Tv _ (s1.trans (s2.trans (s3.trans ((same_new n4 _).trans (same_new np _))))) upd_same (kind_same kv (s3.trans ((same_new n4 _).trans (same_new np _)))) nv
--@ entry_of
def BadAs (K : PySem.W.Frag) (H : Hp) (E : XK) (i : Int) : Prop := ∀ (dd : Addr) (H' : Hp), Same H H' → H dd = none → H' dd = some (.xd [("place", .int i)]) → E (.ref (cA K "BadEntry")) (some dd) H'
def sp_entry_of (K : PySem.W.Frag) : Sp := fun vs H Q E => ∃ (x : V), vs = [x] ∧ ((Bad0 K H x ∧ BadAs K H E 0) ∨ (Bad1 K H x ∧ BadAs K H E 1) ∨ (Bad2 K H x ∧ BadAs K H E 2) ∨
  ∃ r k d y, x = .ref r ∧ H r = some (.tup (rowV k d y)) ∧ GoodRow k d y ∧ ∀ (a dx : Addr) (H' : Hp), Same H H' → H a = none → IsEnt K H' a dx k d y → Q (.ref a) H')
theorem sc_entry_of : FnScope ["row"] ["row"] (defScope s_entry_of) := ⟨rfl, rfl, rfl, by decide +kernel, rfl, by decide +kernel, by decide +kernel⟩
theorem d_entry_of (S : Src K mg "entry_of" s_entry_of ["row"]) (T : Txt K mg) (D_has_form : Def P w K mg base 1 "has_form" ["row"] (sp_has_form K)) (D_is_day : Def P w K mg base 2 "is_day" ["thing"] (sp_is_day K)) (D_init_Turn : DefM P w K mg base 1 (cA K "Turn") "__init__" ["self", "day"] (sp_Entry_init K)) (D_is_third : Def P w K mg base 3 "is_third" ["word", "day", "thing"] (sp_is_third K)) (D_made : Def P w K mg base 4 "made" ["word", "day", "thing"] (sp_made K)) : DefD P w K mg base 5 "entry_of" ["row"] (sp_entry_of K) := by
  refine S.okD sc_entry_of (fun vs H Q E h => ?_) (fun f cdv A outer s H vs Q E hr h => ?_)
  · obtain ⟨x, rfl, hc⟩ := h
    rfl
  obtain ⟨x, rfl, hc⟩ := h
  refine ⟨_, (pss_cons (ps_if (pt_not (pt_val (pe_fn D_has_form hr (pa_cons (pv 0) pa_nil))))
      (pss_one (ps_raiseI (E := E) T.m_BadEntry (d_init_BadEntry T) hr (fun _ _ _ _ _ _ I he h0 hE => xe_inst I he h0 hE) (pa_cons pe_int pa_nil)))
      pss_nil)
      (pss_cons (ps_if (pt_not (pt_val (pe_fn D_is_day hr (pa_cons (pe_ix ix_tup (pv 0) pe_int (fun _ _ => rfl)) pa_nil))))
      (pss_one (ps_raiseI (E := E) T.m_BadEntry (d_init_BadEntry T) hr (fun _ _ _ _ _ _ I he h0 hE => xe_inst I he h0 hE) (pa_cons pe_int pa_nil)))
      pss_nil)
      (pss_cons (ps_if (pt_cmpR op_eq (pe_ix ix_tup (pv 0) pe_int (fun _ _ => rfl)) pe_str (nomark _))
      (pss_one (ps_ret (pe_makeC T.mi_Turn D_init_Turn hr T.m_Turn (pa_cons (pe_ix ix_tup (pv 0) pe_int (fun _ _ => rfl)) pa_nil))))
      pss_nil)
      (pss_cons (ps_if (pt_not (pt_val (pe_fn D_is_third hr (pa_cons (pe_ix ix_tup (pv 0) pe_int (fun _ _ => rfl)) (pa_cons (pe_ix ix_tup (pv 0) pe_int (fun _ _ => rfl)) (pa_cons (pe_ix ix_tup (pv 0) pe_int (fun _ _ => rfl)) pa_nil))))))
      (pss_one (ps_raiseI (E := E) T.m_BadEntry (d_init_BadEntry T) hr (fun _ _ _ _ _ _ I he h0 hE => xe_inst I he h0 hE) (pa_cons pe_int pa_nil)))
      pss_nil)
      (pss_one (ps_ret (pe_fn D_made hr (pa_cons (pe_ix ix_tup (pv 0) pe_int (fun _ _ => rfl)) (pa_cons (pe_ix ix_tup (pv 0) pe_int (fun _ _ => rfl)) (pa_cons (pe_ix ix_tup (pv 0) pe_int (fun _ _ => rfl)) pa_nil)))))))))), ?_⟩
  rcases hc with ⟨hf, h⟩ | ⟨hf, h⟩ | ⟨hf, h⟩ | ⟨r, k, d, y, rfl, e, ⟨⟨d0, d1⟩, ok⟩, h⟩
  · walk_at "rd"
    refine .inl ⟨hf, ?_⟩
    walk_at "rd"
    exact raiseI_of fun dd H' s n e => h dd H' s n e
  · obtain ⟨r, k, v1, rest, Tk, rfl, e, hk, hl, kn, nd⟩ := hf
    have nd' : dayB v1 = false := by cases v1 <;> exact nd
    walk_at "rd"
    refine .inr ⟨⟨r, k, v1 :: rest, rfl, e, hk, by rw [List.length_cons]; exact hl⟩, ?_⟩
    walk_at "rd"
    refine ⟨r, _, _, _, rfl, rfl, SqT.of e, at1, ?_⟩
    walk_at "rd"
    refine ⟨_, Tk, rfl, kn, ?_⟩
    rw [nd']
    walk_at "rd"
    exact raiseI_of fun dd H' s n e => h dd H' s n e
  · obtain ⟨r, k, d, v2, Tk, rfl, e, hb, ht, ⟨d0, d1⟩, kn, nw⟩ := hf
    have hd : dayB (.int d) = true := by simp [dayB, d0, d1]
    cases k with
    | base => exact absurd rfl hb
    | turn => exact absurd rfl ht
    | out =>
      dsimp only [Ek.word] at e
      walk_at "rd"
      refine .inr ⟨⟨r, .out, [.int d, v2], rfl, e, hb, rfl⟩, ?_⟩
      walk_at "rd"
      refine ⟨_, "int", rfl, kn_int d, ?_⟩
      rw [hd]
      walk_at "rd"
      refine ⟨.out, d, v2, Tk, rfl, ht, hb, kn, ?_⟩
      rw [nw]
      walk_at "rd"
      exact raiseI_of fun dd H' s n e => h dd H' s n e
    | fee =>
      dsimp only [Ek.word] at e
      walk_at "rd"
      refine .inr ⟨⟨r, .fee, [.int d, v2], rfl, e, hb, rfl⟩, ?_⟩
      walk_at "rd"
      refine ⟨_, "int", rfl, kn_int d, ?_⟩
      rw [hd]
      walk_at "rd"
      refine ⟨.fee, d, v2, Tk, rfl, ht, hb, kn, ?_⟩
      rw [nw]
      walk_at "rd"
      exact raiseI_of fun dd H' s n e => h dd H' s n e
    | pay =>
      dsimp only [Ek.word] at e
      walk_at "rd"
      refine .inr ⟨⟨r, .pay, [.int d, v2], rfl, e, hb, rfl⟩, ?_⟩
      walk_at "rd"
      refine ⟨_, "int", rfl, kn_int d, ?_⟩
      rw [hd]
      walk_at "rd"
      refine ⟨.pay, d, v2, Tk, rfl, ht, hb, kn, ?_⟩
      rw [nw]
      walk_at "rd"
      exact raiseI_of fun dd H' s n e => h dd H' s n e
    | due =>
      dsimp only [Ek.word] at e
      walk_at "rd"
      refine .inr ⟨⟨r, .due, [.int d, v2], rfl, e, hb, rfl⟩, ?_⟩
      walk_at "rd"
      refine ⟨_, "int", rfl, kn_int d, ?_⟩
      rw [hd]
      walk_at "rd"
      refine ⟨.due, d, v2, Tk, rfl, ht, hb, kn, ?_⟩
      rw [nw]
      walk_at "rd"
      exact raiseI_of fun dd H' s n e => h dd H' s n e
    | rate =>
      dsimp only [Ek.word] at e
      walk_at "rd"
      refine .inr ⟨⟨r, .rate, [.int d, v2], rfl, e, hb, rfl⟩, ?_⟩
      walk_at "rd"
      refine ⟨_, "int", rfl, kn_int d, ?_⟩
      rw [hd]
      walk_at "rd"
      refine ⟨.rate, d, v2, Tk, rfl, ht, hb, kn, ?_⟩
      rw [nw]
      walk_at "rd"
      exact raiseI_of fun dd H' s n e => h dd H' s n e
    | late =>
      dsimp only [Ek.word] at e
      walk_at "rd"
      refine .inr ⟨⟨r, .late, [.int d, v2], rfl, e, hb, rfl⟩, ?_⟩
      walk_at "rd"
      refine ⟨_, "int", rfl, kn_int d, ?_⟩
      rw [hd]
      walk_at "rd"
      refine ⟨.late, d, v2, Tk, rfl, ht, hb, kn, ?_⟩
      rw [nw]
      walk_at "rd"
      exact raiseI_of fun dd H' s n e => h dd H' s n e
    | still =>
      dsimp only [Ek.word] at e
      walk_at "rd"
      refine .inr ⟨⟨r, .still, [.int d, v2], rfl, e, hb, rfl⟩, ?_⟩
      walk_at "rd"
      refine ⟨_, "int", rfl, kn_int d, ?_⟩
      rw [hd]
      walk_at "rd"
      refine ⟨.still, d, v2, Tk, rfl, ht, hb, kn, ?_⟩
      rw [nw]
      walk_at "rd"
      exact raiseI_of fun dd H' s n e => h dd H' s n e
  · have hk : k ≠ .base := fun z => by subst z; exact ok
    have hd : dayB (.int d) = true := by simp [dayB, d0, d1]
    cases k with
    | base => exact absurd rfl hk
    | turn =>
      dsimp only [rowV, Ek.word] at e
      walk_at "rd"
      refine .inr ⟨⟨r, .turn, [.int d], rfl, e, hk, rfl⟩, ?_⟩
      walk_at "rd"
      refine ⟨_, "int", rfl, kn_int d, ?_⟩
      rw [hd]
      walk_at "rd"
      intro a dx na nd ne
      refine ⟨a, _, dx, [], d, rfl, upd_same, T.clE .turn, T.naE_day .turn, by decide, rfl, ?_⟩
      rw [upd_upd]
      exact h a dx _ ((same_new nd _).trans (same_new (by rw [upd_ne ne.symm]; exact na) _)) na upd_same
    | out =>
      dsimp only [rowV, Ek.word] at e
      have ok' : withB (.int y) (loE .out d) (hiE .out) = true := by
        obtain ⟨o1, o2⟩ := ok
        simp [withB, loE, hiE, o1, o2]
      walk_at "rd"
      refine .inr ⟨⟨r, .out, [.int d, .int y], rfl, e, hk, rfl⟩, ?_⟩
      walk_at "rd"
      refine ⟨_, "int", rfl, kn_int d, ?_⟩
      rw [hd]
      walk_at "rd"
      refine ⟨.out, d, .int y, "int", rfl, (by intro z; cases z), hk, kn_int y, ?_⟩
      rw [ok']
      walk_at "rd"
      refine ⟨.out, d, y, rfl, (by intro z; cases z), (by intro z; cases z), ?_⟩
      exact h
    | fee =>
      dsimp only [rowV, Ek.word] at e
      have ok' : withB (.int y) (loE .fee d) (hiE .fee) = true := by
        obtain ⟨o1, o2⟩ := ok
        simp [withB, loE, hiE, o1, o2]
      walk_at "rd"
      refine .inr ⟨⟨r, .fee, [.int d, .int y], rfl, e, hk, rfl⟩, ?_⟩
      walk_at "rd"
      refine ⟨_, "int", rfl, kn_int d, ?_⟩
      rw [hd]
      walk_at "rd"
      refine ⟨.fee, d, .int y, "int", rfl, (by intro z; cases z), hk, kn_int y, ?_⟩
      rw [ok']
      walk_at "rd"
      refine ⟨.fee, d, y, rfl, (by intro z; cases z), (by intro z; cases z), ?_⟩
      exact h
    | pay =>
      dsimp only [rowV, Ek.word] at e
      have ok' : withB (.int y) (loE .pay d) (hiE .pay) = true := by
        obtain ⟨o1, o2⟩ := ok
        simp [withB, loE, hiE, o1, o2]
      walk_at "rd"
      refine .inr ⟨⟨r, .pay, [.int d, .int y], rfl, e, hk, rfl⟩, ?_⟩
      walk_at "rd"
      refine ⟨_, "int", rfl, kn_int d, ?_⟩
      rw [hd]
      walk_at "rd"
      refine ⟨.pay, d, .int y, "int", rfl, (by intro z; cases z), hk, kn_int y, ?_⟩
      rw [ok']
      walk_at "rd"
      refine ⟨.pay, d, y, rfl, (by intro z; cases z), (by intro z; cases z), ?_⟩
      exact h
    | due =>
      dsimp only [rowV, Ek.word] at e
      have ok' : withB (.int y) (loE .due d) (hiE .due) = true := by
        obtain ⟨o1, o2⟩ := ok
        simp [withB, loE, hiE, o1, o2]
      walk_at "rd"
      refine .inr ⟨⟨r, .due, [.int d, .int y], rfl, e, hk, rfl⟩, ?_⟩
      walk_at "rd"
      refine ⟨_, "int", rfl, kn_int d, ?_⟩
      rw [hd]
      walk_at "rd"
      refine ⟨.due, d, .int y, "int", rfl, (by intro z; cases z), hk, kn_int y, ?_⟩
      rw [ok']
      walk_at "rd"
      refine ⟨.due, d, y, rfl, (by intro z; cases z), (by intro z; cases z), ?_⟩
      exact h
    | rate =>
      dsimp only [rowV, Ek.word] at e
      have ok' : withB (.int y) (loE .rate d) (hiE .rate) = true := by
        obtain ⟨o1, o2⟩ := ok
        simp [withB, loE, hiE, o1, o2]
      walk_at "rd"
      refine .inr ⟨⟨r, .rate, [.int d, .int y], rfl, e, hk, rfl⟩, ?_⟩
      walk_at "rd"
      refine ⟨_, "int", rfl, kn_int d, ?_⟩
      rw [hd]
      walk_at "rd"
      refine ⟨.rate, d, .int y, "int", rfl, (by intro z; cases z), hk, kn_int y, ?_⟩
      rw [ok']
      walk_at "rd"
      refine ⟨.rate, d, y, rfl, (by intro z; cases z), (by intro z; cases z), ?_⟩
      exact h
    | late =>
      dsimp only [rowV, Ek.word] at e
      have ok' : withB (.int y) (loE .late d) (hiE .late) = true := by
        obtain ⟨o1, o2⟩ := ok
        simp [withB, loE, hiE, o1, o2]
      walk_at "rd"
      refine .inr ⟨⟨r, .late, [.int d, .int y], rfl, e, hk, rfl⟩, ?_⟩
      walk_at "rd"
      refine ⟨_, "int", rfl, kn_int d, ?_⟩
      rw [hd]
      walk_at "rd"
      refine ⟨.late, d, .int y, "int", rfl, (by intro z; cases z), hk, kn_int y, ?_⟩
      rw [ok']
      walk_at "rd"
      refine ⟨.late, d, y, rfl, (by intro z; cases z), (by intro z; cases z), ?_⟩
      exact h
    | still =>
      dsimp only [rowV, Ek.word] at e
      have ok' : withB (.int y) (loE .still d) (hiE .still) = true := by
        obtain ⟨o1, o2⟩ := ok
        simp [withB, loE, hiE, o1, o2]
      walk_at "rd"
      refine .inr ⟨⟨r, .still, [.int d, .int y], rfl, e, hk, rfl⟩, ?_⟩
      walk_at "rd"
      refine ⟨_, "int", rfl, kn_int d, ?_⟩
      rw [hd]
      walk_at "rd"
      refine ⟨.still, d, .int y, "int", rfl, (by intro z; cases z), hk, kn_int y, ?_⟩
      rw [ok']
      walk_at "rd"
      refine ⟨.still, d, y, rfl, (by intro z; cases z), (by intro z; cases z), ?_⟩
      exact h
--@ _law_bad
def sp__law_bad (K : PySem.W.Frag) : Sp := fun vs H Q _ => ∃ (c : Int) (r : Addr) (k : Ek) (d x : Int), vs = [.int c, .ref r] ∧ H r = some (.tup (rowV k d x)) ∧ k ≠ .base ∧ (0 ≤ d ∧ d ≤ 999999) ∧ ∀ (q : Addr) (y : V) (p : Int) (H' : Hp), Same H H' → H' q = some (.tup [y, .int p]) → BadP K H' y p → Q (.ref q) H'
theorem sc__law_bad : FnScope ["_law_cell_here", "_law_row_here", "_law_way", "_law_bad_here"] ["_law_cell_here", "_law_row_here"] (defScope s__law_bad) := ⟨rfl, rfl, rfl, by decide +kernel, rfl, by decide +kernel, by decide +kernel⟩
theorem d__law_bad (S : Src K mg "_law_bad" s__law_bad ["_law_cell_here", "_law_row_here"]) (T : Txt K mg) (D__law_pick : Def P w K mg base 2 "_law_pick" ["_law_cell_here", "_law_by", "_law_many"] (sp__law_pick K)) (D__law_third : Def P w K mg base 3 "_law_third" ["_law_cell_here", "_law_row_here"] (sp__law_third K)) (D__law_second : Def P w K mg base 4 "_law_second" ["_law_cell_here", "_law_row_here"] (sp__law_second K)) (D__law_first : Def P w K mg base 3 "_law_first" ["_law_cell_here", "_law_row_here"] (sp__law_first K)) : Def P w K mg base 5 "_law_bad" ["_law_cell_here", "_law_row_here"] (sp__law_bad K) := by
  refine S.ok sc__law_bad (fun vs H Q E h => ?_) (fun f cdv A outer s H vs Q E hr h => ?_)
  · obtain ⟨c, r, k, d, x, rfl, e, hk, hd, h⟩ := h
    rfl
  obtain ⟨c, r, k, d, x, rfl, e, hk, hd, h⟩ := h
  refine ⟨_, (pss_cons (ps_set (i := 2) sc__law_bad.nd rfl (by first | exact Or.inl rfl | exact Or.inr rfl) (pe_fn D__law_pick hr (pa_cons (pv 0) (pa_cons pe_int (pa_cons pe_int pa_nil)))))
      (pss_cons (ps_if (PW.pt (pw_and (pt_cmpR op_gt (pv 2) pe_int (nomark _)) (pw_and1 (pt_cmpR op_ne (pe_ix ix_tup (pv 1) pe_int (fun _ _ => rfl)) pe_str (nomark _)))))
      (pss_cons (ps_set (i := 3) sc__law_bad.nd rfl (by first | exact Or.inl rfl | exact Or.inr rfl) (pe_fn D__law_third hr (pa_cons (pv 0) (pa_cons (pv 1) pa_nil))))
      (pss_cons (ps_if (pt_cmpR op_eq (pv 2) pe_int (nomark _))
      (pss_one (ps_ret (pe_tup (pa_cons (pe_fn D__law_second hr (pa_cons (pv 0) (pa_cons (pv 3) pa_nil))) (pa_cons pe_int pa_nil)))))
      pss_nil)
      (pss_one (ps_ret (pe_tup (pa_cons (pv 3) (pa_cons pe_int pa_nil)))))))
      pss_nil)
      (pss_cons (ps_if (pt_cmpR op_gt (pv 2) pe_int (nomark _))
      (pss_cons (ps_set (i := 3) sc__law_bad.nd rfl (by first | exact Or.inl rfl | exact Or.inr rfl) (pe_fn D__law_second hr (pa_cons (pv 0) (pa_cons (pv 1) pa_nil))))
      (pss_cons (ps_if (pt_cmpR op_eq (pv 2) pe_int (nomark _))
      (pss_one (ps_ret (pe_tup (pa_cons (pe_fn D__law_first hr (pa_cons (pv 0) (pa_cons (pv 3) pa_nil))) (pa_cons pe_int pa_nil)))))
      pss_nil)
      (pss_one (ps_ret (pe_tup (pa_cons (pv 3) (pa_cons pe_int pa_nil)))))))
      pss_nil)
      (pss_one (ps_ret (pe_tup (pa_cons (pe_fn D__law_first hr (pa_cons (pv 0) (pa_cons (pv 1) pa_nil))) (pa_cons pe_int pa_nil)))))))), ?_⟩
  have sz := sizeLine_eq
  cases k with
  | base => exact absurd rfl hk
  | turn =>
    dsimp only [rowV, Ek.word] at e
    walk_at "rd"
    intro way w0 w1
    walk_at "rd"
    all_goals try (exfalso; omega)
    · refine ⟨c, r, .turn, .int d, [], rfl, e, hk, rfl, fun q2 u2 T2 H2 s2 e2 kn2 nd2 => ?_⟩
      walk_at "rd"
      all_goals first
        | (exfalso; omega)
        | (refine ⟨c, q2, .turn, u2, [], rfl, e2, hk, rfl, fun y H3 s3 b0 => ?_⟩
           walk_at "rd"
           intro t nt
           exact h t y 0 _ (s2.trans (s3.trans (same_new nt _))) upd_same (.inl ⟨b0.same (same_new nt _), rfl⟩))
        | (intro t nt
           exact h t (.ref q2) 1 _ (s2.trans (same_new nt _)) upd_same (.inr (.inl ⟨⟨q2, .turn, u2, [], T2, rfl, same_new nt _ _ _ e2, hk, rfl, kind_same kn2 (same_new nt _), nd2⟩, rfl⟩)))
    · refine ⟨c, r, .turn, .int d, [], rfl, e, hk, rfl, fun q2 u2 T2 H2 s2 e2 kn2 nd2 => ?_⟩
      walk_at "rd"
      all_goals first
        | (exfalso; omega)
        | (refine ⟨c, q2, .turn, u2, [], rfl, e2, hk, rfl, fun y H3 s3 b0 => ?_⟩
           walk_at "rd"
           intro t nt
           exact h t y 0 _ (s2.trans (s3.trans (same_new nt _))) upd_same (.inl ⟨b0.same (same_new nt _), rfl⟩))
        | (intro t nt
           exact h t (.ref q2) 1 _ (s2.trans (same_new nt _)) upd_same (.inr (.inl ⟨⟨q2, .turn, u2, [], T2, rfl, same_new nt _ _ _ e2, hk, rfl, kind_same kn2 (same_new nt _), nd2⟩, rfl⟩)))
    · refine ⟨c, r, .turn, .int d, [], rfl, e, hk, rfl, fun y H3 s3 b0 => ?_⟩
      walk_at "rd"
      intro t nt
      exact h t y 0 _ (s3.trans (same_new nt _)) upd_same (.inl ⟨b0.same (same_new nt _), rfl⟩)
  | out =>
    dsimp only [rowV, Ek.word] at e
    walk_at "rd"
    intro way w0 w1
    walk_at "rd"
    · refine ⟨c, r, .out, d, x, rfl, e, hk, (by intro z; cases z), fun q u T1 H1 s1 e1 kn nw => ?_⟩
      walk_at "rd"
      · refine ⟨c, q, .out, .int d, [u], rfl, e1, hk, rfl, fun q2 u2 T2 H2 s2 e2 kn2 nd2 => ?_⟩
        walk_at "rd"
        intro t nt
        exact h t (.ref q2) 1 _ (s1.trans (s2.trans (same_new nt _))) upd_same (.inr (.inl ⟨⟨q2, .out, u2, [u], T2, rfl, same_new nt _ _ _ e2, hk, rfl, kind_same kn2 (same_new nt _), nd2⟩, rfl⟩))
      · intro t nt
        exact h t (.ref q) 2 _ (s1.trans (same_new nt _)) upd_same (.inr (.inr ⟨⟨q, .out, d, u, T1, rfl, same_new nt _ _ _ e1, hk, (by intro z; cases z), hd, kind_same kn (same_new nt _), nw⟩, rfl⟩))
    · refine ⟨c, r, .out, .int d, [.int x], rfl, e, hk, rfl, fun q2 u2 T2 H2 s2 e2 kn2 nd2 => ?_⟩
      walk_at "rd"
      all_goals first
        | (exfalso; omega)
        | (refine ⟨c, q2, .out, u2, [.int x], rfl, e2, hk, rfl, fun y H3 s3 b0 => ?_⟩
           walk_at "rd"
           intro t nt
           exact h t y 0 _ (s2.trans (s3.trans (same_new nt _))) upd_same (.inl ⟨b0.same (same_new nt _), rfl⟩))
        | (intro t nt
           exact h t (.ref q2) 1 _ (s2.trans (same_new nt _)) upd_same (.inr (.inl ⟨⟨q2, .out, u2, [.int x], T2, rfl, same_new nt _ _ _ e2, hk, rfl, kind_same kn2 (same_new nt _), nd2⟩, rfl⟩)))
    · refine ⟨c, r, .out, .int d, [.int x], rfl, e, hk, rfl, fun y H3 s3 b0 => ?_⟩
      walk_at "rd"
      intro t nt
      exact h t y 0 _ (s3.trans (same_new nt _)) upd_same (.inl ⟨b0.same (same_new nt _), rfl⟩)
  | fee =>
    dsimp only [rowV, Ek.word] at e
    walk_at "rd"
    intro way w0 w1
    walk_at "rd"
    · refine ⟨c, r, .fee, d, x, rfl, e, hk, (by intro z; cases z), fun q u T1 H1 s1 e1 kn nw => ?_⟩
      walk_at "rd"
      · refine ⟨c, q, .fee, .int d, [u], rfl, e1, hk, rfl, fun q2 u2 T2 H2 s2 e2 kn2 nd2 => ?_⟩
        walk_at "rd"
        intro t nt
        exact h t (.ref q2) 1 _ (s1.trans (s2.trans (same_new nt _))) upd_same (.inr (.inl ⟨⟨q2, .fee, u2, [u], T2, rfl, same_new nt _ _ _ e2, hk, rfl, kind_same kn2 (same_new nt _), nd2⟩, rfl⟩))
      · intro t nt
        exact h t (.ref q) 2 _ (s1.trans (same_new nt _)) upd_same (.inr (.inr ⟨⟨q, .fee, d, u, T1, rfl, same_new nt _ _ _ e1, hk, (by intro z; cases z), hd, kind_same kn (same_new nt _), nw⟩, rfl⟩))
    · refine ⟨c, r, .fee, .int d, [.int x], rfl, e, hk, rfl, fun q2 u2 T2 H2 s2 e2 kn2 nd2 => ?_⟩
      walk_at "rd"
      all_goals first
        | (exfalso; omega)
        | (refine ⟨c, q2, .fee, u2, [.int x], rfl, e2, hk, rfl, fun y H3 s3 b0 => ?_⟩
           walk_at "rd"
           intro t nt
           exact h t y 0 _ (s2.trans (s3.trans (same_new nt _))) upd_same (.inl ⟨b0.same (same_new nt _), rfl⟩))
        | (intro t nt
           exact h t (.ref q2) 1 _ (s2.trans (same_new nt _)) upd_same (.inr (.inl ⟨⟨q2, .fee, u2, [.int x], T2, rfl, same_new nt _ _ _ e2, hk, rfl, kind_same kn2 (same_new nt _), nd2⟩, rfl⟩)))
    · refine ⟨c, r, .fee, .int d, [.int x], rfl, e, hk, rfl, fun y H3 s3 b0 => ?_⟩
      walk_at "rd"
      intro t nt
      exact h t y 0 _ (s3.trans (same_new nt _)) upd_same (.inl ⟨b0.same (same_new nt _), rfl⟩)
  | pay =>
    dsimp only [rowV, Ek.word] at e
    walk_at "rd"
    intro way w0 w1
    walk_at "rd"
    · refine ⟨c, r, .pay, d, x, rfl, e, hk, (by intro z; cases z), fun q u T1 H1 s1 e1 kn nw => ?_⟩
      walk_at "rd"
      · refine ⟨c, q, .pay, .int d, [u], rfl, e1, hk, rfl, fun q2 u2 T2 H2 s2 e2 kn2 nd2 => ?_⟩
        walk_at "rd"
        intro t nt
        exact h t (.ref q2) 1 _ (s1.trans (s2.trans (same_new nt _))) upd_same (.inr (.inl ⟨⟨q2, .pay, u2, [u], T2, rfl, same_new nt _ _ _ e2, hk, rfl, kind_same kn2 (same_new nt _), nd2⟩, rfl⟩))
      · intro t nt
        exact h t (.ref q) 2 _ (s1.trans (same_new nt _)) upd_same (.inr (.inr ⟨⟨q, .pay, d, u, T1, rfl, same_new nt _ _ _ e1, hk, (by intro z; cases z), hd, kind_same kn (same_new nt _), nw⟩, rfl⟩))
    · refine ⟨c, r, .pay, .int d, [.int x], rfl, e, hk, rfl, fun q2 u2 T2 H2 s2 e2 kn2 nd2 => ?_⟩
      walk_at "rd"
      all_goals first
        | (exfalso; omega)
        | (refine ⟨c, q2, .pay, u2, [.int x], rfl, e2, hk, rfl, fun y H3 s3 b0 => ?_⟩
           walk_at "rd"
           intro t nt
           exact h t y 0 _ (s2.trans (s3.trans (same_new nt _))) upd_same (.inl ⟨b0.same (same_new nt _), rfl⟩))
        | (intro t nt
           exact h t (.ref q2) 1 _ (s2.trans (same_new nt _)) upd_same (.inr (.inl ⟨⟨q2, .pay, u2, [.int x], T2, rfl, same_new nt _ _ _ e2, hk, rfl, kind_same kn2 (same_new nt _), nd2⟩, rfl⟩)))
    · refine ⟨c, r, .pay, .int d, [.int x], rfl, e, hk, rfl, fun y H3 s3 b0 => ?_⟩
      walk_at "rd"
      intro t nt
      exact h t y 0 _ (s3.trans (same_new nt _)) upd_same (.inl ⟨b0.same (same_new nt _), rfl⟩)
  | due =>
    dsimp only [rowV, Ek.word] at e
    walk_at "rd"
    intro way w0 w1
    walk_at "rd"
    · refine ⟨c, r, .due, d, x, rfl, e, hk, (by intro z; cases z), fun q u T1 H1 s1 e1 kn nw => ?_⟩
      walk_at "rd"
      · refine ⟨c, q, .due, .int d, [u], rfl, e1, hk, rfl, fun q2 u2 T2 H2 s2 e2 kn2 nd2 => ?_⟩
        walk_at "rd"
        intro t nt
        exact h t (.ref q2) 1 _ (s1.trans (s2.trans (same_new nt _))) upd_same (.inr (.inl ⟨⟨q2, .due, u2, [u], T2, rfl, same_new nt _ _ _ e2, hk, rfl, kind_same kn2 (same_new nt _), nd2⟩, rfl⟩))
      · intro t nt
        exact h t (.ref q) 2 _ (s1.trans (same_new nt _)) upd_same (.inr (.inr ⟨⟨q, .due, d, u, T1, rfl, same_new nt _ _ _ e1, hk, (by intro z; cases z), hd, kind_same kn (same_new nt _), nw⟩, rfl⟩))
    · refine ⟨c, r, .due, .int d, [.int x], rfl, e, hk, rfl, fun q2 u2 T2 H2 s2 e2 kn2 nd2 => ?_⟩
      walk_at "rd"
      all_goals first
        | (exfalso; omega)
        | (refine ⟨c, q2, .due, u2, [.int x], rfl, e2, hk, rfl, fun y H3 s3 b0 => ?_⟩
           walk_at "rd"
           intro t nt
           exact h t y 0 _ (s2.trans (s3.trans (same_new nt _))) upd_same (.inl ⟨b0.same (same_new nt _), rfl⟩))
        | (intro t nt
           exact h t (.ref q2) 1 _ (s2.trans (same_new nt _)) upd_same (.inr (.inl ⟨⟨q2, .due, u2, [.int x], T2, rfl, same_new nt _ _ _ e2, hk, rfl, kind_same kn2 (same_new nt _), nd2⟩, rfl⟩)))
    · refine ⟨c, r, .due, .int d, [.int x], rfl, e, hk, rfl, fun y H3 s3 b0 => ?_⟩
      walk_at "rd"
      intro t nt
      exact h t y 0 _ (s3.trans (same_new nt _)) upd_same (.inl ⟨b0.same (same_new nt _), rfl⟩)
  | rate =>
    dsimp only [rowV, Ek.word] at e
    walk_at "rd"
    intro way w0 w1
    walk_at "rd"
    · refine ⟨c, r, .rate, d, x, rfl, e, hk, (by intro z; cases z), fun q u T1 H1 s1 e1 kn nw => ?_⟩
      walk_at "rd"
      · refine ⟨c, q, .rate, .int d, [u], rfl, e1, hk, rfl, fun q2 u2 T2 H2 s2 e2 kn2 nd2 => ?_⟩
        walk_at "rd"
        intro t nt
        exact h t (.ref q2) 1 _ (s1.trans (s2.trans (same_new nt _))) upd_same (.inr (.inl ⟨⟨q2, .rate, u2, [u], T2, rfl, same_new nt _ _ _ e2, hk, rfl, kind_same kn2 (same_new nt _), nd2⟩, rfl⟩))
      · intro t nt
        exact h t (.ref q) 2 _ (s1.trans (same_new nt _)) upd_same (.inr (.inr ⟨⟨q, .rate, d, u, T1, rfl, same_new nt _ _ _ e1, hk, (by intro z; cases z), hd, kind_same kn (same_new nt _), nw⟩, rfl⟩))
    · refine ⟨c, r, .rate, .int d, [.int x], rfl, e, hk, rfl, fun q2 u2 T2 H2 s2 e2 kn2 nd2 => ?_⟩
      walk_at "rd"
      all_goals first
        | (exfalso; omega)
        | (refine ⟨c, q2, .rate, u2, [.int x], rfl, e2, hk, rfl, fun y H3 s3 b0 => ?_⟩
           walk_at "rd"
           intro t nt
           exact h t y 0 _ (s2.trans (s3.trans (same_new nt _))) upd_same (.inl ⟨b0.same (same_new nt _), rfl⟩))
        | (intro t nt
           exact h t (.ref q2) 1 _ (s2.trans (same_new nt _)) upd_same (.inr (.inl ⟨⟨q2, .rate, u2, [.int x], T2, rfl, same_new nt _ _ _ e2, hk, rfl, kind_same kn2 (same_new nt _), nd2⟩, rfl⟩)))
    · refine ⟨c, r, .rate, .int d, [.int x], rfl, e, hk, rfl, fun y H3 s3 b0 => ?_⟩
      walk_at "rd"
      intro t nt
      exact h t y 0 _ (s3.trans (same_new nt _)) upd_same (.inl ⟨b0.same (same_new nt _), rfl⟩)
  | late =>
    dsimp only [rowV, Ek.word] at e
    walk_at "rd"
    intro way w0 w1
    walk_at "rd"
    · refine ⟨c, r, .late, d, x, rfl, e, hk, (by intro z; cases z), fun q u T1 H1 s1 e1 kn nw => ?_⟩
      walk_at "rd"
      · refine ⟨c, q, .late, .int d, [u], rfl, e1, hk, rfl, fun q2 u2 T2 H2 s2 e2 kn2 nd2 => ?_⟩
        walk_at "rd"
        intro t nt
        exact h t (.ref q2) 1 _ (s1.trans (s2.trans (same_new nt _))) upd_same (.inr (.inl ⟨⟨q2, .late, u2, [u], T2, rfl, same_new nt _ _ _ e2, hk, rfl, kind_same kn2 (same_new nt _), nd2⟩, rfl⟩))
      · intro t nt
        exact h t (.ref q) 2 _ (s1.trans (same_new nt _)) upd_same (.inr (.inr ⟨⟨q, .late, d, u, T1, rfl, same_new nt _ _ _ e1, hk, (by intro z; cases z), hd, kind_same kn (same_new nt _), nw⟩, rfl⟩))
    · refine ⟨c, r, .late, .int d, [.int x], rfl, e, hk, rfl, fun q2 u2 T2 H2 s2 e2 kn2 nd2 => ?_⟩
      walk_at "rd"
      all_goals first
        | (exfalso; omega)
        | (refine ⟨c, q2, .late, u2, [.int x], rfl, e2, hk, rfl, fun y H3 s3 b0 => ?_⟩
           walk_at "rd"
           intro t nt
           exact h t y 0 _ (s2.trans (s3.trans (same_new nt _))) upd_same (.inl ⟨b0.same (same_new nt _), rfl⟩))
        | (intro t nt
           exact h t (.ref q2) 1 _ (s2.trans (same_new nt _)) upd_same (.inr (.inl ⟨⟨q2, .late, u2, [.int x], T2, rfl, same_new nt _ _ _ e2, hk, rfl, kind_same kn2 (same_new nt _), nd2⟩, rfl⟩)))
    · refine ⟨c, r, .late, .int d, [.int x], rfl, e, hk, rfl, fun y H3 s3 b0 => ?_⟩
      walk_at "rd"
      intro t nt
      exact h t y 0 _ (s3.trans (same_new nt _)) upd_same (.inl ⟨b0.same (same_new nt _), rfl⟩)
  | still =>
    dsimp only [rowV, Ek.word] at e
    walk_at "rd"
    intro way w0 w1
    walk_at "rd"
    · refine ⟨c, r, .still, d, x, rfl, e, hk, (by intro z; cases z), fun q u T1 H1 s1 e1 kn nw => ?_⟩
      walk_at "rd"
      · refine ⟨c, q, .still, .int d, [u], rfl, e1, hk, rfl, fun q2 u2 T2 H2 s2 e2 kn2 nd2 => ?_⟩
        walk_at "rd"
        intro t nt
        exact h t (.ref q2) 1 _ (s1.trans (s2.trans (same_new nt _))) upd_same (.inr (.inl ⟨⟨q2, .still, u2, [u], T2, rfl, same_new nt _ _ _ e2, hk, rfl, kind_same kn2 (same_new nt _), nd2⟩, rfl⟩))
      · intro t nt
        exact h t (.ref q) 2 _ (s1.trans (same_new nt _)) upd_same (.inr (.inr ⟨⟨q, .still, d, u, T1, rfl, same_new nt _ _ _ e1, hk, (by intro z; cases z), hd, kind_same kn (same_new nt _), nw⟩, rfl⟩))
    · refine ⟨c, r, .still, .int d, [.int x], rfl, e, hk, rfl, fun q2 u2 T2 H2 s2 e2 kn2 nd2 => ?_⟩
      walk_at "rd"
      all_goals first
        | (exfalso; omega)
        | (refine ⟨c, q2, .still, u2, [.int x], rfl, e2, hk, rfl, fun y H3 s3 b0 => ?_⟩
           walk_at "rd"
           intro t nt
           exact h t y 0 _ (s2.trans (s3.trans (same_new nt _))) upd_same (.inl ⟨b0.same (same_new nt _), rfl⟩))
        | (intro t nt
           exact h t (.ref q2) 1 _ (s2.trans (same_new nt _)) upd_same (.inr (.inl ⟨⟨q2, .still, u2, [.int x], T2, rfl, same_new nt _ _ _ e2, hk, rfl, kind_same kn2 (same_new nt _), nd2⟩, rfl⟩)))
    · refine ⟨c, r, .still, .int d, [.int x], rfl, e, hk, rfl, fun y H3 s3 b0 => ?_⟩
      walk_at "rd"
      intro t nt
      exact h t y 0 _ (s3.trans (same_new nt _)) upd_same (.inl ⟨b0.same (same_new nt _), rfl⟩)
--@ _law_place
def sp__law_place (K : PySem.W.Frag) : Sp := fun vs H Q _ => ∃ (x : V) (p : Int), vs = [x] ∧ (BadP K H x p ∨ ∃ r k d y, x = .ref r ∧ H r = some (.tup (rowV k d y)) ∧ GoodRow k d y ∧ p = -2) ∧ Q (.int p) H
theorem sc__law_place : FnScope ["_law_row_here", "_law_e"] ["_law_row_here"] (defScope s__law_place) := ⟨rfl, rfl, rfl, by decide +kernel, rfl, by decide +kernel, by decide +kernel⟩
theorem d__law_place (S : Src K mg "_law_place" s__law_place ["_law_row_here"]) (T : Txt K mg) (D_entry_of : DefD P w K mg base 5 "entry_of" ["row"] (sp_entry_of K)) (D__law_others : DefH P w K mg base 1 "_law_others" ["_law_e"] (sp__law_others K)) : Def P w K mg base 6 "_law_place" ["_law_row_here"] (sp__law_place K) := by
  refine S.okF sc__law_place (fun vs H Q E h => ?_) (fun f cdv A outer s H vs Q E hr h => ?_)
  · obtain ⟨x, p, rfl, hc, h⟩ := h
    rfl
  obtain ⟨x, p, rfl, hc, h⟩ := h
  refine ⟨_, (pss_cons (ps_tryD D_entry_of hr sc__law_place.nd (j := 1) rfl rfl T.m_LoanError (pa_cons (pv 0) pa_nil) (fun e => (pss_cons (ps_if (PW.pt (pw_or (pt_not (pt_val (pe_callB (call_isiX K) rfl T.n_isinstance PyProof.Rows.boot_isinstance (pa_cons (pv 1) (pa_cons (pe_glob (v := .ref (cA K "BadEntry")) rfl T.m_BadEntry rfl) pa_nil))))) (pw_or (pt_not (pt_val (pe_callB (call_isiXB K) rfl T.n_isinstance PyProof.Rows.boot_isinstance (pa_cons (pv 1) (pa_cons (pe_bltn (v := .ty "ValueError") rfl T.n_ValueError PyProof.Rows.Boot.«ValueError» rfl) pa_nil))))) (pw_or1 (pt_val (pe_fnH D__law_others (RoomH.of hr) (pa_cons (pv 1) pa_nil)))))))
      (pss_one (ps_ret (pe_un un_neg pe_int)))
      pss_nil)
      (pss_one (ps_ret (pe_xfldC T.i_BadEntry.xk T.p_BadEntry_place (pv 1)))))))
      (pss_one (ps_ret (pe_un un_neg pe_int)))), ?_⟩
  rcases hc with (⟨hf, rfl⟩ | ⟨hf, rfl⟩ | ⟨hf, rfl⟩) | ⟨r, k, d, y, rfl, e, gd, rfl⟩
  · walk_at "rd"
    refine .inl ⟨hf, fun dd H' s1 n1 e1 => ⟨_, _, rfl, rfl, T.e_BadEntry_LoanError, fun ex ne => ?_⟩⟩
    have se := same_new ne (ExcC ex (.ref (cA K "BadEntry")) dd)
    have exE := at_new (ExcC ex (.ref (cA K "BadEntry")) dd) ne
    have ddE := se _ _ e1
    generalize upd H' ex (ExcC ex (.ref (cA K "BadEntry")) dd) = H2 at se exE ddE ⊢
    walk_at "rd"
    refine ⟨ex, _, _, _, rfl, IsX.c exE, T.z_BadEntry, T.k_BadEntry_BadEntry, ?_⟩
    walk_at "rd"
    refine ⟨ex, _, _, _, rfl, IsX.c exE, T.z_BadEntry, T.k_BadEntry_ValueError, ?_⟩
    walk_at "rd"
    refine ⟨IsX.c exE, fun H3 s3 => ?_⟩
    walk_at "rd"
    refine ⟨ex, dd, _, 0, rfl, s3 _ _ exE, s3 _ _ ddE, rfl, ?_⟩
    exact ⟨s1.trans (se.trans s3), h⟩
  · walk_at "rd"
    refine .inr (.inl ⟨hf, fun dd H' s1 n1 e1 => ⟨_, _, rfl, rfl, T.e_BadEntry_LoanError, fun ex ne => ?_⟩⟩)
    have se := same_new ne (ExcC ex (.ref (cA K "BadEntry")) dd)
    have exE := at_new (ExcC ex (.ref (cA K "BadEntry")) dd) ne
    have ddE := se _ _ e1
    generalize upd H' ex (ExcC ex (.ref (cA K "BadEntry")) dd) = H2 at se exE ddE ⊢
    walk_at "rd"
    refine ⟨ex, _, _, _, rfl, IsX.c exE, T.z_BadEntry, T.k_BadEntry_BadEntry, ?_⟩
    walk_at "rd"
    refine ⟨ex, _, _, _, rfl, IsX.c exE, T.z_BadEntry, T.k_BadEntry_ValueError, ?_⟩
    walk_at "rd"
    refine ⟨IsX.c exE, fun H3 s3 => ?_⟩
    walk_at "rd"
    refine ⟨ex, dd, _, 1, rfl, s3 _ _ exE, s3 _ _ ddE, rfl, ?_⟩
    exact ⟨s1.trans (se.trans s3), h⟩
  · walk_at "rd"
    refine .inr (.inr (.inl ⟨hf, fun dd H' s1 n1 e1 => ⟨_, _, rfl, rfl, T.e_BadEntry_LoanError, fun ex ne => ?_⟩⟩))
    have se := same_new ne (ExcC ex (.ref (cA K "BadEntry")) dd)
    have exE := at_new (ExcC ex (.ref (cA K "BadEntry")) dd) ne
    have ddE := se _ _ e1
    generalize upd H' ex (ExcC ex (.ref (cA K "BadEntry")) dd) = H2 at se exE ddE ⊢
    walk_at "rd"
    refine ⟨ex, _, _, _, rfl, IsX.c exE, T.z_BadEntry, T.k_BadEntry_BadEntry, ?_⟩
    walk_at "rd"
    refine ⟨ex, _, _, _, rfl, IsX.c exE, T.z_BadEntry, T.k_BadEntry_ValueError, ?_⟩
    walk_at "rd"
    refine ⟨IsX.c exE, fun H3 s3 => ?_⟩
    walk_at "rd"
    refine ⟨ex, dd, _, 2, rfl, s3 _ _ exE, s3 _ _ ddE, rfl, ?_⟩
    exact ⟨s1.trans (se.trans s3), h⟩
  · walk_at "rd"
    refine .inr (.inr (.inr ⟨r, k, d, y, rfl, e, gd, fun a dx H' s1 na ea => ?_⟩))
    walk_at "rd"
    first | exact ⟨s1, h⟩ | exact h
--@ law
def sp_law (K : PySem.W.Frag) : Sp := fun vs H Q _ => ∃ (a : Addr) (ns : List Int), vs = [.ref a] ∧ SqL K H a (ns.map V.int) ∧ ns.length ≤ 63 ∧ ∀ H', Q (.bl true) H'
theorem sc_law : FnScope ["_law_script", "_law_k", "_law_cell_here", "_law_row_here", "_law_bad_here", "_law_place_here", "_law_found"] ["_law_script"] (defScope s_law) := ⟨rfl, rfl, rfl, by decide +kernel, rfl, by decide +kernel, by decide +kernel⟩
theorem d_law (S : Src K mg "law" s_law ["_law_script"]) (T : Txt K mg) (D__law_cell : Def P w K mg base 2 "_law_cell" ["_law_script", "_law_k"] (sp__law_cell K)) (D__law_row : Def P w K mg base 4 "_law_row" ["_law_cell_here"] (sp__law_row K)) (D__law_bad : Def P w K mg base 5 "_law_bad" ["_law_cell_here", "_law_row_here"] (sp__law_bad K)) (D__law_place : Def P w K mg base 6 "_law_place" ["_law_row_here"] (sp__law_place K)) (D_e_row : ∀ k : Ek, DefM P w K mg base 2 (cA K k.cls) "row" ["self"] (sp_e_row k K)) (D_entry_of : DefD P w K mg base 5 "entry_of" ["row"] (sp_entry_of K)) (D__law_whole : Def P w K mg base 1 "_law_whole" ["_law_found"] (sp__law_whole K)) : Def P w K mg base 7 "law" ["_law_script"] (sp_law K) := by
  refine S.ok sc_law (fun vs H Q E h => ?_) (fun f cdv A outer s H vs Q E hr h => ?_)
  · obtain ⟨a, ns, rfl, hS, hl, h⟩ := h
    rfl
  obtain ⟨a, ns, rfl, hS, hl, h⟩ := h
  refine ⟨_, (pss_cons (ps_for PassesOwn.never rfl (pi_range1 rfl T.n_range (pa_cons (pe_callB (call_max2 rfl) rfl T.n_max PyProof.Rows.boot_max (pa_cons pe_int (pa_cons (pe_callB (call_min2 rfl) rfl T.n_min PyProof.Rows.boot_min (pa_cons (pe_callB call_len_seq rfl T.n_len PySem.boot_len (pa_cons (pv 0) pa_nil)) (pa_cons pe_int pa_nil))) pa_nil))) pa_nil)) (pg_name (i := 1) sc_law.nd rfl (by first | exact Or.inl rfl | exact Or.inr rfl))
      (pss_cons (ps_set (i := 2) sc_law.nd rfl (by first | exact Or.inl rfl | exact Or.inr rfl) (pe_fn D__law_cell hr (pa_cons (pv 0) (pa_cons (pv 1) pa_nil))))
      (pss_cons (ps_set (i := 3) sc_law.nd rfl (by first | exact Or.inl rfl | exact Or.inr rfl) (pe_fn D__law_row hr (pa_cons (pv 2) pa_nil)))
      (pss_cons (ps_asg (pe_fn D__law_bad hr (pa_cons (pv 2) (pa_cons (pv 3) pa_nil))) (pg_tup rfl (pgs_cons (pg_name (i := 4) sc_law.nd rfl (by first | exact Or.inl rfl | exact Or.inr rfl)) (pgs_cons (pg_name (i := 5) sc_law.nd rfl (by first | exact Or.inl rfl | exact Or.inr rfl)) pgs_nil))))
      (pss_cons (ps_if (pt_cmpR op_ne (pe_fn D__law_place hr (pa_cons (pv 3) pa_nil)) (pe_un un_neg pe_int) (nomark _))
      (pss_one (ps_ret pe_bl))
      pss_nil)
      (pss_cons (ps_set (i := 6) sc_law.nd rfl (by first | exact Or.inl rfl | exact Or.inr rfl) (pe_fn D__law_place hr (pa_cons (pv 4) pa_nil)))
      (pss_one (ps_if (PW.pt (pw_or (pt_cmpR op_ne (pv 6) (pv 5) (nomark _)) (pw_or (pt_not (pt_val (pe_fn D__law_whole hr (pa_cons (pv 6) pa_nil)))) (pw_or1 (pt_cmpR (op_neD hr.units) (pe_methE0 D_e_row T.clE hr (pe_fnD D_entry_of hr (pa_cons (pv 3) pa_nil))) (pv 3) (nomark _))))))
      (pss_one (ps_ret pe_bl))
      pss_nil))))))))
      (pss_one (ps_ret pe_bl))), ?_⟩
  have sz := sizeLine_eq
  walk_at "rd"
  refine for_range (fun i σ H' => ∃ (z1 z2 z3 z4 z5 z6 : Option V), Same H H' ∧ σ = [some (.ref a), z1, z2, z3, z4, z5, z6]) ⟨_, _, _, _, _, _, Same.refl _, rfl⟩ ?_ ?_
  · rintro i σ H' hi ⟨z1, z2, z3, z4, z5, z6, sH, rfl⟩
    have hS' := sH.seq hS
    have i62 : i < 62 := by
      refine Nat.lt_of_lt_of_le hi ?_
      (repeat' split) <;> omega
    walk_at "rd"
    refine ⟨a, ns, _, rfl, hS', by omega, by omega, fun c => ?_⟩
    walk_at "rd"
    intro r k d x H1 s1 nr e1 hk gd
    walk_at "rd"
    refine ⟨c, r, k, d, x, rfl, e1, hk, gd.1, fun q y p H2 s2 e2 bp => ?_⟩
    have er2 := s2 _ _ e1
    walk_at "rd"
    refine ⟨q, _, rfl, SqT.of e2, ?_⟩
    refine ⟨rfl, _, _, rfl, _, _, rfl, rfl, ?_⟩
    walk_at "rd"
    refine ⟨_, -2, rfl, .inr ⟨r, k, d, x, rfl, er2, gd, rfl⟩, ?_⟩
    walk_at "rd"
    all_goals try (exact absurd rfl (by assumption))
    refine .inr (.inr (.inr ⟨r, k, d, x, rfl, er2, gd, fun a2 dx H3 s3 na ie => ?_⟩))
    have er3 := s3 _ _ er2
    walk_at "rd"
    refine ⟨k, a2, dx, _, rfl, ie, entF_row _ _ _, a2, dx, d, x, rfl, ie, ?_⟩
    intro q3 nq3
    have s4 := same_new nq3 (.tup (rowV k d x))
    have q3E := at_new (.tup (rowV k d x)) nq3
    have er4 := s4 _ _ er3
    generalize upd H3 q3 (.tup (rowV k d x)) = H4 at s4 q3E er4 ⊢
    walk_at "rd"
    refine ⟨_, _, .tup (SqT.of q3E) (rd_row _ _ _), .tup (SqT.of er4) (rd_row _ _ _), shaped_row _ _ _, shaped_row _ _ _, ?_⟩
    rw [eqv_row]
    walk_at "rd"
    exact ⟨_, _, _, _, _, _, sH.trans (s1.trans (s2.trans (s3.trans s4))), rfl⟩
  · rintro σ H' ⟨z1, z2, z3, z4, z5, z6, sH, rfl⟩
    walk_at "rd"
    exact h _
end
theorem all_ok {K : PySem.W.Frag} {mg : Str → Option Value} (T : Txt K mg) (S_is_whole : Src K mg "is_whole" s_is_whole ["thing"]) (S_has_form : Src K mg "has_form" s_has_form ["row"]) (S__law_draw : Src K mg "_law_draw" s__law_draw ["_law_script", "_law_k", "_law_many"]) (S__law_draws : Src K mg "_law_draws" s__law_draws ["_law_cell_here", "_law_many"]) (S__law_whole : Src K mg "_law_whole" s__law_whole ["_law_found"]) (S__law_others : Src K mg "_law_others" s__law_others ["_law_e"]) (S_is_day : Src K mg "is_day" s_is_day ["thing"]) (S_is_within : Src K mg "is_within" s_is_within ["thing", "least", "most"]) (S__law_cell : Src K mg "_law_cell" s__law_cell ["_law_script", "_law_k"]) (S__law_pick : Src K mg "_law_pick" s__law_pick ["_law_cell_here", "_law_by", "_law_many"]) (S_is_third : Src K mg "is_third" s_is_third ["word", "day", "thing"]) (S__law_day : Src K mg "_law_day" s__law_day ["_law_cell_here"]) (S__law_amount : Src K mg "_law_amount" s__law_amount ["_law_cell_here"]) (S__law_thing : Src K mg "_law_thing" s__law_thing ["_law_cell_here", "_law_by"]) (S__law_first : Src K mg "_law_first" s__law_first ["_law_cell_here", "_law_row_here"]) (S__law_third : Src K mg "_law_third" s__law_third ["_law_cell_here", "_law_row_here"]) (S_made : Src K mg "made" s_made ["word", "day", "thing"]) (S__law_row : Src K mg "_law_row" s__law_row ["_law_cell_here"]) (S__law_second : Src K mg "_law_second" s__law_second ["_law_cell_here", "_law_row_here"]) (S_entry_of : Src K mg "entry_of" s_entry_of ["row"]) (S__law_bad : Src K mg "_law_bad" s__law_bad ["_law_cell_here", "_law_row_here"]) (S__law_place : Src K mg "_law_place" s__law_place ["_law_row_here"]) (S_law : Src K mg "law" s_law ["_law_script"]) (S_e_out_word : MethS K (cA K (Ek.cls .out)) "word" "Out.word" s_Out_word ["self"]) (S_e_fee_word : MethS K (cA K (Ek.cls .fee)) "word" "Fee.word" s_Fee_word ["self"]) (S_e_pay_word : MethS K (cA K (Ek.cls .pay)) "word" "Pay.word" s_Pay_word ["self"]) (S_e_due_word : MethS K (cA K (Ek.cls .due)) "word" "Due.word" s_Due_word ["self"]) (S_e_turn_word : MethS K (cA K (Ek.cls .turn)) "word" "Turn.word" s_Turn_word ["self"]) (S_e_rate_word : MethS K (cA K (Ek.cls .rate)) "word" "Rate.word" s_Rate_word ["self"]) (S_e_late_word : MethS K (cA K (Ek.cls .late)) "word" "Late.word" s_Late_word ["self"]) (S_e_still_word : MethS K (cA K (Ek.cls .still)) "word" "Still.word" s_Still_word ["self"]) (S_e_base_word : MethS K (cA K (Ek.cls .base)) "word" "Entry.word" s_Entry_word ["self"]) (S_e_out_row : MethS K (cA K (Ek.cls .out)) "row" "AmountEntry.row" s_AmountEntry_row ["self"]) (S_e_fee_row : MethS K (cA K (Ek.cls .fee)) "row" "AmountEntry.row" s_AmountEntry_row ["self"]) (S_e_pay_row : MethS K (cA K (Ek.cls .pay)) "row" "AmountEntry.row" s_AmountEntry_row ["self"]) (S_e_due_row : MethS K (cA K (Ek.cls .due)) "row" "AmountEntry.row" s_AmountEntry_row ["self"]) (S_e_turn_row : MethS K (cA K (Ek.cls .turn)) "row" "Entry.row" s_Entry_row ["self"]) (S_e_rate_row : MethS K (cA K (Ek.cls .rate)) "row" "RateEntry.row" s_RateEntry_row ["self"]) (S_e_late_row : MethS K (cA K (Ek.cls .late)) "row" "RateEntry.row" s_RateEntry_row ["self"]) (S_e_still_row : MethS K (cA K (Ek.cls .still)) "row" "Still.row" s_Still_row ["self"]) (S_e_base_row : MethS K (cA K (Ek.cls .base)) "row" "Entry.row" s_Entry_row ["self"]) (S_init_Due : MethS K (cA K "Due") "__init__" "AmountEntry.__init__" s_AmountEntry_init ["self", "day", "amount"]) (S_init_Fee : MethS K (cA K "Fee") "__init__" "AmountEntry.__init__" s_AmountEntry_init ["self", "day", "amount"]) (S_init_Late : MethS K (cA K "Late") "__init__" "RateEntry.__init__" s_RateEntry_init ["self", "day", "rate"]) (S_init_Out : MethS K (cA K "Out") "__init__" "AmountEntry.__init__" s_AmountEntry_init ["self", "day", "amount"]) (S_init_Pay : MethS K (cA K "Pay") "__init__" "AmountEntry.__init__" s_AmountEntry_init ["self", "day", "amount"]) (S_init_Rate : MethS K (cA K "Rate") "__init__" "RateEntry.__init__" s_RateEntry_init ["self", "day", "rate"]) (S_init_Still : MethS K (cA K "Still") "__init__" "Still.__init__" s_Still_init ["self", "day", "until"]) (S_init_Turn : MethS K (cA K "Turn") "__init__" "Entry.__init__" s_Entry_init ["self", "day"]) (S_U_Entry_init : UnbS K (cA K "Entry") "__init__" "Entry.__init__" s_Entry_init ["self", "day"]) {P : Program} {w : World} {base : Heap} : Def P w K mg base 7 "law" ["_law_script"] (sp_law K) := by
  have D_is_whole := d_is_whole (P := P) (w := w) (base := base) S_is_whole T 
  have D_U_Entry_init := dU_Entry_init (P := P) (w := w) (base := base) S_U_Entry_init T 
  have D_init_Turn := d_Entry_init (P := P) (w := w) (base := base) "Turn" S_init_Turn T 
  have D_e_word : ∀ k : Ek, DefM P w K mg base 1 (cA K k.cls) "word" ["self"] (sp_e_word k K) := fun k => by
    cases k
    · exact d_Out_word .out (by simp) S_e_out_word T 
    · exact d_Fee_word .fee (by simp) S_e_fee_word T 
    · exact d_Pay_word .pay (by simp) S_e_pay_word T 
    · exact d_Due_word .due (by simp) S_e_due_word T 
    · exact d_Turn_word .turn (by simp) S_e_turn_word T 
    · exact d_Rate_word .rate (by simp) S_e_rate_word T 
    · exact d_Late_word .late (by simp) S_e_late_word T 
    · exact d_Still_word .still (by simp) S_e_still_word T 
    · exact d_Entry_word .base (by simp) S_e_base_word T 
  have D_has_form := d_has_form (P := P) (w := w) (base := base) S_has_form T 
  have D__law_draw := d__law_draw (P := P) (w := w) (base := base) S__law_draw T 
  have D__law_draws := d__law_draws (P := P) (w := w) (base := base) S__law_draws T 
  have D__law_whole := d__law_whole (P := P) (w := w) (base := base) S__law_whole T 
  have D__law_others := d__law_others (P := P) (w := w) (base := base) S__law_others T 
  have D_is_day := d_is_day (P := P) (w := w) (base := base) S_is_day T D_is_whole
  have D_e_row : ∀ k : Ek, DefM P w K mg base 2 (cA K k.cls) "row" ["self"] (sp_e_row k K) := fun k => by
    cases k
    · exact d_AmountEntry_row .out (by simp) S_e_out_row T D_e_word
    · exact d_AmountEntry_row .fee (by simp) S_e_fee_row T D_e_word
    · exact d_AmountEntry_row .pay (by simp) S_e_pay_row T D_e_word
    · exact d_AmountEntry_row .due (by simp) S_e_due_row T D_e_word
    · exact d_Entry_row .turn (by simp) S_e_turn_row T D_e_word
    · exact d_RateEntry_row .rate (by simp) S_e_rate_row T D_e_word
    · exact d_RateEntry_row .late (by simp) S_e_late_row T D_e_word
    · exact d_Still_row .still (by simp) S_e_still_row T D_e_word
    · exact d_Entry_row .base (by simp) S_e_base_row T D_e_word
  have D_init_Due := d_AmountEntry_init (P := P) (w := w) (base := base) "Due" S_init_Due T D_U_Entry_init
  have D_init_Fee := d_AmountEntry_init (P := P) (w := w) (base := base) "Fee" S_init_Fee T D_U_Entry_init
  have D_init_Out := d_AmountEntry_init (P := P) (w := w) (base := base) "Out" S_init_Out T D_U_Entry_init
  have D_init_Pay := d_AmountEntry_init (P := P) (w := w) (base := base) "Pay" S_init_Pay T D_U_Entry_init
  have D_init_Late := d_RateEntry_init (P := P) (w := w) (base := base) "Late" S_init_Late T D_U_Entry_init
  have D_init_Rate := d_RateEntry_init (P := P) (w := w) (base := base) "Rate" S_init_Rate T D_U_Entry_init
  have D_init_Still := d_Still_init (P := P) (w := w) (base := base) "Still" S_init_Still T D_U_Entry_init
  have D_is_within := d_is_within (P := P) (w := w) (base := base) S_is_within T D_is_whole
  have D__law_cell := d__law_cell (P := P) (w := w) (base := base) S__law_cell T D__law_draw
  have D__law_pick := d__law_pick (P := P) (w := w) (base := base) S__law_pick T D__law_draws
  have D_is_third := d_is_third (P := P) (w := w) (base := base) S_is_third T D_is_within
  have D__law_day := d__law_day (P := P) (w := w) (base := base) S__law_day T D__law_pick
  have D__law_amount := d__law_amount (P := P) (w := w) (base := base) S__law_amount T D__law_pick
  have D__law_thing := d__law_thing (P := P) (w := w) (base := base) S__law_thing T D__law_pick
  have D__law_first := d__law_first (P := P) (w := w) (base := base) S__law_first T D__law_pick
  have D__law_third := d__law_third (P := P) (w := w) (base := base) S__law_third T D__law_pick
  have D_made := d_made (P := P) (w := w) (base := base) S_made T D_init_Out D_init_Fee D_init_Pay D_init_Due D_init_Rate D_init_Late D_init_Still
  have D__law_row := d__law_row (P := P) (w := w) (base := base) S__law_row T D__law_pick D__law_day D__law_amount
  have D__law_second := d__law_second (P := P) (w := w) (base := base) S__law_second T D__law_thing D__law_pick
  have D_entry_of := d_entry_of (P := P) (w := w) (base := base) S_entry_of T D_has_form D_is_day D_init_Turn D_is_third D_made
  have D__law_bad := d__law_bad (P := P) (w := w) (base := base) S__law_bad T D__law_pick D__law_third D__law_second D__law_first
  have D__law_place := d__law_place (P := P) (w := w) (base := base) S__law_place T D_entry_of D__law_others
  have D_law := d_law (P := P) (w := w) (base := base) S_law T D__law_cell D__law_row D__law_bad D__law_place D_e_row D_entry_of D__law_whole
  exact D_law
end My
def PySem.W.Fast.tw5214181422812254315 : Nat := 0
def PySem.W.Fast.tw13647140275030145589 : Nat := 0
def PySem.W.Fast.tw5295373313309885013 : Nat := 0
def PySem.W.Fast.tw2792783899831064725 : Nat := 0
def PySem.W.Fast.tw13163502036879502725 : Nat := 0
def PySem.W.Fast.tw5789407853334632072 : Nat := 0
def PySem.W.Fast.tw4384212447223417629 : Nat := 0
def PySem.W.Fast.tw14954855327161510155 : Nat := 0
def PySem.W.Fast.tw6470134970082371310 : Nat := 0
def PySem.W.Fast.tw9793813860669972314 : Nat := 0
def PySem.W.Fast.tw17482422126716829412 : Nat := 0
def PySem.W.Fast.tw11320824947355565088 : Nat := 0
def PySem.W.Fast.tw13013345689877978805 : Nat := 0
def PySem.W.Fast.tw18063812002517936896 : Nat := 0
def PySem.W.Fast.tw16182874934978341293 : Nat := 0
def PySem.W.Fast.tw10121175253913034655 : Nat := 0
def PySem.W.Fast.tw18123205684632158700 : Nat := 0
def PySem.W.Fast.tw13285298959411816486 : Nat := 0
def PySem.W.Fast.tw16423698869655260695 : Nat := 0
def PySem.W.Fast.tw4945856469929374453 : Nat := 0
def PySem.W.Fast.tw3029138370453371487 : Nat := 0
def PySem.W.Fast.tw8810438507419977462 : Nat := 0
def PySem.W.Fast.tw14166957241473831471 : Nat := 0
def PySem.W.Fast.tw10427862932857786275 : Nat := 0
def PySem.W.Fast.tw12688181181207941971 : Nat := 0
def PySem.W.Fast.tw4006088738903262737 : Nat := 0
def PySem.W.Fast.tw13500752411691353437 : Nat := 0
def PySem.W.Fast.tw5395598236751480830 : Nat := 0
def PySem.W.Fast.tw1474091451962676612 : Nat := 0
def PySem.W.Fast.tw2306584215750330074 : Nat := 0
def PySem.W.Fast.tw695552792746728477 : Nat := 0
def PySem.W.Fast.tw1440493605930377679 : Nat := 0
open PySem PySem.W PyProof.Rows
set_option maxRecDepth 100000 in
set_option maxHeartbeats 0 in
theorem PySem.Challenge.cw_loanroll_k32_no_entry_holds : PySem.Challenge.rw_loanroll_k32_no_entry.Holds := by
  w_on; o_law; k_head; (case hw => w_witness2)
  k_fill
  refine L2.walk_def (l := PySem.Challenge.rw_loanroll_k32_no_entry) (lv := 7) (sp := My.sp_law) (x := "_law_script") (st := My.s_law) rfl rfl rfl ⟨rfl, by decide, by decide⟩ (fun w h Y => PySem.W.kIn_of Y) ?F (fun K H a ns hl hS => ⟨a, ns, rfl, hS, hl, fun _ => rfl⟩)
  case F =>
    intro w mg h KX G
    have n_ValueError : mg "ValueError" = none := PySem.W.mg_none_of KX G (by k_is)
    have n_bool : mg "bool" = none := PySem.W.mg_none_of KX G (by k_is)
    have n_int : mg "int" = none := PySem.W.mg_none_of KX G (by k_is)
    have n_isinstance : mg "isinstance" = none := PySem.W.mg_none_of KX G (by k_is)
    have n_len : mg "len" = none := PySem.W.mg_none_of KX G (by k_is)
    have n_list : mg "list" = none := PySem.W.mg_none_of KX G (by k_is)
    have n_max : mg "max" = none := PySem.W.mg_none_of KX G (by k_is)
    have n_min : mg "min" = none := PySem.W.mg_none_of KX G (by k_is)
    have n_range : mg "range" = none := PySem.W.mg_none_of KX G (by k_is)
    have n_str : mg "str" = none := PySem.W.mg_none_of KX G (by k_is)
    have n_tuple : mg "tuple" = none := PySem.W.mg_none_of KX G (by k_is)
    have a_Back := by
      refine' L2.nsHave (x := "Back") KX ?a
      (case a => k_is)
    have a_BadEntry := by
      refine' L2.nsHave (x := "BadEntry") KX ?a
      (case a => k_is)
    have a_Due := by
      refine' L2.nsHave (x := "Due") KX ?a
      (case a => k_is)
    have a_Entry := by
      refine' L2.nsHave (x := "Entry") KX ?a
      (case a => k_is)
    have a_Fee := by
      refine' L2.nsHave (x := "Fee") KX ?a
      (case a => k_is)
    have a_Late := by
      refine' L2.nsHave (x := "Late") KX ?a
      (case a => k_is)
    have a_LoanError := by
      refine' L2.nsHave (x := "LoanError") KX ?a
      (case a => k_is)
    have a_NoCount := by
      refine' L2.nsHave (x := "NoCount") KX ?a
      (case a => k_is)
    have a_NoDay := by
      refine' L2.nsHave (x := "NoDay") KX ?a
      (case a => k_is)
    have a_NoDays := by
      refine' L2.nsHave (x := "NoDays") KX ?a
      (case a => k_is)
    have a_NoFlow := by
      refine' L2.nsHave (x := "NoFlow") KX ?a
      (case a => k_is)
    have a_NoLoan := by
      refine' L2.nsHave (x := "NoLoan") KX ?a
      (case a => k_is)
    have a_NoNumber := by
      refine' L2.nsHave (x := "NoNumber") KX ?a
      (case a => k_is)
    have a_NoRow := by
      refine' L2.nsHave (x := "NoRow") KX ?a
      (case a => k_is)
    have a_NoTerms := by
      refine' L2.nsHave (x := "NoTerms") KX ?a
      (case a => k_is)
    have a_NoText := by
      refine' L2.nsHave (x := "NoText") KX ?a
      (case a => k_is)
    have a_Out := by
      refine' L2.nsHave (x := "Out") KX ?a
      (case a => k_is)
    have a_Pay := by
      refine' L2.nsHave (x := "Pay") KX ?a
      (case a => k_is)
    have a_Rate := by
      refine' L2.nsHave (x := "Rate") KX ?a
      (case a => k_is)
    have a_Still := by
      refine' L2.nsHave (x := "Still") KX ?a
      (case a => k_is)
    have a_TooMany := by
      refine' L2.nsHave (x := "TooMany") KX ?a
      (case a => k_is)
    have a_Turn := by
      refine' L2.nsHave (x := "Turn") KX ?a
      (case a => k_is)
    have m_Back := L2.m_mk KX G a_Back
    have m_BadEntry := L2.m_mk KX G a_BadEntry
    have m_Due := L2.m_mk KX G a_Due
    have m_Entry := L2.m_mk KX G a_Entry
    have m_Fee := L2.m_mk KX G a_Fee
    have m_Late := L2.m_mk KX G a_Late
    have m_LoanError := L2.m_mk KX G a_LoanError
    have m_NoCount := L2.m_mk KX G a_NoCount
    have m_NoDay := L2.m_mk KX G a_NoDay
    have m_NoDays := L2.m_mk KX G a_NoDays
    have m_NoFlow := L2.m_mk KX G a_NoFlow
    have m_NoLoan := L2.m_mk KX G a_NoLoan
    have m_NoNumber := L2.m_mk KX G a_NoNumber
    have m_NoRow := L2.m_mk KX G a_NoRow
    have m_NoTerms := L2.m_mk KX G a_NoTerms
    have m_NoText := L2.m_mk KX G a_NoText
    have m_Out := L2.m_mk KX G a_Out
    have m_Pay := L2.m_mk KX G a_Pay
    have m_Rate := L2.m_mk KX G a_Rate
    have m_Still := L2.m_mk KX G a_Still
    have m_TooMany := L2.m_mk KX G a_TooMany
    have m_Turn := L2.m_mk KX G a_Turn
    have clE_Out := by
      refine' L2.cls_mk a_Out ?_ ?_ ?_ ?_
      all_goals k_is
    have clE_Fee := by
      refine' L2.cls_mk a_Fee ?_ ?_ ?_ ?_
      all_goals k_is
    have clE_Pay := by
      refine' L2.cls_mk a_Pay ?_ ?_ ?_ ?_
      all_goals k_is
    have clE_Due := by
      refine' L2.cls_mk a_Due ?_ ?_ ?_ ?_
      all_goals k_is
    have clE_Turn := by
      refine' L2.cls_mk a_Turn ?_ ?_ ?_ ?_
      all_goals k_is
    have clE_Rate := by
      refine' L2.cls_mk a_Rate ?_ ?_ ?_ ?_
      all_goals k_is
    have clE_Late := by
      refine' L2.cls_mk a_Late ?_ ?_ ?_ ?_
      all_goals k_is
    have clE_Still := by
      refine' L2.cls_mk a_Still ?_ ?_ ?_ ?_
      all_goals k_is
    have clE_Entry := by
      refine' L2.cls_mk a_Entry ?_ ?_ ?_ ?_
      all_goals k_is
    have naE_amount_Out := by
      refine' L2.fi_mk (name := "amount") a_Out ?_
      k_is
    have naE_amount_Fee := by
      refine' L2.fi_mk (name := "amount") a_Fee ?_
      k_is
    have naE_amount_Pay := by
      refine' L2.fi_mk (name := "amount") a_Pay ?_
      k_is
    have naE_amount_Due := by
      refine' L2.fi_mk (name := "amount") a_Due ?_
      k_is
    have naE_amount_Turn := by
      refine' L2.fi_mk (name := "amount") a_Turn ?_
      k_is
    have naE_amount_Rate := by
      refine' L2.fi_mk (name := "amount") a_Rate ?_
      k_is
    have naE_amount_Late := by
      refine' L2.fi_mk (name := "amount") a_Late ?_
      k_is
    have naE_amount_Still := by
      refine' L2.fi_mk (name := "amount") a_Still ?_
      k_is
    have naE_amount_Entry := by
      refine' L2.fi_mk (name := "amount") a_Entry ?_
      k_is
    have naE_day_Out := by
      refine' L2.fi_mk (name := "day") a_Out ?_
      k_is
    have naE_day_Fee := by
      refine' L2.fi_mk (name := "day") a_Fee ?_
      k_is
    have naE_day_Pay := by
      refine' L2.fi_mk (name := "day") a_Pay ?_
      k_is
    have naE_day_Due := by
      refine' L2.fi_mk (name := "day") a_Due ?_
      k_is
    have naE_day_Turn := by
      refine' L2.fi_mk (name := "day") a_Turn ?_
      k_is
    have naE_day_Rate := by
      refine' L2.fi_mk (name := "day") a_Rate ?_
      k_is
    have naE_day_Late := by
      refine' L2.fi_mk (name := "day") a_Late ?_
      k_is
    have naE_day_Still := by
      refine' L2.fi_mk (name := "day") a_Still ?_
      k_is
    have naE_day_Entry := by
      refine' L2.fi_mk (name := "day") a_Entry ?_
      k_is
    have naE_rate_Out := by
      refine' L2.fi_mk (name := "rate") a_Out ?_
      k_is
    have naE_rate_Fee := by
      refine' L2.fi_mk (name := "rate") a_Fee ?_
      k_is
    have naE_rate_Pay := by
      refine' L2.fi_mk (name := "rate") a_Pay ?_
      k_is
    have naE_rate_Due := by
      refine' L2.fi_mk (name := "rate") a_Due ?_
      k_is
    have naE_rate_Turn := by
      refine' L2.fi_mk (name := "rate") a_Turn ?_
      k_is
    have naE_rate_Rate := by
      refine' L2.fi_mk (name := "rate") a_Rate ?_
      k_is
    have naE_rate_Late := by
      refine' L2.fi_mk (name := "rate") a_Late ?_
      k_is
    have naE_rate_Still := by
      refine' L2.fi_mk (name := "rate") a_Still ?_
      k_is
    have naE_rate_Entry := by
      refine' L2.fi_mk (name := "rate") a_Entry ?_
      k_is
    have naE_until_Out := by
      refine' L2.fi_mk (name := "until") a_Out ?_
      k_is
    have naE_until_Fee := by
      refine' L2.fi_mk (name := "until") a_Fee ?_
      k_is
    have naE_until_Pay := by
      refine' L2.fi_mk (name := "until") a_Pay ?_
      k_is
    have naE_until_Due := by
      refine' L2.fi_mk (name := "until") a_Due ?_
      k_is
    have naE_until_Turn := by
      refine' L2.fi_mk (name := "until") a_Turn ?_
      k_is
    have naE_until_Rate := by
      refine' L2.fi_mk (name := "until") a_Rate ?_
      k_is
    have naE_until_Late := by
      refine' L2.fi_mk (name := "until") a_Late ?_
      k_is
    have naE_until_Still := by
      refine' L2.fi_mk (name := "until") a_Still ?_
      k_is
    have naE_until_Entry := by
      refine' L2.fi_mk (name := "until") a_Entry ?_
      k_is
    have mi_Due := by
      refine' L2.mki_mk a_Due ?_ ?_
      all_goals k_is
    have mi_Fee := by
      refine' L2.mki_mk a_Fee ?_ ?_
      all_goals k_is
    have mi_Late := by
      refine' L2.mki_mk a_Late ?_ ?_
      all_goals k_is
    have mi_Out := by
      refine' L2.mki_mk a_Out ?_ ?_
      all_goals k_is
    have mi_Pay := by
      refine' L2.mki_mk a_Pay ?_ ?_
      all_goals k_is
    have mi_Rate := by
      refine' L2.mki_mk a_Rate ?_ ?_
      all_goals k_is
    have mi_Still := by
      refine' L2.mki_mk a_Still ?_ ?_
      all_goals k_is
    have mi_Turn := by
      refine' L2.mki_mk a_Turn ?_ ?_
      all_goals k_is
    have S_e_out_word := by
      refine' L2.meth_mk (m := "word") (qual := "Out.word") (st := My.s_Out_word) (ps := ["self"]) a_Out ?xi ?xf ?xk ?xl ?xc ?xb
      (case xi => k_is); (case xf => k_is); (case xk => k_is); (case xl => k_is); (case xc => k_is)
      (case xb => exact L2.us1 (fun _ => rfl))
    have S_e_fee_word := by
      refine' L2.meth_mk (m := "word") (qual := "Fee.word") (st := My.s_Fee_word) (ps := ["self"]) a_Fee ?xi ?xf ?xk ?xl ?xc ?xb
      (case xi => k_is); (case xf => k_is); (case xk => k_is); (case xl => k_is); (case xc => k_is)
      (case xb => exact L2.us1 (fun _ => rfl))
    have S_e_pay_word := by
      refine' L2.meth_mk (m := "word") (qual := "Pay.word") (st := My.s_Pay_word) (ps := ["self"]) a_Pay ?xi ?xf ?xk ?xl ?xc ?xb
      (case xi => k_is); (case xf => k_is); (case xk => k_is); (case xl => k_is); (case xc => k_is)
      (case xb => exact L2.us1 (fun _ => rfl))
    have S_e_due_word := by
      refine' L2.meth_mk (m := "word") (qual := "Due.word") (st := My.s_Due_word) (ps := ["self"]) a_Due ?xi ?xf ?xk ?xl ?xc ?xb
      (case xi => k_is); (case xf => k_is); (case xk => k_is); (case xl => k_is); (case xc => k_is)
      (case xb => exact L2.us1 (fun _ => rfl))
    have S_e_turn_word := by
      refine' L2.meth_mk (m := "word") (qual := "Turn.word") (st := My.s_Turn_word) (ps := ["self"]) a_Turn ?xi ?xf ?xk ?xl ?xc ?xb
      (case xi => k_is); (case xf => k_is); (case xk => k_is); (case xl => k_is); (case xc => k_is)
      (case xb => exact L2.us1 (fun _ => rfl))
    have S_e_rate_word := by
      refine' L2.meth_mk (m := "word") (qual := "Rate.word") (st := My.s_Rate_word) (ps := ["self"]) a_Rate ?xi ?xf ?xk ?xl ?xc ?xb
      (case xi => k_is); (case xf => k_is); (case xk => k_is); (case xl => k_is); (case xc => k_is)
      (case xb => exact L2.us1 (fun _ => rfl))
    have S_e_late_word := by
      refine' L2.meth_mk (m := "word") (qual := "Late.word") (st := My.s_Late_word) (ps := ["self"]) a_Late ?xi ?xf ?xk ?xl ?xc ?xb
      (case xi => k_is); (case xf => k_is); (case xk => k_is); (case xl => k_is); (case xc => k_is)
      (case xb => exact L2.us1 (fun _ => rfl))
    have S_e_still_word := by
      refine' L2.meth_mk (m := "word") (qual := "Still.word") (st := My.s_Still_word) (ps := ["self"]) a_Still ?xi ?xf ?xk ?xl ?xc ?xb
      (case xi => k_is); (case xf => k_is); (case xk => k_is); (case xl => k_is); (case xc => k_is)
      (case xb => exact L2.us1 (fun _ => rfl))
    have S_e_base_word := by
      refine' L2.meth_mk (m := "word") (qual := "Entry.word") (st := My.s_Entry_word) (ps := ["self"]) a_Entry ?xi ?xf ?xk ?xl ?xc ?xb
      (case xi => k_is); (case xf => k_is); (case xk => k_is); (case xl => k_is); (case xc => k_is)
      (case xb => exact L2.us1 (fun _ => rfl))
    have S_e_out_row := by
      refine' L2.meth_mk (m := "row") (qual := "AmountEntry.row") (st := My.s_AmountEntry_row) (ps := ["self"]) a_Out ?xi ?xf ?xk ?xl ?xc ?xb
      (case xi => k_is); (case xf => k_is); (case xk => k_is); (case xl => k_is); (case xc => k_is)
      (case xb => exact L2.us1 (fun _ => rfl))
    have S_e_fee_row := by
      refine' L2.meth_mk (m := "row") (qual := "AmountEntry.row") (st := My.s_AmountEntry_row) (ps := ["self"]) a_Fee ?xi ?xf ?xk ?xl ?xc ?xb
      (case xi => k_is); (case xf => k_is); (case xk => k_is); (case xl => k_is); (case xc => k_is)
      (case xb => exact L2.us1 (fun _ => rfl))
    have S_e_pay_row := by
      refine' L2.meth_mk (m := "row") (qual := "AmountEntry.row") (st := My.s_AmountEntry_row) (ps := ["self"]) a_Pay ?xi ?xf ?xk ?xl ?xc ?xb
      (case xi => k_is); (case xf => k_is); (case xk => k_is); (case xl => k_is); (case xc => k_is)
      (case xb => exact L2.us1 (fun _ => rfl))
    have S_e_due_row := by
      refine' L2.meth_mk (m := "row") (qual := "AmountEntry.row") (st := My.s_AmountEntry_row) (ps := ["self"]) a_Due ?xi ?xf ?xk ?xl ?xc ?xb
      (case xi => k_is); (case xf => k_is); (case xk => k_is); (case xl => k_is); (case xc => k_is)
      (case xb => exact L2.us1 (fun _ => rfl))
    have S_e_turn_row := by
      refine' L2.meth_mk (m := "row") (qual := "Entry.row") (st := My.s_Entry_row) (ps := ["self"]) a_Turn ?xi ?xf ?xk ?xl ?xc ?xb
      (case xi => k_is); (case xf => k_is); (case xk => k_is); (case xl => k_is); (case xc => k_is)
      (case xb => exact L2.us1 (fun _ => rfl))
    have S_e_rate_row := by
      refine' L2.meth_mk (m := "row") (qual := "RateEntry.row") (st := My.s_RateEntry_row) (ps := ["self"]) a_Rate ?xi ?xf ?xk ?xl ?xc ?xb
      (case xi => k_is); (case xf => k_is); (case xk => k_is); (case xl => k_is); (case xc => k_is)
      (case xb => exact L2.us1 (fun _ => rfl))
    have S_e_late_row := by
      refine' L2.meth_mk (m := "row") (qual := "RateEntry.row") (st := My.s_RateEntry_row) (ps := ["self"]) a_Late ?xi ?xf ?xk ?xl ?xc ?xb
      (case xi => k_is); (case xf => k_is); (case xk => k_is); (case xl => k_is); (case xc => k_is)
      (case xb => exact L2.us1 (fun _ => rfl))
    have S_e_still_row := by
      refine' L2.meth_mk (m := "row") (qual := "Still.row") (st := My.s_Still_row) (ps := ["self"]) a_Still ?xi ?xf ?xk ?xl ?xc ?xb
      (case xi => k_is); (case xf => k_is); (case xk => k_is); (case xl => k_is); (case xc => k_is)
      (case xb => exact L2.us1 (fun _ => rfl))
    have S_e_base_row := by
      refine' L2.meth_mk (m := "row") (qual := "Entry.row") (st := My.s_Entry_row) (ps := ["self"]) a_Entry ?xi ?xf ?xk ?xl ?xc ?xb
      (case xi => k_is); (case xf => k_is); (case xk => k_is); (case xl => k_is); (case xc => k_is)
      (case xb => exact L2.us1 (fun _ => rfl))
    have S_init_Due := by
      refine' L2.meth_mk (m := "__init__") (qual := "AmountEntry.__init__") (st := My.s_AmountEntry_init) (ps := ["self", "day", "amount"]) a_Due ?xi ?xf ?xk ?xl ?xc ?xb
      (case xi => k_is); (case xf => k_is); (case xk => k_is); (case xl => k_is); (case xc => k_is)
      (case xb => exact L2.us3 (fun _ _ _ => rfl))
    have S_init_Fee := by
      refine' L2.meth_mk (m := "__init__") (qual := "AmountEntry.__init__") (st := My.s_AmountEntry_init) (ps := ["self", "day", "amount"]) a_Fee ?xi ?xf ?xk ?xl ?xc ?xb
      (case xi => k_is); (case xf => k_is); (case xk => k_is); (case xl => k_is); (case xc => k_is)
      (case xb => exact L2.us3 (fun _ _ _ => rfl))
    have S_init_Late := by
      refine' L2.meth_mk (m := "__init__") (qual := "RateEntry.__init__") (st := My.s_RateEntry_init) (ps := ["self", "day", "rate"]) a_Late ?xi ?xf ?xk ?xl ?xc ?xb
      (case xi => k_is); (case xf => k_is); (case xk => k_is); (case xl => k_is); (case xc => k_is)
      (case xb => exact L2.us3 (fun _ _ _ => rfl))
    have S_init_Out := by
      refine' L2.meth_mk (m := "__init__") (qual := "AmountEntry.__init__") (st := My.s_AmountEntry_init) (ps := ["self", "day", "amount"]) a_Out ?xi ?xf ?xk ?xl ?xc ?xb
      (case xi => k_is); (case xf => k_is); (case xk => k_is); (case xl => k_is); (case xc => k_is)
      (case xb => exact L2.us3 (fun _ _ _ => rfl))
    have S_init_Pay := by
      refine' L2.meth_mk (m := "__init__") (qual := "AmountEntry.__init__") (st := My.s_AmountEntry_init) (ps := ["self", "day", "amount"]) a_Pay ?xi ?xf ?xk ?xl ?xc ?xb
      (case xi => k_is); (case xf => k_is); (case xk => k_is); (case xl => k_is); (case xc => k_is)
      (case xb => exact L2.us3 (fun _ _ _ => rfl))
    have S_init_Rate := by
      refine' L2.meth_mk (m := "__init__") (qual := "RateEntry.__init__") (st := My.s_RateEntry_init) (ps := ["self", "day", "rate"]) a_Rate ?xi ?xf ?xk ?xl ?xc ?xb
      (case xi => k_is); (case xf => k_is); (case xk => k_is); (case xl => k_is); (case xc => k_is)
      (case xb => exact L2.us3 (fun _ _ _ => rfl))
    have S_init_Still := by
      refine' L2.meth_mk (m := "__init__") (qual := "Still.__init__") (st := My.s_Still_init) (ps := ["self", "day", "until"]) a_Still ?xi ?xf ?xk ?xl ?xc ?xb
      (case xi => k_is); (case xf => k_is); (case xk => k_is); (case xl => k_is); (case xc => k_is)
      (case xb => exact L2.us3 (fun _ _ _ => rfl))
    have S_init_Turn := by
      refine' L2.meth_mk (m := "__init__") (qual := "Entry.__init__") (st := My.s_Entry_init) (ps := ["self", "day"]) a_Turn ?xi ?xf ?xk ?xl ?xc ?xb
      (case xi => k_is); (case xf => k_is); (case xk => k_is); (case xl => k_is); (case xc => k_is)
      (case xb => exact L2.us2 (fun _ _ => rfl))
    have S_U_Entry_init := by
      refine' L2.unb_mk (m := "__init__") (qual := "Entry.__init__") (st := My.s_Entry_init) (ps := ["self", "day"]) a_Entry ?x1 ?x2 ?x3 ?x4 ?xk ?xl ?xc ?xb
      (case x1 => k_is); (case x2 => k_is); (case x3 => k_is); (case x4 => rfl); (case xk => k_is); (case xl => k_is); (case xc => k_is)
      (case xb => exact L2.us2 (fun _ _ => rfl))
    have zz_BadEntry := by
      refine' L2.x1_mk a_BadEntry ?_ ?_ ?_ ?_ ?_ ?_ ?_
      all_goals k_is
    have i_BadEntry := by
      refine' L2.x3_mk (qual := "BadEntry.__init__") (st := My.s_init_BadEntry) (ps := ["self", "place"]) a_BadEntry zz_BadEntry ?xl ?xq ?xi ?xf ?xs ?xk ?xfl ?xfc ?xfk ?xhb
      (case xl => k_is); (case xq => k_exc); (case xi => k_is); (case xf => k_is); (case xs => k_is); (case xk => k_is); (case xfl => k_is); (case xfc => k_is); (case xfk => k_is)
      (case xhb => exact L2.us2 (fun _ _ => rfl))
    have p_BadEntry_place := by
      refine' L2.fi_mk (name := "place") a_BadEntry ?_
      k_is
    have z_BadEntry := by
      refine' L2.x1_mk a_BadEntry ?_ ?_ ?_ ?_ ?_ ?_ ?_
      all_goals k_is
    have t_1 := by
      refine' L2.any_mk (v := false) a_BadEntry (.cons a_NoDay (.cons a_NoCount (.cons a_NoTerms (.cons a_TooMany (.cons a_NoDays (.cons a_NoFlow .nil)))))) ?_
      (dsimp only [List.map]; kit_is)
    have t_2 := by
      refine' L2.any_mk (v := false) a_BadEntry (.cons a_Back (.cons a_NoNumber (.cons a_NoText (.cons a_NoRow (.cons a_NoLoan .nil))))) ?_
      (dsimp only [List.map]; kit_is)
    have e_BadEntry_LoanError := by
      refine' L2.exm_mk a_BadEntry a_LoanError ?_ ?_ ?_ ?_
      all_goals k_is
    have k_BadEntry_BadEntry := by
      refine' L2.kit_mk (v := true) a_BadEntry a_BadEntry ?_
      kit_is
    have k_BadEntry_ValueError := by
      refine' L2.kitB_mk (v := true) (n := "ValueError") a_BadEntry ?_
      kit_is
    have g_LAST_DAY := by
      refine' L2.gint_mk (mg := mg) (x := "LAST_DAY") (i := 999999) KX G ?a
      (case a => k_is)
    have g_MOST_AMOUNT := by
      refine' L2.gint_mk (mg := mg) (x := "MOST_AMOUNT") (i := 1000000000000) KX G ?a
      (case a => k_is)
    have g_MOST_RATE := by
      refine' L2.gint_mk (mg := mg) (x := "MOST_RATE") (i := 1000000) KX G ?a
      (case a => k_is)
    have g_WORDS := by
      refine' L2.gtup_mk (mg := mg) (x := "WORDS") (xs := [.str "out", .str "fee", .str "turn", .str "pay", .str "due", .str "rate", .str "late", .str "still"]) KX G ?a ?l ?r ?z
      (case a => k_is); (case l => k_is)
      (case r => repeat (first | exact .nil | refine .cons ⟨_, rfl⟩ ?_))
      (case z => decide)
    have S_is_whole := by
      refine' L2.src_mk (mg := mg) (x := "is_whole") (st := My.s_is_whole) (ps := ["thing"]) KX G ?a ?l ?c ?k ?b
      (case a => k_is); (case l => k_is); (case c => k_is); (case k => k_is)
      (case b => exact L2.us1 (fun _ => rfl))
    have S_has_form := by
      refine' L2.src_mk (mg := mg) (x := "has_form") (st := My.s_has_form) (ps := ["row"]) KX G ?a ?l ?c ?k ?b
      (case a => k_is); (case l => k_is); (case c => k_is); (case k => k_is)
      (case b => exact L2.us1 (fun _ => rfl))
    have S__law_draw := by
      refine' L2.src_mk (mg := mg) (x := "_law_draw") (st := My.s__law_draw) (ps := ["_law_script", "_law_k", "_law_many"]) KX G ?a ?l ?c ?k ?b
      (case a => k_is); (case l => k_is); (case c => k_is); (case k => k_is)
      (case b => exact L2.us3 (fun _ _ _ => rfl))
    have S__law_draws := by
      refine' L2.src_mk (mg := mg) (x := "_law_draws") (st := My.s__law_draws) (ps := ["_law_cell_here", "_law_many"]) KX G ?a ?l ?c ?k ?b
      (case a => k_is); (case l => k_is); (case c => k_is); (case k => k_is)
      (case b => exact L2.us2 (fun _ _ => rfl))
    have S__law_whole := by
      refine' L2.src_mk (mg := mg) (x := "_law_whole") (st := My.s__law_whole) (ps := ["_law_found"]) KX G ?a ?l ?c ?k ?b
      (case a => k_is); (case l => k_is); (case c => k_is); (case k => k_is)
      (case b => exact L2.us1 (fun _ => rfl))
    have S__law_others := by
      refine' L2.src_mk (mg := mg) (x := "_law_others") (st := My.s__law_others) (ps := ["_law_e"]) KX G ?a ?l ?c ?k ?b
      (case a => k_is); (case l => k_is); (case c => k_is); (case k => k_is)
      (case b => exact L2.us1 (fun _ => rfl))
    have S_is_day := by
      refine' L2.src_mk (mg := mg) (x := "is_day") (st := My.s_is_day) (ps := ["thing"]) KX G ?a ?l ?c ?k ?b
      (case a => k_is); (case l => k_is); (case c => k_is); (case k => k_is)
      (case b => exact L2.us1 (fun _ => rfl))
    have S_is_within := by
      refine' L2.src_mk (mg := mg) (x := "is_within") (st := My.s_is_within) (ps := ["thing", "least", "most"]) KX G ?a ?l ?c ?k ?b
      (case a => k_is); (case l => k_is); (case c => k_is); (case k => k_is)
      (case b => exact L2.us3 (fun _ _ _ => rfl))
    have S__law_cell := by
      refine' L2.src_mk (mg := mg) (x := "_law_cell") (st := My.s__law_cell) (ps := ["_law_script", "_law_k"]) KX G ?a ?l ?c ?k ?b
      (case a => k_is); (case l => k_is); (case c => k_is); (case k => k_is)
      (case b => exact L2.us2 (fun _ _ => rfl))
    have S__law_pick := by
      refine' L2.src_mk (mg := mg) (x := "_law_pick") (st := My.s__law_pick) (ps := ["_law_cell_here", "_law_by", "_law_many"]) KX G ?a ?l ?c ?k ?b
      (case a => k_is); (case l => k_is); (case c => k_is); (case k => k_is)
      (case b => exact L2.us3 (fun _ _ _ => rfl))
    have S_is_third := by
      refine' L2.src_mk (mg := mg) (x := "is_third") (st := My.s_is_third) (ps := ["word", "day", "thing"]) KX G ?a ?l ?c ?k ?b
      (case a => k_is); (case l => k_is); (case c => k_is); (case k => k_is)
      (case b => exact L2.us3 (fun _ _ _ => rfl))
    have S__law_day := by
      refine' L2.src_mk (mg := mg) (x := "_law_day") (st := My.s__law_day) (ps := ["_law_cell_here"]) KX G ?a ?l ?c ?k ?b
      (case a => k_is); (case l => k_is); (case c => k_is); (case k => k_is)
      (case b => exact L2.us1 (fun _ => rfl))
    have S__law_amount := by
      refine' L2.src_mk (mg := mg) (x := "_law_amount") (st := My.s__law_amount) (ps := ["_law_cell_here"]) KX G ?a ?l ?c ?k ?b
      (case a => k_is); (case l => k_is); (case c => k_is); (case k => k_is)
      (case b => exact L2.us1 (fun _ => rfl))
    have S__law_thing := by
      refine' L2.src_mk (mg := mg) (x := "_law_thing") (st := My.s__law_thing) (ps := ["_law_cell_here", "_law_by"]) KX G ?a ?l ?c ?k ?b
      (case a => k_is); (case l => k_is); (case c => k_is); (case k => k_is)
      (case b => exact L2.us2 (fun _ _ => rfl))
    have S__law_first := by
      refine' L2.src_mk (mg := mg) (x := "_law_first") (st := My.s__law_first) (ps := ["_law_cell_here", "_law_row_here"]) KX G ?a ?l ?c ?k ?b
      (case a => k_is); (case l => k_is); (case c => k_is); (case k => k_is)
      (case b => exact L2.us2 (fun _ _ => rfl))
    have S__law_third := by
      refine' L2.src_mk (mg := mg) (x := "_law_third") (st := My.s__law_third) (ps := ["_law_cell_here", "_law_row_here"]) KX G ?a ?l ?c ?k ?b
      (case a => k_is); (case l => k_is); (case c => k_is); (case k => k_is)
      (case b => exact L2.us2 (fun _ _ => rfl))
    have S_made := by
      refine' L2.src_mk (mg := mg) (x := "made") (st := My.s_made) (ps := ["word", "day", "thing"]) KX G ?a ?l ?c ?k ?b
      (case a => k_is); (case l => k_is); (case c => k_is); (case k => k_is)
      (case b => exact L2.us3 (fun _ _ _ => rfl))
    have S__law_row := by
      refine' L2.src_mk (mg := mg) (x := "_law_row") (st := My.s__law_row) (ps := ["_law_cell_here"]) KX G ?a ?l ?c ?k ?b
      (case a => k_is); (case l => k_is); (case c => k_is); (case k => k_is)
      (case b => exact L2.us1 (fun _ => rfl))
    have S__law_second := by
      refine' L2.src_mk (mg := mg) (x := "_law_second") (st := My.s__law_second) (ps := ["_law_cell_here", "_law_row_here"]) KX G ?a ?l ?c ?k ?b
      (case a => k_is); (case l => k_is); (case c => k_is); (case k => k_is)
      (case b => exact L2.us2 (fun _ _ => rfl))
    have S_entry_of := by
      refine' L2.src_mk (mg := mg) (x := "entry_of") (st := My.s_entry_of) (ps := ["row"]) KX G ?a ?l ?c ?k ?b
      (case a => k_is); (case l => k_is); (case c => k_is); (case k => k_is)
      (case b => exact L2.us1 (fun _ => rfl))
    have S__law_bad := by
      refine' L2.src_mk (mg := mg) (x := "_law_bad") (st := My.s__law_bad) (ps := ["_law_cell_here", "_law_row_here"]) KX G ?a ?l ?c ?k ?b
      (case a => k_is); (case l => k_is); (case c => k_is); (case k => k_is)
      (case b => exact L2.us2 (fun _ _ => rfl))
    have S__law_place := by
      refine' L2.src_mk (mg := mg) (x := "_law_place") (st := My.s__law_place) (ps := ["_law_row_here"]) KX G ?a ?l ?c ?k ?b
      (case a => k_is); (case l => k_is); (case c => k_is); (case k => k_is)
      (case b => exact L2.us1 (fun _ => rfl))
    have S_law := by
      refine' L2.src_mk (mg := mg) (x := "law") (st := My.s_law) (ps := ["_law_script"]) KX G ?a ?l ?c ?k ?b
      (case a => k_is); (case l => k_is); (case c => k_is); (case k => k_is)
      (case b => exact L2.us1 (fun _ => rfl))
    exact ⟨S_law, fun base => My.all_ok (⟨n_ValueError, n_bool, n_int, n_isinstance, n_len, n_list, n_max, n_min, n_range, n_str, n_tuple, m_Back, m_BadEntry, m_Due, m_Entry, m_Fee, m_Late, m_LoanError, m_NoCount, m_NoDay, m_NoDays, m_NoFlow, m_NoLoan, m_NoNumber, m_NoRow, m_NoTerms, m_NoText, m_Out, m_Pay, m_Rate, m_Still, m_TooMany, m_Turn, (fun k => match k with | .out => clE_Out | .fee => clE_Fee | .pay => clE_Pay | .due => clE_Due | .turn => clE_Turn | .rate => clE_Rate | .late => clE_Late | .still => clE_Still | .base => clE_Entry), (fun k => match k with | .out => naE_amount_Out | .fee => naE_amount_Fee | .pay => naE_amount_Pay | .due => naE_amount_Due | .turn => naE_amount_Turn | .rate => naE_amount_Rate | .late => naE_amount_Late | .still => naE_amount_Still | .base => naE_amount_Entry), (fun k => match k with | .out => naE_day_Out | .fee => naE_day_Fee | .pay => naE_day_Pay | .due => naE_day_Due | .turn => naE_day_Turn | .rate => naE_day_Rate | .late => naE_day_Late | .still => naE_day_Still | .base => naE_day_Entry), (fun k => match k with | .out => naE_rate_Out | .fee => naE_rate_Fee | .pay => naE_rate_Pay | .due => naE_rate_Due | .turn => naE_rate_Turn | .rate => naE_rate_Rate | .late => naE_rate_Late | .still => naE_rate_Still | .base => naE_rate_Entry), (fun k => match k with | .out => naE_until_Out | .fee => naE_until_Fee | .pay => naE_until_Pay | .due => naE_until_Due | .turn => naE_until_Turn | .rate => naE_until_Rate | .late => naE_until_Late | .still => naE_until_Still | .base => naE_until_Entry), mi_Due, mi_Fee, mi_Late, mi_Out, mi_Pay, mi_Rate, mi_Still, mi_Turn, i_BadEntry, p_BadEntry_place, z_BadEntry, t_1, t_2, e_BadEntry_LoanError, k_BadEntry_BadEntry, k_BadEntry_ValueError, g_LAST_DAY, g_MOST_AMOUNT, g_MOST_RATE, g_WORDS⟩ : My.Txt _ mg) S_is_whole S_has_form S__law_draw S__law_draws S__law_whole S__law_others S_is_day S_is_within S__law_cell S__law_pick S_is_third S__law_day S__law_amount S__law_thing S__law_first S__law_third S_made S__law_row S__law_second S_entry_of S__law_bad S__law_place S_law S_e_out_word S_e_fee_word S_e_pay_word S_e_due_word S_e_turn_word S_e_rate_word S_e_late_word S_e_still_word S_e_base_word S_e_out_row S_e_fee_row S_e_pay_row S_e_due_row S_e_turn_row S_e_rate_row S_e_late_row S_e_still_row S_e_base_row S_init_Due S_init_Fee S_init_Late S_init_Out S_init_Pay S_init_Rate S_init_Still S_init_Turn S_U_Entry_init⟩

