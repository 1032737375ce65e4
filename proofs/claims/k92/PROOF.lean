import PyProof.Rows.All
import Wide.All
import OpenK.AllK
import Wide.FinOn
import Lean
import PyProof.EqAt
import PyProof.EqKinds
import PyProof.TupleCall
import KE.KDictOf
import KE.KItemsList
import PySem.Challenge.RW_loanroll_k92_dates_written
set_option Elab.async false
set_option linter.all false
set_option maxRecDepth 100000
set_option maxHeartbeats 20000000
/-! THE HAND LAYER, for ints, bools, texts, own classes, LISTS and tuples (index, slices, in, append, pop ..), calls, loops. Paste it whole ahead of your own text; what your proof does not reach may be deleted. -/
namespace L2
open PySem PySem.Spec PyProof.Rows

/-- a key: an int or a str -/
abbrev Key := Sum Int Str
def keyIs : Key → Value → Bool
  | .inl k, v => Value.isInt k v
  | .inr x, v => Value.isStrOf x v
def keyH (w : World) : Key → Int
  | .inl k => hashInt k
  | .inr x => hashStr w x
theorem keyIs_shape : ∀ {k : Key} {v : Value}, keyIs k v = true → (∃ i t, k = Sum.inl i ∧ v = Value.int i t) ∨ (∃ x t, k = Sum.inr x ∧ v = Value.str x t)
  | .inl i, v, h => by
    obtain ⟨t, e⟩ := Value.isInt_shape (k := i) (v := v) h
    exact .inl ⟨i, t, rfl, e⟩
  | .inr x, v, h => by
    obtain ⟨t, e⟩ := Value.isStrOf_shape (x := x) (v := v) h
    exact .inr ⟨x, t, rfl, e⟩
theorem key_ll (a b : Int) : decide ((Sum.inl a : Key) = Sum.inl b) = (a == b) := by
  by_cases e : a = b
  · subst e; simp
  · have h : ¬ (Sum.inl a : Key) = Sum.inl b := fun q => e (Sum.inl.inj q)
    rw [decide_eq_false h]
    exact (beq_eq_false_iff_ne.mpr e).symm
theorem key_rr (a b : Str) : decide ((Sum.inr a : Key) = Sum.inr b) = decide (a = b) := by
  by_cases e : a = b
  · subst e; simp
  · have h : ¬ (Sum.inr a : Key) = Sum.inr b := fun q => e (Sum.inr.inj q)
    rw [decide_eq_false h, decide_eq_false e]
theorem key_lr (a : Int) (b : Str) : decide ((Sum.inl a : Key) = Sum.inr b) = false := decide_eq_false (fun q => nomatch q)
theorem key_rl (a : Str) (b : Int) : decide ((Sum.inr a : Key) = Sum.inl b) = false := decide_eq_false (fun q => nomatch q)

def mixKind (prog : Program) (w : World) : PySem.KeyKind prog w Key where
  is := keyIs
  hash := keyH w
  inj := fun v a b ha hb => by
    rcases keyIs_shape ha with ⟨i, t, rfl, rfl⟩ | ⟨x, t, rfl, rfl⟩
    · rcases keyIs_shape hb with ⟨j, u, rfl, e⟩ | ⟨y, u, rfl, e⟩
      · injection e with e1 _; rw [e1]
      · exact nomatch e
    · rcases keyIs_shape hb with ⟨j, u, rfl, e⟩ | ⟨y, u, rfl, e⟩
      · exact nomatch e
      · injection e with e1 _; rw [e1]
  byValue := fun k v h => by
    rcases keyIs_shape h with ⟨i, t, rfl, rfl⟩ | ⟨x, t, rfl, rfl⟩ <;> rfl
  pyHash := fun hv h => by
    rcases keyIs_shape hv with ⟨i, t, rfl, rfl⟩ | ⟨x, t, rfl, rfl⟩
    · exact wpAny_pyHash_int h
    · exact wpAny_pyHash_str h
  eqBool := fun hu hv h => by
    rcases keyIs_shape hu with ⟨i, t, rfl, rfl⟩ | ⟨x, t, rfl, rfl⟩
    · rcases keyIs_shape hv with ⟨j, u, rfl, rfl⟩ | ⟨y, u, rfl, rfl⟩
      · rw [key_ll] at h; exact wpAny_eqBool_int h
      · rw [key_lr] at h; exact SeqAt.EqAt.int_str i t y u _ _ _ _ h
    · rcases keyIs_shape hv with ⟨j, u, rfl, rfl⟩ | ⟨y, u, rfl, rfl⟩
      · rw [key_rl] at h; exact SeqAt.EqAt.str_int x t j u _ _ _ _ h
      · rw [key_rr] at h; exact wpAny_eqBool_str h
  «strs» := fun k x t v h => by
    rcases keyIs_shape h with ⟨i, u, rfl, e⟩ | ⟨y, u, rfl, e⟩
    · exact nomatch e
    · injection e with e1 _
      subst e1
      cases v <;> rfl

end L2

namespace L2
open PySem PySem.Spec PyProof.Rows

/-- a value, without the heap -/
inductive V where
  | non | bl (b : Bool) | int (i : Int) | str (x : Str) | byt (b : Array UInt8) | flt (b : UInt64) | ref (a : Addr) | ty (n : String)
  deriving DecidableEq

def RelV : V → Value → Prop
  | .non, u => u = Value.none
  | .bl b, u => u = Value.bool b
  | .int i, u => ∃ t, u = Value.int i t
  | .str x, u => ∃ t, u = Value.str x t
  | .byt b, u => ∃ t, u = Value.bytes b t
  | .flt b, u => ∃ t, u = Value.float b t
  | .ref a, u => u = Value.ref a
  | .ty n, u => u = Value.type n

abbrev Vals : List V → List Value → Prop := Paired RelV
theorem Vals.length {xs : List V} {us : List Value} (r : Vals xs us) : xs.length = us.length := Paired.length r
theorem Vals.get : ∀ {xs : List V} {us : List Value} {i : Nat} {x : V}, Vals xs us → xs[i]? = some x → ∃ u, us[i]? = some u ∧ RelV x u
  | _, _, _, _, .nil, e => by simp at e
  | _, _, 0, _, .cons r _, e => by simp at e; subst e; exact ⟨_, rfl, r⟩
  | _, _, i + 1, x, .cons _ t, e => by
    obtain ⟨u, h1, h2⟩ := Vals.get (i := i) (x := x) t (by simpa using e)
    exact ⟨u, by simpa using h1, h2⟩
theorem Vals.set {x : V} {u : Value} (r : RelV x u) : ∀ {xs : List V} {us : List Value} (i : Nat), Vals xs us → Vals (xs.set i x) (us.set i u)
  | _, _, _, .nil => .nil
  | _, _, 0, .cons _ t => .cons r t
  | _, _, i + 1, .cons q t => .cons q (Vals.set r i t)
theorem Vals.append : ∀ {xs ys : List V} {us ws : List Value}, Vals xs us → Vals ys ws → Vals (xs ++ ys) (us ++ ws)
  | _, _, _, _, .nil, s => s
  | _, _, _, _, .cons r t, s => .cons r (Vals.append t s)
theorem Vals.take : ∀ {xs : List V} {us : List Value} (n : Nat), Vals xs us → Vals (xs.take n) (us.take n)
  | _, _, 0, _ => .nil
  | _, _, _ + 1, .nil => .nil
  | _, _, n + 1, .cons r t => .cons r (Vals.take n t)
theorem Vals.drop : ∀ {xs : List V} {us : List Value} (n : Nat), Vals xs us → Vals (xs.drop n) (us.drop n)
  | _, _, 0, r => r
  | _, _, _ + 1, .nil => .nil
  | _, _, n + 1, .cons _ t => Vals.drop n t
theorem Vals.none_of : ∀ {xs : List V} {us : List Value} {i : Nat}, Vals xs us → xs[i]? = none → us[i]? = none := fun {xs us i} r e => by
  have h1 := r.length
  have h2 : xs.length ≤ i := List.getElem?_eq_none_iff.mp e
  exact List.getElem?_eq_none_iff.mpr (by omega)

def RelO : Option V → Option Value → Prop
  | some v, some u => RelV v u
  | none, none => True
  | _, _ => False
def KV {κ : Type} : List (κ × V) → List (κ × Value) → Prop := Paired fun (p : κ × V) (q : κ × Value) => p.1 = q.1 ∧ RelV p.2 q.2

/-- a key of a dict (00_mix): an int or a text -/
def kV : Key → V
  | .inl i => .int i
  | .inr x => .str x

/-- what stands at a tracked address -/
inductive HO where
  /-- a list -/
  | lst (xs : List V)
  /-- a tuple (never changes) -/
  | tup (xs : List V)
  /-- a dict whose keys are ints and texts; one whose keys are tuples of ints and texts (the empty one is both) -/
  | dK (kvs : List (Key × V))
  /-- a set of ints: its members, its size -/
  | set (S : Int → Bool) (n : Nat)
  /-- an instance of the class at C, its dict at dx, its attributes -/
  | ins (C dx : Addr) (fs : List (Str × V))
  /-- the dict of the instance at x -/
  | own (x : Addr)
  /-- the dict of an exception -/
  | xd (fs : List (Str × V))
  /-- a bound method, f of x -/
  | met (f x : Addr)
  /-- a range object lo, lo + 1, .. below hi -/
  | rng (lo hi : Int)
  /-- a thing that is known to the object (the script; a dict while a loop walks it): read, never written while it is so -/
  | frz (o : Obj) (u : HO)
  /-- a code object's table -/
  | tbl (ps : Array Value)
  /-- any other thing, by what is true of its one object (a def of one's own: SetO a S n := HO.ext fun h => ..) -/
  | ext (φ : Heap → Prop)

abbrev Hp := Addr → Option HO
def upd (H : Hp) (a : Addr) (o : HO) : Hp := fun b => if b = a then some o else H b
theorem upd_same {H : Hp} {a : Addr} {o : HO} : upd H a o a = some o := by unfold upd; rw [if_pos rfl]
theorem upd_ne {H : Hp} {a b : Addr} {o : HO} (h : b ≠ a) : upd H a o b = H b := by unfold upd; rw [if_neg h]
theorem upd_upd {H : Hp} {a : Addr} {o u : HO} : upd (upd H a o) a u = upd H a u := by
  funext b; unfold upd; split <;> rfl
/-- two objects of different content stand apart -/
theorem ne_of {H : Hp} {a b : Addr} {o u : HO} (h : H a = some o) (h' : H b = some u) (d : o ≠ u) : a ≠ b := by
  intro e; subst e; rw [h] at h'; exact d (Option.some.inj h')
theorem ne_of_none {H : Hp} {a b : Addr} {o : HO} (h : H a = some o) (h' : H b = none) : a ≠ b := by
  intro e; subst e; rw [h] at h'; cases h'

section
variable (P : Program) (w : World)
def ObjOk (H : Hp) (h : Heap) (a : Addr) : HO → Prop
  | .lst xs => xs.length ≤ sizeLine ∧ ∃ (its : List Value) (n : Nat), Vals xs its ∧ h.get? a = some { cls := .type "list", data := .seq its.toArray n }
  | .tup xs => xs.length ≤ sizeLine ∧ ∃ its : List Value, Vals xs its ∧ IsTup h a its.toArray
  | .dK kvs => kvs.length ≤ sizeLine ∧ (a == sysModules) = false ∧ ∃ vs, KV kvs vs ∧ h.DictOf (mixKind P w) a vs
  | .set S n => h.SetOf (intKind P w) a S n
  | .ins C dx fs => H dx = some (.own a) ∧ fs.length ≤ 1000 ∧ dx ≠ a ∧ h.get? a = some (PySem.W.instObj C dx) ∧
      ∃ mA, h.Ns1 dx mA ∧ (∀ f, RelO (fs.lookup f) (mA f)) ∧ PySem.Within mA (fs.map (·.1))
  | .own _ => ∃ o, h.get? a = some o
  | .xd fs => ∃ mA, h.Ns1 a mA ∧ ∀ f, RelO (fs.lookup f) (mA f)
  | .rng lo hi => ∃ t u v, h.get? a = some { cls := .type "range", data := .fields #[.int lo t, .int hi u, .int 1 v] }
  | .frz o u => h.get? a = some o ∧ ObjOk H h a u
  | .tbl ps => h.get? a = some { cls := .none, data := .fields ps }
  | .met f x => h.get? a = some (PySem.W.methodObj (.ref f) (.ref x))
  | .ext φ => φ h ∧ (∃ o, h.get? a = some o) ∧ ∀ h1 h2 : Heap, φ h1 → (∀ o, h1.get? a = some o → h2.get? a = some o) → φ h2
/-- the abstract heap is held -/
def HOk (H : Hp) (h : Heap) : Prop := ∀ a o, H a = some o → ObjOk P w H h a o
end

section
variable {P : Program} {w : World} {H H' : Hp} {h h' : Heap} {a : Addr} {o : HO}
theorem ObjOk.lt (x : ObjOk P w H h a o) : a < h.objs.size := by
  cases o with
  | lst xs => obtain ⟨_, _, _, _, e⟩ := x; exact Heap.lt_size e
  | tup xs => obtain ⟨_, _, _, p⟩ := x; exact p.lt
  | dK kvs => obtain ⟨_, _, _, _, o, _, _, e, _⟩ := x; exact Heap.lt_size e
  | set S n => obtain ⟨o, _, _, _, e, _⟩ := x; exact Heap.lt_size e
  | ins C dx fs => obtain ⟨_, _, _, e, _⟩ := x; exact Heap.lt_size e
  | own y => obtain ⟨_, e⟩ := x; exact Heap.lt_size e
  | xd fs => obtain ⟨_, ⟨_, _, _, e, _⟩, _⟩ := x; exact Heap.lt_size e
  | rng lo hi => obtain ⟨_, _, _, e⟩ := x; exact Heap.lt_size e
  | frz ob u => obtain ⟨e, _⟩ := x; exact Heap.lt_size e
  | tbl ps => exact Heap.lt_size (show h.get? a = some _ from x)
  | met f y => exact Heap.lt_size (show h.get? a = some _ from x)
  | ext φ => obtain ⟨_, ⟨_, e⟩, _⟩ := x; exact Heap.lt_size e
/-- what an object's description leans on: its own object, its own dict, the tuples -/
theorem ObjOk.stay (x : ObjOk P w H h a o) (k : ∀ b u, (b = a ∨ H b = some (.own a)) → h.get? b = some u → h'.get? b = some u)
    (ho : ∀ b, H b = some (.own a) → H' b = some (.own a)) (ht : ∀ b xs, H b = some (.tup xs) → H' b = some (.tup xs)) : ObjOk P w H' h' a o := by
  induction o with
  | lst xs => obtain ⟨z, its, n, r, e⟩ := x; exact ⟨z, its, n, r, k _ _ (.inl rfl) e⟩
  | tup xs => obtain ⟨z, its, r, ob, e, c⟩ := x; exact ⟨z, its, r, ob, k _ _ (.inl rfl) e, c⟩
  | dK kvs => obtain ⟨z, y, vs, r, ob, es, ep, e, c⟩ := x; exact ⟨z, y, vs, r, ob, es, ep, k _ _ (.inl rfl) e, c⟩
  | set S n => obtain ⟨ob, es, ep, t, e, c⟩ := x; exact ⟨ob, es, ep, t, k _ _ (.inl rfl) e, c⟩
  | ins C dx fs =>
    obtain ⟨d, z, ne, e, mA, ⟨od, es, ep, e2, c⟩, r⟩ := x
    exact ⟨ho _ d, z, ne, k _ _ (.inl rfl) e, mA, ⟨od, es, ep, k _ _ (.inr d) e2, c⟩, r⟩
  | own y => obtain ⟨ob, e⟩ := x; exact ⟨ob, k _ _ (.inl rfl) e⟩
  | xd fs => obtain ⟨mA, ⟨od, es, ep, e, c⟩, r⟩ := x; exact ⟨mA, ⟨od, es, ep, k _ _ (.inl rfl) e, c⟩, r⟩
  | rng lo hi => obtain ⟨t, u, v, e⟩ := x; exact ⟨t, u, v, k _ _ (.inl rfl) e⟩
  | frz ob u ih => obtain ⟨e, q⟩ := x; exact ⟨k _ _ (.inl rfl) e, ih q⟩
  | tbl ps =>
    have e : h.get? a = some { cls := .none, data := .fields ps } := x
    show h'.get? a = some { cls := .none, data := .fields ps }
    exact k a _ (.inl rfl) e
  | met f y =>
    have e : h.get? a = some (PySem.W.methodObj (.ref f) (.ref y)) := x
    show h'.get? a = some (PySem.W.methodObj (.ref f) (.ref y))
    exact k a _ (.inl rfl) e
  | ext φ => obtain ⟨p, ⟨o, e⟩, st⟩ := x; exact ⟨st _ _ p fun o q => k _ _ (.inl rfl) q, ⟨o, k _ _ (.inl rfl) e⟩, st⟩
theorem HOk.lt (x : HOk P w H h) (e : H a = some o) : a < h.objs.size := (x a o e).lt
theorem HOk.fresh (x : HOk P w H h) (e : h.objs.size ≤ a) : H a = none := by
  cases q : H a with
  | none => rfl
  | some u => exact absurd (Nat.lt_of_lt_of_le (x.lt q) e) (Nat.lt_irrefl _)
/-- every object of the heap is kept -/
theorem HOk.kept (x : HOk P w H h) (k : ∀ b u, h.get? b = some u → h'.get? b = some u) : HOk P w H h' := fun a o e =>
  (x a o e).stay (fun b u _ q => k b u q) (fun _ q => q) fun _ _ q => q
/-- a new object is laid and tracked -/
theorem HOk.laid (x : HOk P w H h) (k : ∀ b u, h.get? b = some u → h'.get? b = some u) (hp : h.objs.size ≤ a) (new : ObjOk P w (upd H a o) h' a o) : HOk P w (upd H a o) h' := fun b u e => by
  have hn := x.fresh hp
  by_cases hb : b = a
  · subst hb; rw [upd_same] at e; cases e; exact new
  · rw [upd_ne hb] at e
    exact (x b u e).stay (fun c v _ q => k c v q) (fun c q => by rw [upd_ne (ne_of_none q hn)]; exact q) fun c xs q => by rw [upd_ne (ne_of_none q hn)]; exact q
end

/-- what may be read as u: it is u, or a known u -/
def Rd (H : Hp) (a : Addr) (u : HO) : Prop := H a = some u ∨ ∃ o, H a = some (.frz o u)
theorem Rd.of {H : Hp} {a : Addr} {u : HO} (h : H a = some u) : Rd H a u := .inl h
theorem Rd.ok {P : Program} {w : World} {H : Hp} {h : Heap} {a : Addr} {u : HO} (r : Rd H a u) (x : HOk P w H h) : ObjOk P w H h a u := by
  rcases r with r | ⟨o, r⟩
  · exact x a u r
  · obtain ⟨_, q⟩ := x a _ r
    exact q
/-- what may be written -/
def Mut : Option HO → Prop
  | some (.lst _) => True
  | some (.dK _) => True
  | some (.set _ _) => True
  | some (.ins _ _ _) => True
  | some (.ext _) => True
  | _ => False
section
variable {P : Program} {w : World} {H : Hp} {h h' : Heap} {x e : Addr} {o' : HO}
/-- the object at e is changed: x itself, or the dict of the instance x -/
theorem HOk.write (ok : HOk P w H h) (mu : Mut (H x)) (he : e = x ∨ H e = some (.own x)) (k : ∀ b u, b ≠ e → h.get? b = some u → h'.get? b = some u) (heo : ∃ u, h'.get? e = some u)
    (new : ObjOk P w (upd H x o') h' x o') : HOk P w (upd H x o') h' := fun b u q => by
  have nown : ∀ c y, H c = some (.own y) → c ≠ x := fun c y r z => by subst z; rw [r] at mu; exact mu
  have ntup : ∀ c xs, H c = some (.tup xs) → c ≠ x := fun c xs r z => by subst z; rw [r] at mu; exact mu
  by_cases hb : b = x
  · subst hb; rw [upd_same] at q; cases q; exact new
  · rw [upd_ne hb] at q
    by_cases hbe : b = e
    · have q' : H b = some (.own x) := by
        rcases he with z | z
        · exact absurd (hbe.trans z) hb
        · rw [hbe]; exact z
      rw [q] at q'; cases q'
      obtain ⟨v, hv⟩ := heo
      exact ⟨v, by rw [hbe]; exact hv⟩
    · refine (ok b u q).stay (fun c v hc r => k c v ?_ r) (fun c r => by rw [upd_ne (nown c b r)]; exact r) fun c xs r => by rw [upd_ne (ntup c xs r)]; exact r
      rcases hc with rfl | hc
      · exact hbe
      · rintro rfl
        rcases he with z | z
        · exact nown c b hc z
        · rw [hc] at z; cases z; exact hb rfl
end

/-! ### kept unless tracked; of the frames at fs (the callers') the slots may change (an exception that passes writes there); of the records at ex (iterators) nothing is said -/
structure Un (fs ex : List Addr) (H H' : Hp) (h h' : Heap) : Prop where
  keep : ∀ b o, h.get? b = some o → H b = none → b ∉ fs → b ∉ ex → h'.get? b = some o
  slot : ∀ b o, h.get? b = some o → H b = none → b ∈ fs → b ∉ ex → ∃ sl, h'.get? b = some { o with slots := sl }
  free : ∀ b o, h.get? b = some o → H b = none → b ∉ ex → H' b = none
  there : ∀ b o, h.get? b = some o → b ∉ ex → ∃ o', h'.get? b = some o'
  tups : ∀ b xs, H b = some (.tup xs) → H' b = some (.tup xs)
  frzs : ∀ b o u, H b = some (.frz o u) → H' b = some (.frz o u)
  tbls : ∀ b ps, H b = some (.tbl ps) → ∃ more, H' b = some (.tbl (ps ++ more))
section
variable {fs fs' ex ex' : List Addr} {H H1 H2 : Hp} {h h1 h2 h' : Heap} {a x e : Addr} {o : HO}
theorem Un.any (u : Un fs ex H H1 h h1) {b : Addr} {ob : Obj} (q : h.get? b = some ob) (n : H b = none) (hx : b ∉ ex) : ∃ sl, h1.get? b = some { ob with slots := sl } := by
  by_cases hb : b ∈ fs
  · exact u.slot b ob q n hb hx
  · exact ⟨ob.slots, u.keep b ob q n hb hx⟩
theorem Un.trans (a : Un fs ex H H1 h h1) (b : Un fs ex H1 H2 h1 h2) : Un fs ex H H2 h h2 where
  keep := fun c ob q n hc hx => b.keep c ob (a.keep c ob q n hc hx) (a.free c ob q n hx) hc hx
  slot := fun c ob q n hc hx => by
    obtain ⟨sl, e1⟩ := a.slot c ob q n hc hx
    obtain ⟨sl', e2⟩ := b.slot c _ e1 (a.free c ob q n hx) hc hx
    exact ⟨sl', e2⟩
  free := fun c ob q n hx => by
    obtain ⟨o', e1⟩ := a.there c ob q hx
    exact b.free c o' e1 (a.free c ob q n hx) hx
  there := fun c ob q hx => by
    obtain ⟨o', e1⟩ := a.there c ob q hx
    exact b.there c o' e1 hx
  tups := fun c xs q => b.tups c xs (a.tups c xs q)
  frzs := fun c ob xs q => b.frzs c ob xs (a.frzs c ob xs q)
  tbls := fun c ps q => by
    obtain ⟨m1, e1⟩ := a.tbls c ps q
    obtain ⟨m2, e2⟩ := b.tbls c _ e1
    exact ⟨m1 ++ m2, by rw [e2, Array.append_assoc]⟩
theorem Un.kept (k : ∀ b u, h.get? b = some u → h'.get? b = some u) : Un fs ex H H h h' :=
  ⟨fun b ob q _ _ _ => k b ob q, fun b ob q _ _ _ => ⟨ob.slots, k b ob q⟩, fun _ _ _ n _ => n, fun b ob q _ => ⟨ob, k b ob q⟩, fun _ _ q => q, fun _ _ _ q => q, fun _ ps q => ⟨#[], by rw [q]; simp⟩⟩
theorem Un.refl : Un fs ex H H h h := Un.kept fun _ _ q => q
theorem Un.laid (k : ∀ b u, h.get? b = some u → h'.get? b = some u) (hp : h.objs.size ≤ a) (hn : H a = none) : Un fs ex H (upd H a o) h h' where
  keep := fun b u q _ _ _ => k b u q
  slot := fun b u q _ _ _ => ⟨u.slots, k b u q⟩
  free := fun b u q n _ => by rw [upd_ne (Nat.ne_of_lt (Nat.lt_of_lt_of_le (Heap.lt_size q) hp))]; exact n
  there := fun b u q _ => ⟨u, k b u q⟩
  tups := fun b xs q => by rw [upd_ne (ne_of_none q hn)]; exact q
  frzs := fun b u xs q => by rw [upd_ne (ne_of_none q hn)]; exact q
  tbls := fun b ps q => ⟨#[], by rw [upd_ne (ne_of_none q hn), q]; simp⟩
theorem Un.write (mu : Mut (H x)) (he : e = x ∨ H e = some (.own x)) (k : ∀ b u, b ≠ e → h.get? b = some u → h'.get? b = some u) (heo : ∃ u, h'.get? e = some u) : Un fs ex H (upd H x o) h h' := by
  have hx : ∀ b, H b = none → b ≠ x := fun b n z => by subst z; rw [n] at mu; exact mu
  have hb : ∀ b, H b = none → b ≠ e := fun b n z => by
    subst z
    rcases he with r | r
    · exact hx b n r
    · rw [n] at r; cases r
  have hm : ∀ b u, H b = some u → ¬ Mut (some u) → b ≠ x := fun b u q nm z => by subst z; rw [q] at mu; exact nm mu
  refine ⟨fun b u q n _ _ => k b u (hb b n) q, fun b u q n _ _ => ⟨u.slots, k b u (hb b n) q⟩, fun b u q n _ => by rw [upd_ne (hx b n)]; exact n, fun b u q _ => ?_,
    fun b xs q => by rw [upd_ne (hm b _ q fun z => z)]; exact q, fun b u xs q => by rw [upd_ne (hm b _ q fun z => z)]; exact q, fun b ps q => ⟨#[], by rw [upd_ne (hm b _ q fun z => z), q]; simp⟩⟩
  by_cases hbe : b = e
  · subst hbe; exact heo
  · exact ⟨u, k b u hbe q⟩
theorem Un.mono (u : Un fs ex H H1 h h1) (hs : ∀ b ∈ fs, b ∈ fs') (hx : ∀ b ∈ ex, b ∈ ex') : Un fs' ex' H H1 h h1 :=
  ⟨fun b ob q n hb he => u.keep b ob q n (fun z => hb (hs b z)) fun z => he (hx b z), fun _ _ q n _ he => u.any q n fun z => he (hx _ z), fun b ob q n he => u.free b ob q n fun z => he (hx b z), fun b ob q he => u.there b ob q fun z => he (hx b z), u.tups, u.frzs, u.tbls⟩
end

/-! ### the heap without what is tracked -/
def trk (h : Heap) (H : Hp) : List Addr := (List.range h.objs.size).filter fun a => (H a).isSome
def hidT (h : Heap) (H : Hp) : Heap := PySem.W.hideAll h (trk h H)
theorem hidT_size (h : Heap) (H : Hp) : (hidT h H).objs.size = h.objs.size := PySem.W.hideAll_size _ _
theorem hidT_get {h : Heap} {H : Hp} {b : Addr} {o : Obj} (e : h.get? b = some o) (n : H b = none) : (hidT h H).get? b = some o :=
  PySem.W.hideAll_get _ e fun hm => by
    have q : (H b).isSome = true := (List.mem_filter.mp hm).2
    rw [n] at q; simp at q
theorem of_hidT {h : Heap} {H : Hp} {b : Addr} {o : Obj} (e : (hidT h H).get? b = some o) : h.get? b = some o ∧ H b = none := by
  have e' : h.get? b = some o := PySem.W.of_hideAll (trk h H) e
  refine ⟨e', ?_⟩
  cases q : H b with
  | none => rfl
  | some x =>
    have hm : b ∈ trk h H := List.mem_filter.mpr ⟨List.mem_range.mpr (Heap.lt_size e'), by simp [q]⟩
    have z : (hidT h H).get? b = none := PySem.W.hideAll_none (trk h H) hm
    rw [z] at e; cases e

/-! ### OpenK's ledger, filled with every new object but one -/
def allNews (g h : Heap) (L : Addr) : List (Addr × Obj) := (List.range h.objs.size).filterMap fun a => if a = L ∨ (g.get? a).isSome = true then none else (h.get? a).map fun o => (a, o)
def rest (g h : Heap) (L d : Addr) : List (Addr × Obj) := (allNews g h L).filter fun p => decide (p.1 ≠ d)
end L2

namespace L2
open PySem PySem.Spec PyProof.Rows

/-- the module's facts, over the base: the heap at the law's entry without what is tracked there -/
structure Mod (K : PySem.W.Frag) (mg : Str → Option Value) (base : Heap) : Prop where
  kin : K.In base
  glob : base.Ns mainGlobals mg
  blt : ∃ mb, base.Ns builtinsNs mb ∧ ∀ x : Str, x ≠ "__name__" → mb x = bootBuiltins x
  nolimit : base.NoLimit

/-- the context: a def's body (or a comprehension's block) running. base: fixed through the whole law; s₀, H₀: the entry; outer: the frames whose slots others may change (a def's callers); stack: all frames that run;
   ex: iterators that were made ahead of the entry and are walked here (a comprehension's); fn: the names whose cells were made at the entry (a def: all; a comprehension's block: its own); calm: not within an except suite; pn: pins that every state bears; xe: what is wanted of an exception that leaves the code -/
structure Cx where
  prog : Program
  w : World
  K : PySem.W.Frag
  mg : Str → Option Value
  base : Heap
  A : Around
  N : List Str
  s₀ : Shared
  H₀ : Hp
  env : Env
  outer : List Env
  stack : List Env
  ex : List Addr
  fn : Str → Bool
  calm : Bool
  pn : List (Addr × Obj)
  xe : Value → Shared → Prop
/-- the callers' frames -/
def frs (l : List Env) : List Addr := l.filterMap (·.frame)
abbrev Cx.fs (X : Cx) : List Addr := frs X.outer

def Vis (sc : Scope) (x : Str) : Prop := sc.names.lookup x = some .local ∨ sc.names.lookup x = some .cell ∨ sc.names.lookup x = some .free
def Loc (sc : Scope) (x : Str) : Prop := sc.names.lookup x = some .local ∨ sc.names.lookup x = some .cell
def Look (env : Env) (h : Heap) (m : Str → Option Value) (x : Str) (u : Value) : Prop :=
  (env.kindOf x = some .local ∧ m x = some u) ∨ ((env.kindOf x = some .cell ∨ env.kindOf x = some .free) ∧ ∃ c, env.cells.lookup x = some c ∧ h.IsCell c (some u))

structure Cx.Ok (X : Cx) : Prop where
  mod : Mod X.K X.mg X.base
  kind : X.env.scope.kind = .function
  glob : X.env.globals = mainGlobals
  blt : X.env.builtins = builtinsNs
  above : X.s₀.heap.objs.size ≤ X.env.locals
  inj : ∀ x y c, X.env.cells.lookup x = some c → X.env.cells.lookup y = some c → x = y
  has : ∀ x, (X.env.kindOf x = some .cell ∨ X.env.kindOf x = some .free) → ∃ c, X.env.cells.lookup x = some c
  cab : ∀ x c, X.fn x = true → X.env.cells.lookup x = some c → X.s₀.heap.objs.size ≤ c
  hd : X.calm = true → X.A.handled = none
  frames : X.A.frames = some X.stack
  stk : X.stack = X.outer ∨ (X.stack = X.env :: X.outer ∧ X.env.frame = some X.env.locals)
  exf : ∀ b ∈ X.ex, b ≠ X.env.locals ∧ ∀ x c, X.env.cells.lookup x = some c → c ≠ b
  bs : ∀ b o, X.base.get? b = some o → X.s₀.heap.get? b = some o ∧ X.H₀ b = none
  bsz : X.base.objs.size ≤ X.s₀.heap.objs.size
  noex : ∀ b o, X.base.get? b = some o → b ∉ X.ex
  exfs : ∀ b ∈ X.ex, b ∉ X.fs
  funs : X.s₀.heap.FunFrames X.base X.outer
  frf : ∀ b ∈ X.fs, X.H₀ b = none

structure Inv (X : Cx) (pins : List (Addr × Obj)) (σ : List (Option V)) (H : Hp) (s : Shared) : Prop where
  ok : X.Ok
  os : s.os = X.s₀.os
  bare : AllBare s.gens
  base : Un X.fs X.ex X.H₀ H X.s₀.heap s.heap
  loc : ∃ m, s.heap.Ns X.env.locals m ∧ ∀ (i : Nat) (x : Str) (v : V), X.N[i]? = some x → σ[i]? = some (some v) → Vis X.env.scope x → ∃ u, RelV v u ∧ Look X.env s.heap m x u
  cell : ∀ x c, X.env.cells.lookup x = some c → ∃ v, s.heap.IsCell c v
  free : H X.env.locals = none
  freeC : ∀ x c, X.env.cells.lookup x = some c → H c = none
  pin : ∀ p ∈ X.pn ++ pins, s.heap.get? p.1 = some p.2 ∧ H p.1 = none ∧ p.1 ≠ X.env.locals ∧ p.1 ∉ X.fs ∧ ∀ v, p.2.data ≠ .cell v
  hok : HOk X.prog X.w H s.heap
  len : σ.length = X.N.length

section
variable {X : Cx} {pins : List (Addr × Obj)} {σ : List (Option V)} {H H' : Hp} {s : Shared} {h' : Heap}

theorem Cx.Ok.nofr (ok : X.Ok) {b : Addr} {o : Obj} (e : X.base.get? b = some o) : b ∉ X.fs := fun hb => by
  have := (ok.funs.mem hb).1
  rw [e] at this; cases this
theorem Inv.bs (I : Inv X pins σ H s) : ∀ b o, X.base.get? b = some o → s.heap.get? b = some o ∧ H b = none := fun b o e =>
  ⟨I.base.keep b o (I.ok.bs b o e).1 (I.ok.bs b o e).2 (I.ok.nofr e) (I.ok.noex b o e), I.base.free b o (I.ok.bs b o e).1 (I.ok.bs b o e).2 (I.ok.noex b o e)⟩
theorem Inv.bk (I : Inv X pins σ H s) : ∀ b o, X.base.get? b = some o → s.heap.get? b = some o := fun b o e => (I.bs b o e).1
theorem Inv.mod (I : Inv X pins σ H s) : Mod X.K X.mg X.base := I.ok.mod
theorem Inv.kIn (I : Inv X pins σ H s) : X.K.In s.heap := I.ok.mod.kin.keeps I.bk
theorem Inv.nolimit (I : Inv X pins σ H s) : s.heap.NoLimit := I.ok.mod.nolimit.keeps I.bk
/-- the frame over the base: for OpenK's rules (K.In X.base is I.mod.kin) -/
theorem Inv.fr (I : Inv X pins σ H s) : ∃ m, Fr X.base X.env.locals s.heap m :=
  let ⟨m, hn, _⟩ := I.loc
  ⟨m, hn, I.bk, Nat.le_trans I.ok.bsz I.ok.above⟩
theorem Inv.lt (I : Inv X pins σ H s) : X.env.locals < s.heap.objs.size := let ⟨_, hn, _⟩ := I.loc; hn.lt
theorem Inv.sz (I : Inv X pins σ H s) : X.s₀.heap.objs.size ≤ s.heap.objs.size := Nat.le_trans I.ok.above (Nat.le_of_lt I.lt)
theorem Inv.nofs (I : Inv X pins σ H s) {a : Addr} (h : s.heap.objs.size ≤ a) : a ∉ X.fs := fun hb => by
  obtain ⟨_, o, ho, _⟩ := I.ok.funs.mem hb
  exact absurd (Nat.lt_of_lt_of_le (Heap.lt_size ho) (Nat.le_trans I.sz h)) (Nat.lt_irrefl _)
theorem Inv.cne (I : Inv X pins σ H s) : ∀ x c, X.env.cells.lookup x = some c → c ≠ X.env.locals := fun x c e z => by
  obtain ⟨v, o, ho, hd⟩ := I.cell x c e
  obtain ⟨m, ⟨o', es, ep, ho', hd', _⟩, _⟩ := I.loc
  rw [z, ho'] at ho; cases ho; rw [hd'] at hd; cases hd
theorem Inv.funs (I : Inv X pins σ H s) : s.heap.FunFrames X.base X.outer := by
  have all : ∀ (l : List Env), (∀ b ∈ frs l, b ∈ X.fs) → X.s₀.heap.FunFrames X.base l → s.heap.FunFrames X.base l := by
    intro l
    induction l with
    | nil => intro _ _; trivial
    | cons env r ih =>
      intro hs hl
      obtain ⟨hk, ⟨L, o, hf, hn, ho, hd⟩, hr⟩ := hl
      have hL : L ∈ X.fs := hs L (by unfold frs; rw [List.filterMap_cons, hf]; exact List.mem_cons_self)
      obtain ⟨sl, e⟩ := I.base.slot L o ho (I.ok.frf L hL) hL fun z => I.ok.exfs L z hL
      exact ⟨hk, ⟨L, _, hf, hn, e, hd⟩, ih (fun b hb => hs b (by unfold frs; rw [List.filterMap_cons, hf]; exact List.mem_cons_of_mem _ hb)) hr⟩
  exact all X.outer (fun _ hb => hb) I.ok.funs

/-- the frames that run, for a call -/
theorem Inv.stack (I : Inv X pins σ H s) : s.heap.FunFrames X.base X.stack := by
  rcases I.ok.stk with e | ⟨e, hf⟩
  · rw [e]; exact I.funs
  · rw [e]
    obtain ⟨m, hn, _⟩ := I.loc
    refine .cons (by rw [I.ok.kind]; decide) hf hn ?_ I.funs
    exact Heap.get?_none_of_le (Nat.le_trans I.ok.bsz I.ok.above)
theorem Inv.stkSub (I : Inv X pins σ H s) : ∀ b ∈ frs X.stack, b ∈ X.env.locals :: X.fs := fun b hb => by
  rcases I.ok.stk with e | ⟨e, hf⟩
  · rw [e] at hb; exact List.mem_cons_of_mem _ hb
  · rw [e] at hb
    unfold frs at hb
    rw [List.filterMap_cons, hf] at hb
    exact hb
theorem Inv.stkFree (I : Inv X pins σ H s) : ∀ b ∈ frs X.stack, H b = none := fun b hb => by
  rcases List.mem_cons.mp (I.stkSub b hb) with e | hb
  · rw [e]; exact I.free
  · obtain ⟨_, o, ho, _⟩ := I.ok.funs.mem hb
    exact I.base.free b o ho (I.ok.frf b hb) fun z => I.ok.exfs b z hb

/-- THE STEP: the untracked objects but the frame and the records at ch are kept (the callers' frames up to slots), the frame's map is kept, the new abstract heap is held -/
theorem Inv.step {g' : Array GenState} {t' : Nat} {d' : Drawn} {ch : List Addr} (I : Inv X pins σ H s)
    (hch : ∀ b ∈ ch, (b ∈ X.ex ∨ X.s₀.heap.objs.size ≤ b) ∧ b ≠ X.env.locals ∧ (∀ x c, X.env.cells.lookup x = some c → c ≠ b) ∧ ∀ p ∈ X.pn ++ pins, p.1 ≠ b)
    (keep : ∀ b o, b ≠ X.env.locals → b ∉ X.fs → b ∉ ch → s.heap.get? b = some o → H b = none → h'.get? b = some o)
    (slot : ∀ b o, b ≠ X.env.locals → b ∈ X.fs → b ∉ ch → s.heap.get? b = some o → H b = none → ∃ sl, h'.get? b = some { o with slots := sl }) (free : ∀ b o, b ∉ ch → s.heap.get? b = some o → H b = none → H' b = none)
    (there : ∀ b o, b ∉ ch → s.heap.get? b = some o → ∃ o', h'.get? b = some o')
    (tups : ∀ b xs, H b = some (.tup xs) → H' b = some (.tup xs)) (frzs : ∀ b o u, H b = some (.frz o u) → H' b = some (.frz o u)) (tbls : ∀ b ps, H b = some (.tbl ps) → ∃ more, H' b = some (.tbl (ps ++ more)))
    (ns : ∀ m, s.heap.Ns X.env.locals m → h'.Ns X.env.locals m) (hok : HOk X.prog X.w H' h') (hg : AllBare g') :
    Inv X pins σ H' { s with heap := h', gens := g', drawn := d', toks := t' } := by
  have neL : ∀ b o, X.s₀.heap.get? b = some o → b ≠ X.env.locals := fun b o e => Nat.ne_of_lt (Nat.lt_of_lt_of_le (Heap.lt_size e) I.ok.above)
  have neC : ∀ b o, X.s₀.heap.get? b = some o → b ∉ X.ex → b ∉ ch := fun b o e hx hb => by
    rcases (hch b hb).1 with z | z
    · exact hx z
    · exact absurd (Nat.lt_of_lt_of_le (Heap.lt_size e) z) (Nat.lt_irrefl _)
  have cellK : ∀ x c, X.env.cells.lookup x = some c → ∀ v, s.heap.IsCell c v → h'.IsCell c v := fun x c e v ⟨o, ho, hd⟩ => by
    have nch : c ∉ ch := fun z => (hch c z).2.2.1 x c e rfl
    by_cases hc : c ∈ X.fs
    · obtain ⟨sl, q⟩ := slot c o (I.cne x c e) hc nch ho (I.freeC x c e)
      exact ⟨_, q, hd⟩
    · exact ⟨o, keep c o (I.cne x c e) hc nch ho (I.freeC x c e), hd⟩
  refine ⟨I.ok, I.os, hg, ⟨fun b o e n hb hx => ?_, fun b o e n hb hx => ?_, fun b o e n hx => ?_, fun b o e hx => ?_, fun b xs e => tups b xs (I.base.tups b xs e), fun b o xs e => frzs b o xs (I.base.frzs b o xs e), fun b ps e => ?_⟩, ?_, fun x c e => ?_, ?_, fun x c e => ?_, fun p hp => ?_, hok, I.len⟩
  · exact keep b o (neL b o e) hb (neC b o e hx) (I.base.keep b o e n hb hx) (I.base.free b o e n hx)
  · obtain ⟨sl, e1⟩ := I.base.slot b o e n hb hx
    obtain ⟨sl', e2⟩ := slot b _ (neL b o e) hb (neC b o e hx) e1 (I.base.free b o e n hx)
    exact ⟨sl', e2⟩
  · obtain ⟨o', e1⟩ := I.base.there b o e hx
    exact free b o' (neC b o e hx) e1 (I.base.free b o e n hx)
  · obtain ⟨o', e1⟩ := I.base.there b o e hx
    exact there b o' (neC b o e hx) e1
  · obtain ⟨m1, e1⟩ := I.base.tbls b ps e
    obtain ⟨m2, e2⟩ := tbls b _ e1
    exact ⟨m1 ++ m2, by rw [e2, Array.append_assoc]⟩
  · obtain ⟨m, hn, hl⟩ := I.loc
    refine ⟨m, ns m hn, fun i x v e1 e2 e3 => ?_⟩
    obtain ⟨u, r, l⟩ := hl i x v e1 e2 e3
    refine ⟨u, r, ?_⟩
    rcases l with l | ⟨k, c, e, z⟩
    · exact .inl l
    · exact .inr ⟨k, c, e, cellK x c e _ z⟩
  · obtain ⟨v, z⟩ := I.cell x c e
    exact ⟨v, cellK x c e v z⟩
  · obtain ⟨m, ⟨o, _, _, ho, _⟩, _⟩ := I.loc
    exact free _ o (fun z => (hch _ z).2.1 rfl) ho I.free
  · obtain ⟨v, o, ho, hd⟩ := I.cell x c e
    exact free c o (fun z => (hch c z).2.2.1 x c e rfl) ho (I.freeC x c e)
  · obtain ⟨e, n, ne, nf, d⟩ := I.pin p hp
    have nch : p.1 ∉ ch := fun z => (hch p.1 z).2.2.2 p hp rfl
    exact ⟨keep p.1 p.2 ne nf nch e n, free p.1 p.2 nch e n, ne, nf, d⟩
/-- .. where the frame's own object is kept too -/
theorem Inv.un {t' : Nat} (I : Inv X pins σ H s) (u : Un X.fs [] H H' s.heap h') (hok : HOk X.prog X.w H' h') : Inv X pins σ H' { s with heap := h', toks := t' } := by
  obtain ⟨m, ⟨o, es, ep, ho, r⟩, _⟩ := id I.loc
  obtain ⟨sl, hL⟩ := u.any ho I.free (by simp)
  exact I.step (g' := s.gens) (d' := s.drawn) (ch := []) (fun _ z => nomatch z) (fun b o _ hb _ e n => u.keep b o e n hb (by simp)) (fun b o _ hb _ e n => u.slot b o e n hb (by simp)) (fun b o _ e n => u.free b o e n (by simp)) (fun b o _ e => u.there b o e (by simp)) u.tups u.frzs u.tbls (fun m' hm => by
    obtain ⟨o', es', ep', ho', r'⟩ := hm
    rw [ho] at ho'; cases ho'
    exact ⟨_, es', ep', hL, r'⟩) hok I.bare
/-- behind a call (or a comprehension's block): the slots of this frame may have changed too, the records at ch may have turned -/
theorem Inv.call {g' : Array GenState} {t' : Nat} {d' : Drawn} {ch : List Addr} (I : Inv X pins σ H s) (u : Un (frs X.stack) ch H H' s.heap h') (hok : HOk X.prog X.w H' h') (hg : AllBare g')
    (hch : ∀ b ∈ ch, (b ∈ X.ex ∨ X.s₀.heap.objs.size ≤ b) ∧ b ≠ X.env.locals ∧ (∀ x c, X.env.cells.lookup x = some c → c ≠ b) ∧ ∀ p ∈ X.pn ++ pins, p.1 ≠ b) :
    Inv X pins σ H' { s with heap := h', gens := g', drawn := d', toks := t' } := by
  obtain ⟨m, ⟨o, es, ep, ho, r⟩, _⟩ := id I.loc
  obtain ⟨sl, hL⟩ := u.any ho I.free fun z => (hch _ z).2.1 rfl
  exact I.step (ch := ch) hch (fun b o hL hb hc e n => u.keep b o e n (fun z => (List.mem_cons.mp (I.stkSub b z)).elim hL hb) hc) (fun b o _ _ hc e n => u.any e n hc) (fun b o hc e n => u.free b o e n hc) (fun b o hc e => u.there b o e hc) u.tups u.frzs u.tbls (fun m' hm => by
    obtain ⟨o', es', ep', ho', r'⟩ := hm
    rw [ho] at ho'; cases ho'
    exact ⟨_, es', ep', hL, r'⟩) hok hg
/-- an untracked record of ours (an iterator) has turned -/
theorem Inv.turned {t' : Nat} {it : Addr} (I : Inv X pins σ H s) (k : ∀ b o, b ≠ it → s.heap.get? b = some o → h'.get? b = some o) (hn : H it = none) (hL : it ≠ X.env.locals)
    (h1 : it ∈ X.ex ∨ X.s₀.heap.objs.size ≤ it) (h2 : ∀ x c, X.env.cells.lookup x = some c → c ≠ it) (h3 : ∀ p ∈ X.pn ++ pins, p.1 ≠ it) : Inv X pins σ H { s with heap := h', toks := t' } := by
  have nit : ∀ b u, H b = some u → b ≠ it := fun b u e z => by rw [z, hn] at e; cases e
  refine I.step (g' := s.gens) (d' := s.drawn) (ch := [it]) (fun b hb => ?_) (fun b o _ _ hc e _ => k b o (fun z => hc (by simp [z])) e) (fun b o _ _ hc e _ => ⟨o.slots, k b o (fun z => hc (by simp [z])) e⟩) (fun _ _ _ _ n => n)
    (fun b o hc e => ⟨o, k b o (fun z => hc (by simp [z])) e⟩) (fun _ _ e => e) (fun _ _ _ e => e) (fun b ps e => ⟨#[], by rw [e]; simp⟩) (fun m hm => ?_) (fun b u e => ?_) I.bare
  · have e : b = it := by simpa using hb
    subst e
    exact ⟨h1, hL, h2, h3⟩
  · obtain ⟨o, es, ep, ho, r⟩ := hm
    exact ⟨o, es, ep, k _ o (Ne.symm hL) ho, r⟩
  · refine (I.hok b u e).stay (fun c v hc q => k c v ?_ q) (fun _ q => q) fun _ _ q => q
    rcases hc with z | z
    · rw [z]; exact nit b u e
    · exact nit c _ z
theorem Inv.tok (I : Inv X pins σ H s) (t : Nat) : Inv X pins σ H { s with toks := t } := I.un (h' := s.heap) (t' := t) Un.refl I.hok
/-- all objects kept -/
theorem Inv.kept {t' : Nat} (I : Inv X pins σ H s) (k : ∀ b u, s.heap.get? b = some u → h'.get? b = some u) : Inv X pins σ H { s with heap := h', toks := t' } := I.un (Un.kept k) (I.hok.kept k)
/-- a new object laid and tracked -/
theorem Inv.laid {a : Addr} {o : HO} {t' : Nat} (I : Inv X pins σ H s) (k : ∀ b u, s.heap.get? b = some u → h'.get? b = some u) (hp : s.heap.objs.size ≤ a) (new : ObjOk X.prog X.w (upd H a o) h' a o) :
    Inv X pins σ (upd H a o) { s with heap := h', toks := t' } := I.un (Un.laid k hp (I.hok.fresh hp)) (I.hok.laid k hp new)
/-- an object written -/
theorem Inv.write {x e : Addr} {o : HO} {t' : Nat} (I : Inv X pins σ H s) (mu : Mut (H x)) (he : e = x ∨ H e = some (.own x)) (k : ∀ b u, b ≠ e → s.heap.get? b = some u → h'.get? b = some u) (heo : ∃ u, h'.get? e = some u)
    (new : ObjOk X.prog X.w (upd H x o) h' x o) : Inv X pins σ (upd H x o) { s with heap := h', toks := t' } := I.un (Un.write mu he k heo) (I.hok.write mu he k heo new)
theorem Inv.pins_of {pins' : List (Addr × Obj)} (I : Inv X pins σ H s) (h : ∀ p ∈ pins', s.heap.get? p.1 = some p.2 ∧ H p.1 = none ∧ p.1 ≠ X.env.locals ∧ p.1 ∉ X.fs ∧ ∀ v, p.2.data ≠ .cell v) : Inv X pins' σ H s :=
  ⟨I.ok, I.os, I.bare, I.base, I.loc, I.cell, I.free, I.freeC, fun p hp => (List.mem_append.mp hp).elim (fun z => I.pin p (List.mem_append_left _ z)) (h p), I.hok, I.len⟩

theorem nodup_ix {N : List Str} (hN : N.Nodup) {i j : Nat} {x : Str} (a : N[i]? = some x) (b : N[j]? = some x) : i = j := by
  obtain ⟨h1, e1⟩ := List.getElem?_eq_some_iff.mp a
  obtain ⟨h2, e2⟩ := List.getElem?_eq_some_iff.mp b
  exact (List.getElem_inj hN).mp (e1.trans e2.symm)

/-- a name is stored; what changed -/
theorem store_ok2 {M : Model} {A : Around} {E : Value → Shared → Prop} {i : Nat} {x : Str} {v : V} {u : Value} {Q : Unit → Shared → Prop} (I : Inv X pins σ H s) (hN : X.N.Nodup) (hi : X.N[i]? = some x) (hx : Loc X.env.scope x) (r : RelV v u)
    (h : ∀ s', Inv X pins (σ.set i (some v)) H s' → (∃ a, Heap.SameBut a s.heap s'.heap ∧ (a = X.env.locals ∨ X.env.cells.lookup x = some a)) → Q () s') (hf : X.fn x = true ∨ X.env.scope.names.lookup x = some .local := by first | exact .inl rfl | exact .inr rfl | assumption) : wpAny M A (storeName X.env x u) Q E s := by
  obtain ⟨m, hn, hl⟩ := id I.loc
  have hcls : (X.env.scope.kind == .class || (X.env.scope.kind == .module && X.env.locals != X.env.globals)) = false := by rw [I.ok.kind]; rfl
  have hiσ : i < σ.length := by rw [I.len]; exact (List.getElem?_eq_some_iff.mp hi).1
  have cne := I.cne
  have tracked : ∀ {a : Addr} {h' : Heap}, (∃ o, s.heap.get? a = some o ∧ H a = none) → Heap.SameBut a s.heap h' → HOk X.prog X.w H h' := fun {a h'} ha hs b ob e => by
    obtain ⟨_, _, hfree⟩ := ha
    refine (I.hok b ob e).stay (fun c w' hc q => (hs.2 c ?_).trans q) (fun _ q => q) fun _ _ q => q
    rintro rfl
    rcases hc with rfl | hc
    · rw [hfree] at e; cases e
    · rw [hfree] at hc; cases hc
  rcases hx with hk | hk
  · refine wpAny_storeName_local hk hn (fun h' hn' hs => ?_) hcls
    obtain ⟨oL, _, _, hoL, _⟩ := id hn
    refine h _ ⟨I.ok, I.os, I.bare, ⟨fun b o e n hb hx => ?_, fun b o e n hb hx => ?_, I.base.free, fun b o e hx => ?_, I.base.tups, I.base.frzs, I.base.tbls⟩, ⟨_, hn', fun j y v' e1 e2 e3 => ?_⟩, fun y c e => ?_, I.free, I.freeC, fun p hp => ?_, tracked ⟨oL, hoL, I.free⟩ hs, by simpa using I.len⟩ ⟨_, hs, .inl rfl⟩
    · exact (hs.2 b (Nat.ne_of_lt (Nat.lt_of_lt_of_le (Heap.lt_size e) I.ok.above))).trans (I.base.keep b o e n hb hx)
    · obtain ⟨sl, e1⟩ := I.base.slot b o e n hb hx
      exact ⟨sl, (hs.2 b (Nat.ne_of_lt (Nat.lt_of_lt_of_le (Heap.lt_size e) I.ok.above))).trans e1⟩
    · obtain ⟨o', e1⟩ := I.base.there b o e hx
      exact ⟨o', (hs.2 b (Nat.ne_of_lt (Nat.lt_of_lt_of_le (Heap.lt_size e) I.ok.above))).trans e1⟩
    · by_cases hj : j = i
      · subst hj
        rw [hi] at e1; cases e1
        rw [List.getElem?_set_self hiσ] at e2
        cases e2
        exact ⟨u, r, .inl ⟨hk, by simp⟩⟩
      · rw [List.getElem?_set_ne (Ne.symm hj)] at e2
        obtain ⟨u', r', q⟩ := hl j y v' e1 e2 e3
        refine ⟨u', r', ?_⟩
        rcases q with ⟨k, e⟩ | ⟨k, c, e, z⟩
        · refine .inl ⟨k, ?_⟩
          have : y ≠ x := fun e => hj (nodup_ix hN e1 (e ▸ hi))
          simp [this, e]
        · exact .inr ⟨k, c, e, z.sameBut hs (cne y c e)⟩
    · obtain ⟨w', z⟩ := I.cell y c e
      exact ⟨w', z.sameBut hs (cne y c e)⟩
    · obtain ⟨e, n, ne, nf, d⟩ := I.pin p hp
      exact ⟨(hs.2 p.1 ne).trans e, n, ne, nf, d⟩
  · have hfn : X.fn x = true := by
      rcases hf with z | z
      · exact z
      · rw [z] at hk; cases hk
    obtain ⟨c, hc⟩ := I.ok.has x (.inl hk)
    obtain ⟨w', z⟩ := I.cell x c hc
    refine wpAny_storeName_cell I.ok.kind hk hc z (fun h' hc' hs => ?_)
    obtain ⟨oc, hoc, hocd⟩ := id z
    refine h { s with heap := h' } ⟨I.ok, I.os, I.bare, ⟨fun b o e n hb hx => ?_, fun b o e n hb hx => ?_, I.base.free, fun b o e hx => ?_, I.base.tups, I.base.frzs, I.base.tbls⟩, ⟨m, hn.sameBut hs (Ne.symm (cne x c hc)), fun j y v' e1 e2 e3 => ?_⟩, fun y c' e => ?_, I.free, I.freeC, fun p hp => ?_, tracked ⟨oc, hoc, I.freeC x c hc⟩ hs, by simpa using I.len⟩ ⟨c, hs, .inr hc⟩
    · exact (hs.2 b (Nat.ne_of_lt (Nat.lt_of_lt_of_le (Heap.lt_size e) (I.ok.cab x c hfn hc)))).trans (I.base.keep b o e n hb hx)
    · obtain ⟨sl, e1⟩ := I.base.slot b o e n hb hx
      exact ⟨sl, (hs.2 b (Nat.ne_of_lt (Nat.lt_of_lt_of_le (Heap.lt_size e) (I.ok.cab x c hfn hc)))).trans e1⟩
    · obtain ⟨o', e1⟩ := I.base.there b o e hx
      exact ⟨o', (hs.2 b (Nat.ne_of_lt (Nat.lt_of_lt_of_le (Heap.lt_size e) (I.ok.cab x c hfn hc)))).trans e1⟩
    · by_cases hj : j = i
      · subst hj
        rw [hi] at e1; cases e1
        rw [List.getElem?_set_self hiσ] at e2
        cases e2
        exact ⟨u, r, .inr ⟨.inl hk, c, hc, hc'⟩⟩
      · rw [List.getElem?_set_ne (Ne.symm hj)] at e2
        obtain ⟨u', r', q⟩ := hl j y v' e1 e2 e3
        refine ⟨u', r', ?_⟩
        rcases q with q | ⟨k, c', e, z'⟩
        · exact .inl q
        · refine .inr ⟨k, c', e, z'.sameBut hs ?_⟩
          rintro rfl
          exact hj (nodup_ix hN e1 (I.ok.inj _ _ _ e hc ▸ hi))
    · by_cases hcc : c' = c
      · subst hcc; exact ⟨_, hc'⟩
      · obtain ⟨w2, z2⟩ := I.cell y c' e
        exact ⟨w2, z2.sameBut hs hcc⟩
    · obtain ⟨e, n, ne, nf, d⟩ := I.pin p hp
      refine ⟨(hs.2 p.1 ?_).trans e, n, ne, nf, d⟩
      intro q
      rw [q, hoc] at e
      have q' : oc = p.2 := Option.some.inj e
      exact d w' (by rw [← q']; exact hocd)
theorem store_ok {M : Model} {A : Around} {E : Value → Shared → Prop} {i : Nat} {x : Str} {v : V} {u : Value} {Q : Unit → Shared → Prop} (I : Inv X pins σ H s) (hN : X.N.Nodup) (hi : X.N[i]? = some x) (hx : Loc X.env.scope x) (r : RelV v u)
    (h : ∀ s', Inv X pins (σ.set i (some v)) H s' → Q () s') (hf : X.fn x = true ∨ X.env.scope.names.lookup x = some .local := by first | exact .inl rfl | exact .inr rfl | assumption) : wpAny M A (storeName X.env x u) Q E s :=
  store_ok2 I hN hi hx r (fun s' I' _ => h s' I') hf
/-- behind a call or a block, the state as it is -/
theorem Inv.call' {s' : Shared} {ch : List Addr} (I : Inv X pins σ H s) (ho : s'.os = s.os) (u : Un (frs X.stack) ch H H' s.heap s'.heap) (hok : HOk X.prog X.w H' s'.heap) (hg : AllBare s'.gens)
    (hch : ∀ b ∈ ch, (b ∈ X.ex ∨ X.s₀.heap.objs.size ≤ b) ∧ b ≠ X.env.locals ∧ (∀ x c, X.env.cells.lookup x = some c → c ≠ b) ∧ ∀ p ∈ X.pn ++ pins, p.1 ≠ b) : Inv X pins σ H' s' := by
  obtain ⟨h', g', d', t', o'⟩ := s'
  have e : o' = s.os := ho
  subst e
  exact I.call (g' := g') (t' := t') (d' := d') u hok hg hch
end

/-! ### the judgements -/
/-- an exception: its class, its own dict's address (where it has one), the abstract heap behind it -/
abbrev XK := Value → Option Addr → Hp → Prop
abbrev St := List (Option V)
abbrev VK := V → Hp → Prop
/-- an expression's reading; a test's; an argument list's -/
abbrev TE := St → Hp → VK → Prop
abbrev TT := St → Hp → (Bool → Hp → Prop) → Prop
abbrev TA := St → Hp → (List V → Hp → Prop) → Prop
/-- what is wanted behind a statement -/
structure Ends where
  nx : St → Hp → Prop
  rt : VK
  bk : St → Hp → Prop := fun _ _ => False
  ct : St → Hp → Prop := fun _ _ => False
abbrev TS := Ends → St → Hp → Prop

def EP (X : Cx) (pins : List (Addr × Obj)) (σ : St) (Q : VK) (u : Value) (s' : Shared) : Prop := ∃ v H', Inv X pins σ H' s' ∧ RelV v u ∧ Q v H'
def TP (X : Cx) (pins : List (Addr × Obj)) (σ : St) (Q : Bool → Hp → Prop) (b : Bool) (s' : Shared) : Prop := ∃ H', Inv X pins σ H' s' ∧ Q b H'
def AP (X : Cx) (pins : List (Addr × Obj)) (σ : St) (Q : List V → Hp → Prop) (us : List Value) (s' : Shared) : Prop := ∃ vs H', Inv X pins σ H' s' ∧ Vals vs us ∧ Q vs H'
def SP (X : Cx) (pins : List (Addr × Obj)) (D : Ends) (f : Flow) (s' : Shared) : Prop :=
  match f with
  | .next => ∃ σ' H', Inv X pins σ' H' s' ∧ D.nx σ' H'
  | .brk => ∃ σ' H', Inv X pins σ' H' s' ∧ D.bk σ' H'
  | .cont => ∃ σ' H', Inv X pins σ' H' s' ∧ D.ct σ' H'
  | .ret u => ∃ v σ' H', Inv X pins σ' H' s' ∧ RelV v u ∧ D.rt v H'

def PE (X : Cx) (e : Expr) (t : TE) : Prop :=
  ∀ (pins : List (Addr × Obj)) (s : Shared) (σ : St) (H : Hp) (Q : VK), Inv X pins σ H s → t σ H Q → wpAny (model X.prog X.w) X.A (eval e X.env) (EP X pins σ Q) X.xe s
def PT (X : Cx) (e : Expr) (t : TT) : Prop :=
  ∀ (pins : List (Addr × Obj)) (s : Shared) (σ : St) (H : Hp) (Q : Bool → Hp → Prop), Inv X pins σ H s → t σ H Q → wpAny (model X.prog X.w) X.A (isTrue e X.env (eval e X.env)) (TP X pins σ Q) X.xe s
/-- a test whatever its 'whole' is (and, or) -/
def PW (X : Cx) (e : Expr) (t : TT) : Prop :=
  ∀ (whole : Sem Value) (pins : List (Addr × Obj)) (s : Shared) (σ : St) (H : Hp) (Q : Bool → Hp → Prop), Inv X pins σ H s → t σ H Q → wpAny (model X.prog X.w) X.A (isTrue e X.env whole) (TP X pins σ Q) X.xe s
theorem PW.pt {X : Cx} {e : Expr} {t : TT} (h : PW X e t) : PT X e t := h _
/-- an argument list (no star), from the left -/
def PA (X : Cx) (es : List Expr) (t : TA) : Prop :=
  ∀ (pos : Pos) (pins : List (Addr × Obj)) (s : Shared) (σ : St) (H : Hp) (Q : List V → Hp → Prop), Inv X pins σ H s → t σ H Q → wpAny (model X.prog X.w) X.A (spliced (backTo pos (starEach es X.env))) (AP X pins σ Q) X.xe s
def PS (X : Cx) (st : Stmt) (t : TS) : Prop :=
  ∀ (pins : List (Addr × Obj)) (s : Shared) (σ : St) (H : Hp) (D : Ends), Inv X pins σ H s → t D σ H → wpAny (model X.prog X.w) X.A (exec st X.env) (SP X pins D) X.xe s
def PSs (X : Cx) (st : List Stmt) (t : TS) : Prop :=
  ∀ (pins : List (Addr × Obj)) (s : Shared) (σ : St) (H : Hp) (D : Ends), Inv X pins σ H s → t D σ H → wpAny (model X.prog X.w) X.A (execs st X.env) (SP X pins D) X.xe s
/-- weaken the end -/
theorem thn {α : Type} {t : Sem α} {Q Q' : α → Shared → Prop} {M : Model} {A : Around} {E : Value → Shared → Prop} {s : Shared} (h : wpAny M A t Q E s) (hQ : ∀ a s, Q a s → Q' a s) : wpAny M A t Q' E s := wpAny_mono h hQ fun _ _ x => x
end L2

namespace L2
open PySem PySem.Spec PyProof.Rows
section
variable {X : Cx}

/-! ### names and constants -/
def tVar (i : Nat) : TE := fun σ H Q => ∃ v, σ[i]? = some (some v) ∧ Q v H
def tC (v : V) : TE := fun _ H Q => Q v H
theorem pe_var {i : Nat} {x : Str} {pos : Pos} (hN : X.N[i]? = some x) (hv : Vis X.env.scope x) (hd : (x == ("__debug__" : Str)) = false := by decide) (hcd : (x == ("__classdict__" : Str)) = false := by decide) : PE X (.Name x pos) (tVar i) := by
  intro pins s σ H Q I h
  obtain ⟨v, e, h⟩ := h
  obtain ⟨m, hn, hl⟩ := I.loc
  obtain ⟨u, r, l⟩ := hl i x v hN e hv
  have fin : EP X pins σ Q u s := ⟨v, H, I, r, h⟩
  rcases l with ⟨hk, hm⟩ | ⟨hk, c, hc, hcell⟩
  · exact wpAny_Name (wpAny_loadName_local I.ok.kind hk hn hm fin) hd
  · rcases hk with hk | hk
    · exact wpAny_Name (wpAny_loadName_cell I.ok.kind hk hc hcell fin) hd
    · exact wpAny_Name (wpAny_loadName_free I.ok.kind hk hc hcell fin hcd) hd
theorem pe_int {i j pos} : PE X (.Constant (.int i) j pos) (tC (.int i)) := fun _ _ _ H _ I h => wpAny_Constant_int ⟨.int i, H, I.tok _, ⟨_, rfl⟩, h⟩
theorem pe_bl {b j pos} : PE X (.Constant (.bool b) j pos) (tC (.bl b)) := fun _ _ _ H _ I h => Constant_bool ⟨.bl b, H, I, rfl, h⟩
theorem pe_non {j pos} : PE X (.Constant .none j pos) (tC .non) := fun _ _ _ H _ I h => Constant_none ⟨.non, H, I, rfl, h⟩
theorem pe_str {x j pos} : PE X (.Constant (.str x) j pos) (tC (.str x)) := fun _ _ _ H _ I h => Calls.Constant_str ⟨.str x, H, I.tok _, ⟨_, rfl⟩, h⟩

/-- a global name of the def -/
def Gl (X : Cx) (x : Str) : Prop := X.env.kindOf x = some .globalImplicit
theorem ld_glob {E : Value → Shared → Prop} {pins : List (Addr × Obj)} {s : Shared} {σ : St} {H : Hp} {x : Str} {u : Value} {pos : Pos} {Q : Value → Shared → Prop} (I : Inv X pins σ H s) (hg : Gl X x) (hm : X.mg x = some u) (h : Q u s)
    (hd : (x == ("__debug__" : Str)) = false := by decide) : wpAny (model X.prog X.w) X.A (eval (.Name x pos) X.env) Q E s :=
  Calls.Name_function_global I.ok.kind hg (Calls.loadGlobal_global (by rw [I.ok.glob]; exact I.mod.glob.keeps I.bk) hm h) hd
theorem ld_blt {E : Value → Shared → Prop} {pins : List (Addr × Obj)} {s : Shared} {σ : St} {H : Hp} {x : Str} {u : Value} {pos : Pos} {Q : Value → Shared → Prop} (I : Inv X pins σ H s) (hg : Gl X x) (hm : X.mg x = none) (hv : bootBuiltins x = some u) (h : Q u s)
    (hn : x ≠ "__name__" := by decide) (hd : (x == ("__debug__" : Str)) = false := by decide) : wpAny (model X.prog X.w) X.A (eval (.Name x pos) X.env) Q E s := by
  obtain ⟨mb, h1, h2⟩ := I.mod.blt
  exact Calls.Name_function_global I.ok.kind hg (Calls.loadGlobal_builtin (by rw [I.ok.glob]; exact I.mod.glob.keeps I.bk) hm (by rw [I.ok.blt]; exact h1.keeps I.bk) ((h2 x hn).trans hv) h) hd
/-- a module's constant, a class, a function, as a value -/
theorem pe_glob {x : Str} {v : V} {u : Value} {pos : Pos} (hg : Gl X x) (hm : X.mg x = some u) (r : RelV v u) (hd : (x == ("__debug__" : Str)) = false := by decide) : PE X (.Name x pos) (tC v) :=
  fun _ _ _ H _ I h => ld_glob I hg hm ⟨v, H, I, r, h⟩ hd
theorem pe_bltn {x : Str} {v : V} {u : Value} {pos : Pos} (hg : Gl X x) (hm : X.mg x = none) (hv : bootBuiltins x = some u) (r : RelV v u) (hn : x ≠ "__name__" := by decide) (hd : (x == ("__debug__" : Str)) = false := by decide) : PE X (.Name x pos) (tC v) :=
  fun _ _ _ H _ I h => ld_blt I hg hm hv ⟨v, H, I, r, h⟩ hn hd

/-! ### arithmetic -/
/-- two ints -/
def t2I (ta tb : TE) (k : Int → Int → Hp → Prop) : St → Hp → Prop := fun σ H => ta σ H fun x H1 => tb σ H1 fun y H2 => ∃ i j, x = .int i ∧ y = .int j ∧ k i j H2
def tAdd (ta tb : TE) : TE := fun σ H Q => t2I ta tb (fun i j H2 => Q (.int (i + j)) H2) σ H
def tSub (ta tb : TE) : TE := fun σ H Q => t2I ta tb (fun i j H2 => Q (.int (i - j)) H2) σ H
/-- the left factor below 2^64 -/
def tMul (ta tb : TE) : TE := fun σ H Q => t2I ta tb (fun i j H2 => (-(2 ^ 64) < i ∧ i < 2 ^ 64) ∧ Q (.int (i * j)) H2) σ H
variable {a b : Expr} {ta tb : TE} {pos : Pos}
/-! ### comparisons -/
def PC (X : Cx) (op : CmpOp) (a b : Expr) (t : TE) : Prop :=
  ∀ (pins : List (Addr × Obj)) (s : Shared) (σ : St) (H : Hp) (Q : VK), Inv X pins σ H s → t σ H Q →
    wpAny (model X.prog X.w) X.A (eval a X.env) (fun v s₁ => wpAny (model X.prog X.w) X.A (eval b X.env) (fun u s₂ => wpAny (model X.prog X.w) X.A (compareOp op v u) (EP X pins σ Q) X.xe s₂) X.xe s₁) X.xe s
theorem nobehind (b : Expr) {op : CmpOp} (h : op ≠ .In) (h2 : op ≠ .NotIn) : behindInMarks op b = false := by
  have e1 : (op == CmpOp.In) = false := by cases op <;> first | rfl | exact absurd rfl h
  have e2 : (op == CmpOp.NotIn) = false := by cases op <;> first | rfl | exact absurd rfl h2
  cases b <;> simp [behindInMarks, e1, e2]
def tCmp (p : Int → Int → Bool) (ta tb : TE) : TE := fun σ H Q => t2I ta tb (fun i j H2 => Q (.bl (p i j)) H2) σ H
abbrev tLt : TE → TE → TE := tCmp fun i j => decide (i < j)
abbrev tLe : TE → TE → TE := tCmp fun i j => decide (i ≤ j)
abbrev tGt : TE → TE → TE := tCmp fun i j => decide (j < i)
abbrev tGe : TE → TE → TE := tCmp fun i j => decide (j ≤ i)
abbrev tEqI : TE → TE → TE := tCmp fun i j => decide (i = j)
abbrev tNeI : TE → TE → TE := tCmp fun i j => !decide (i = j)
/-- is None -/
def tIsN (ta : TE) : TE := fun σ H Q => ta σ H fun x H1 => Q (.bl (decide (x = .non))) H1
def tNotN (ta : TE) : TE := fun σ H Q => ta σ H fun x H1 => Q (.bl (!decide (x = .non))) H1
theorem RelV.none_iff {x : V} {v : Value} (r : RelV x v) : (v == Value.none) = decide (x = .non) := by
  cases x with
  | non => cases r; rfl
  | bl _ => cases r; rfl
  | int _ => obtain ⟨t, rfl⟩ := r; rfl
  | str _ => obtain ⟨t, rfl⟩ := r; rfl
  | byt _ => obtain ⟨t, rfl⟩ := r; rfl
  | flt _ => obtain ⟨t, rfl⟩ := r; rfl
  | ref _ => cases r; rfl
  | ty _ => cases r; rfl
theorem pc_isN {j pos'} (ha : PE X a ta) : PC X .Is a (.Constant .none j pos') (tIsN ta) := by
  intro pins s σ H Q I h
  refine thn (ha pins s σ H _ I h) fun v s1 ⟨x, H1, I1, r1, q1⟩ => ?_
  exact Constant_none (is_none_gen ⟨.bl _, H1, I1, by rw [r1.none_iff]; rfl, q1⟩)
/-- a comparison as a value, as a test -/
def tB (t : TE) : TT := fun σ H Q => t σ H fun x H1 => ∃ c, x = .bl c ∧ Q c H1
theorem pt_cmp {op : CmpOp} {t : TE} (h : PC X op a b t) (h1 : behindInMarks op b = false := by first | exact nobehind _ (by decide) (by decide) | rfl) : PT X (.Compare a [op] [b] pos) (tB t) := by
  intro pins s σ H Q I hw
  refine wpAny_isTrue_Compare1 (thn (h pins s σ H _ I hw) fun v s1 h1 => thn h1 fun u s2 h2 => thn h2 fun c s3 ⟨x, H1, I1, r1, q1⟩ => ?_) h1
  obtain ⟨d, rfl, q⟩ := q1
  cases r1
  exact wpAny_truthy_bool ⟨H1, I1, q⟩
/-- an expression whose value is a bool, as a test -/
theorem pt_val {e : Expr} {t : TE} (h : PE X e t) (he : ∀ whole, isTrue e X.env whole = (do let v ← whole; standAt e.pos; holding [v] (truthy v)) := by intro _; rfl) : PT X e (tB t) := by
  intro pins s σ H Q I hw
  refine isTrue_plain (thn (h pins s σ H _ I hw) fun v s1 ⟨x, H1, I1, r1, q1⟩ => ?_) (he _)
  obtain ⟨d, rfl, q⟩ := q1
  cases r1
  exact wpAny_truthy_bool ⟨H1, I1, q⟩

/-! ### and, or, not -/
variable {tA tB' : TT} {rest : List Expr}
def tAnd (t u : TT) : TT := fun σ H Q => t σ H fun c H1 => if c = true then u σ H1 Q else Q false H1
def tOr (t u : TT) : TT := fun σ H Q => t σ H fun c H1 => if c = true then Q true H1 else u σ H1 Q
def tNot (t : TT) : TT := fun σ H Q => t σ H fun c H1 => Q (!c) H1
theorem pw_and1 (ha : PT X a tA) : PW X (.BoolOp .And [a] pos) tA := by
  intro wh pins s σ H Q I h
  refine isTrue_and (thn (ha pins s σ H Q I h) fun c s1 e => ?_)
  cases c with
  | true => exact isTrue_and_nil e
  | false => exact e
theorem pw_or1 (ha : PT X a tA) : PW X (.BoolOp .Or [a] pos) tA := by
  intro wh pins s σ H Q I h
  refine isTrue_or (thn (ha pins s σ H Q I h) fun c s1 e => ?_)
  cases c with
  | false => exact isTrue_or_nil e
  | true => exact e
theorem pw_and (ha : PT X a tA) (hb : PW X (.BoolOp .And (b :: rest) pos) tB') : PW X (.BoolOp .And (a :: b :: rest) pos) (tAnd tA tB') := by
  intro wh pins s σ H Q I h
  refine isTrue_and (thn (ha pins s σ H _ I h) fun c s1 ⟨H1, I1, q1⟩ => ?_)
  cases c with
  | true => exact hb wh pins s1 σ H1 Q I1 q1
  | false => exact ⟨H1, I1, q1⟩
theorem pw_or (ha : PT X a tA) (hb : PW X (.BoolOp .Or (b :: rest) pos) tB') : PW X (.BoolOp .Or (a :: b :: rest) pos) (tOr tA tB') := by
  intro wh pins s σ H Q I h
  refine isTrue_or (thn (ha pins s σ H _ I h) fun c s1 ⟨H1, I1, q1⟩ => ?_)
  cases c with
  | true => exact ⟨H1, I1, q1⟩
  | false => exact hb wh pins s1 σ H1 Q I1 q1
theorem pt_not (ha : PT X a tA) : PT X (.UnaryOp .Not a pos) (tNot tA) := by
  intro pins s σ H Q I h
  exact isTrue_not (ha pins s σ H (fun c H1 => Q (!c) H1) I h)
/-- .. as values (bools) -/
def tAndV (ta tb : TE) : TE := fun σ H Q => ta σ H fun x H1 => ∃ c, x = .bl c ∧ if c = true then tb σ H1 Q else Q (.bl false) H1
def tOrV (ta tb : TE) : TE := fun σ H Q => ta σ H fun x H1 => ∃ c, x = .bl c ∧ if c = true then Q (.bl true) H1 else tb σ H1 Q
def tNotV (ta : TE) : TE := fun σ H Q => ta σ H fun x H1 => ∃ c, x = .bl c ∧ Q (.bl (!c)) H1
theorem pe_one {op} {t : TE} (h : PE X a t) : PE X (.BoolOp op [a] pos) t := fun pins s σ H Q I hw => BoolOp_one (h pins s σ H Q I hw)
theorem pe_and (ha : PE X a ta) (hb : PE X (.BoolOp .And (b :: rest) pos) tb) : PE X (.BoolOp .And (a :: b :: rest) pos) (tAndV ta tb) := by
  intro pins s σ H Q I h
  refine BoolOp_and (thn (ha pins s σ H _ I h) fun v s1 ⟨x, H1, I1, r1, q1⟩ => ?_)
  obtain ⟨c, rfl, q1⟩ := q1
  cases r1
  refine wpAny_truthy_bool ?_
  cases c with
  | true => exact hb pins s1 σ H1 Q I1 q1
  | false => exact ⟨.bl false, H1, I1, rfl, q1⟩
theorem pe_or (ha : PE X a ta) (hb : PE X (.BoolOp .Or (b :: rest) pos) tb) : PE X (.BoolOp .Or (a :: b :: rest) pos) (tOrV ta tb) := by
  intro pins s σ H Q I h
  refine BoolOp_or (thn (ha pins s σ H _ I h) fun v s1 ⟨x, H1, I1, r1, q1⟩ => ?_)
  obtain ⟨c, rfl, q1⟩ := q1
  cases r1
  refine wpAny_truthy_bool ?_
  cases c with
  | false => exact hb pins s1 σ H1 Q I1 q1
  | true => exact ⟨.bl true, H1, I1, rfl, q1⟩
theorem pe_not (ha : PE X a ta) : PE X (.UnaryOp .Not a pos) (tNotV ta) := by
  intro pins s σ H Q I h
  refine UnaryOp_ (thn (ha pins s σ H _ I h) fun v s1 ⟨x, H1, I1, r1, q1⟩ => ?_)
  obtain ⟨c, rfl, q1⟩ := q1
  cases r1
  exact not_of (wpAny_truthy_bool ⟨.bl (!c), H1, I1, rfl, q1⟩)
/-- a if t else b -/
def tIf (t : TT) (ta tb : TE) : TE := fun σ H Q => t σ H fun c H1 => if c = true then ta σ H1 Q else tb σ H1 Q
end
end L2

namespace L2
open PySem PySem.Spec PyProof.Rows

/-! ### a list, a tuple that is read: tracked, frozen, or an object of the module -/
def SqL (K : PySem.W.Frag) (H : Hp) (a : Addr) (xs : List V) : Prop :=
  Rd H a (.lst xs) ∨
    ∃ (o : Obj) (its : Array Value) (n : Nat), K.lookup a = some o ∧ o.cls = .type "list" ∧ o.dict = none ∧ o.data = .seq its n ∧ its.size ≤ sizeLine ∧ Vals xs its.toList
def SqT (K : PySem.W.Frag) (H : Hp) (a : Addr) (xs : List V) : Prop :=
  Rd H a (.tup xs) ∨
    ∃ (o : Obj) (its : Array Value) (n : Nat), K.lookup a = some o ∧ o.cls = .type "tuple" ∧ o.data = .seq its n ∧ its.size ≤ sizeLine ∧ Vals xs its.toList
def absV : Value → Option V
  | .none => some .non
  | .bool b => some (.bl b)
  | .int i _ => some (.int i)
  | .str x _ => some (.str x)
  | .bytes b _ => some (.byt b)
  | .float b _ => some (.flt b)
  | .ref a => some (.ref a)
  | .type n => some (.ty n)
  | _ => none
theorem RelV.abs {x : V} {u : Value} (r : RelV x u) : absV u = some x := by
  cases x with
  | non => cases r; rfl
  | bl _ => cases r; rfl
  | int _ => obtain ⟨t, rfl⟩ := r; rfl
  | str _ => obtain ⟨t, rfl⟩ := r; rfl
  | byt _ => obtain ⟨t, rfl⟩ := r; rfl
  | flt _ => obtain ⟨t, rfl⟩ := r; rfl
  | ref _ => cases r; rfl
  | ty _ => cases r; rfl
theorem RelV.inj {x y : V} {u : Value} (r : RelV x u) (q : RelV y u) : x = y := Option.some.inj (r.abs.symm.trans q.abs)
theorem Vals.inj : ∀ {xs ys : List V} {us : List Value}, Vals xs us → Vals ys us → xs = ys
  | _, _, _, .nil, .nil => rfl
  | _, _, _, .cons r t, .cons r' t' => by rw [r.inj r', Vals.inj t t']
section
variable {X : Cx} {pins : List (Addr × Obj)} {σ : St} {H : Hp} {s : Shared} {a : Addr} {xs ys : List V}
theorem SqL.of {K : PySem.W.Frag} (h : H a = some (.lst xs)) : SqL K H a xs := .inl (.inl h)
theorem SqT.of {K : PySem.W.Frag} (h : H a = some (.tup xs)) : SqT K H a xs := .inl (.inl h)
theorem Inv.list (I : Inv X pins σ H s) (h : SqL X.K H a xs) : ∃ its : List Value, Vals xs its ∧ PlainL s.heap a its.toArray ∧ xs.length ≤ sizeLine := by
  rcases h with h | ⟨o, its, n, hk, hc, hd, hs, hz, r⟩
  · obtain ⟨z, its, n, r, e⟩ := h.ok I.hok
    exact ⟨its, r, ⟨_, n, e, rfl, rfl, rfl⟩, z⟩
  · refine ⟨its.toList, r, ⟨o, n, I.kIn a o hk, hc, hd, by simpa using hs⟩, ?_⟩
    have e := r.length
    simp only [Array.length_toList] at e
    omega
theorem Inv.tuple (I : Inv X pins σ H s) (h : SqT X.K H a xs) : ∃ its : List Value, Vals xs its ∧ IsTup s.heap a its.toArray ∧ xs.length ≤ sizeLine := by
  rcases h with h | ⟨o, its, n, hk, hc, hs, hz, r⟩
  · obtain ⟨z, its, r, p⟩ := h.ok I.hok
    exact ⟨its, r, p, z⟩
  · refine ⟨its.toList, r, ⟨o, I.kIn a o hk, hc, n, by simpa using hs⟩, ?_⟩
    have e := r.length
    simp only [Array.length_toList] at e
    omega
end

/-! ### another wish about exceptions -/
abbrev Cx.wish (X : Cx) (E : Value → Shared → Prop) : Cx := { X with xe := E }
/-- no exception leaves -/
abbrev Cx.nox (X : Cx) : Cx := X.wish fun _ _ => False
theorem Cx.Ok.wish {X : Cx} (ok : X.Ok) (E : Value → Shared → Prop) : (X.wish E).Ok :=
  ⟨ok.mod, ok.kind, ok.glob, ok.blt, ok.above, ok.inj, ok.has, ok.cab, ok.hd, ok.frames, ok.stk, ok.exf, ok.bs, ok.bsz, ok.noex, ok.exfs, ok.funs, ok.frf⟩
theorem Cx.Ok.unwish {X : Cx} {E : Value → Shared → Prop} (ok : (X.wish E).Ok) : X.Ok :=
  ⟨ok.mod, ok.kind, ok.glob, ok.blt, ok.above, ok.inj, ok.has, ok.cab, ok.hd, ok.frames, ok.stk, ok.exf, ok.bs, ok.bsz, ok.noex, ok.exfs, ok.funs, ok.frf⟩
section
variable {X : Cx} {pins : List (Addr × Obj)} {σ : St} {H : Hp} {s : Shared} {E : Value → Shared → Prop}
theorem Inv.wish (I : Inv X pins σ H s) (E : Value → Shared → Prop) : Inv (X.wish E) pins σ H s := ⟨I.ok.wish E, I.os, I.bare, I.base, I.loc, I.cell, I.free, I.freeC, I.pin, I.hok, I.len⟩
theorem Inv.unwish (I : Inv (X.wish E) pins σ H s) : Inv X pins σ H s := ⟨I.ok.unwish, I.os, I.bare, I.base, I.loc, I.cell, I.free, I.freeC, I.pin, I.hok, I.len⟩
theorem SP.unwish {D : Ends} {f : Flow} {s' : Shared} (h : SP (X.wish E) pins D f s') : SP X pins D f s' := by
  cases f with
  | next => obtain ⟨σ', H', I, q⟩ := h; exact ⟨σ', H', I.unwish, q⟩
  | brk => obtain ⟨σ', H', I, q⟩ := h; exact ⟨σ', H', I.unwish, q⟩
  | cont => obtain ⟨σ', H', I, q⟩ := h; exact ⟨σ', H', I.unwish, q⟩
  | ret u => obtain ⟨v, σ', H', I, r, q⟩ := h; exact ⟨v, σ', H', I.unwish, r, q⟩
theorem PE.nox {e : Expr} {t : TE} (h : PE X.nox e t) : PE X e t := fun pins s σ H Q I hw =>
  wpAny_mono (h pins s σ H Q (I.wish _) hw) (fun _ _ ⟨v, H', I', r, q⟩ => ⟨v, H', I'.unwish, r, q⟩) fun _ _ z => False.elim z
theorem PT.nox {e : Expr} {t : TT} (h : PT X.nox e t) : PT X e t := fun pins s σ H Q I hw =>
  wpAny_mono (h pins s σ H Q (I.wish _) hw) (fun _ _ ⟨H', I', q⟩ => ⟨H', I'.unwish, q⟩) fun _ _ z => False.elim z
theorem PSs.nox {st : List Stmt} {t : TS} (h : PSs X.nox st t) : PSs X st t := fun pins s σ H D I hw =>
  wpAny_mono (h pins s σ H D (I.wish _) hw) (fun _ _ q => q.unwish) fun _ _ z => False.elim z
end

/-! ### blocks and small statements -/
section
variable {X : Cx} {st : Stmt} {rest : List Stmt} {t u : TS} {e : Expr} {te : TE} {pos : Pos}
def tNext : TS := fun D σ H => D.nx σ H
def tSeq (t u : TS) : TS := fun D σ H => t { D with nx := u D } σ H
theorem pss_nil : PSs X [] tNext := fun _ _ σ H _ I h => wpAny_execs_nil ⟨σ, H, I, h⟩
theorem pss_cons (h1 : PS X st t) (h2 : PSs X rest u) : PSs X (st :: rest) (tSeq t u) := by
  intro pins s σ H D I h
  refine wpAny_execs_cons (thn (h1 pins s σ H { D with nx := u D } I h) fun f s1 q => ?_)
  cases f with
  | next =>
    obtain ⟨σ', H', I', q⟩ := q
    exact h2 pins s1 σ' H' D I' q
  | ret v => exact q
  | brk => exact q
  | cont => exact q
theorem pss_one (h1 : PS X st t) : PSs X [st] t := by
  intro pins s σ H D I h
  refine wpAny_execs_cons (thn (h1 pins s σ H D I h) fun f s1 q => ?_)
  cases f with
  | next => exact wpAny_execs_nil q
  | ret v => exact q
  | brk => exact q
  | cont => exact q
def tBreak : TS := fun D σ H => D.bk σ H
def tCont : TS := fun D σ H => D.ct σ H
/-- in a def's body nothing is shown -/
theorem Inv.quiet {pins : List (Addr × Obj)} {σ : St} {H : Hp} {s : Shared} (I : Inv X pins σ H s) : interactive X.env = false := by simp [interactive, I.ok.kind]
/-- an expression whose value is dropped -/
def tDrop (te : TE) : TS := fun D σ H => te σ H fun _ H1 => D.nx σ H1
theorem ps_expr (he : PE X e te) (hs : swapsWith e none pos.line X.env = pure false := by rfl) : PS X (.Expr e pos) (tDrop te) := by
  intro pins s σ H D I h
  exact wpAny_Expr_any (thn (he pins s σ H _ I h) fun v s1 ⟨x, H1, I1, r1, q1⟩ => ⟨σ, H1, I1, q1⟩) I.quiet hs
def tRet (te : TE) : TS := fun D σ H => te σ H D.rt
theorem ps_ret (he : PE X e te) : PS X (.Return (some e) pos) (tRet te) := by
  intro pins s σ H D I h
  exact wpAny_Return_some (thn (he pins s σ H _ I h) fun v s1 ⟨x, H1, I1, r1, q1⟩ => ⟨x, σ, H1, I1, r1, q1⟩)
def tRetN : TS := fun D _ H => D.rt .non H
def tIfS (c : TT) (t u : TS) : TS := fun D σ H => c σ H fun b H1 => if b = true then t D σ H1 else u D σ H1
theorem ps_if {c : Expr} {a b : List Stmt} {tc : TT} (hc : PT X c tc) (ha : PSs X a t) (hb : PSs X b u) : PS X (.If c a b pos) (tIfS tc t u) := by
  intro pins s σ H D I h
  refine wpAny_If (thn (hc pins s σ H _ I h) fun d s1 ⟨H1, I1, q1⟩ => ?_)
  cases d with
  | true => exact ha pins s1 σ H1 D I1 q1
  | false => exact hb pins s1 σ H1 D I1 q1
/-- code that the proof never comes to -/
def tNever : TS := fun _ _ _ => False
end

/-! ### targets -/
abbrev TG := V → St → Hp → (St → Hp → Prop) → Prop
abbrev TGs := List V → St → Hp → (St → Hp → Prop) → Prop
def PG (X : Cx) (target : Expr) (t : TG) : Prop :=
  ∀ (pins : List (Addr × Obj)) (s : Shared) (σ : St) (H : Hp) (v : V) (u : Value) (Q : St → Hp → Prop), Inv X pins σ H s → RelV v u → t v σ H Q →
    wpAny (model X.prog X.w) X.A (assign target X.env u) (fun _ s' => ∃ σ' H', Inv X pins σ' H' s' ∧ Q σ' H') X.xe s
/-- several targets, one after another -/
def PGs (X : Cx) (ts : List Expr) (t : TGs) : Prop :=
  ∀ (pins : List (Addr × Obj)) (s : Shared) (σ : St) (H : Hp) (vs : List V) (us : List Value) (Q : St → Hp → Prop), Inv X pins σ H s → Vals vs us → t vs σ H Q →
    wpAny (model X.prog X.w) X.A (assignInOrder ((assignEach ts X.env).map (·.2)) us) (fun _ s' => ∃ σ' H', Inv X pins σ' H' s' ∧ Q σ' H') X.xe s
/-- o[i] = v, by values -/
abbrev TSet := V → V → V → Hp → (Hp → Prop) → Prop
def PSet (X : Cx) (t : TSet) : Prop :=
  ∀ (pins : List (Addr × Obj)) (s : Shared) (σ : St) (H : Hp) (o i v : V) (ov iv u : Value) (Q : Hp → Prop), Inv X pins σ H s → RelV o ov → RelV i iv → RelV v u → t o i v H Q →
    wpAny (model X.prog X.w) X.A (setItem ov iv u) (fun _ s' => ∃ H', Inv X pins σ H' s' ∧ Q H') X.xe s
/-- a op= b, by values -/
abbrev TIp := V → V → Hp → VK → Prop
def PIp (X : Cx) (op : Operator) (t : TIp) : Prop :=
  ∀ (pins : List (Addr × Obj)) (s : Shared) (σ : St) (H : Hp) (x y : V) (v u : Value) (Q : VK), Inv X pins σ H s → RelV x v → RelV y u → t x y H Q →
    wpAny (model X.prog X.w) X.A (inplaceOp op v u) (EP X pins σ Q) X.xe s
section
variable {X : Cx} {pos : Pos}
def gName (i : Nat) : TG := fun v σ H Q => Q (σ.set i (some v)) H
theorem pg_name {i : Nat} {x : Str} (hN : X.N.Nodup) (hi : X.N[i]? = some x) (hx : Loc X.env.scope x) (hf : X.fn x = true ∨ X.env.scope.names.lookup x = some .local := by first | exact .inl rfl | exact .inr rfl | assumption) : PG X (.Name x pos) (gName i) := by
  intro pins s σ H v u Q I r h
  exact wpAny_assign_Name (store_ok I hN hi hx r (fun s' I' => ⟨_, H, I', h⟩) hf)
def gNil : TGs := fun vs σ H Q => vs = [] ∧ Q σ H
def gCons (t : TG) (u : TGs) : TGs := fun vs σ H Q => ∃ v r, vs = v :: r ∧ t v σ H fun σ' H' => u r σ' H' Q
/-- (a, b, ..) = a tuple of that length -/
def gTup (K : PySem.W.Frag) (n : Nat) (t : TGs) : TG := fun v σ H Q => ∃ a xs, v = .ref a ∧ SqT K H a xs ∧ xs.length = n ∧ t xs σ H Q
/-- o[i] = .. -/
def gSub (to ti : TE) (t : TSet) : TG := fun v σ H Q => to σ H fun o H1 => ti σ H1 fun i H2 => t o i v H2 fun H3 => Q σ H3
/-- target = value -/
def tAsg (te : TE) (g : TG) : TS := fun D σ H => te σ H fun x H1 => g x σ H1 D.nx
/-- name = value -/
theorem ps_set {i : Nat} {x : Str} {e : Expr} {te : TE} {pos' : Pos} (hN : X.N.Nodup) (hi : X.N[i]? = some x) (hx : Loc X.env.scope x) (he : PE X e te) (hs : swapsWith e (some (.Name x pos')) pos.line X.env = pure false := by rfl) (hf : X.fn x = true ∨ X.env.scope.names.lookup x = some .local := by first | exact .inl rfl | exact .inr rfl | assumption) :
    PS X (.Assign [.Name x pos'] e pos) (tAsg te (gName i)) := by
  intro pins s σ H D I h
  refine wpAny_Assign_Name (thn (he pins s σ H _ I h) fun v s1 ⟨y, H1, I1, r1, q1⟩ => ?_) hs
  exact store_ok I1 hN hi hx r1 (fun s2 I2 => ⟨_, H1, I2, q1⟩) hf
/-- a, b = x, y with plain local names: stored from the right; the pair itself is not tracked (the opening rows as in PyProof/Rows/TupAssign.lean:23) -/
def tPar (i j : Nat) (ta : TA) : TS := fun D σ H => ta σ H fun vs H1 => ∃ v w, vs = [v, w] ∧ D.nx ((σ.set i (some v)).set j (some w)) H1
/-- name op= e -/
def tAug (i : Nat) (te : TE) (ti : TIp) : TS := fun D σ H => ∃ x, σ[i]? = some (some x) ∧ te σ H fun y H1 => ti x y H1 fun z H2 => D.nx (σ.set i (some z)) H2
/-- o[i] op= e -/
def tAugS (to ti te : TE) (tget : V → V → Hp → VK → Prop) (tip : TIp) (tset : TSet) : TS := fun D σ H => to σ H fun o H1 => ti σ H1 fun i H2 => tget o i H2 fun x H3 => te σ H3 fun y H4 => tip x y H4 fun z H5 => tset o i z H5 fun H6 => D.nx σ H6
/-- o[i], by values -/
def PGet (X : Cx) (t : V → V → Hp → VK → Prop) : Prop :=
  ∀ (pins : List (Addr × Obj)) (s : Shared) (σ : St) (H : Hp) (o i : V) (ov iv : Value) (Q : VK), Inv X pins σ H s → RelV o ov → RelV i iv → t o i H Q →
    wpAny (model X.prog X.w) X.A (getItem ov iv) (EP X pins σ Q) X.xe s
/-- ints -/
def ipI (f : Int → Int → Int) : TIp := fun x y H Q => ∃ i j, x = .int i ∧ y = .int j ∧ Q (.int (f i j)) H
end

/-! ### while -/
section
variable {X : Cx} {pos : Pos}
/-- the invariant W with its measure -/
def tWhile (c : TT) (tb : TS) : TS := fun D σ H => ∃ W : Nat → St → Hp → Prop, (∃ m, W m σ H) ∧ ∀ m σ H, W m σ H →
  c σ H fun b H1 => if b = true then ∃ N : St → Hp → Prop, (∀ σ' H', N σ' H' → ∃ m', m' < m ∧ W m' σ' H') ∧ tb { D with nx := N, ct := N, bk := D.nx } σ H1 else D.nx σ H1
theorem ps_while {c : Expr} {body : List Stmt} {tc : TT} {tb : TS} (hp : PassesOwn (model X.prog X.w) X.A X.env X.xe) (hc : PT X c tc) (hb : PSs X body tb) : PS X (.While c body [] pos) (tWhile tc tb) := by
  intro pins s σ H D I h
  obtain ⟨W, ⟨m0, w0⟩, turn⟩ := h
  refine wpAny_While (codeAny_whileLoop (fun n s' => ∃ σ' H', Inv X pins σ' H' s' ∧ W n σ' H') ?_ m0 ⟨σ, H, I, w0⟩)
  rintro n s1 ⟨σ1, H1, I1, w1⟩
  refine wpAny_passesOwn hp (thn (hc pins s1 σ1 H1 _ I1 (turn n σ1 H1 w1)) fun b s2 ⟨H2, I2, q2⟩ => ?_)
  cases b with
  | true =>
    obtain ⟨N, hN, q2⟩ := q2
    rw [if_pos rfl]
    refine wpAny_passesOwn hp (thn (hb pins s2 σ1 H2 _ I2 q2) fun f s3 q3 => ?_)
    cases f with
    | next =>
      obtain ⟨σ3, H3, I3, n3⟩ := q3
      obtain ⟨m', hm, w3⟩ := hN σ3 H3 n3
      exact ⟨m', hm, σ3, H3, I3, w3⟩
    | cont =>
      obtain ⟨σ3, H3, I3, n3⟩ := q3
      obtain ⟨m', hm, w3⟩ := hN σ3 H3 n3
      exact ⟨m', hm, σ3, H3, I3, w3⟩
    | brk => exact q3
    | ret v => exact q3
  | false =>
    rw [if_neg Bool.false_ne_true]
    exact wpAny_execs_nil ⟨σ1, H2, I2, q2⟩
end

/-! ### what a loop or a comprehension walks -/
/-- at turn i: it yields x (the heap may grow), or it stops -/
structure It where
  go : Nat → Hp → Prop
  yld : Nat → Hp → V → Hp → Prop
  stop : Nat → Hp → Prop
/-- the iterator's own objects may turn: they are not the frame's, not pinned, younger than the entry (or a comprehension's own) -/
def FpOk (X : Cx) (pins : List (Addr × Obj)) (H : Hp) (b : Addr) : Prop :=
  H b = none ∧ b ≠ X.env.locals ∧ b ∉ X.fs ∧ (b ∈ X.ex ∨ X.s₀.heap.objs.size ≤ b) ∧ (∀ x c, X.env.cells.lookup x = some c → c ≠ b) ∧ ∀ p ∈ X.pn ++ pins, p.1 ≠ b
theorem Inv.fpOk {X : Cx} {pins : List (Addr × Obj)} {σ : St} {H H' : Hp} {s : Shared} {b : Addr} (I : Inv X pins σ H s) (hb : s.heap.objs.size ≤ b) (hn : H' b = none) : FpOk X pins H' b := by
  refine ⟨hn, Nat.ne_of_gt (Nat.lt_of_lt_of_le I.lt hb), I.nofs hb, .inr (Nat.le_trans I.sz hb), fun x c e z => ?_, fun p hp z => ?_⟩
  · obtain ⟨v, q⟩ := I.cell x c e
    exact absurd (Nat.lt_of_lt_of_le q.lt (by rw [z]; exact hb)) (Nat.lt_irrefl _)
  · exact absurd (Nat.lt_of_lt_of_le (Heap.lt_size (I.pin p hp).1) (by rw [z]; exact hb)) (Nat.lt_irrefl _)
structure Turn (P : Program) (w : World) (K : PySem.W.Frag) (tg : Expr) (J : It) (fp : List Addr) (it : Addr) (tn : Nat → Heap → Prop) : Prop where
  mem : it ∈ fp
  obj : ∀ i h, tn i h → ∀ b ∈ fp, ∃ o, h.get? b = some o ∧ ∀ v, o.data ≠ .cell v
  keep : ∀ i h h', tn i h → (∀ b ∈ fp, ∀ o, h.get? b = some o → h'.get? b = some o) → tn i h'
  item : ∀ (X : Cx), X.prog = P → X.w = w → X.K = K → X.calm = true → ∀ (i : Nat) (pins : List (Addr × Obj)) (s : Shared) (σ : St) (H : Hp) (E : Value → Shared → Prop), Inv X pins σ H s → (∀ b ∈ fp, FpOk X pins H b) → tn i s.heap → J.go i H →
    wpAny (model P w) X.A (pyNext (.ref it)) (fun r s1 => ∃ u, r = some u ∧
      wpAny (model P w) X.A (letOwnedTupleGo tg (.ref it) u) (fun _ s2 => ∃ x H', Inv X pins σ H' s2 ∧ RelV x u ∧ J.yld i H x H' ∧ tn (i + 1) s2.heap ∧ ∀ b ∈ fp, H' b = none) E s1) E s
  done : ∀ (X : Cx), X.prog = P → X.w = w → X.K = K → X.calm = true → ∀ (i : Nat) (pins : List (Addr × Obj)) (s : Shared) (σ : St) (H : Hp) (E : Value → Shared → Prop), Inv X pins σ H s → (∀ b ∈ fp, FpOk X pins H b) → tn i s.heap → J.stop i H →
    wpAny (model P w) X.A (pyNext (.ref it)) (fun r s1 => r = none ∧ Inv X pins σ H s1) E s
  self : ∀ (A : Around) (i : Nat) (s : Shared) (Q : Value → Shared → Prop) (E : Value → Shared → Prop), tn i s.heap → Q (.ref it) s → wpAny (model P w) A (pyIter (.ref it)) Q E s
abbrev TI := St → Hp → (It → Hp → Prop) → Prop
/-- an iterator has come -/
def PIE (X : Cx) (pins : List (Addr × Obj)) (σ : St) (tg : Expr) (R : It → Hp → Prop) (itv : Value) (s2 : Shared) : Prop :=
  ∃ (it : Addr) (fp : List Addr) (tn : Nat → Heap → Prop) (J : It) (H' : Hp), itv = .ref it ∧ Inv X pins σ H' s2 ∧ Turn X.prog X.w X.K tg J fp it tn ∧ tn 0 s2.heap ∧ (∀ b ∈ fp, FpOk X pins H' b) ∧ R J H'
def PI (X : Cx) (tg iter : Expr) (wi : TI) : Prop :=
  ∀ (pins : List (Addr × Obj)) (s : Shared) (σ : St) (H : Hp) (R : It → Hp → Prop), Inv X pins σ H s → wi σ H R →
    wpAny (model X.prog X.w) X.A (eval iter X.env) (fun v s1 => wpAny (model X.prog X.w) X.A (pyIter v) (PIE X pins σ tg R) X.xe s1) X.xe s

/-- the step ahead of the store is nothing for an iterator that keeps no tuple -/
theorem go_of {M : Model} {A : Around} {E : Value → Shared → Prop} {s : Shared} {tg : Expr} {it : Addr} {u : Value} {o : Obj} {n : String} {vs : Array Value} {Q : Unit → Shared → Prop} (ho : s.heap.get? it = some o) (hc : o.cls = .type n) (hd : o.data = .fields vs)
    (hn : ["enumerate", "zip", "dict_itemiterator", "dict_reverseitemiterator", "odict_iterator", "itertools.zip_longest", "itertools.pairwise"].contains n = false) (hQ : Q () s) : wpAny M A (letOwnedTupleGo tg (.ref it) u) Q E s := by
  unfold letOwnedTupleGo
  cases tg <;> first
    | exact wpAny_pure hQ
    | (cases u <;> first
        | exact wpAny_pure hQ
        | (refine wpAny_bind (wpAny_load ho ?_)
           rw [hc, hd]
           show wpAny M A (if (["enumerate", "zip", "dict_itemiterator", "dict_reverseitemiterator", "odict_iterator", "itertools.zip_longest", "itertools.pairwise"].contains n && vs[0]? == some (rawInt _)) = true then _ else _) Q E s
           rw [if_neg (by intro h; rw [hn, Bool.false_and] at h; cases h)]
           exact wpAny_pure hQ))

/-- the list at a, as it stands at each turn (a loop may append to it) -/
def Itl (K : PySem.W.Frag) (a : Addr) : It :=
  ⟨fun i H => ∃ xs x, SqL K H a xs ∧ xs[i]? = some x, fun i H x H' => H' = H ∧ ∀ xs, SqL K H a xs → xs[i]? = some x, fun i H => ∃ xs, SqL K H a xs ∧ xs.length ≤ i⟩
def Itt (K : PySem.W.Frag) (a : Addr) : It :=
  ⟨fun i H => ∃ xs x, SqT K H a xs ∧ xs[i]? = some x, fun i H x H' => H' = H ∧ ∀ xs, SqT K H a xs → xs[i]? = some x, fun i H => ∃ xs, SqT K H a xs ∧ xs.length ≤ i⟩
/-- lo, lo + 1, .. (n of them) -/
def Itr (lo : Int) (n : Nat) : It := ⟨fun i _ => i < n, fun i H x H' => H' = H ∧ x = .int (lo + i), fun i _ => n ≤ i⟩
theorem turn_range {P : Program} {w : World} {K : PySem.W.Frag} {tg : Expr} (it : Addr) (lo : Int) (n : Nat) : Turn P w K tg (Itr lo n) [it] it (fun i h => IsRangeIter h it (lo + (i : Nat) * 1) ((n : Int) - (i : Nat)) 1) where
  mem := by simp
  obj := fun i h st b hb => by
    have e : b = it := by simpa using hb
    subst e
    exact ⟨_, st, fun v z => by
      have z' : Data.fields _ = Data.cell v := z
      cases z'⟩
  keep := fun i h h' st k => k it (by simp) _ st
  item := by
    intro X hP hw hK hc i pins s σ H E I hf st hg
    subst hP hw hK
    obtain ⟨f0, f1, f2, f3, f4, f5⟩ := hf it (by simp)
    have W := Walks.range (prog := X.prog) (w := X.w) (I.ok.hd hc) it lo 1 n
    refine W.item i s _ _ hg st fun v h' tk hv st' kk => ?_
    obtain ⟨t, rfl⟩ := hv
    have I1 : Inv X pins σ H { s with heap := h', toks := tk } := I.turned (fun b o hb e => kk b o (by simpa using hb) e) f0 f1 f3 f4 f5
    refine ⟨_, rfl, go_of (s := { s with heap := h', toks := tk }) (n := "range_iterator") st' rfl rfl (by decide) ⟨.int (lo + i), H, I1, ⟨t, ?_⟩, ⟨rfl, rfl⟩, st', fun b hb => (hf b hb).1⟩⟩
    rw [Int.mul_one]
  done := by
    intro X hP hw hK hc i pins s σ H E I hf st hg
    subst hP hw hK
    obtain ⟨f0, f1, f2, f3, f4, f5⟩ := hf it (by simp)
    exact wpAny_pyNext_range_end (I.ok.hd hc) st (by have : n ≤ i := hg; omega) fun h' eb => ⟨rfl, I.turned (t' := s.toks) (fun b o hb e => eb b o hb e) f0 f1 f3 f4 f5⟩
  self := fun _ _ _ _ _ st h => wpAny_pyIter_rangeiter st h
end L2

namespace L2
open PySem PySem.Spec PyProof.Rows
section
variable {X : Cx} {tg : Expr}
def iList (K : PySem.W.Frag) (tl : TE) : TI := fun σ H R => tl σ H fun x H1 => ∃ a, x = .ref a ∧ (∃ xs, SqL K H1 a xs) ∧ R (Itl K a) H1
def iTup (K : PySem.W.Frag) (tl : TE) : TI := fun σ H R => tl σ H fun x H1 => ∃ a, x = .ref a ∧ (∃ xs, SqT K H1 a xs) ∧ R (Itt K a) H1
/-- a range object just made, walked -/
theorem range_it {pins : List (Addr × Obj)} {σ : St} {H : Hp} {s : Shared} {R : It → Hp → Prop} {E : Value → Shared → Prop} {lo hi : Int} {t u v : Tok} {tk : Nat} (I : Inv X pins σ H s) (h1 : -(2 ^ 62) ≤ lo) (h2 : lo < 2 ^ 62) (h3 : -(2 ^ 62) ≤ hi) (h4 : hi < 2 ^ 62)
    (q : R (Itr lo (hi - lo).toNat) H) : wpAny (model X.prog X.w) X.A (pyIter (.ref s.heap.objs.size)) (PIE X pins σ tg R) E { s with heap := s.heap.push { cls := .type "range", data := .fields #[.int lo t, .int hi u, .int 1 v] }, toks := tk } := by
  refine wpAny_pyIter_range (IsRange.new ..) (small_one h1 h2 h3 h4) ?_
  have I1 : Inv X pins σ H { s with heap := s.heap.push { cls := .type "range", data := .fields #[.int lo t, .int hi u, .int 1 v] }, toks := tk } := I.kept fun b o e => Heap.get?_push_of_some _ e
  refine ⟨(s.heap.push { cls := .type "range", data := .fields #[.int lo t, .int hi u, .int 1 v] }).objs.size, [(s.heap.push { cls := .type "range", data := .fields #[.int lo t, .int hi u, .int 1 v] }).objs.size], _, _, H, rfl,
    I1.kept (t' := tk) fun b o e => Heap.get?_push_of_some _ e, turn_range _ lo (hi - lo).toNat, ?_, fun b hb => ?_, q⟩
  · have e1 : lo + ((0 : Nat) : Int) * 1 = lo := by simp
    have e2 : (((hi - lo).toNat : Nat) : Int) - ((0 : Nat) : Int) = Builtin.Range.rangeSize lo hi 1 := by rw [rangeSize_one]; split <;> omega
    show IsRangeIter _ _ (lo + ((0 : Nat) : Int) * 1) ((((hi - lo).toNat : Nat) : Int) - ((0 : Nat) : Int)) 1
    rw [e1, e2]
    exact Heap.get?_push_size _ rfl
  · have e : b = (s.heap.push { cls := .type "range", data := .fields #[.int lo t, .int hi u, .int 1 v] }).objs.size := by simpa using hb
    subst e
    exact I1.fpOk (Nat.le_refl _) (I1.hok.fresh (Nat.le_refl _))
def iRng1 (ta : TA) : TI := fun σ H R => ta σ H fun vs H1 => ∃ j : Int, vs = [.int j] ∧ -(2 ^ 62) ≤ j ∧ j < 2 ^ 62 ∧ R (Itr 0 j.toNat) H1
def iRng2 (ta : TA) : TI := fun σ H R => ta σ H fun vs H1 => ∃ i j : Int, vs = [.int i, .int j] ∧ (-(2 ^ 62) ≤ i ∧ i < 2 ^ 62 ∧ -(2 ^ 62) ≤ j ∧ j < 2 ^ 62) ∧ R (Itr i (j - i).toNat) H1
theorem pi_range1 {a : Expr} {ta : TA} {p pos : Pos} (hg : Gl X "range") (hm : X.mg "range" = none) (ha : PA X [a] ta) (hs : starEach [a] X.env = [(false, eval a X.env)] := by rfl) : PI X tg (.Call (.Name "range" p) [a] [] pos) (iRng1 ta) := by
  intro pins s σ H R I h
  refine Call_ (ld_blt I hg hm boot_range (PyProof.Rows.callWith_type1 (thn (ha pos pins s σ H _ I h) fun us s1 ⟨vs, H1, I1, r1, q1⟩ => ?_) hs rfl))
  obtain ⟨j, e, q1, q2, q⟩ := q1
  subst e
  cases r1 with
  | cons r rr =>
    cases rr
    obtain ⟨t, rfl⟩ := r
    exact call_range_1 (range_it I1 (by omega) (by omega) q1 q2 (by simpa using q))
theorem pi_range2 {a b : Expr} {ta : TA} {p pos : Pos} (hg : Gl X "range") (hm : X.mg "range" = none) (ha : PA X [a, b] ta) (hs : starEach [a, b] X.env = [(false, eval a X.env), (false, eval b X.env)] := by rfl) (hs2 : starEach [b] X.env = [(false, eval b X.env)] := by rfl) :
    PI X tg (.Call (.Name "range" p) [a, b] [] pos) (iRng2 ta) := by
  intro pins s σ H R I h
  refine Call_ (ld_blt I hg hm boot_range (PyProof.Rows.callWith_type1 (thn (ha pos pins s σ H _ I h) fun us s1 ⟨vs, H1, I1, r1, q1⟩ => ?_) (by rw [hs, hs2]) (by rw [hs2]; rfl)))
  obtain ⟨i, j, e, ⟨q1, q2, q3, q4⟩, q⟩ := q1
  subst e
  cases r1 with
  | cons r rr =>
    cases rr with
    | cons r' rr =>
      cases rr
      obtain ⟨t, rfl⟩ := r
      obtain ⟨t', rfl⟩ := r'
      exact call_range_2 (range_it I1 q1 q2 q3 q4 q)

/-! ### for -/
/-- W: the invariant by the turn and a measure; N: what the body is to reach -/
def tFor (wi : TI) (g : TG) (tb : TS) : TS := fun D σ H => wi σ H fun J H1 => ∃ W : Nat → Nat → St → Hp → Prop, (∃ m, W 0 m σ H1) ∧ ∀ i m σ H, W i m σ H →
  (J.stop i H ∧ D.nx σ H) ∨ (J.go i H ∧ ∃ N : St → Hp → Prop, (∀ σ' H', N σ' H' → ∃ m', m' < m ∧ W (i + 1) m' σ' H') ∧ ∀ x H', J.yld i H x H' → g x σ H' fun σ2 H2 => tb { D with nx := N, ct := N, bk := D.nx } σ2 H2)
/-- the records at fp as they stand -/
def pinsAt (fp : List Addr) (h : Heap) : List (Addr × Obj) := fp.filterMap fun b => (h.get? b).map fun o => (b, o)
theorem mem_pinsAt {fp : List Addr} {h : Heap} {b : Addr} {o : Obj} (hb : b ∈ fp) (e : h.get? b = some o) : (b, o) ∈ pinsAt fp h := List.mem_filterMap.mpr ⟨b, hb, by rw [e]; rfl⟩
theorem of_pinsAt {fp : List Addr} {h : Heap} {p : Addr × Obj} (hp : p ∈ pinsAt fp h) : p.1 ∈ fp ∧ h.get? p.1 = some p.2 := by
  obtain ⟨b, hb, e⟩ := List.mem_filterMap.mp hp
  cases q : h.get? b with
  | none => rw [q] at e; cases e
  | some o =>
    rw [q] at e
    have e' : (b, o) = p := Option.some.inj e
    subst e'
    exact ⟨hb, q⟩
theorem Inv.pinned {pins : List (Addr × Obj)} {σ : St} {H : Hp} {s : Shared} {fp : List Addr} (I : Inv X pins σ H s) (hf : ∀ b ∈ fp, FpOk X pins H b) (ho : ∀ b ∈ fp, ∃ o, s.heap.get? b = some o ∧ ∀ v, o.data ≠ .cell v) : Inv X (pins ++ pinsAt fp s.heap) σ H s :=
  I.pins_of fun p hp => (List.mem_append.mp hp).elim (fun z => I.pin p (List.mem_append_right _ z)) fun z => by
    obtain ⟨hb, e⟩ := of_pinsAt z
    obtain ⟨f0, f1, f2, _⟩ := hf p.1 hb
    obtain ⟨o, e', d⟩ := ho p.1 hb
    rw [e] at e'; cases e'
    exact ⟨e, f0, f1, f2, d⟩
theorem Inv.unpinned {pins pl : List (Addr × Obj)} {σ : St} {H : Hp} {s : Shared} (I : Inv X (pins ++ pl) σ H s) : Inv X pins σ H s := I.pins_of fun p hp => I.pin p (List.mem_append_right _ (List.mem_append_left _ hp))
theorem ps_for {iter : Expr} {body : List Stmt} {wi : TI} {g : TG} {tb : TS} {pos : Pos} (hp : PassesOwn (model X.prog X.w) X.A X.env X.xe) (hc : X.calm = true) (hi : PI X tg iter wi) (hg : PG X tg g) (hb : PSs X body tb)
    (hs : ∀ x, foldedSetIterable iter X.env x = pure x := by intro _; rfl) : PS X (.For tg iter body [] pos) (tFor wi g tb) := by
  intro pins s σ H D I h
  refine wpAny_For (thn (hi pins s σ H _ I h) fun v s1 h1 => thn h1 fun itv s2 h2 => ?_) hs
  obtain ⟨it, fp, tn, J, H2, e, I2, T, st2, f2, W, ⟨m0, w0⟩, turn⟩ := h2
  subst e
  -- what stays true of the iterator's objects through the loop
  have stat : ∀ {H' : Hp}, (∀ b ∈ fp, H' b = none) → ∀ b ∈ fp, FpOk X pins H' b := fun hn b hb => ⟨hn b hb, (f2 b hb).2⟩
  refine codeAny_forLoop_any (fun n s' => ∃ i σ' H', Inv X pins σ' H' s' ∧ tn i s'.heap ∧ (∀ b ∈ fp, H' b = none) ∧ W i n σ' H') ?_ m0 ⟨0, σ, H2, I2, st2, fun b hb => (f2 b hb).1, w0⟩
  rintro n s3 ⟨i, σ3, H3, I3, st3, fr3, w3⟩
  rcases turn i n σ3 H3 w3 with ⟨stop, qn⟩ | ⟨go, N, hN, step⟩
  · refine wpAny_passesOwn hp (thn (T.done X rfl rfl rfl hc i pins s3 σ3 H3 X.xe I3 (stat fr3) st3 stop) fun r s4 ⟨hr, I4⟩ => ?_)
    subst hr
    exact wpAny_execs_nil ⟨σ3, H3, I4, qn⟩
  · refine wpAny_passesOwn hp (thn (T.item X rfl rfl rfl hc i pins s3 σ3 H3 X.xe I3 (stat fr3) st3 go) fun r s4 ⟨u, hr, h4⟩ => ?_)
    subst hr
    refine wpAny_passesOwn hp (thn h4 fun _ s5 ⟨x, H5, I5, r5, y5, st5, fr5⟩ => ?_)
    have I5' := I5.pinned (stat fr5) (T.obj _ _ st5)
    refine wpAny_passesOwn hp (thn (hg _ s5 σ3 H5 x u _ I5' r5 (step x H5 y5)) fun _ s6 ⟨σ6, H6, I6, q6⟩ => ?_)
    refine wpAny_passesOwn hp (thn (hb _ s6 σ6 H6 _ I6 q6) fun f s7 q7 => ?_)
    have again : ∀ {σ7 : St} {H7 : Hp}, Inv X (pins ++ pinsAt fp s5.heap) σ7 H7 s7 → N σ7 H7 → ∃ m, m < n ∧ ∃ i σ' H', Inv X pins σ' H' s7 ∧ tn i s7.heap ∧ (∀ b ∈ fp, H' b = none) ∧ W i m σ' H' := fun {σ7 H7} I7 n7 => by
      obtain ⟨m', hm, w7⟩ := hN σ7 H7 n7
      refine ⟨m', hm, i + 1, σ7, H7, I7.unpinned, T.keep _ _ _ st5 fun b hb o e => (I7.pin (b, o) (List.mem_append_right _ (List.mem_append_right _ (mem_pinsAt hb e)))).1, fun b hb => ?_, w7⟩
      obtain ⟨o, e, d⟩ := T.obj _ _ st5 b hb
      exact (I7.pin (b, o) (List.mem_append_right _ (List.mem_append_right _ (mem_pinsAt hb e)))).2.1
    cases f with
    | next => obtain ⟨σ7, H7, I7, n7⟩ := q7; exact again I7 n7
    | cont => obtain ⟨σ7, H7, I7, n7⟩ := q7; exact again I7 n7
    | brk => obtain ⟨σ7, H7, I7, q7⟩ := q7; exact ⟨σ7, H7, I7.unpinned, q7⟩
    | ret v => obtain ⟨x7, σ7, H7, I7, r7, q7⟩ := q7; exact ⟨x7, σ7, H7, I7.unpinned, r7, q7⟩
end

theorem for_range {lo : Int} {n : Nat} {g : TG} {tb : TS} {D : Ends} {σ : St} {H : Hp} (Pv : Nat → St → Hp → Prop) (h0 : Pv 0 σ H)
    (hs : ∀ i σ H, i < n → Pv i σ H → g (.int (lo + i)) σ H fun σ2 H2 => tb { D with nx := Pv (i + 1), ct := Pv (i + 1), bk := D.nx } σ2 H2) (hd : ∀ σ H, Pv n σ H → D.nx σ H) :
    ∃ W : Nat → Nat → St → Hp → Prop, (∃ m, W 0 m σ H) ∧ ∀ i m σ H, W i m σ H →
      ((Itr lo n).stop i H ∧ D.nx σ H) ∨ ((Itr lo n).go i H ∧ ∃ N : St → Hp → Prop, (∀ σ' H', N σ' H' → ∃ m', m' < m ∧ W (i + 1) m' σ' H') ∧ ∀ x H', (Itr lo n).yld i H x H' → g x σ H' fun σ2 H2 => tb { D with nx := N, ct := N, bk := D.nx } σ2 H2) := by
  refine ⟨fun i m σ H => m = n - i ∧ i ≤ n ∧ Pv i σ H, ⟨n, by simp, Nat.zero_le _, h0⟩, ?_⟩
  rintro i m σ H ⟨rfl, hi, p⟩
  by_cases hlt : i < n
  · refine .inr ⟨hlt, Pv (i + 1), fun σ' H' p' => ⟨n - (i + 1), by omega, rfl, hlt, p'⟩, fun x H' y => ?_⟩
    obtain ⟨e, y⟩ := y
    subst e y
    exact hs i σ _ hlt p
  · have e : i = n := by omega
    subst e
    exact .inl ⟨Nat.le_refl _, hd σ H p⟩
end L2

namespace L2
open PySem PySem.Spec PyProof.Rows

abbrev R2 := V → V → Hp → VK → Prop
/-- a two-place operation on values: f is binaryOp op, inplaceOp op or compareOp op -/
def OpR (X : Cx) (f : Value → Value → Sem Value) (r : R2) : Prop :=
  ∀ (pins : List (Addr × Obj)) (s : Shared) (σ : St) (H : Hp) (x y : V) (v u : Value) (Q : VK), Inv X pins σ H s → RelV x v → RelV y u → r x y H Q →
    wpAny (model X.prog X.w) X.A (f v u) (EP X pins σ Q) X.xe s
/-- a one-place operation -/
def UnR (X : Cx) (f : Value → Sem Value) (r : V → Hp → VK → Prop) : Prop :=
  ∀ (pins : List (Addr × Obj)) (s : Shared) (σ : St) (H : Hp) (x : V) (v : Value) (Q : VK), Inv X pins σ H s → RelV x v → r x H Q →
    wpAny (model X.prog X.w) X.A (f v) (EP X pins σ Q) X.xe s
/-- a call of a value that is known (a builtin, a type) with values -/
def CallR (X : Cx) (f : Value) (r : List V → Hp → VK → Prop) : Prop :=
  ∀ (pins : List (Addr × Obj)) (s : Shared) (σ : St) (H : Hp) (xs : List V) (us : List Value) (Q : VK), Inv X pins σ H s → Vals xs us → r xs H Q →
    wpAny (model X.prog X.w) X.A (call f us) (EP X pins σ Q) X.xe s
/-- a value's truth -/
def TruR (X : Cx) (r : V → Hp → (Bool → Hp → Prop) → Prop) : Prop :=
  ∀ (pins : List (Addr × Obj)) (s : Shared) (σ : St) (H : Hp) (x : V) (v : Value) (Q : Bool → Hp → Prop), Inv X pins σ H s → RelV x v → r x H Q →
    wpAny (model X.prog X.w) X.A (truthy v) (TP X pins σ Q) X.xe s

def tOp (r : R2) (ta tb : TE) : TE := fun σ H Q => ta σ H fun x H1 => tb σ H1 fun y H2 => r x y H2 Q
def tUn (r : V → Hp → VK → Prop) (ta : TE) : TE := fun σ H Q => ta σ H fun x H1 => r x H1 Q
/-- ints in, under C, and a value out -/
def rI (C : Int → Int → Prop) (g : Int → Int → V) : R2 := fun x y H Q => ∃ i j, x = .int i ∧ y = .int j ∧ C i j ∧ Q (g i j) H
def rI0 (g : Int → Int → V) : R2 := fun x y H Q => ∃ i j, x = .int i ∧ y = .int j ∧ Q (g i j) H
def rU (g : Int → V) : V → Hp → VK → Prop := fun x H Q => ∃ i, x = .int i ∧ Q (g i) H

section
variable {X : Cx} {a b c : Expr} {ta tb tc : TE} {pos : Pos}

theorem binT (ha : PE X a ta) (hb : PE X b tb) {pins : List (Addr × Obj)} {s : Shared} {σ : St} {H : Hp} {R : V → V → Hp → Prop} (I : Inv X pins σ H s)
    (h : ta σ H fun x H1 => tb σ H1 fun y H2 => R x y H2) {Q : Value → Shared → Prop} {f : Value → Value → Sem Value}
    (hf : ∀ v u s2 x y H2, Inv X pins σ H2 s2 → RelV x v → RelV y u → R x y H2 → wpAny (model X.prog X.w) X.A (f v u) Q X.xe s2) :
    wpAny (model X.prog X.w) X.A (eval a X.env) (fun v s₁ => wpAny (model X.prog X.w) X.A (eval b X.env) (fun u s₂ => wpAny (model X.prog X.w) X.A (f v u) Q X.xe s₂) X.xe s₁) X.xe s := by
  refine thn (ha pins s σ H _ I h) fun v s1 ⟨x, H1, I1, r1, q1⟩ => ?_
  refine thn (hb pins s1 σ H1 _ I1 q1) fun u s2 ⟨y, H2, I2, r2, q2⟩ => ?_
  exact hf v u s2 x y H2 I2 r1 r2 q2

theorem pe_op {op : Operator} {r : R2} (ho : OpR X (binaryOp op) r) (ha : PE X a ta) (hb : PE X b tb) : PE X (.BinOp a op b pos) (tOp r ta tb) := by
  intro pins s σ H Q I h
  exact wpAny_BinOp (binT ha hb I h fun v u s2 x y H2 I2 rx ry q => ho pins s2 σ H2 x y v u Q I2 rx ry q)
/-! ### ints -/
theorem opI {f : Value → Value → Sem Value} {C : Int → Int → Prop} {g : Int → Int → Int}
    (rule : ∀ (i j : Int) (t u : Tok) (s : Shared) (Q : Value → Shared → Prop) (E : Value → Shared → Prop), C i j → Q (.int (g i j) s.toks) { s with toks := s.toks + 1 } → wpAny (model X.prog X.w) X.A (f (.int i t) (.int j u)) Q E s) :
    OpR X f (rI C fun i j => .int (g i j)) := by
  intro pins s σ H x y v u Q I rx ry h
  obtain ⟨i, j, rfl, rfl, hc, q⟩ := h
  obtain ⟨t, rfl⟩ := rx
  obtain ⟨t', rfl⟩ := ry
  exact rule i j t t' s _ _ hc ⟨.int (g i j), H, I.tok _, ⟨_, rfl⟩, q⟩
theorem opI0 {f : Value → Value → Sem Value} {g : Int → Int → Int}
    (rule : ∀ (i j : Int) (t u : Tok) (s : Shared) (Q : Value → Shared → Prop) (E : Value → Shared → Prop), Q (.int (g i j) s.toks) { s with toks := s.toks + 1 } → wpAny (model X.prog X.w) X.A (f (.int i t) (.int j u)) Q E s) :
    OpR X f (rI0 fun i j => .int (g i j)) := by
  intro pins s σ H x y v u Q I rx ry h
  obtain ⟨i, j, rfl, rfl, q⟩ := h
  obtain ⟨t, rfl⟩ := rx
  obtain ⟨t', rfl⟩ := ry
  exact rule i j t t' s _ _ ⟨.int (g i j), H, I.tok _, ⟨_, rfl⟩, q⟩
theorem opB0 {f : Value → Value → Sem Value} {g : Int → Int → Bool}
    (rule : ∀ (i j : Int) (t u : Tok) (s : Shared) (Q : Value → Shared → Prop) (E : Value → Shared → Prop), Q (.bool (g i j)) s → wpAny (model X.prog X.w) X.A (f (.int i t) (.int j u)) Q E s) :
    OpR X f (rI0 fun i j => .bl (g i j)) := by
  intro pins s σ H x y v u Q I rx ry h
  obtain ⟨i, j, rfl, rfl, q⟩ := h
  obtain ⟨t, rfl⟩ := rx
  obtain ⟨t', rfl⟩ := ry
  exact rule i j t t' s _ _ ⟨.bl (g i j), H, I, rfl, q⟩

def CDiv (i j : Int) : Prop := 0 < j ∧ j < 1073741824
def CDivN (i j : Int) : Prop := j ≠ 0 ∧ j.natAbs < 1073741824
def CPow (i j : Int) : Prop := 0 ≤ j ∧ j ≤ 1000000 ∧ i.natAbs < 2 ^ 64
def CMul (i j : Int) : Prop := (-(2 ^ 64) < i ∧ i < 2 ^ 64) ∨ (-(2 ^ 64) < j ∧ j < 2 ^ 64)
theorem CMul.ok {i j : Int} (h : CMul i j) : IntMulOk i j := by
  rcases h with ⟨h1, h2⟩ | ⟨h1, h2⟩
  · exact .of_left (intBits_le_64 h1 h2)
  · exact .of_right (intBits_le_64 h1 h2)
theorem op_add : OpR X (binaryOp .Add) (rI0 fun i j => .int (i + j)) := opI0 fun _ _ _ _ _ _ _ q => add_int q
theorem op_sub : OpR X (binaryOp .Sub) (rI0 fun i j => .int (i - j)) := opI0 fun _ _ _ _ _ _ _ q => sub_int q
theorem op_mul : OpR X (binaryOp .Mult) (rI CMul fun i j => .int (i * j)) := opI fun _ _ _ _ _ _ _ hc q => mul_int q hc.ok
/-- // by a positive divisor -/
theorem op_fdiv : OpR X (binaryOp .FloorDiv) (rI CDiv fun i j => .int (i / j)) := opI fun i j _ _ _ _ _ hc q => by
  have h1 : (0 : Int) < j := hc.1
  have h2 : j < 1073741824 := hc.2
  exact floordiv_int (by omega) (by rw [Int.fdiv_eq_ediv_of_nonneg i (by omega)]; exact q) (.inl (PyProof.noPylong_small (by omega)))
/-- % by a positive divisor of any size -/
theorem op_mod : OpR X (binaryOp .Mod) (rI (fun _ j => 0 < j) fun i j => .int (i % j)) := opI fun i j _ _ _ _ _ hc q => by
  have h1 : (0 : Int) < j := hc
  exact mod_int' (by omega) (by rw [Int.fmod_eq_emod_of_nonneg i (by omega)]; exact q)
theorem op_pow : OpR X (binaryOp .Pow) (rI CPow fun i j => .int (i ^ j.toNat)) := opI fun _ _ _ _ _ _ _ hc q => pow_int_small hc.1 hc.2.1 hc.2.2 q
end

/-! ### comparisons -/
/-- the scalars that == tells apart as data does -/
def scal : V → V → Bool
  | .non, .non => true | .non, .int _ => true | .int _, .non => true | .non, .bl _ => true | .bl _, .non => true | .non, .str _ => true | .str _, .non => true
  | .int _, .int _ => true | .bl _, .bl _ => true | .str _, .str _ => true | .byt _, .byt _ => true
  | .int _, .str _ => true | .str _, .int _ => true | .bl _, .str _ => true | .str _, .bl _ => true
  | _, _ => false
def rEq : R2 := fun x y H Q => scal x y = true ∧ Q (.bl (decide (x = y))) H
def rNe : R2 := fun x y H Q => scal x y = true ∧ Q (.bl (!decide (x = y))) H

theorem dec_int {i j : Int} : decide (V.int i = V.int j) = (i == j) := by
  rw [Bool.eq_iff_iff]
  simp
theorem dec_bl {i j : Bool} : decide (V.bl i = V.bl j) = (i == j) := by
  rw [Bool.eq_iff_iff]
  simp
theorem dec_str {i j : Str} : decide (V.str i = V.str j) = (i == j) := by
  rw [Bool.eq_iff_iff]
  simp
theorem dec_byt {i j : Array UInt8} : decide (V.byt i = V.byt j) = (i.toList == j.toList) := by
  rw [Bool.eq_iff_iff]
  cases i
  cases j
  simp

section
variable {X : Cx} {a b c : Expr} {ta tb tc : TE} {pos : Pos}
theorem fin_bl {pins : List (Addr × Obj)} {σ : St} {H : Hp} {s : Shared} {Q : VK} {k k' : Bool} (I : Inv X pins σ H s) (q : Q (.bl k) H) (e : k = k') : EP X pins σ Q (.bool k') s := by
  subst e
  exact ⟨.bl k, H, I, rfl, q⟩
theorem op_eq : OpR X (compareOp .Eq) rEq := by
  intro pins s σ H x y v u Q I rx ry h
  obtain ⟨hs, q⟩ := h
  cases x with
  | non =>
    cases rx
    cases y with
    | non => cases ry; exact PySem.EqNone.eq_none_none (fin_bl I q (by simp))
    | bl j => cases ry; exact PySem.EqNone.eq_none_bool (fin_bl I q (by simp))
    | int j => obtain ⟨t', rfl⟩ := ry; exact PySem.EqNone.eq_none_int (fin_bl I q (by simp))
    | str j => obtain ⟨t', rfl⟩ := ry; exact PySem.EqNone.eq_none_str (fin_bl I q (by simp))
    | _ => exact absurd (show false = true from hs) Bool.false_ne_true
  | bl i =>
    cases rx
    cases y with
    | non => cases ry; exact PySem.EqNone.eq_bool_none (fin_bl I q (by simp))
    | bl j => cases ry; exact eq_bool (fin_bl I q dec_bl)
    | str j => obtain ⟨t', rfl⟩ := ry; exact PySem.EqMixed.eq_bool_str (fin_bl I q (by simp))
    | _ => exact absurd (show false = true from hs) Bool.false_ne_true
  | int i =>
    obtain ⟨t, rfl⟩ := rx
    cases y with
    | non => cases ry; exact PySem.EqNone.eq_int_none (fin_bl I q (by simp))
    | int j => obtain ⟨t', rfl⟩ := ry; exact eq_int (fin_bl I q dec_int)
    | str j => obtain ⟨t', rfl⟩ := ry; exact PySem.EqMixed.eq_int_str (fin_bl I q (by simp))
    | _ => exact absurd (show false = true from hs) Bool.false_ne_true
  | str i =>
    obtain ⟨t, rfl⟩ := rx
    cases y with
    | non => cases ry; exact PySem.EqNone.eq_str_none (fin_bl I q (by simp))
    | bl j => cases ry; exact PySem.EqMixed.eq_str_bool (fin_bl I q (by simp))
    | int j => obtain ⟨t', rfl⟩ := ry; exact PySem.EqMixed.eq_str_int (fin_bl I q (by simp))
    | str j => obtain ⟨t', rfl⟩ := ry; exact eq_str (fin_bl I q dec_str)
    | _ => exact absurd (show false = true from hs) Bool.false_ne_true
  | byt i =>
    obtain ⟨t, rfl⟩ := rx
    cases y with
    | byt j => obtain ⟨t', rfl⟩ := ry; exact PySem.W.eq_bytes (fin_bl I q dec_byt)
    | _ => exact absurd (show false = true from hs) Bool.false_ne_true
  | _ => cases y <;> exact absurd (show false = true from hs) Bool.false_ne_true
theorem op_ne : OpR X (compareOp .NotEq) rNe := by
  intro pins s σ H x y v u Q I rx ry h
  obtain ⟨hs, q⟩ := h
  cases x with
  | non =>
    cases rx
    cases y with
    | non => cases ry; exact PySem.EqNone.ne_none_none (fin_bl I q (by simp))
    | bl j => cases ry; exact PySem.EqNone.ne_none_bool (fin_bl I q (by simp))
    | int j => obtain ⟨t', rfl⟩ := ry; exact PySem.EqNone.ne_none_int (fin_bl I q (by simp))
    | str j => obtain ⟨t', rfl⟩ := ry; exact PySem.EqNone.ne_none_str (fin_bl I q (by simp))
    | _ => exact absurd (show false = true from hs) Bool.false_ne_true
  | bl i =>
    cases rx
    cases y with
    | non => cases ry; exact PySem.EqNone.ne_bool_none (fin_bl I q (by simp))
    | bl j => cases ry; exact ne_bool (fin_bl I q (congrArg not dec_bl))
    | str j => obtain ⟨t', rfl⟩ := ry; exact PySem.EqMixed.ne_bool_str (fin_bl I q (by simp))
    | _ => exact absurd (show false = true from hs) Bool.false_ne_true
  | int i =>
    obtain ⟨t, rfl⟩ := rx
    cases y with
    | non => cases ry; exact PySem.EqNone.ne_int_none (fin_bl I q (by simp))
    | int j => obtain ⟨t', rfl⟩ := ry; exact ne_int (fin_bl I q (congrArg not dec_int))
    | str j => obtain ⟨t', rfl⟩ := ry; exact PySem.EqMixed.ne_int_str (fin_bl I q (by simp))
    | _ => exact absurd (show false = true from hs) Bool.false_ne_true
  | str i =>
    obtain ⟨t, rfl⟩ := rx
    cases y with
    | non => cases ry; exact PySem.EqNone.ne_str_none (fin_bl I q (by simp))
    | bl j => cases ry; exact PySem.EqMixed.ne_str_bool (fin_bl I q (by simp))
    | int j => obtain ⟨t', rfl⟩ := ry; exact PySem.EqMixed.ne_str_int (fin_bl I q (by simp))
    | str j => obtain ⟨t', rfl⟩ := ry; exact ne_str (fin_bl I q (congrArg not dec_str))
    | _ => exact absurd (show false = true from hs) Bool.false_ne_true
  | byt i =>
    obtain ⟨t, rfl⟩ := rx
    cases y with
    | byt j => obtain ⟨t', rfl⟩ := ry; exact PySem.W.ne_bytes (fin_bl I q (congrArg not dec_byt))
    | _ => exact absurd (show false = true from hs) Bool.false_ne_true
  | _ => cases y <;> exact absurd (show false = true from hs) Bool.false_ne_true

theorem op_lt : OpR X (compareOp .Lt) (rI0 fun i j => .bl (decide (i < j))) := opB0 fun _ _ _ _ _ _ _ q => lt_int q
theorem op_le : OpR X (compareOp .LtE) (rI0 fun i j => .bl (decide (i ≤ j))) := opB0 fun _ _ _ _ _ _ _ q => le_int q
theorem op_gt : OpR X (compareOp .Gt) (rI0 fun i j => .bl (decide (j < i))) := opB0 fun _ _ _ _ _ _ _ q => gt_int q
theorem op_ge : OpR X (compareOp .GtE) (rI0 fun i j => .bl (decide (j ≤ i))) := opB0 fun _ _ _ _ _ _ _ q => ge_int q
/-- the one string within the other -/
theorem op_in_str : OpR X (compareOp .In) (fun x y H Q => ∃ i j, x = .str i ∧ y = .str j ∧ Q (.bl (!(Builtin.Str.occurrences j i 0 j.length 1).isEmpty)) H) := by
  intro pins s σ H x y v u Q I rx ry h
  obtain ⟨i, j, rfl, rfl, q⟩ := h
  obtain ⟨t, rfl⟩ := rx
  obtain ⟨t', rfl⟩ := ry
  exact in_str (fin_bl I q rfl)

/-- is, is not of two objects that are tracked lists or instances -/
def isObj : HO → Bool
  | .lst _ => true
  | .ins _ _ _ => true
  | _ => false
/-- two rules for one operation: by cases -/
theorem OpR.or {f : Value → Value → Sem Value} {r r' : R2} (h : OpR X f r) (h' : OpR X f r') : OpR X f (fun x y H Q => r x y H Q ∨ r' x y H Q) := by
  intro pins s σ H x y v u Q I rx ry q
  rcases q with q | q
  · exact h pins s σ H x y v u Q I rx ry q
  · exact h' pins s σ H x y v u Q I rx ry q

theorem nomark (b : Expr) {op : CmpOp} (h : op ≠ .In := by decide) (h2 : op ≠ .NotIn := by decide) : behindInMarks op b = false := by
  have e1 : (op == CmpOp.In) = false := by cases op <;> first | rfl | exact absurd rfl h
  have e2 : (op == CmpOp.NotIn) = false := by cases op <;> first | rfl | exact absurd rfl h2
  cases b <;> simp [behindInMarks, e1, e2]
/-- a comparison as a value; hm: nomark b, or (for in, not in) by with_unfolding_all rfl -/
theorem pe_cmpR {op : CmpOp} {r : R2} (ho : OpR X (compareOp op) r) (ha : PE X a ta) (hb : PE X b tb) (hm : behindInMarks op b = false) : PE X (.Compare a [op] [b] pos) (tOp r ta tb) := by
  intro pins s σ H Q I h
  exact wpAny_Compare1 (binT ha hb I h fun v u s2 x y H2 I2 rx ry q => ho pins s2 σ H2 x y v u Q I2 rx ry q) hm
/-- a reading of a value as a test -/
def tTest (t : TE) : TT := fun σ H Q => t σ H fun x H' => ∃ k, x = .bl k ∧ Q k H'
theorem pt_cmpR {op : CmpOp} {r : R2} (ho : OpR X (compareOp op) r) (ha : PE X a ta) (hb : PE X b tb) (hm : behindInMarks op b = false) : PT X (.Compare a [op] [b] pos) (tTest (tOp r ta tb)) := by
  intro pins s σ H Q I h
  refine wpAny_isTrue_Compare1 (thn (ha pins s σ H _ I h) fun v s1 ⟨x, H1, I1, r1, q1⟩ => thn (hb pins s1 σ H1 _ I1 q1) fun u s2 ⟨y, H2, I2, r2, q2⟩ =>
    thn (ho pins s2 σ H2 x y v u _ I2 r1 r2 q2) fun c s3 ⟨z, H3, I3, r3, k, e, q3⟩ => ?_) hm
  subst e
  cases r3
  exact wpAny_truthy_bool ⟨H3, I3, q3⟩
/-- a op1 b op2 c -/
def tChain (r r' : R2) (ta tb tc : TE) : TE := fun σ H Q => ta σ H fun x H1 => tb σ H1 fun y H2 => r x y H2 fun z H3 => ∃ k, z = .bl k ∧
  (if k = true then tc σ H3 fun w' H4 => r' y w' H4 Q else Q (.bl false) H3)
theorem pe_chain {op op' : CmpOp} {r r' : R2} (ho : OpR X (compareOp op) r) (ho' : OpR X (compareOp op') r') (ha : PE X a ta) (hb : PE X b tb) (hc : PE X c tc)
    (hm : lastMarks [op, op'] [b, c] = false := by with_unfolding_all rfl) : PE X (.Compare a [op, op'] [b, c] pos) (tChain r r' ta tb tc) := by
  intro pins s σ H Q I h
  refine Compare_chain (thn (ha pins s σ H _ I h) fun v s1 ⟨x, H1, I1, r1, q1⟩ => chain_link (thn (hb pins s1 σ H1 _ I1 q1) fun u s2 ⟨y, H2, I2, r2, q2⟩ =>
    thn (ho pins s2 σ H2 x y v u _ I2 r1 r2 q2) fun d s3 ⟨z, H3, I3, r3, k, e, q3⟩ => ?_)) hm
  subst e
  cases r3
  refine wpAny_truthy_bool ?_
  cases k with
  | false => exact ite_ff ⟨.bl false, H3, I3, rfl, q3⟩
  | true => exact ite_tt (chain_last (thn (hc pins s3 σ H3 _ I3 q3) fun w' s4 ⟨z', H4, I4, r4, q4⟩ => ho' pins s4 σ H4 y z' u w' Q I4 r2 r4 q4))
/-! ### truth -/
/-- a value's truth by the abstract heap -/
def TruV (K : PySem.W.Frag) (x : V) (H : Hp) (k : Bool) : Prop :=
  match x with
  | .non => k = false
  | .bl b => k = b
  | .int i => k = (i != 0)
  | .str y => y.length ≤ sizeLine ∧ k = ((y.length : Int) != 0)
  | .byt y => y.size ≤ sizeLine ∧ k = ((y.size : Int) != 0)
  | .ref p => (∃ xs, SqL K H p xs ∧ k = !xs.isEmpty) ∨ (∃ xs, SqT K H p xs ∧ k = !xs.isEmpty) ∨ ∃ kvs, H p = some (.dK kvs) ∧ k = !kvs.isEmpty
  | _ => False
theorem line63 : (sizeLine : Nat) < 2 ^ 63 := by rw [sizeLine_eq]; decide
theorem op_add_str : OpR X (binaryOp .Add) (fun x y H Q => ∃ i j, x = .str i ∧ y = .str j ∧ i.length + j.length ≤ sizeLine ∧ Q (.str (i ++ j)) H) := by
  intro pins s σ H x y v u Q I rx ry h
  obtain ⟨i, j, rfl, rfl, hz, q⟩ := h
  obtain ⟨t, rfl⟩ := rx
  obtain ⟨t', rfl⟩ := ry
  exact add_str (fun t' tk => ⟨.str (i ++ j), H, I.tok _, ⟨_, rfl⟩, q⟩) hz
def PlainIxT (b : Expr) : Prop := ∀ o i, subscripted b false o i = operate [o, i] (getItem o i)
/-- s[i], 0 ≤ i < len -/
theorem pe_item_str (ha : PE X a ta) (hb : PE X b tb) (hs : PlainIxT b) :
    PE X (.Subscript a b pos) (tOp (fun x y H Q => ∃ z i c, x = .str z ∧ y = .int i ∧ 0 ≤ i ∧ i < 2 ^ 63 ∧ i < z.length ∧ z.cps[i.toNat]? = some c ∧ Q (.str ⟨#[c]⟩) H) ta tb) := by
  intro pins s σ H Q I h
  refine Subscript_ (binT ha hb I h fun v u s2 x y H2 I2 rx ry q => ?_)
  obtain ⟨z, i, c, rfl, rfl, h0, h63, h1, hc, q⟩ := q
  obtain ⟨t, rfl⟩ := rx
  obtain ⟨t', rfl⟩ := ry
  have e : seqIndex? i z.length = some i.toNat := PySem.StrLaws.seqIndex_nonneg h0 h1
  exact tail_any (typeIs_str s2 z t) slot_str_getitem.lookup (getItem_str (c := c) (by
    have e1 : decide (i < -(2 ^ 63 : Int)) = false := decide_eq_false (by omega)
    have e2 : decide (i ≥ 2 ^ 63) = false := decide_eq_false (by omega)
    rw [e1, e2] <;> rfl) (by rw [e]; exact hc) ⟨.str ⟨#[c]⟩, H2, I2.tok _, ⟨_, rfl⟩, q⟩) (hs _ _)
/-! ### scalar builtins, by CallR -/
theorem vals1 {x : V} {us : List Value} (r : Vals [x] us) : ∃ u, us = [u] ∧ RelV x u := by
  cases r with
  | cons r1 r2 => cases r2; exact ⟨_, rfl, r1⟩
theorem vals2 {x y : V} {us : List Value} (r : Vals [x, y] us) : ∃ u w', us = [u, w'] ∧ RelV x u ∧ RelV y w' := by
  cases r with
  | cons r1 r2 =>
    cases r2 with
    | cons r3 r4 => cases r4; exact ⟨_, _, rfl, r1, r3⟩
theorem call_int1 : CallR X (.type "int") (fun xs H Q => (∃ i, xs = [.int i] ∧ Q (.int i) H) ∨ ∃ k, xs = [.bl k] ∧ Q (.int (if k then 1 else 0)) H) := by
  intro pins s σ H xs us Q I r h
  rcases h with ⟨i, rfl, q⟩ | ⟨k, rfl, q⟩
  · obtain ⟨u, rfl, t, rfl⟩ := vals1 r
    exact call_int_int ⟨.int i, H, I, ⟨_, rfl⟩, q⟩
  · obtain ⟨u, rfl, r1⟩ := vals1 r
    cases r1
    exact call_int_bool ⟨.int (if k then 1 else 0), H, I.tok _, ⟨_, rfl⟩, q⟩
theorem call_str_int : CallR X (.type "str") (fun xs H Q => ∃ i, xs = [.int i] ∧ i.natAbs.log2 < 1920 ∧ Q (.str (toString i)) H) := by
  intro pins s σ H xs us Q I r h
  obtain ⟨i, rfl, hz, q⟩ := h
  obtain ⟨u, rfl, t, rfl⟩ := vals1 r
  exact PySem.P.str_of_int hz ⟨.str _, H, I.tok _, ⟨_, rfl⟩, q⟩
/-- len of a str, a bytes, a list, a tuple -/
def LenV (K : PySem.W.Frag) (x : V) (H : Hp) (n : Nat) : Prop :=
  match x with
  | .str y => y.length ≤ sizeLine ∧ n = y.length
  | .byt y => y.size ≤ sizeLine ∧ n = y.size
  | .ref p => (∃ xs, SqL K H p xs ∧ n = xs.length) ∨ ∃ xs, SqT K H p xs ∧ n = xs.length
  | _ => False
theorem call_len : CallR X (.builtin "len") (fun xs H Q => ∃ x n, xs = [x] ∧ LenV X.K x H n ∧ Q (.int n) H) := by
  intro pins s σ H xs us Q I r h
  obtain ⟨x, n, rfl, e, q⟩ := h
  obtain ⟨u, rfl, rx⟩ := vals1 r
  have hl := line63
  have hs : sizeLine = 16777216 := sizeLine_eq
  cases x with
  | str y =>
    obtain ⟨t, rfl⟩ := rx
    obtain ⟨hy, e'⟩ : y.length ≤ sizeLine ∧ n = y.length := e
    subst e'
    exact len_str (by omega) ⟨.int _, H, I.tok _, ⟨_, rfl⟩, q⟩
  | byt y =>
    obtain ⟨t, rfl⟩ := rx
    obtain ⟨hy, e'⟩ : y.size ≤ sizeLine ∧ n = y.size := e
    subst e'
    exact PySem.W.len_bytes (by omega) ⟨.int _, H, I.tok _, ⟨_, rfl⟩, q⟩
  | ref p =>
    cases rx
    have e' : (∃ xs, SqL X.K H p xs ∧ n = xs.length) ∨ ∃ xs, SqT X.K H p xs ∧ n = xs.length := e
    rcases e' with ⟨xs, hx, e'⟩ | ⟨xs, hx, e'⟩
    · subst e'
      obtain ⟨its, r', pl, hz⟩ := I.list hx
      have hlen := r'.length
      exact Calls.call_len_list pl.isList (by simp only [List.size_toArray]; omega) ⟨.int xs.length, H, I.tok _, ⟨_, by simp only [List.size_toArray]; rw [hlen]⟩, q⟩
    · subst e'
      obtain ⟨its, r', pl, hz⟩ := I.tuple hx
      have hlen := r'.length
      exact len_tuple pl (by simp only [List.size_toArray]; omega) ⟨.int xs.length, H, I.tok _, ⟨_, by simp only [List.size_toArray]; rw [hlen]⟩, q⟩
  | _ => exact (show False from e).elim
end
end L2

namespace L2
open PySem PySem.Spec PyProof.Rows

/-! ### an instance, its attributes a map -/
structure ObjM (h : Heap) (x dx C : Addr) (mA : Str → Option Value) : Prop where
  obj : h.get? x = some (PySem.W.instObj C dx)
  ns : h.Ns1 dx mA
  ne : dx ≠ x

theorem lookIn_ns {h : Heap} {dx : Addr} {mA : Str → Option Value} (n : h.Ns1 dx mA) : ∃ od, h.get? dx = some od ∧ ∀ name, PySem.W.lookIn name od = some (mA name) := by
  obtain ⟨o, es, ep, ho, hd, hk, _, hm⟩ := n
  refine ⟨o, ho, fun name => ?_⟩
  have e := hm name
  unfold nsFind findBy at e
  rw [← Array.find?_toList] at e
  unfold PySem.W.lookIn
  rw [hd]
  dsimp only
  split
  · rename_i y q
    rw [q] at e
    exact congrArg some e
  · rename_i q
    rw [q] at e
    have a : es.toList.any (·.refKey) = false := by
      rw [List.any_eq_false]
      intro y hy
      obtain ⟨z, t, hkey⟩ := hk y (Array.mem_toList_iff.mp hy)
      simp [DictEntry.refKey, hkey]
    have a' : ¬ es.toList.any (·.refKey) = true := by rw [a]; exact Bool.false_ne_true
    rw [if_neg a']
    exact congrArg some e

theorem ObjM.look {h : Heap} {x dx C : Addr} {mA : Str → Option Value} (I : ObjM h x dx C mA) : ∃ od, PySem.W.InstAt h x (PySem.W.instObj C dx) C (some od) ∧ ∀ name, PySem.W.lookIn name od = some (mA name) :=
  let ⟨od, ho, hl⟩ := lookIn_ns I.ns
  ⟨od, ⟨I.obj, rfl, rfl, ho⟩, hl⟩

section
variable {prog : Program} {w : World} {A : Around} {E : Value → Shared → Prop} {s : Shared} {K : PySem.W.Frag} {x dx C f : Addr} {mA : Str → Option Value} {name : Str} {v : Value}

end

/-! ### the attributes as a list of pairs -/
def putF (f : Str) (v : V) : List (Str × V) → List (Str × V)
  | [] => [(f, v)]
  | (g, x) :: r => if g = f then (g, v) :: r else (g, x) :: putF f v r
theorem RelO.none_of {o : Option Value} (r : RelO none o) : o = none := by
  cases o with
  | none => rfl
  | some u => exact (show False from r).elim
section
variable {P : Program} {w : World} {H H' : Hp} {h h' : Heap} {a C dx : Addr} {fs fs' : List (Str × V)}
theorem ins_get (hok : HOk P w H h) (e : H a = some (.ins C dx fs)) : ∃ mA, ObjM h a dx C mA ∧ (∀ f, RelO (fs.lookup f) (mA f)) ∧ PySem.Within mA (fs.map (·.1)) ∧ fs.length ≤ 1000 ∧ H dx = some (.own a) := by
  obtain ⟨d, z, ne, ob, mA, n, r, q⟩ := (show ObjOk P w H h a (.ins C dx fs) from hok a _ e)
  exact ⟨mA, ⟨ob, n, ne⟩, r, q, z, d⟩
end

/-! ### what of the text a class must have -/
structure Cls (K : PySem.W.Frag) (C : Addr) : Prop where
  pg : PySem.W.plainGet K C Str.empty = true
  hd : PySem.W.hasDictIn K C = true
  po : PySem.W.plainOver K C = true
  sa : PySem.W.findIn K (.ref C) "__setattr__" = some (some (.builtin "object.__setattr__"))
theorem Cls.get {K : PySem.W.Frag} {C : Addr} (c : Cls K C) (f : Str) : PySem.W.plainGet K C f = true := c.pg
/-- no class of it has the name -/
def NoAttr (K : PySem.W.Frag) (C : Addr) (f : Str) : Prop := PySem.W.findIn K (.ref C) f = some none
/-- a constant of the class -/
structure Con (K : PySem.W.Frag) (C : Addr) (f : Str) (v : V) (u : Value) : Prop where
  at_ : PySem.W.findIn K (.ref C) f = some (some u)
  rel : RelV v u
  get : PySem.W.specialIn K u "__get__" = some none
  cp : PySem.W.copiedNames.contains f = false
/-- a method: a plain def of the class or of one above it -/
structure Meth (K : PySem.W.Frag) (C : Addr) (m : Str) (f : Addr) : Prop where
  at_ : PySem.W.findIn K (.ref C) m = some (some (.ref f))
  fn : PySem.W.isFn K (.ref f) = true
  kp : PySem.W.keepIn K (.ref f) = true

section
variable {X : Cx} {pins : List (Addr × Obj)} {σ : St} {H : Hp} {s : Shared} {a C dx : Addr} {fs : List (Str × V)} {f : Str} {v : V} {A : Around} {E : Value → Shared → Prop}

/-- a new instance, tracked, without attributes -/
theorem Inv.made (I : Inv X pins σ H s) : Inv X pins σ (upd (upd H s.heap.objs.size (.own (s.heap.objs.size + 1))) (s.heap.objs.size + 1) (.ins C s.heap.objs.size []))
    { s with heap := (s.heap.push PySem.W.emptyDict).push (PySem.W.instObj C s.heap.objs.size) } := by
  have e1 : (s.heap.push PySem.W.emptyDict).get? s.heap.objs.size = some PySem.W.emptyDict := Heap.get?_push_size s.heap rfl
  have e2 : ((s.heap.push PySem.W.emptyDict).push (PySem.W.instObj C s.heap.objs.size)).get? (s.heap.objs.size + 1) = some (PySem.W.instObj C s.heap.objs.size) := by
    have := Heap.get?_push_size (s.heap.push PySem.W.emptyDict) (o := PySem.W.instObj C s.heap.objs.size) rfl
    rwa [Heap.size_push] at this
  have e3 : (s.heap.push PySem.W.emptyDict).Ns s.heap.objs.size (fun _ => none) := ⟨PySem.W.emptyDict, #[], _, e1, rfl, (fun e he => absurd he (by simp)), fun _ => rfl⟩
  have I1 := I.laid (a := s.heap.objs.size) (o := .own (s.heap.objs.size + 1)) (h' := s.heap.push PySem.W.emptyDict) (t' := s.toks) (fun b u q => Heap.get?_push_of_some _ q) (Nat.le_refl _) ⟨_, e1⟩
  refine I1.laid (a := s.heap.objs.size + 1) (o := .ins C s.heap.objs.size []) (t' := s.toks) (fun b u q => Heap.get?_push_of_some _ q) (Nat.le_of_eq (Heap.size_push _ _)) ?_
  have ne : s.heap.objs.size ≠ s.heap.objs.size + 1 := Nat.ne_of_lt (Nat.lt_succ_self _)
  refine ⟨by rw [upd_ne ne, upd_same], Nat.zero_le _, ne, e2, fun _ => none, (Heap.Ns1.of_empty e3).at fun o q => Heap.get?_push_of_some _ q, fun _ => True.intro, fun y hy => absurd rfl hy⟩

end

/-! ### readings and rules -/
/-- e.f, an attribute of the instance -/
def tFld (K : PySem.W.Frag) (ta : TE) (f : Str) : TE := fun σ H Q => ta σ H fun x H1 => ∃ a C dx fs v, x = .ref a ∧ H1 a = some (.ins C dx fs) ∧ Cls K C ∧ NoAttr K C f ∧ fs.lookup f = some v ∧ Q v H1
/-- e.f, a constant of the class -/
def tCon (K : PySem.W.Frag) (ta : TE) (f : Str) : TE := fun σ H Q => ta σ H fun x H1 => ∃ a C dx fs v u, x = .ref a ∧ H1 a = some (.ins C dx fs) ∧ Cls K C ∧ Con K C f v u ∧ fs.lookup f = none ∧ Q v H1
/-- e.f = value -/
def sFld (K : PySem.W.Frag) (ta tv : TE) (f : Str) : TS := fun D σ H => tv σ H fun y H1 => ta σ H1 fun x H2 => ∃ a C dx fs, x = .ref a ∧ H2 a = some (.ins C dx fs) ∧ Cls K C ∧ NoAttr K C f ∧ fs.length < 1000 ∧
  D.nx σ (upd H2 a (.ins C dx (putF f y fs)))
/-- an augmented operator on two values -/
def InOp (X : Cx) (op : Operator) (rd : V → V → Hp → VK → Prop) : Prop :=
  ∀ (pins : List (Addr × Obj)) (s : Shared) (σ : St) (H : Hp) (x y : V) (u v : Value) (Q : VK), Inv X pins σ H s → RelV x u → RelV y v → rd x y H Q → wpAny (model X.prog X.w) X.A (inplaceOp op u v) (EP X pins σ Q) X.xe s
/-- e.f op= value -/
def sFldAug (K : PySem.W.Frag) (ta tv : TE) (rd : V → V → Hp → VK → Prop) (f : Str) : TS := fun D σ H => ta σ H fun x H1 => ∃ a C dx fs v, x = .ref a ∧ H1 a = some (.ins C dx fs) ∧ Cls K C ∧ NoAttr K C f ∧ fs.lookup f = some v ∧
  tv σ H1 fun y H2 => rd v y H2 fun z H3 => ∃ dx' fs', H3 a = some (.ins C dx' fs') ∧ fs'.length < 1000 ∧ D.nx σ (upd H3 a (.ins C dx' (putF f z fs')))

section
variable {X : Cx} {o e value : Expr} {f : Str} {pos pos' tpos : Pos} {ta tv : TE}
def rAdd : V → V → Hp → VK → Prop := fun x y H Q => ∃ i j, x = .int i ∧ y = .int j ∧ Q (.int (i + j)) H
def rSub : V → V → Hp → VK → Prop := fun x y H Q => ∃ i j, x = .int i ∧ y = .int j ∧ Q (.int (i - j)) H
end

/-! ### isinstance -/
section
variable {X : Cx} {pins : List (Addr × Obj)} {σ : St} {H : Hp} {s : Shared} {A : Around} {E : Value → Shared → Prop} {Q : Value → Shared → Prop} {c : Value} {b : Bool}
/-- the type of a value, as the fragment's deciders take it; for an instance its class -/
inductive TyOf (K : PySem.W.Frag) (H : Hp) : V → Value → Prop where
  | non : TyOf K H .non (.type "NoneType")
  | bl (x : Bool) : TyOf K H (.bl x) (.type "bool")
  | int (i : Int) : TyOf K H (.int i) (.type "int")
  | str (x : Str) : TyOf K H (.str x) (.type "str")
  | flt (x : UInt64) : TyOf K H (.flt x) (.type "float")
  | lst {a : Addr} {xs : List V} (e : H a = some (.lst xs)) : TyOf K H (.ref a) (.type "list")
  | frz {a : Addr} {o : Obj} {xs : List V} (e : H a = some (.frz o (.lst xs))) : TyOf K H (.ref a) (.type "list")
  | tup {a : Addr} {xs : List V} (e : H a = some (.tup xs)) : TyOf K H (.ref a) (.type "tuple")
  | dK {a : Addr} {kvs : List (Key × V)} (e : H a = some (.dK kvs)) : TyOf K H (.ref a) (.type "dict")
  | ins {a C dx : Addr} {fs : List (Str × V)} (e : H a = some (.ins C dx fs)) (cl : Cls K C) (ha : PySem.W.findIn K (.ref C) "__class__" = some (some (.builtin "object.__class__")))
      (hn : PySem.W.specialIn K (.builtin "object.__class__") "__get__" = some (some (.builtin "getset_descriptor.__get__"))) (htk : PySem.W.takesIn K (.builtin "object.__class__") = some true)
      (hm : PySem.W.mroIn K C (.type "object") = some true) : TyOf K H (.ref a) (.ref C)
/-- isinstance(x, c) for one class c, a built-in or an own one: kitOne's answer -/
theorem isinst_ok {x : V} {u t : Value} (I : Inv X pins σ H s) (rx : RelV x u) (ty : TyOf X.K H x t) (e : PySem.W.kitOne X.K t c = some b) (h : ∀ tk, Q (.bool b) { s with toks := tk }) :
    wpAny (model X.prog X.w) A (call (.builtin "isinstance") [u, c]) Q E s := by
  cases ty with
  | non => cases (show u = Value.none from rx); exact PySem.W.kia_one PySem.W.kitx_none I.kIn True.intro e (fun z => nomatch z) h
  | bl y => cases (show u = Value.bool y from rx); exact PySem.W.kia_one PySem.W.kitx_bool I.kIn True.intro e (fun z => nomatch z) h
  | int i => obtain ⟨t, q⟩ := (show ∃ t, u = Value.int i t from rx); cases q; exact PySem.W.kia_one PySem.W.kitx_int I.kIn True.intro e (fun z => nomatch z) h
  | str y => obtain ⟨t, q⟩ := (show ∃ t, u = Value.str y t from rx); cases q; exact PySem.W.kia_one PySem.W.kitx_str I.kIn True.intro e (fun z => nomatch z) h
  | flt y => obtain ⟨t, q⟩ := (show ∃ t, u = Value.float y t from rx); cases q; exact PySem.W.kia_one PySem.W.kitx_float I.kIn True.intro e (fun z => nomatch z) h
  | @lst a xs ea =>
    cases (show u = Value.ref a from rx)
    obtain ⟨_, _, n, _, h1⟩ := (show ObjOk X.prog X.w H s.heap a (.lst xs) from I.hok a _ ea)
    exact PySem.W.kia_one PySem.W.kitx_list I.kIn ⟨_, h1, rfl⟩ e (fun z => nomatch z) h
  | @frz a ob xs ea =>
    cases (show u = Value.ref a from rx)
    obtain ⟨_, _, _, n, _, h1⟩ := (show ObjOk X.prog X.w H s.heap a (.frz ob (.lst xs)) from I.hok a _ ea)
    exact PySem.W.kia_one PySem.W.kitx_list I.kIn ⟨_, h1, rfl⟩ e (fun z => nomatch z) h
  | @tup a xs ea =>
    cases (show u = Value.ref a from rx)
    obtain ⟨_, _, _, p⟩ := (show ObjOk X.prog X.w H s.heap a (.tup xs) from I.hok a _ ea)
    obtain ⟨o, h1, h2, _⟩ := p
    exact PySem.W.kia_one PySem.W.kitx_tuple I.kIn ⟨o, h1, h2⟩ e (fun z => nomatch z) h
  | @dK a kvs ea =>
    cases (show u = Value.ref a from rx)
    obtain ⟨_, _, vs, _, p⟩ := (show ObjOk X.prog X.w H s.heap a (.dK kvs) from I.hok a _ ea)
    obtain ⟨o, es, ep, h1, h2, _⟩ := p
    exact PySem.W.kia_one PySem.W.kitx_dict I.kIn ⟨o, h1, h2.1⟩ e (fun z => nomatch z) h
  | @ins a C dx fs ea cl ha hn htk hm =>
    cases (show u = Value.ref a from rx)
    obtain ⟨mA, O, _⟩ := ins_get I.hok ea
    obtain ⟨od, J, _⟩ := O.look
    exact PySem.W.kia_one (PySem.W.kitx_own (cl.get _) cl.hd ha hn htk hm) I.kIn J e (fun z => nomatch z) h
end
end L2

namespace L2
open PySem PySem.Spec PyProof.Rows

/-! ### room -/
structure Room (k : Nat) (A : Around) : Prop where
  hd : A.handled = none
  dp : A.depth + 3 * k + 5 < recursionLimit
  un : A.units + 16 * k + 200 < cLine
theorem Room.mono {j k : Nat} {A : Around} (r : Room k A) (h : j ≤ k) : Room j A := ⟨r.hd, by have := r.dp; omega, by have := r.un; omega⟩
theorem Room.deeper {k : Nat} {A : Around} (r : Room (k + 1) A) (env : Env) : Room k (A.deeper env) :=
  ⟨r.hd, by have := r.dp; show A.depth + 1 + 3 * k + 5 < _; omega, by have := r.un; show A.units + 3 + 16 * k + 200 < _; omega⟩
theorem Room.in1 {k : Nat} {A : Around} (r : Room (k + 1) A) : Room k A.in1 :=
  ⟨r.hd, by have := r.dp; show A.depth + 3 * k + 5 < _; omega, by have := r.un; show A.units + 1 + 16 * k + 200 < _; omega⟩
theorem Room.depth {k : Nat} {A : Around} (r : Room k A) : A.depth < recursionLimit := by have := r.dp; omega
theorem Room.units {k : Nat} {A : Around} (r : Room k A) : A.units + 64 < cLine := by have := r.un; omega
/-! ### argument lists and displays -/
def tNil : TA := fun _ H Q => Q [] H
def tCons (ta : TE) (tr : TA) : TA := fun σ H Q => ta σ H fun x H1 => tr σ H1 fun xs H2 => Q (x :: xs) H2
section
variable {X : Cx} {e : Expr} {es : List Expr} {te : TE} {t : TA} {pos : Pos}
theorem pa_nil : PA X [] tNil := fun _ _ _ _ H Q I h => Calls.spliced_nil ⟨[], H, I, .nil, h⟩
theorem pa_cons (ha : PE X e te) (hr : PA X es t) (hs : starEach (e :: es) X.env = (false, eval e X.env) :: starEach es X.env := by rfl) : PA X (e :: es) (tCons te t) := by
  intro pos pins s σ H Q I h
  rw [hs]
  show wpAny _ _ (spliced ((false, eval e X.env) :: backTo pos (starEach es X.env))) _ _ s
  refine Calls.spliced_cons (thn (ha pins s σ H _ I h) fun u s1 ⟨x, H1, I1, r1, q1⟩ => ?_)
  exact thn (hr pos pins s1 σ H1 _ I1 q1) fun us s2 ⟨xs, H2, I2, r2, q2⟩ => ⟨x :: xs, H2, I2, .cons r1 r2, q2⟩

/-- a tuple, a list of written items -/
def tTup (t : TA) : TE := fun σ H Q => t σ H fun xs H1 => xs.length ≤ sizeLine ∧ ∀ p, H1 p = none → Q (.ref p) (upd H1 p (.tup xs))
def tLst (t : TA) : TE := fun σ H Q => t σ H fun xs H1 => xs.length ≤ sizeLine ∧ ∀ p, H1 p = none → Q (.ref p) (upd H1 p (.lst xs))
theorem pe_tup {x1} (h : PA X es t) : PE X (.Tuple es x1 pos) (tTup t) := by
  intro pins s σ H Q I hq
  refine wpAny_Tuple_spliced (thn (h pos pins s σ H _ I hq) fun us s1 ⟨xs, H1, I1, r, z, q⟩ => ⟨by rw [← r.length]; exact z, ?_⟩)
  have hf : H1 s1.heap.objs.size = none := I1.hok.fresh (Nat.le_refl _)
  refine ⟨.ref s1.heap.objs.size, upd H1 s1.heap.objs.size (.tup xs), I1.laid (t' := s1.toks) (fun b u e => Heap.get?_push_of_some _ e) (Nat.le_refl _) ?_, rfl, q _ hf⟩
  exact ⟨z, us, r, ⟨_, Heap.get?_push_size _ rfl, rfl, _, rfl⟩⟩
theorem pe_lst (h : PA X es t) : PE X (.List es pos) (tLst t) := by
  intro pins s σ H Q I hq
  refine wpAny_List_spliced (thn (h pos pins s σ H _ I hq) fun us s1 ⟨xs, H1, I1, r, z, q⟩ => ⟨by rw [← r.length]; exact z, ?_⟩)
  have hf : H1 s1.heap.objs.size = none := I1.hok.fresh (Nat.le_refl _)
  refine ⟨.ref s1.heap.objs.size, upd H1 s1.heap.objs.size (.lst xs), I1.laid (t' := s1.toks) (fun b u e => Heap.get?_push_of_some _ e) (Nat.le_refl _) ?_, rfl, q _ hf⟩
  exact ⟨z, us, 0, r, Heap.get?_push_size _ rfl⟩
end

/-! ### what a def promises -/
/-- a def's promise: the bound arguments in the parameters' order, the heap, the wanted end, the wanted exception -/
abbrev Sp := List V → Hp → VK → XK → Prop
/-- how an exception lies behind a call (file 08 gives it): the callers' frames, abstract heap and state ahead of the call, the wish, the exception, the state -/
abbrev CXT := List Env → Hp → Shared → XK → Value → Shared → Prop

/-- the state at a call -/
structure Env0 (P : Program) (w : World) (K : PySem.W.Frag) (mg : Str → Option Value) (base : Heap) (A : Around) (outer : List Env) (s : Shared) (H : Hp) : Prop where
  frames : A.frames = some outer
  mod : Mod K mg base
  bs : ∀ b o, base.get? b = some o → s.heap.get? b = some o ∧ H b = none
  bsz : base.objs.size ≤ s.heap.objs.size
  funs : s.heap.FunFrames base outer
  frf : ∀ b ∈ frs outer, H b = none
  hok : HOk P w H s.heap
  bare : AllBare s.gens
/-- a call's end -/
def CE (outer : List Env) (P : Program) (w : World) (H : Hp) (s : Shared) (Q : VK) (u : Value) (s' : Shared) : Prop :=
  ∃ v H', s'.os = s.os ∧ AllBare s'.gens ∧ Un (frs outer) [] H H' s.heap s'.heap ∧ HOk P w H' s'.heap ∧ RelV v u ∧ Q v H'
def CR (CX : CXT) (outer : List Env) (P : Program) (w : World) (H : Hp) (s : Shared) (Q : VK) (E : XK) (r : Result) (s' : Shared) : Prop :=
  match r with
  | .ok (.ret u) => CE outer P w H s Q u s'
  | .ok _ => False
  | .error e => CX outer H s E e s'
structure FnOk (P : Program) (w : World) (K : PySem.W.Frag) (mg : Str → Option Value) (base : Heap) (CX : CXT) (k : Nat) (f : Addr) (fd : FuncData) (ps : List Str) (sp : Sp) : Prop where
  len : ∀ vs H Q E, sp vs H Q E → vs.length = ps.length
  run : ∀ (A : Around) (outer : List Env) (s : Shared) (H : Hp) (args : Args) (us : List Value) (vs : List V) (Q : VK) (E : XK), Room k A → Env0 P w K mg base A outer s H → BindsTo s fd args (ps.zip us) → Vals vs us → sp vs H Q E →
    codeAny (model P w) A (.call (.ref f) args) (CR CX outer P w H s Q E) s
theorem FnOk.mono {P : Program} {w : World} {K : PySem.W.Frag} {mg : Str → Option Value} {base : Heap} {CX : CXT} {j k : Nat} {f : Addr} {fd : FuncData} {ps : List Str} {sp : Sp} (F : FnOk P w K mg base CX j f fd ps sp) (h : j ≤ k) :
    FnOk P w K mg base CX k f fd ps sp := ⟨F.len, fun A outer s H args us vs Q E hr => F.run A outer s H args us vs Q E (hr.mono h)⟩
theorem Env0.in1 {P : Program} {w : World} {K : PySem.W.Frag} {mg : Str → Option Value} {base : Heap} {A : Around} {outer : List Env} {s : Shared} {H : Hp} (e : Env0 P w K mg base A outer s H) :
    Env0 P w K mg base A.in1 outer s H := ⟨e.frames, e.mod, e.bs, e.bsz, e.funs, e.frf, e.hok, e.bare⟩

section
variable {X : Cx} {pins : List (Addr × Obj)} {σ : St} {H : Hp} {s s' : Shared}
/-- from a body: what a callee wants -/
theorem Inv.env0 (I : Inv X pins σ H s) : Env0 X.prog X.w X.K X.mg X.base X.A X.stack s H :=
  ⟨I.ok.frames, I.ok.mod, I.bs, Nat.le_trans I.ok.bsz I.sz, I.stack, I.stkFree, I.hok, I.bare⟩
/-- behind a call -/
theorem Inv.after {Q : VK} {u : Value} (I : Inv X pins σ H s) (h : CE X.stack X.prog X.w H s Q u s') : EP X pins σ Q u s' := by
  obtain ⟨v, H', os, bare, un, hok, r, q⟩ := h
  obtain ⟨hh, g, d, t, os'⟩ := s'
  obtain rfl : os' = s.os := os
  exact ⟨v, H', I.call (h' := hh) (g' := g) (d' := d) (t' := t) (ch := []) un hok bare (fun b z => absurd z (by simp)), r, q⟩
end

/-! ### calls -/
/-- f(..): the written arguments, then the defaults dvs; E: what is wanted of an exception -/
def tCall (sp : Sp) (dvs : List V) (E : XK) (t : TA) : TE := fun σ H Q => t σ H fun vs H1 => sp (vs ++ dvs) H1 Q E
/-- o.m(..) of an instance of the class at C -/
def tMeth (C : Addr) (m : Str) (sp : Sp) (dvs : List V) (E : XK) (ta : TE) (t : TA) : TE := fun σ H Q => ta σ H fun x H1 => ∃ a dx fs, x = .ref a ∧ H1 a = some (.ins C dx fs) ∧ fs.lookup m = none ∧
  t σ H1 fun vs H2 => sp (x :: (vs ++ dvs)) H2 Q E
/-- C(..): a new instance and its dict, then __init__ -/
def tMake (C : Addr) (sp : Sp) (dvs : List V) (E : XK) (t : TA) : TE := fun σ H Q => t σ H fun vs H1 => ∀ x dx, H1 x = none → H1 dx = none → dx ≠ x →
  sp (.ref x :: (vs ++ dvs)) (upd (upd H1 dx (.own x)) x (.ins C dx [])) (fun v H2 => v = .non ∧ Q (.ref x) H2) E

/-- how the parameters are bound: us the positional arguments, kw the keywords' values by name, ds the defaults that fill up -/
def Binds (K : PySem.W.Frag) (fd : FuncData) (ps : List Str) (ds : List Value) : Prop :=
  ∀ (s : Shared) (us : List Value), K.In s.heap → (us ++ ds).length = ps.length → BindsTo s fd ⟨us, []⟩ (ps.zip (us ++ ds))
/-- every parameter is given -/
theorem Binds.all {K : PySem.W.Frag} {fd : FuncData} {ps : List Str} (h : ∀ us : List Value, us.length = ps.length → bindArgs fd ⟨us, []⟩ = pure (ps.zip us)) : Binds K fd ps [] := fun s us _ hl => by
  rw [List.append_nil] at hl ⊢
  exact .of_eq (h us hl)

/-- an exception of a callee reaches what this body wants of exceptions -/
def Passes (CX : CXT) (X : Cx) (E : XK) : Prop := ∀ (pins : List (Addr × Obj)) (σ : St) (H : Hp) (s : Shared) (e : Value) (s' : Shared), Inv X pins σ H s → CX X.stack H s E e s' → X.xe e s'

section
variable {X : Cx} {CX : CXT} {k : Nat} {f C : Addr} {fd : FuncData} {ps : List Str} {sp : Sp} {dvs : List V} {ds : List Value} {E : XK} {x m : Str} {p pos apos : Pos} {e o : Expr} {es : List Expr} {ta : TE} {t : TA}

/-- the callee runs -/
theorem run_fn {pins : List (Addr × Obj)} {σ : St} {H : Hp} {s : Shared} {Q : VK} {us : List Value} {vs : List V} (F : FnOk X.prog X.w X.K X.mg X.base CX k f fd ps sp) (hr : Room k X.A) (hb : Binds X.K fd ps ds) (hd : Vals dvs ds) (hx : Passes CX X E)
    (I : Inv X pins σ H s) (r : Vals vs us) (h : sp (vs ++ dvs) H Q E) : wpAny (model X.prog X.w) X.A (call (.ref f) us) (EP X pins σ Q) X.xe s := by
  have r2 : Vals (vs ++ dvs) (us ++ ds) := r.append hd
  have hl : (us ++ ds).length = ps.length := by rw [← r2.length]; exact F.len _ _ _ _ h
  refine wpAny_call (codeAny_mono (F.run X.A X.stack s H ⟨us, []⟩ (us ++ ds) (vs ++ dvs) Q E hr I.env0 (hb s us I.kIn hl) r2 h) fun r s' hq => ?_)
  cases r with
  | error e => exact hx pins σ H s e s' I hq
  | ok fl =>
    cases fl with
    | ret u => exact I.after hq
    | next => exact False.elim hq
    | brk => exact False.elim hq
    | cont => exact False.elim hq

theorem pe_call (F : FnOk X.prog X.w X.K X.mg X.base CX k f fd ps sp) (hr : Room k X.A) (hg : Gl X x) (hm : X.mg x = some (.ref f)) (hk : PySem.W.keepIn X.K (.ref f) = true) (hb : Binds X.K fd ps ds) (hd : Vals dvs ds) (hx : Passes CX X E)
    (ha : PA X (e :: es) t) (hdb : (x == ("__debug__" : Str)) = false := by decide) (he : starEach (e :: es) X.env = (false, eval e X.env) :: starEach es X.env := by rfl) (hpl : (backTo pos (starEach es X.env)).any (·.1) = false := by rfl) :
    PE X (.Call (.Name x p) (e :: es) [] pos) (tCall sp dvs E t) := by
  intro pins s σ H Q I h
  refine wpAny_Call_Name_kw (ld_glob I hg hm ?_ hdb)
  refine PySem.W.callWith_K (h₀ := X.base) I.ok.mod.kin hk (thn (ha pos pins s σ H _ I h) fun us s1 ⟨vs, H1, I1, r, q⟩ => ⟨I1.kIn, ?_⟩) he hpl
  exact run_fn F hr hb hd hx I1 r q
/-- what a class must have to be made -/
structure Mk (K : PySem.W.Frag) (C f : Addr) : Prop where
  makes : PySem.W.makesIn K C = true
  init : PySem.W.findIn K (.ref C) "__init__" = some (some (.ref f))
  fn : PySem.W.isFn K (.ref f) = true
  kp : PySem.W.keepIn K (.ref C) = true

end

/-! ### keywords -/
/-- the values of the keywords, from the left -/
def PK (X : Cx) (kws : List Keyword) (t : TA) : Prop :=
  ∀ (pos : Pos) (pins : List (Addr × Obj)) (s : Shared) (σ : St) (H : Hp) (Q : List V → Hp → Prop), Inv X pins σ H s → t σ H Q → wpAny (model X.prog X.w) X.A (evalAll ((backToKw pos (keywordEach kws X.env)).map (·.2))) (AP X pins σ Q) X.xe s
section
variable {X : Cx} {CX : CXT} {k : Nat} {f C : Addr} {fd : FuncData} {ps ks : List Str} {sp : Sp} {E : XK} {x m : Str} {p pos apos kpos : Pos} {e o : Expr} {es : List Expr} {kws : List Keyword} {te ta : TE} {t tk : TA} {nm : Option Str}
/-- how a call with keywords binds: g puts the positional values us and the keywords' values ws (names ks) in the parameters' order, defaults among them -/
structure KBinds (K : PySem.W.Frag) (fd : FuncData) (ps ks : List Str) (g : List Value → List Value → List Value) (gV : List V → List V → List V) : Prop where
  to : ∀ (s : Shared) (us ws : List Value), K.In s.heap → (g us ws).length = ps.length → BindsTo s fd ⟨us, ks.zip ws⟩ (ps.zip (g us ws))
  rel : ∀ {vs : List V} {us : List Value} {zs : List V} {ws : List Value}, Vals vs us → Vals zs ws → Vals (gV vs zs) (g us ws)
def tCallK (sp : Sp) (gV : List V → List V → List V) (E : XK) (t tk : TA) : TE := fun σ H Q => t σ H fun vs H1 => tk σ H1 fun zs H2 => sp (gV vs zs) H2 Q E
variable {g : List Value → List Value → List Value} {gV : List V → List V → List V}
end

/-! ### a def's body keeps its promise -/
/-- names: the parameters first -/
structure FnScope (N P : List Str) (sc : Scope) : Prop where
  kind : sc.kind = .function
  co : sc.isCoroutine = false
  gen : sc.isGenerator = false
  nd : N.Nodup
  pre : N.take P.length = P
  par : ∀ x ∈ P, sc.names.lookup x = some .local ∨ sc.names.lookup x = some .cell
  nofree : ∀ y ∈ sc.names, y.2 ≠ .free

theorem bindL_out {kindOf : Str → Option NameKind} {x : Str} : ∀ {binds : List (Str × Value)} {m : Str → Option Value}, (∀ v, (x, v) ∉ binds) → bindL kindOf binds m x = m x
  | [], _, _ => rfl
  | (n, v) :: r, m, h => by
    unfold bindL
    rw [bindL_out fun w hw => h w (List.mem_cons_of_mem _ hw)]
    split
    · have : x ≠ n := by rintro rfl; exact h v List.mem_cons_self
      simp [this]
    · rfl
theorem bindC_out {kindOf : Str → Option NameKind} {x : Str} : ∀ {binds : List (Str × Value)} {m : Str → Option Value}, (∀ v, (x, v) ∉ binds) → bindC kindOf binds m x = m x
  | [], _, _ => rfl
  | (n, v) :: r, m, h => by
    unfold bindC
    rw [bindC_out fun w hw => h w (List.mem_cons_of_mem _ hw)]
    split
    · rfl
    · have : x ≠ n := by rintro rfl; exact h v List.mem_cons_self
      simp [this]
theorem bindL_get {kindOf : Str → Option NameKind} {x : Str} {v : Value} : ∀ {P : List Str} {vs : List Value} {i : Nat} {m : Str → Option Value}, P.Nodup → P[i]? = some x → vs[i]? = some v → kindOf x = some .local →
    bindL kindOf (P.zip vs) m x = some v
  | [], _, _, _, _, h, _, _ => by simp at h
  | _ :: _, [], _, _, _, _, h, _ => by simp at h
  | p :: P, w :: vs, 0, m, nd, h1, h2, hk => by
    simp at h1 h2; subst h1; subst h2
    show bindL kindOf ((p, w) :: P.zip vs) m p = _
    unfold bindL
    rw [bindL_out fun v hv => (List.nodup_cons.mp nd).1 (List.of_mem_zip hv).1, if_pos hk]
    simp
  | p :: P, w :: vs, i + 1, m, nd, h1, h2, hk => by
    show bindL kindOf ((p, w) :: P.zip vs) m x = _
    unfold bindL
    exact bindL_get (i := i) (List.nodup_cons.mp nd).2 (by simpa using h1) (by simpa using h2) hk
theorem bindC_get {kindOf : Str → Option NameKind} {x : Str} {v : Value} : ∀ {P : List Str} {vs : List Value} {i : Nat} {m : Str → Option Value}, P.Nodup → P[i]? = some x → vs[i]? = some v → kindOf x ≠ some .local →
    bindC kindOf (P.zip vs) m x = some v
  | [], _, _, _, _, h, _, _ => by simp at h
  | _ :: _, [], _, _, _, _, h, _ => by simp at h
  | p :: P, w :: vs, 0, m, nd, h1, h2, hk => by
    simp at h1 h2; subst h1; subst h2
    show bindC kindOf ((p, w) :: P.zip vs) m p = _
    unfold bindC
    rw [bindC_out fun v hv => (List.nodup_cons.mp nd).1 (List.of_mem_zip hv).1, if_neg hk]
    simp
  | p :: P, w :: vs, i + 1, m, nd, h1, h2, hk => by
    show bindC kindOf ((p, w) :: P.zip vs) m x = _
    unfold bindC
    exact bindC_get (i := i) (List.nodup_cons.mp nd).2 (by simpa using h1) (by simpa using h2) hk

/-- the names' values at the entry -/
def start (N : List Str) (vs : List V) : St := vs.map some ++ List.replicate (N.length - vs.length) none

/-- the context of a def's body, at its entry; an exception leaves the frame, then lies as CX says -/
def cxOf (CX : CXT) (P : Program) (w : World) (K : PySem.W.Frag) (mg : Str → Option Value) (base : Heap) (N : List Str) (qual : Str) (scope : Scope) (f : Addr) (cd : Value) (A : Around) (outer : List Env) (s : Shared) (H : Hp) (E : XK) : Cx where
  prog := P
  w := w
  K := K
  mg := mg
  base := base
  A := A.deeper (envOfC qual scope s.heap.objs.size f cd)
  N := N
  s₀ := s
  H₀ := H
  env := envOfC qual scope s.heap.objs.size f cd
  outer := outer
  stack := envOfC qual scope s.heap.objs.size f cd :: outer
  ex := []
  calm := true
  fn := fun _ => true
  pn := []
  xe := fun e s' => wpAny (model P w) (A.deeper (envOfC qual scope s.heap.objs.size f cd)) (leaving (envOfC qual scope s.heap.objs.size f cd) e) (fun _ s'' => CX outer H s E e s'') (fun e' s'' => CX outer H s E e' s'') s'

theorem cell_has {sc : Scope} {n : Nat} {x : Str} (h : sc.names.lookup x = some .cell) : ∃ c, (cellsFrom n sc.names []).lookup x = some c := by
  have q := PySem.W.cellsFrom_some sc.names n [] (.inl h)
  exact Option.isSome_iff_exists.mp q

theorem inv_start {CX : CXT} {P : Program} {w : World} {K : PySem.W.Frag} {mg : Str → Option Value} {base : Heap} {N ps : List Str} {qual : Str} {scope : Scope} {f : Addr} {cd : Value} {A : Around} {outer : List Env} {s s1 : Shared} {H : Hp} {E : XK} {us : List Value} {vs : List V}
    (S : FnScope N ps scope) (hd : A.handled = none) (e0 : Env0 P w K mg base A outer s H) (hl : vs.length = ps.length) (r : Vals vs us)
    (x : InCallC s s.heap.objs.size (bindL (envOfC qual scope s.heap.objs.size f cd).kindOf (ps.zip us) fun _ => none) (cellsFrom (s.heap.objs.size + 1) scope.names []) (bindC (envOfC qual scope s.heap.objs.size f cd).kindOf (ps.zip us) fun _ => none) s1) :
    Inv (cxOf CX P w K mg base N qual scope f cd A outer s H E) [] (start N vs) H s1 := by
  have hpl : ps.length ≤ N.length := by have := congrArg List.length S.pre; rw [List.length_take] at this; omega
  obtain ⟨h1, tk, rfl, hk⟩ := x.done
  have noA : ∀ b : Addr, b ∉ (cxOf CX P w K mg base N qual scope f cd A outer s H E).ex := fun b z => absurd (show b ∈ ([] : List Addr) from z) (by simp)
  refine ⟨⟨e0.mod, S.kind, rfl, rfl, Nat.le_refl _, fun y z c h1 h2 => ?_, fun y hy => ?_, fun y c _ h => ?_, fun _ => hd, Around.frames_deeper e0.frames, .inr ⟨rfl, rfl⟩, fun b z => absurd z (noA b), e0.bs, e0.bsz, fun b _ _ => noA b, fun b z => absurd z (noA b), e0.funs, e0.frf⟩,
    rfl, e0.bare, Un.kept hk, ⟨_, x.toInCall.ns, fun i y v h1 h2 h3 => ?_⟩, fun y c h => ⟨_, x.cell y c h⟩, e0.hok.fresh (Nat.le_refl _), fun y c h => ?_, fun p hp => absurd (show p ∈ ([] : List (Addr × Obj)) from hp) (by simp), e0.hok.kept hk, ?_⟩
  · exact name_of_addr x.apart (PySem.mem_of_lookup h1) (PySem.mem_of_lookup h2)
  · have hy : scope.names.lookup y = some .cell ∨ scope.names.lookup y = some .free := hy
    rcases hy with hy | hy
    · exact cell_has hy
    · exact absurd rfl (S.nofree _ (PySem.mem_of_lookup hy))
  · exact Nat.le_of_lt (x.above y c (PySem.mem_of_lookup h))
  · have hi : i < vs.length := by
      unfold start at h2
      by_cases hi : i < vs.length
      · exact hi
      · rw [List.getElem?_append_right (by simpa using hi)] at h2
        rw [List.getElem?_replicate] at h2
        split at h2 <;> cases h2
    have ha : vs[i]? = some v := by
      unfold start at h2
      rw [List.getElem?_append_left (by simpa using hi), List.getElem?_map] at h2
      cases e : vs[i]? with
      | none => rw [e] at h2; cases h2
      | some a => rw [e] at h2; cases h2; rfl
    obtain ⟨u, hu, rv⟩ := r.get ha
    have hp : ps[i]? = some y := by
      rw [← S.pre, List.getElem?_take_of_lt (by omega)]; exact h1
    have ndP : ps.Nodup := by rw [← S.pre]; exact S.nd.sublist (List.take_sublist _ _)
    refine ⟨u, rv, ?_⟩
    rcases S.par y (List.mem_of_getElem? hp) with k | k
    · exact .inl ⟨k, bindL_get ndP hp hu k⟩
    · obtain ⟨c, e⟩ := cell_has (n := s.heap.objs.size + 1) k
      refine .inr ⟨.inl k, c, e, ?_⟩
      have q := x.cell y c e
      rw [bindC_get ndP hp hu (by show scope.names.lookup y ≠ _; rw [k]; decide)] at q
      exact q
  · exact e0.hok.fresh (Nat.le_of_lt (x.above y c (PySem.mem_of_lookup h)))
  · unfold start
    show _ = N.length
    rw [List.length_append, List.length_map, List.length_replicate]
    omega

/-- THE RULE: a def (or a method) of the text, by its body. The body's reading t is chosen for each entry; it is run at the parameters' values -/
theorem fn_of {CX : CXT} {P : Program} {w : World} {K : PySem.W.Frag} {mg : Str → Option Value} {base : Heap} {k : Nat} {f : Addr} {name qual : Str} {params : Arguments} {body : List Stmt} {scope : Scope} {dV kV doc pm cdv ct oc : Value} {an od : Option Addr}
    {osl : Array (Option Value)} {N ps : List Str} {sp : Sp} (lk : K.lookup f = some ⟨oc, od, .func (PySem.W.fnOf name qual params body scope dV kV doc pm an cdv ct), osl⟩) (hcd : PySem.W.codeIn K cdv qual = true) (S : FnScope N ps scope)
    (len : ∀ vs H Q E, sp vs H Q E → vs.length = ps.length)
    (hbody : ∀ (A : Around) (outer : List Env) (s : Shared) (H : Hp) (vs : List V) (Q : VK) (E : XK), Room k (A.deeper (envOfC qual scope s.heap.objs.size f cdv)) → sp vs H Q E →
      ∃ t, PSs (cxOf CX P w K mg base N qual scope f cdv A outer s H E) body t ∧ t { nx := fun _ H' => Q .non H', rt := Q } (start N vs) H) :
    FnOk P w K mg base CX (k + 1) f (PySem.W.fnOf name qual params body scope dV kV doc pm an cdv ct) ps sp := by
  refine ⟨len, fun A outer s H args us vs Q E hr e0 hb r hsp => ?_⟩
  have hl := len _ _ _ _ hsp
  have KX : K.In s.heap := e0.mod.kin.keeps fun b o e => (e0.bs b o e).1
  have lim : s.heap.NoLimit := e0.mod.nolimit.keeps fun b o e => (e0.bs b o e).1
  have hkind : ∀ y ∈ ps.zip us, scope.names.lookup y.1 = some .local ∨ (scope.names.lookup y.1 = some .cell ∧ ((cellsFrom (s.heap.objs.size + 1) scope.names []).lookup y.1).isSome = true) := fun ⟨n, v⟩ hy => by
    rcases S.par n (List.of_mem_zip hy).1 with q | q
    · exact .inl q
    · exact .inr ⟨q, PySem.W.cellsFrom_some _ _ _ (.inl q)⟩
  refine codeAny_call_function hr.depth (KX _ _ lk) rfl S.co S.gen rfl (PySem.W.codeRec_of KX hcd) (hb _ _ _ _ ?_)
  refine wpAny_newFunctionEnv_cells S.kind hkind fun env he s1 x => ?_
  subst he
  refine ⟨lim.keeps x.toInCall.keep, codeAny_func ?_⟩
  obtain ⟨t, ht, hq⟩ := hbody A outer s H vs Q E (hr.deeper _) hsp
  have I : Inv (cxOf CX P w K mg base N qual scope f cdv A outer s H E) [] (start N vs) H s1 := inv_start S hr.hd e0 hl r x
  refine wpAny_mono (ht [] s1 (start N vs) H _ I hq) (fun fl s' hs => ?_) fun e s' hs => hs
  have fin : ∀ {σ' : St} {H' : Hp} {v : V} {u : Value}, Inv (cxOf CX P w K mg base N qual scope f cdv A outer s H E) [] σ' H' s' → RelV v u → Q v H' → CE outer P w H s Q u s' :=
    fun {σ' H' v u} J rv q => ⟨v, H', J.os, J.bare, J.base, J.hok, rv, q⟩
  cases fl with
  | ret u =>
    obtain ⟨v, σ', H', J, rv, q⟩ := hs
    exact fin J rv q
  | next =>
    obtain ⟨σ', H', J, q⟩ := hs
    exact fin (v := V.non) (u := Value.none) J rfl q
  | brk =>
    obtain ⟨_, _, _, q⟩ := hs
    exact False.elim q
  | cont =>
    obtain ⟨_, _, _, q⟩ := hs
    exact False.elim q
end L2

namespace L2
open PySem PySem.Spec PyProof.Rows
section
variable {X : Cx} {x : Str} {p pos : Pos} {e : Expr} {es : List Expr} {t : TA} {id T : String} {r : List V → Hp → VK → Prop}

def tCB (r : List V → Hp → VK → Prop) (t : TA) : TE := fun σ H Q => t σ H fun vs H1 => r vs H1 Q
/-- f(e, ..), f a built-in function -/
theorem pe_callB (hc : CallR X (.builtin id) r) (hg : Gl X x) (hm : X.mg x = none) (hv : bootBuiltins x = some (.builtin id)) (ha : PA X (e :: es) t) (hn : x ≠ "__name__" := by decide) (hdb : (x == ("__debug__" : Str)) = false := by decide)
    (he : starEach (e :: es) X.env = (false, eval e X.env) :: starEach es X.env := by rfl) (hpl : (backTo pos (starEach es X.env)).any (·.1) = false := by rfl) : PE X (.Call (.Name x p) (e :: es) [] pos) (tCB r t) := by
  intro pins s σ H Q I h
  refine wpAny_Call_Name_kw (ld_blt I hg hm hv ?_ hn hdb)
  exact PyProof.Rows.callWith_builtin1 (thn (ha pos pins s σ H _ I h) fun us s1 ⟨vs, H1, I1, r1, q1⟩ => hc pins s1 σ H1 vs us Q I1 r1 q1) he hpl
/-- T(e, ..), T a built-in type -/
theorem pe_callTy (hc : CallR X (.type T) r) (hg : Gl X x) (hm : X.mg x = none) (hv : bootBuiltins x = some (.type T)) (ha : PA X (e :: es) t) (hn : x ≠ "__name__" := by decide) (hdb : (x == ("__debug__" : Str)) = false := by decide)
    (he : starEach (e :: es) X.env = (false, eval e X.env) :: starEach es X.env := by rfl) (hpl : (backTo pos (starEach es X.env)).any (·.1) = false := by rfl) : PE X (.Call (.Name x p) (e :: es) [] pos) (tCB r t) := by
  intro pins s σ H Q I h
  refine wpAny_Call_Name_kw (ld_blt I hg hm hv ?_ hn hdb)
  exact PyProof.Rows.callWith_type1 (thn (ha pos pins s σ H _ I h) fun us s1 ⟨vs, H1, I1, r1, q1⟩ => hc pins s1 σ H1 vs us Q I1 r1 q1) he hpl
end
end L2

namespace HT
open PySem PyProof.Rows

/-- t < u of tuples of ints -/
def lexLt : List Int → List Int → Bool
  | [], [] => false
  | [], _ :: _ => true
  | _ :: _, [] => false
  | x :: xs, y :: ys => if x = y then lexLt xs ys else decide (x < y)
section
open PySem.SeqAt
open PySem.AutoSeq1 (wpAny_loadPart')
open PySem.MeetsSeq PySem.MeetsSeq2 PySem.MeetsSeq3

end

section
variable {prog : Program} {w : World} {A : Around} {E : Value → Shared → Prop} {s : Shared}

/-! ### t[a:b], not the whole -/
/-- a slice's bound as a place among n (d where it is left out) -/
def sIx (n d : Nat) : Option Int → Nat
  | none => d
  | some v => if v < 0 then (v + (n : Int)).toNat else min v.toNat n
theorem sIx_nat (n d k : Nat) : sIx n d (some (k : Int)) = min k n := by
  show (if (k : Int) < 0 then ((k : Int) + (n : Int)).toNat else min (k : Int).toNat n) = min k n
  rw [if_neg (by omega), Int.toNat_natCast]
end
end HT

namespace L2
open PySem PySem.Spec PyProof.Rows

/-! ### the parts of a slice -/
abbrev TO := St → Hp → (Option Int → Hp → Prop) → Prop
/-- a slice's part (left out, or an int) -/
def PO (X : Cx) (e : Option Expr) (t : TO) : Prop :=
  ∀ (pins : List (Addr × Obj)) (s : Shared) (σ : St) (H : Hp) (Q : Option Int → Hp → Prop), Inv X pins σ H s → t σ H Q →
    wpAny (model X.prog X.w) X.A (evalPart e X.env) (fun u s' => ∃ o H', Inv X pins σ H' s' ∧ IsPart u o ∧ Q o H') X.xe s
def tNoPart : TO := fun _ H Q => Q none H
def tPart (t : TE) : TO := fun σ H Q => t σ H fun x H1 => ∃ i, x = .int i ∧ Q (some i) H1

section
variable {X : Cx} {e : Expr} {te : TE} {lo hi : Option Expr} {tl th : TO} {pos p2 : Pos}

theorem po_none : PO X none tNoPart := by
  intro pins s σ H Q I h
  rw [evalPart_none]
  exact wpAny_pure ⟨none, H, I, .none, h⟩
theorem po_some (h : PE X e te) : PO X (some e) (tPart te) := by
  intro pins s σ H Q I hw
  rw [evalPart_some]
  refine thn (h pins s σ H _ I hw) fun u s1 ⟨x, H1, I1, r1, q1⟩ => ?_
  obtain ⟨i, rfl, q⟩ := q1
  obtain ⟨t, rfl⟩ := r1
  exact ⟨some i, H1, I1, .int i t, q⟩

/-- what a slice of a value is, by values: the slice object stands at sl -/
def SlR (X : Cx) (r : V → Option Int → Option Int → Hp → VK → Prop) : Prop :=
  ∀ (pins : List (Addr × Obj)) (s : Shared) (σ : St) (H : Hp) (x : V) (v vl vu : Value) (lo hi : Option Int) (sl : Addr) (Q : VK), Inv X pins σ H s → RelV x v → s.heap.IsSliceOf sl vl vu .none → IsPart vl lo → IsPart vu hi → r x lo hi H Q →
    ∃ T id, typeLookup (.type T) "__getitem__" = pure (some (.builtin id)) ∧ s.TypeIs v T ∧ wpAny (model X.prog X.w) X.A (getItem v (.ref sl)) (EP X pins σ Q) X.xe s
theorem SlR.or {r r' : V → Option Int → Option Int → Hp → VK → Prop} (h : SlR X r) (h' : SlR X r') : SlR X (fun x lo hi H Q => r x lo hi H Q ∨ r' x lo hi H Q) := by
  intro pins s σ H x v vl vu lo hi sl Q I rx hs pl pu q
  rcases q with q | q
  · exact h pins s σ H x v vl vu lo hi sl Q I rx hs pl pu q
  · exact h' pins s σ H x v vl vu lo hi sl Q I rx hs pl pu q
def tSl (r : V → Option Int → Option Int → Hp → VK → Prop) (te : TE) (tl th : TO) : TE := fun σ H Q => te σ H fun x H1 => tl σ H1 fun l H2 => th σ H2 fun u H3 => r x l u H3 Q
/-- a[lo:hi], any a -/
theorem pe_slice {r : V → Option Int → Option Int → Hp → VK → Prop} (hr : SlR X r) (he : PE X e te) (hl : PO X lo tl) (hu : PO X hi th) : PE X (.Subscript e (.Slice lo hi none p2) pos) (tSl r te tl th) := by
  intro pins s σ H Q I h
  refine Subscript_ (thn (he pins s σ H _ I h) fun v s1 ⟨x, H1, I1, r1, q1⟩ => ?_)
  refine wpAny_Slice (thn (hl pins s1 σ H1 _ I1 q1) fun vl s2 ⟨l, H2, I2, pl, q2⟩ => thn (hu pins s2 σ H2 _ I2 q2) fun vu s3 ⟨u, H3, I3, pu, q3⟩ => ?_)
  rw [evalPart_none]
  refine wpAny_pure ?_
  have I4 : Inv X pins σ H3 { s3 with heap := s3.heap.push { cls := .type "slice", data := .fields #[vl, vu, .none] } } := I3.kept (t' := s3.toks) fun b ob q => Heap.get?_push_of_some _ q
  obtain ⟨T, id, hT, ht, hg⟩ := hr pins { s3 with heap := s3.heap.push { cls := .type "slice", data := .fields #[vl, vu, .none] } } σ H3 x v vl vu l u s3.heap.objs.size Q I4 r1 (Heap.IsSliceOf.new ..) pl pu q3
  show wpAny (model X.prog X.w) X.A (subscriptTail e (.Slice lo hi none p2) v (.ref s3.heap.objs.size)) (EP X pins σ Q) X.xe { s3 with heap := s3.heap.push { cls := .type "slice", data := .fields #[vl, vu, .none] } }
  exact tail_any (ops := [.ref s3.heap.objs.size, v]) ht hT hg (by with_unfolding_all rfl)

/-- the items of xs[lo:hi] -/
def cutV (xs : List V) (lo hi : Option Int) : List V := (xs.drop (HT.sIx xs.length 0 lo)).take (HT.sIx xs.length xs.length hi - HT.sIx xs.length 0 lo)
theorem cutV_length (xs : List V) (lo hi : Option Int) : (cutV xs lo hi).length ≤ xs.length := by
  unfold cutV
  rw [List.length_take, List.length_drop]
  omega
/-- t[lo:hi], not the whole of it (the whole would be t itself) -/
def rSlT (K : PySem.W.Frag) : V → Option Int → Option Int → Hp → VK → Prop := fun x lo hi H Q => ∃ a xs, x = .ref a ∧ SqT K H a xs ∧
  ¬ (HT.sIx xs.length 0 lo = 0 ∧ HT.sIx xs.length xs.length hi = xs.length) ∧ ∀ p, H p = none → Q (.ref p) (upd H p (.tup (cutV xs lo hi)))
/-! ### t < u, t + u -/
def rLtT (K : PySem.W.Frag) : R2 := fun x y H Q => ∃ a b ns ms, x = .ref a ∧ y = .ref b ∧ SqT K H a (ns.map V.int) ∧ SqT K H b (ms.map V.int) ∧ Q (.bl (HT.lexLt ns ms)) H
/-- t + u, t not empty: u empty gives t itself -/
def rCatT (K : PySem.W.Frag) : R2 := fun x y H Q => ∃ a b xs ys, x = .ref a ∧ y = .ref b ∧ SqT K H a xs ∧ SqT K H b ys ∧ xs ≠ [] ∧ xs.length + ys.length ≤ sizeLine ∧
  (ys = [] → Q (.ref a) H) ∧ (ys ≠ [] → ∀ p, H p = none → Q (.ref p) (upd H p (.tup (xs ++ ys))))
end
end L2

namespace L2
open PySem PySem.Spec PyProof.Rows

/-! ### places -/
/-- the place that an index of any sign means -/
def ixN (n : Nat) (i : Int) : Option Nat := if 0 ≤ i then (if i < n then some i.toNat else none) else if -(n : Int) ≤ i then some (i + n).toNat else none
def atI {α : Type} (xs : List α) (i : Int) : Option α := (ixN xs.length i).bind fun j => xs[j]?
theorem ixN_seq {n : Nat} {i : Int} {j : Nat} (h : ixN n i = some j) : seqIndex? i n = some j ∧ j < n ∧ -(n : Int) ≤ i ∧ i < n := by
  unfold ixN at h
  by_cases h0 : 0 ≤ i
  · rw [if_pos h0] at h
    by_cases h1 : i < n
    · rw [if_pos h1] at h
      have e : i.toNat = j := Option.some.inj h
      exact ⟨by rw [seqIndex_of h0 h1, e], by omega, by omega, h1⟩
    · rw [if_neg h1] at h; cases h
  · rw [if_neg h0] at h
    by_cases h1 : -(n : Int) ≤ i
    · rw [if_pos h1] at h
      have e : (i + n).toNat = j := Option.some.inj h
      exact ⟨by rw [seqIndex_neg (by omega) h1, e], by omega, h1, by omega⟩
    · rw [if_neg h1] at h; cases h
theorem atI_get {α : Type} {xs : List α} {i : Int} {v : α} (h : atI xs i = some v) : ∃ j, seqIndex? i xs.length = some j ∧ xs[j]? = some v ∧ j < xs.length ∧ -(xs.length : Int) ≤ i ∧ i < xs.length := by
  unfold atI at h
  cases e : ixN xs.length i with
  | none => rw [e] at h; cases h
  | some j =>
    rw [e] at h
    obtain ⟨h1, h2, h3, h4⟩ := ixN_seq e
    exact ⟨j, h1, h, h2, h3, h4⟩
theorem atI_nat {α : Type} {xs : List α} {j : Nat} {v : α} (h : xs[j]? = some v) : atI xs (j : Int) = some v := by
  have hj : j < xs.length := (List.getElem?_eq_some_iff.mp h).1
  have e : ixN xs.length (j : Int) = some j := by
    unfold ixN
    rw [if_pos (by omega), if_pos (by omega)]; simp
  unfold atI; rw [e]; exact h
/-! ### what may be subscripted -/
/-- what stands as an index of a plain subscript -/
def PlainIx (b : Expr) : Prop := ∀ o i, subscripted b false o i = operate [o, i] (getItem o i)
/-- a subscript by values -/
def IxR (X : Cx) (r : R2) : Prop :=
  ∀ (value slice : Expr) (pins : List (Addr × Obj)) (s : Shared) (σ : St) (H : Hp) (x y : V) (v u : Value) (Q : VK), Inv X pins σ H s → RelV x v → RelV y u → r x y H Q →
    subscripted slice false v u = operate [v, u] (getItem v u) → wpAny (model X.prog X.w) X.A (subscriptTail value slice v u) (EP X pins σ Q) X.xe s
/-- a call of a builtin's method by values: the receiver, the arguments -/
def MtR (X : Cx) (id : String) (r : V → List V → Hp → VK → Prop) : Prop :=
  ∀ (pins : List (Addr × Obj)) (s : Shared) (σ : St) (H : Hp) (x : V) (xs : List V) (v : Value) (us : List Value) (Q : VK), Inv X pins σ H s → RelV x v → Vals xs us → r x xs H Q →
    wpAny (model X.prog X.w) X.A (call (.builtin id) (v :: us)) (EP X pins σ Q) X.xe s
section
variable {X : Cx} {a b : Expr} {ta tb : TE} {pos : Pos}
theorem IxR.or {r r' : R2} (h : IxR X r) (h' : IxR X r') : IxR X (fun x y H Q => r x y H Q ∨ r' x y H Q) := by
  intro value slice pins s σ H x y v u Q I rx ry q hs
  rcases q with q | q
  · exact h value slice pins s σ H x y v u Q I rx ry q hs
  · exact h' value slice pins s σ H x y v u Q I rx ry q hs
theorem MtR.or {id : String} {r r' : V → List V → Hp → VK → Prop} (h : MtR X id r) (h' : MtR X id r') : MtR X id (fun x xs H Q => r x xs H Q ∨ r' x xs H Q) := by
  intro pins s σ H x xs v us Q I rx rs q
  rcases q with q | q
  · exact h pins s σ H x xs v us Q I rx rs q
  · exact h' pins s σ H x xs v us Q I rx rs q
/-- a[b] -/
theorem pe_ix {r : R2} (hr : IxR X r) (ha : PE X a ta) (hb : PE X b tb) (hs : PlainIx b) : PE X (.Subscript a b pos) (tOp r ta tb) := by
  intro pins s σ H Q I h
  exact Subscript_ (binT ha hb I h fun v u s2 x y H2 I2 rx ry q => hr a b pins s2 σ H2 x y v u Q I2 rx ry q (hs _ _))

def rIxL (K : PySem.W.Frag) : R2 := fun x y H Q => ∃ p xs i v, x = .ref p ∧ y = .int i ∧ SqL K H p xs ∧ atI xs i = some v ∧ Q v H
def rIxT (K : PySem.W.Frag) : R2 := fun x y H Q => ∃ p xs i v, x = .ref p ∧ y = .int i ∧ SqT K H p xs ∧ atI xs i = some v ∧ Q v H
def rIxS : R2 := fun x y H Q => ∃ z i c, x = .str z ∧ y = .int i ∧ z.length ≤ sizeLine ∧ atI z.cps.toList i = some c ∧ Q (.str ⟨#[c]⟩) H
theorem ix_list : IxR X (rIxL X.K) := by
  intro value slice pins s σ H x y v u Q I rx ry h hs
  obtain ⟨p, xs, i, z, rfl, rfl, hq, he, q⟩ := h
  cases rx
  obtain ⟨t, rfl⟩ := ry
  obtain ⟨its, r, pl, hz⟩ := I.list hq
  obtain ⟨j, h1, h2, h3, h4, h5⟩ := atI_get he
  obtain ⟨w, ew, rw'⟩ := r.get h2
  have hl := r.length
  have hn := line63
  have fin : EP X pins σ Q w s := ⟨z, H, I, rw', q⟩
  by_cases h0 : 0 ≤ i
  · have hj : i.toNat = j := by
      rw [seqIndex_of h0 h5] at h1
      exact Option.some.inj h1
    exact item_listR pl.isList h0 (by omega) (by rw [hj]; simpa using ew) fin hs
  · have hj : (i + (its.toArray.size : Int)).toNat = j := by
      rw [seqIndex_neg (by omega) h4] at h1
      rw [List.size_toArray, ← hl]
      exact Option.some.inj h1
    exact subscriptTail_builtinR (x := w) pl.isList.typeIs slot_list_getitem.lookup
      (wpAny_getItem_list_neg (Q := fun r s' => r = w ∧ EP X pins σ Q r s') pl.isList (by omega) (by rw [List.size_toArray] <;> omega) (by omega) (by rw [hj]; simpa using ew) ⟨rfl, fin⟩) hs
theorem ix_tup : IxR X (rIxT X.K) := by
  intro value slice pins s σ H x y v u Q I rx ry h hs
  obtain ⟨p, xs, i, z, rfl, rfl, hq, he, q⟩ := h
  cases rx
  obtain ⟨t, rfl⟩ := ry
  obtain ⟨its, r, pl, hz⟩ := I.tuple hq
  obtain ⟨j, h1, h2, h3, h4, h5⟩ := atI_get he
  obtain ⟨w, ew, rw'⟩ := r.get h2
  have hl := r.length
  have hn := line63
  have fin : EP X pins σ Q w s := ⟨z, H, I, rw', q⟩
  exact subscriptTail_builtinR (x := w) pl.typeIs slot_tuple_getitem.lookup
    (getItem_tuple (j := j) (Q := fun r s' => r = w ∧ EP X pins σ Q r s') pl (by omega) (by omega) (by rw [List.size_toArray, ← hl]; exact h1) (by simpa using ew) ⟨rfl, fin⟩) hs
/-- list, tuple or str -/
def rIx (K : PySem.W.Frag) : R2 := fun x y H Q => rIxL K x y H Q ∨ rIxT K x y H Q ∨ rIxS x y H Q
theorem Inv.lst {pins : List (Addr × Obj)} {σ : St} {H : Hp} {s : Shared} {p : Addr} {xs : List V} (I : Inv X pins σ H s) (h : H p = some (.lst xs)) :
    ∃ (its : List Value) (n : Nat), Vals xs its ∧ s.heap.get? p = some { cls := .type "list", data := .seq its.toArray n } ∧ xs.length ≤ sizeLine := by
  obtain ⟨z, its, n, r, e⟩ := I.hok p _ h
  exact ⟨its, n, r, e, z⟩
def rSetL : V → V → V → Hp → (Hp → Prop) → Prop := fun o i v H Q => ∃ p xs k j, o = .ref p ∧ i = .int k ∧ H p = some (.lst xs) ∧ ixN xs.length k = some j ∧ Q (upd H p (.lst (xs.set j v)))
/-! ### slices -/
theorem slice_bounds (lo hi : Option Int) (n : Nat) : (sliceBounds lo hi none n).1 = ((HT.sIx n 0 lo : Nat) : Int) ∧ (sliceBounds lo hi none n).2.1 = ((HT.sIx n n hi : Nat) : Int) ∧ (sliceBounds lo hi none n).2.2 = 1 := by
  refine ⟨?_, ?_, rfl⟩
  · cases lo with
    | none => simp [sliceBounds, HT.sIx]
    | some i =>
      simp only [sliceBounds, HT.sIx, Option.getD_none, show (1 : Int) > 0 by decide, if_true]
      by_cases h : i < 0
      · simp only [h, if_true] <;> omega
      · simp only [h, if_false] <;> omega
  · cases hi with
    | none => simp [sliceBounds, HT.sIx]
    | some i =>
      simp only [sliceBounds, HT.sIx, Option.getD_none, show (1 : Int) > 0 by decide, if_true]
      by_cases h : i < 0
      · simp only [h, if_true] <;> omega
      · simp only [h, if_false] <;> omega
theorem slicePick_cut (its : List Value) (lo hi : Option Int) : slicePick its.toArray lo hi none = ((its.drop (HT.sIx its.length 0 lo)).take (HT.sIx its.length its.length hi - HT.sIx its.length 0 lo)).toArray := by
  obtain ⟨h1, h2, h3⟩ := slice_bounds lo hi its.toArray.size
  unfold slicePick
  rw [h1, h2, h3]
  simp only [sliceRange_one, pick_run, List.size_toArray] <;> rfl
/-- xs[lo:hi] of a list: a new list -/
def rSlL (K : PySem.W.Frag) : V → Option Int → Option Int → Hp → VK → Prop := fun x lo hi H Q => ∃ a xs, x = .ref a ∧ SqL K H a xs ∧ ∀ p, H p = none → Q (.ref p) (upd H p (.lst (cutV xs lo hi)))
theorem sl_list : SlR X (rSlL X.K) := by
  intro pins s σ H x v vl vu lo hi sl Q I rx hs pl pu h
  obtain ⟨a, xs, rfl, hx, q⟩ := h
  cases rx
  obtain ⟨its, r, ht, hz⟩ := I.list hx
  have hlen := r.length
  refine ⟨"list", _, slot_list_getitem.lookup, ht.isList.typeIs, ?_⟩
  refine wpAny_getItem_list_slice ht.isList hs pl pu .none (by simp) ?_ (by rw [List.size_toArray] <;> omega)
  rw [slicePick_cut, ← hlen]
  refine ⟨.ref s.heap.objs.size, _, I.laid (t' := s.toks) (o := .lst (cutV xs lo hi)) (fun b ob q => Heap.get?_push_of_some _ q) (Nat.le_refl _) ?_, rfl, q _ (I.hok.fresh (Nat.le_refl _))⟩
  exact ⟨Nat.le_trans (cutV_length xs lo hi) hz, _, 0, (r.drop (HT.sIx xs.length 0 lo)).take (HT.sIx xs.length xs.length hi - HT.sIx xs.length 0 lo), Heap.get?_push_size _ rfl⟩

/-! ### in, not in: flat items -/
def flatV : V → Bool
  | .non => true
  | .bl _ => true
  | .int _ => true
  | .str _ => true
  | _ => false
/-- == of flat values -/
def eqV : V → V → Bool
  | .non, .non => true
  | .bl a, .bl b => a == b
  | .bl a, .int b => (if a then 1 else 0) == b
  | .int a, .bl b => a == (if b then 1 else 0)
  | .int a, .int b => a == b
  | .str a, .str b => a == b
  | _, _ => false
theorem eqAt_V {A : Around} {s : Shared} {y x : V} {u v : Value} (ry : RelV y u) (rx : RelV x v) (fy : flatV y = true) (fx : flatV x = true) : SeqAt.EqAt A s u v (eqV y x) := by
  cases y with
  | non =>
    cases ry
    cases x with
    | non => cases rx; exact SeqAt.EqAt.same _
    | bl b => cases rx; exact SeqAt.EqAt.none_bool b
    | int b => obtain ⟨t, rfl⟩ := rx; exact SeqAt.EqAt.none_int b t
    | str b => obtain ⟨t, rfl⟩ := rx; exact SeqAt.EqAt.none_str b t
    | _ => exact absurd (show false = true from fx) Bool.false_ne_true
  | bl a =>
    cases ry
    cases x with
    | non => cases rx; exact SeqAt.EqAt.bool_none a
    | bl b => cases rx; exact SeqAt.EqAt.bool_bool a b
    | int b => obtain ⟨t, rfl⟩ := rx; exact SeqAt.EqAt.bool_int a b t
    | str b => obtain ⟨t, rfl⟩ := rx; exact SeqAt.EqAt.bool_str a b t
    | _ => exact absurd (show false = true from fx) Bool.false_ne_true
  | int a =>
    obtain ⟨t', rfl⟩ := ry
    cases x with
    | non => cases rx; exact SeqAt.EqAt.int_none a t'
    | bl b => cases rx; exact SeqAt.EqAt.int_bool a t' b
    | int b => obtain ⟨t, rfl⟩ := rx; exact SeqAt.EqAt.int_int a t' b t
    | str b => obtain ⟨t, rfl⟩ := rx; exact SeqAt.EqAt.int_str a t' b t
    | _ => exact absurd (show false = true from fx) Bool.false_ne_true
  | str a =>
    obtain ⟨t', rfl⟩ := ry
    cases x with
    | non => cases rx; exact SeqAt.EqAt.str_none a t'
    | bl b => cases rx; exact SeqAt.EqAt.str_bool a t' b
    | int b => obtain ⟨t, rfl⟩ := rx; exact SeqAt.EqAt.str_int a t' b t
    | str b => obtain ⟨t, rfl⟩ := rx; exact SeqAt.EqAt.str_str a t' b t
    | _ => exact absurd (show false = true from fx) Bool.false_ne_true
  | _ => exact absurd (show false = true from fy) Bool.false_ne_true
/-- the items' answers, read off the values (a value's own answer does not lean on its token) -/
def eqU (x : V) (u : Value) : Bool := match u with
  | .none => eqV .non x
  | .bool b => eqV (.bl b) x
  | .int i _ => eqV (.int i) x
  | .str z _ => eqV (.str z) x
  | _ => false
theorem eqU_of {x y : V} {u : Value} (r : RelV y u) (f : flatV y = true) : eqU x u = eqV y x := by
  cases y with
  | non => cases r; rfl
  | bl b => cases r; rfl
  | int i => obtain ⟨t, rfl⟩ := r; rfl
  | str z => obtain ⟨t, rfl⟩ := r; rfl
  | _ => exact absurd (show false = true from f) Bool.false_ne_true
theorem any_eqU {x : V} : ∀ {xs : List V} {us : List Value}, Vals xs us → xs.all flatV = true → us.any (eqU x) = xs.any fun y => eqV y x
  | _, _, .nil, _ => rfl
  | y :: xs, u :: us, .cons r t, f => by
    rw [List.all_cons, Bool.and_eq_true] at f
    rw [List.any_cons, List.any_cons, eqU_of r f.1, any_eqU t f.2]
theorem mem_eqAt {A : Around} {s : Shared} {x : V} {v : Value} (rx : RelV x v) (fx : flatV x = true) : ∀ {xs : List V} {us : List Value}, Vals xs us → xs.all flatV = true → ∀ u ∈ us, SeqAt.EqAt A s u v (eqU x u)
  | _, _, .nil, _ => fun u hu => by cases hu
  | y :: xs, u :: us, .cons r t, f => fun u' hu => by
    rw [List.all_cons, Bool.and_eq_true] at f
    rcases List.mem_cons.mp hu with rfl | hu
    · rw [eqU_of r f.1]; exact eqAt_V r rx f.1 fx
    · exact mem_eqAt rx fx t f.2 u' hu
def inV (x : V) (xs : List V) : Bool := xs.any fun y => eqV y x
/-- x in a list or tuple of flat items -/
def rIn (K : PySem.W.Frag) (neg : Bool) : R2 := fun x y H Q => ∃ p xs, y = .ref p ∧ (SqL K H p xs ∨ SqT K H p xs) ∧ flatV x = true ∧ xs.all flatV = true ∧ Q (.bl (if neg then !inV x xs else inV x xs)) H
theorem op_in_seq : OpR X (compareOp .In) (rIn X.K false) := by
  intro pins s σ H x y v u Q I rx ry h
  obtain ⟨p, xs, rfl, hq, fx, fs, q⟩ := h
  cases ry
  rcases hq with hq | hq
  · obtain ⟨its, r, pl, hz⟩ := I.list hq
    refine SeqAt.in_listAt (eqU x) pl.isList (fun w hw => mem_eqAt rx fx r fs w (by simpa using hw)) ⟨.bl _, H, I, rfl, ?_⟩
    rw [show its.toArray.any (eqU x) = its.any (eqU x) by simp, any_eqU r fs]
    exact q
  · obtain ⟨its, r, pl, hz⟩ := I.tuple hq
    refine SeqAt.in_tupleAt (eqU x) pl (fun w hw => mem_eqAt rx fx r fs w (by simpa using hw)) ⟨.bl _, H, I, rfl, ?_⟩
    rw [show its.toArray.any (eqU x) = its.any (eqU x) by simp, any_eqU r fs]
    exact q
/-! ### len, list(x), tuple(x) of any list or tuple that is read -/
theorem call_len_seq : CallR X (.builtin "len") (fun xs H Q => ∃ p ys, xs = [.ref p] ∧ (SqL X.K H p ys ∨ SqT X.K H p ys) ∧ Q (.int ys.length) H) := by
  intro pins s σ H xs us Q I r h
  obtain ⟨p, ys, rfl, hq, q⟩ := h
  obtain ⟨u, rfl, rx⟩ := vals1 r
  cases rx
  have hn := line63
  rcases hq with hq | hq
  · obtain ⟨its, r', pl, hz⟩ := I.list hq
    have hlen := r'.length
    exact Calls.call_len_list pl.isList (by simp only [List.size_toArray] <;> omega) ⟨.int ys.length, H, I.tok _, ⟨s.toks + 1, by rw [List.size_toArray, hlen]⟩, q⟩
  · obtain ⟨its, r', pl, hz⟩ := I.tuple hq
    have hlen := r'.length
    exact len_tuple pl (by simp only [List.size_toArray] <;> omega) ⟨.int ys.length, H, I.tok _, ⟨s.toks + 1, by rw [List.size_toArray, hlen]⟩, q⟩
theorem CallR.or {f : Value} {r r' : List V → Hp → VK → Prop} (h : CallR X f r) (h' : CallR X f r') : CallR X f (fun xs H Q => r xs H Q ∨ r' xs H Q) := by
  intro pins s σ H xs us Q I rs q
  rcases q with q | q
  · exact h pins s σ H xs us Q I rs q
  · exact h' pins s σ H xs us Q I rs q
/-! ### the call of a builtin's method: o.m(..) -/
/-- the value is of that builtin type -/
def tyV (K : PySem.W.Frag) (T : String) (x : V) (H : Hp) : Prop := match x with
  | .str _ => T = "str"
  | .int _ => T = "int"
  | .ref p => (T = "list" ∧ ∃ xs, SqL K H p xs) ∨ (T = "tuple" ∧ ∃ o, K.lookup p = some o ∧ o.cls = .type "tuple" ∧ o.dict = none) ∨
      (T = "dict" ∧ ∃ kvs, H p = some (.dK kvs)) ∨ (T = "set" ∧ ∃ S n, H p = some (.set S n))
  | _ => False
theorem tyV_is {pins : List (Addr × Obj)} {σ : St} {H : Hp} {s : Shared} {T : String} {x : V} {v : Value} (I : Inv X pins σ H s) (r : RelV x v) (ty : tyV X.K T x H) :
    s.TypeIs v T ∧ ∀ a, v = .ref a → ∃ ob, s.heap.get? a = some ob ∧ ob.dict = none := by
  cases x with
  | str z =>
    obtain ⟨t, rfl⟩ := r
    cases (show T = "str" from ty)
    exact ⟨typeIs_str s z t, fun _ e => nomatch e⟩
  | int i =>
    obtain ⟨t, rfl⟩ := r
    cases (show T = "int" from ty)
    exact ⟨typeIs_int s i t, fun _ e => nomatch e⟩
  | ref p =>
    cases r
    rcases ty with ⟨rfl, xs, hq⟩ | ⟨rfl, o, hk, hc, hd⟩ | ⟨rfl, hk⟩ | ⟨rfl, S, n, hk⟩
    · obtain ⟨its, _, pl, _⟩ := I.list hq
      refine ⟨pl.isList.typeIs, fun a e => ?_⟩
      cases e
      obtain ⟨o, n, e, c, hd, _⟩ := pl
      exact ⟨o, e, hd⟩
    · refine ⟨⟨o, I.kIn p o hk, hc⟩, fun a e => ?_⟩
      cases e
      exact ⟨o, I.kIn _ o hk, hd⟩
    · have z : ∃ o, s.heap.get? p = some o ∧ o.ExactDict := by
        obtain ⟨kvs, hk⟩ := hk
        obtain ⟨_, _, _, _, o, _, _, e, ex, _⟩ := I.hok p _ hk
        exact ⟨o, e, ex⟩
      obtain ⟨o, e, ex⟩ := z
      refine ⟨⟨o, e, ex.1⟩, fun a e2 => ?_⟩
      cases e2
      exact ⟨o, e, ex.2.1⟩
    · obtain ⟨o, _, _, _, e, ex, _⟩ := I.hok p _ hk
      refine ⟨⟨o, e, ex.1⟩, fun a e2 => ?_⟩
      cases e2
      exact ⟨o, e, ex.2.1⟩
  | _ => exact False.elim ty
def tBM0 (K : PySem.W.Frag) (T : String) (r : V → List V → Hp → VK → Prop) (to : TE) : TE := fun σ H Q => to σ H fun x H1 => tyV K T x H1 ∧ r x [] H1 Q
def tBM (K : PySem.W.Frag) (T : String) (r : V → List V → Hp → VK → Prop) (to : TE) (t : TA) : TE := fun σ H Q => to σ H fun x H1 => tyV K T x H1 ∧ t σ H1 fun xs H2 => r x xs H2 Q
variable {o e : Expr} {es : List Expr} {to : TE} {t : TA} {name : Str} {apos cpos : Pos} {T id : String} {r : V → List V → Hp → VK → Prop}
theorem pe_bm (pa : PlainAttrs T) (slot : Slot T name id) (hty : typeOf (.builtin id) = pure (.type "method_descriptor")) (hm : MtR X id r) (ho : PE X o to) (ha : PA X (e :: es) t)
    (hbase : attributeBase o name X.env (eval o X.env) = eval o X.env := by rfl)
    (hfew : ((backTo cpos (starEach (e :: es) X.env)).all (fun x => !x.1) && (backToKw cpos (keywordEach [] X.env)).all (fun x => x.1.isSome)
      && decide ((e :: es).length + ([] : List Keyword).length + (if ([] : List Keyword).isEmpty then 0 else 1) < 30)) = true := by rfl)
    (hline : (apos.endLine == cpos.line) = true := by rfl) (hs : starEach (e :: es) X.env = (false, eval e X.env) :: starEach es X.env := by rfl) (hplain : (backTo cpos (starEach es X.env)).any (·.1) = false := by rfl) :
    PE X (.Call (.Attribute o name apos) (e :: es) [] cpos) (tBM X.K T r to t) := by
  intro pins s σ H Q I h
  refine wpAny_Call_method_late hbase hfew hline rfl (thn (ho pins s σ H _ I h) fun v s1 ⟨x, H1, I1, r1, ty, q1⟩ => ?_)
  obtain ⟨h1, h2⟩ := tyV_is I1 r1 ty
  refine ⟨T, id, pa, slot, hty, h1, h2, ?_⟩
  have hA := ha cpos pins s1 σ H1 _ I1 q1
  rw [hs] at hA ⊢
  refine Calls.callWith_builtin (by show (false || (backTo cpos (starEach es X.env)).any (·.1)) = false; rw [hplain] <;> rfl) (Calls.evalArgs_plain ?_)
  exact thn hA fun us s2 ⟨vs, H2, I2, r2, q2⟩ => hm pins s2 σ H2 x vs v us Q I2 r1 r2 q2
/- xs.append(e), list.index on a module's tuple .. are MtR facts of 06m -/
end
end L2

namespace L2
open PySem PySem.Spec PyProof.Rows

def MtM (X : Cx) (id : String) (r : V → List V → Hp → VK → Prop) : Prop :=
  ∀ (pins : List (Addr × Obj)) (s : Shared) (σ : St) (H : Hp) (x : V) (xs : List V) (v : Value) (us : List Value) (Q : VK), Inv X pins σ H s → RelV x v → Vals xs us → r x xs H Q →
    wpAny (model X.prog X.w) X.A (call (.builtin id) (v :: us)) (EP X pins σ Q) X.xe s

/-! ### lists of values -/
theorem Vals.one : ∀ {x : V} {us : List Value}, Vals [x] us → ∃ u, us = [u] ∧ RelV x u
  | _, _, .cons r .nil => ⟨_, rfl, r⟩
theorem Vals.two : ∀ {x y : V} {us : List Value}, Vals [x, y] us → ∃ u v, us = [u, v] ∧ RelV x u ∧ RelV y v
  | _, _, _, .cons r (.cons q .nil) => ⟨_, _, rfl, r, q⟩
theorem Vals.zero : ∀ {us : List Value}, Vals [] us → us = []
  | _, .nil => rfl
theorem Vals.dropLast {xs : List V} {us : List Value} (h : Vals xs us) : Vals xs.dropLast us.dropLast := by
  induction h with
  | nil => exact .nil
  | cons r t ih =>
    cases t with
    | nil => exact .nil
    | cons q t' => exact .cons r ih
theorem Vals.eraseIdx : ∀ {xs : List V} {us : List Value} (i : Nat), Vals xs us → Vals (xs.eraseIdx i) (us.eraseIdx i)
  | _, _, _, .nil => .nil
  | _, _, 0, .cons _ t => t
  | _, _, i + 1, .cons r t => .cons r (Vals.eraseIdx i t)
theorem Vals.reverse {xs : List V} {us : List Value} (h : Vals xs us) : Vals xs.reverse us.reverse := by
  induction h with
  | nil => exact .nil
  | cons r t ih => rw [List.reverse_cons, List.reverse_cons]; exact Vals.append ih (.cons r .nil)
section
variable {X : Cx} {pins : List (Addr × Obj)} {σ : St} {H : Hp} {s : Shared} {l b : Addr} {xs ys zs : List V}

/-! ### the two steps: a tracked list is rewritten, a new list is laid -/
theorem Inv.lset {its its' : List Value} {n : Nat} {f : Array Value → Array Value} {t' : Nat} (I : Inv X pins σ H s) (hH : H l = some (.lst xs))
    (e : s.heap.get? l = some { cls := .type "list", data := .seq its.toArray n }) (hf : f its.toArray = its'.toArray) (hv : Vals ys its') (hz : ys.length ≤ sizeLine) :
    Inv X pins σ (upd H l (.lst ys)) { s with heap := s.heap.update l (Obj.mapSeq f), toks := t' } := by
  have q := PySem.IsL.update e f
  rw [hf] at q
  refine I.write (x := l) (e := l) (by rw [hH]; exact trivial) (.inl rfl) (fun b' u hb hu => (Heap.get?_update_other s.heap (Obj.mapSeq f) (Ne.symm hb)).trans hu) ⟨_, q⟩ ?_
  exact ⟨hz, its', _, hv, q⟩
theorem Inv.fresh (I : Inv X pins σ H s) : H s.heap.objs.size = none := I.hok.fresh (Nat.le_refl _)
theorem Inv.lstM (I : Inv X pins σ H s) (hH : H l = some (.lst xs)) : xs.length ≤ sizeLine ∧ ∃ (its : List Value) (n : Nat), Vals xs its ∧ xs.length = its.length ∧ s.heap.get? l = some { cls := .type "list", data := .seq its.toArray n } := by
  obtain ⟨z, its, n, r, e⟩ := I.hok l _ hH
  exact ⟨z, its, n, r, r.length, e⟩

end

section
variable {X : Cx}

/-! ### methods -/
def rAppend : V → List V → Hp → VK → Prop := fun x vs H Q => ∃ l xs y, x = .ref l ∧ vs = [y] ∧ H l = some (.lst xs) ∧ xs.length < sizeLine ∧ Q .non (upd H l (.lst (xs ++ [y])))
theorem mt_append : MtM X "list.append" rAppend := by
  intro pins s σ H x vs v us Q I rx rv h
  obtain ⟨l, xs, y, rfl, rfl, hH, hz, q⟩ := h
  cases rx
  obtain ⟨u, rfl, ru⟩ := rv.one
  obtain ⟨z, its, n, r, hl, e⟩ := I.lstM hH
  refine call_meets F.slot_list_append ⟨_, e, rfl⟩ F.entry_list_append (F.args_list_append_2 _ _) (PySem.list_append l its.toArray n u (by rw [List.size_toArray]; omega)) ⟨e, ?_⟩
  refine ⟨.non, _, I.lset (its' := its ++ [u]) hH e (by simp) (r.append (.cons ru .nil)) ?_, rfl, q⟩
  rw [List.length_append, List.length_singleton]
  omega

def rExtend : V → List V → Hp → VK → Prop := fun x vs H Q => ∃ l b xs zs, x = .ref l ∧ vs = [.ref b] ∧ H l = some (.lst xs) ∧ H b = some (.lst zs) ∧ xs.length + zs.length ≤ sizeLine ∧ Q .non (upd H l (.lst (xs ++ zs)))
def rPop : V → List V → Hp → VK → Prop := fun x vs H Q => ∃ l xs y, x = .ref l ∧ vs = [] ∧ H l = some (.lst xs) ∧ xs[xs.length - 1]? = some y ∧ Q y (upd H l (.lst xs.dropLast))
def rPopAt : V → List V → Hp → VK → Prop := fun x vs H Q => ∃ l xs i k y, x = .ref l ∧ vs = [.int i] ∧ H l = some (.lst xs) ∧ -(2 ^ 63) ≤ i ∧ i < 2 ^ 63 ∧ seqIndex? i xs.length = some k ∧ xs[k]? = some y ∧ Q y (upd H l (.lst (xs.eraseIdx k)))
def rReverse : V → List V → Hp → VK → Prop := fun x vs H Q => ∃ l xs, x = .ref l ∧ vs = [] ∧ H l = some (.lst xs) ∧ Q .non (upd H l (.lst xs.reverse))
def rClear : V → List V → Hp → VK → Prop := fun x vs H Q => ∃ l xs, x = .ref l ∧ vs = [] ∧ H l = some (.lst xs) ∧ Q .non (upd H l (.lst []))
/-! ### list + list, list += list, list * int -/
def rCat : R2 := fun x y H Q => ∃ l b xs zs, x = .ref l ∧ y = .ref b ∧ H l = some (.lst xs) ∧ H b = some (.lst zs) ∧ xs.length + zs.length ≤ sizeLine ∧ ∀ p, H p = none → Q (.ref p) (upd H p (.lst (xs ++ zs)))
/-- a list times an int (a negative one is nothing) -/
def rRep : R2 := fun x y H Q => ∃ l k xs, x = .ref l ∧ y = .int k ∧ H l = some (.lst xs) ∧ -(2 ^ 63) ≤ k ∧ k < 2 ^ 63 ∧ xs.length * k.toNat ≤ sizeLine ∧
  ∀ p, H p = none → Q (.ref p) (upd H p (.lst (List.replicate k.toNat xs).flatten))
end

/-! ### xs[a:b] = ys -/
section
variable {prog : Program} {w : World} {A : Around} {E : Value → Shared → Prop} {s : Shared}
set_option maxRecDepth 100000 in
end

section
variable {X : Cx}
end
end L2

namespace Att
open PySem PySem.W PySem.Calls PyProof.Rows

/-! ### the script -/
theorem ints_of_wellAll {P : Params} {h : Heap} : ∀ (ns : List Int) (vs : List Value), WellAll P h vs (ns.map WData.int) → IntsAre vs ns := by
  intro ns
  induction ns with
  | nil =>
    intro vs w
    rw [List.map_nil] at w
    cases w
    exact .nil
  | cons n ns ih =>
    intro vs w
    rw [List.map_cons] at w
    cases w with
    | cons a b =>
      cases a
      exact .cons _ _ (ih _ b)

theorem script_of {l : OpenLaw} {n : Nat} (hn : l.most = some n) {P : Params} {h : Heap} {args : List WData} {vals : List Value}
    (hpre : l.row.toRowW.claim.pre args = true) (hwl : WellAll P h vals args) :
    ∃ a vs ns, vals = [Value.ref a] ∧ args = [WData.list (ns.map WData.int)] ∧ h.get? a = some { cls := .type "list", data := .seq vs.toArray } ∧ IntsAre vs ns ∧ ns.length ≤ n := by
  have hsh : WShape.hasAll [] args [.list .int] = true := (pre_splitW hpre).1
  have hc : l.pre.holds [] { args := args } = true := (pre_splitW hpre).2
  obtain ⟨d, r, rfl, h1, h2⟩ := hasAllW_cons hsh
  obtain rfl := hasAllW_nil h2
  obtain ⟨xs, rfl, h3⟩ := hasW_list h1
  obtain ⟨ns, rfl⟩ := items_int h3
  have hlen : ns.length ≤ n := by
    unfold OpenLaw.pre at hc
    have h4 : (WTm.not (.lt (.lit (.int (n : Int))) (.len (.arg 0)))).holds [] { args := [.list (ns.map .int)] } = true := by
      have h4 := (holds_andW hc).1
      rw [hn] at h4
      exact h4
    have h5 := condW_of h4 (w_not (w_lt w_lit (w_len_list (w_arg rfl))))
    rw [List.length_map] at h5
    refine Nat.le_of_not_lt fun q => ?_
    have q' : (n : Int) < ((ns.length : Nat) : Int) := by omega
    first
      | (rw [decide_eq_true q'] at h5; exact absurd h5 (by decide))
      | (simp at h5; omega)
  cases hwl with
  | cons w1 w2 =>
    cases w2
    cases w1 with
    | list ho hall => exact ⟨_, _, ns, rfl, rfl, ho, ints_of_wellAll ns _ hall, hlen⟩

theorem post_true (l : OpenLaw) (args : List WData) : l.row.toRowW.claim.post args (.bool true) args = true :=
  postW_of (r := l.row.toRowW) (X := (true == true))
    (show WShape.has [] (.bool true) .bool = true by first | rfl | decide | simp [WShape.has, WShape.arms, WShape.armsAll])
    (show (WTm.eq .res (.lit (.bool true))).value [] { args := args, res := some (.bool true), after := args } = some (.bool (true == true)) from w_eq_bool (w_res rfl) w_lit) rfl

/-- the same from a codeAny of the CALL (for a layer whose function contracts speak of calls) -/
theorem attach_call {l : OpenLaw} {n : Nat} {q : Program} {loose : List Str} {XP : (Str → Option Value) → Heap → Prop} {YP : World → Heap → Prop} {d : DefRec}
    (hn : l.most = some n) (hdf : d.params.defaults = [])
    (call : ∀ (w : World) (s₀ s₁ : Shared) (mg mb : Str → Option Value) (fa : Addr) (o : Obj) (pm cd doc : Value) (a : Addr) (vs : List Value) (ns : List Int),
      Ground q loose [] XP w s₀ mg mb s₁.heap → YP w s₁.heap →
      s₁.heap.get? fa = some o → o.data = .func (docDef d.name d.params d.body d.scope pm cd doc) → s₁.heap.CodeRec cd d.name → mg d.name = some (.ref fa) →
      s₁.heap.get? a = some { cls := .type "list", data := .seq vs.toArray } → IntsAre vs ns → ns.length ≤ n → s₁.gens = #[] →
      codeAny (model l.prog w) callerA (.call (.ref fa) ⟨[.ref a], []⟩) (fun r s' => r = .ok (.ret (.bool true)) ∧ OldK s₁.heap s'.heap ∧ s'.os = s₁.os ∧ AllBare s'.gens) s₁) :
    WalkO q loose XP YP l.row.toRowW d [] (fun f vs => PySem.call f vs) := by
  intro w s₀ s₁ mg mb G Y fa o pm cd doc dV kV ho hd hcd hD hmg hg args vals as hpre hlay hrd hwl hlo
  obtain rfl : dV = .none := Dflts.none hD hdf
  obtain rfl : kV = .none := Dflts.noKw hD
  obtain ⟨a, vs, ns, rfl, rfl, hobj, hints, hlen⟩ := script_of hn hpre hwl
  refine enter_call (codeAny_mono (call w s₀ s₁ mg mb fa o pm cd doc a vs ns G Y ho (fd_plain hd) hcd hmg hobj hints hlen hg) fun r s' hq => ?_)
  obtain ⟨rfl, h2, h3, h4⟩ := hq
  exact ⟨.inl ⟨.bool true, .bool true, [], rfl, fun _ => rfl, .bool true, post_true l _, fun _ => ⟨List.Pairwise.nil, fun _ hm => (nomatch hm)⟩⟩, h2, h3, h4⟩

/-! ### rules over ANY heap (no ledger) from facts about the written part K: the library's own take a ledger (News) for what they write -/
section
variable {prog : Program} {w : World} {A : Around} {E : Value → Shared → Prop} {s : Shared} {K : Frag}

/-! the whole heap as the ledger: makes every rule that writes through a ledger a rule over any heap -/
def noObjs (h : Heap) : Heap := { h with objs := #[] }
def ledger (h : Heap) (L d : Addr) : List (Addr × Obj) := (List.range h.objs.size).filterMap fun a => if a = L ∨ a = d then none else (h.get? a).map fun o => (a, o)
end
end Att

namespace L2
open PySem PySem.Spec PyProof.Rows

theorem vals_ints : ∀ {vs : List Value} {ns : List Int}, IntsAre vs ns → Vals (ns.map V.int) vs
  | _, _, .nil => .nil
  | _, _, .cons n t h => .cons ⟨t, rfl⟩ (vals_ints h)

/-- nothing is tracked but the script, known to the object (or it is an object of the module) -/
def Only (H : Hp) : Prop := ∀ b, H b = none ∨ ∃ o xs, H b = some (.frz o (.lst xs))

/-- THE HEAD: the law's promise, at the heap behind the top. F, the promise of the law's def, may use that base is part of the heap (so K.In base, base.Ns mainGlobals mg stand in Mod) -/
theorem law_call {P : Program} {w : World} {K : PySem.W.Frag} {mg mb : Str → Option Value} {CX : CXT} {k : Nat} {fa a : Addr} {fd : FuncData} {x : Str} {sp : Sp} {s₁ : Shared} {vs : List Value} {ns : List Int}
    (KX : K.In s₁.heap) (hns : s₁.heap.Ns mainGlobals mg) (hb : s₁.heap.Ns builtinsNs mb) (hbb : ∀ x : Str, x ≠ "__name__" → mb x = bootBuiltins x) (hlim : s₁.heap.NoLimit) (hg : s₁.gens = #[])
    (ha : s₁.heap.get? a = some { cls := .type "list", data := .seq vs.toArray }) (hi : IntsAre vs ns) (hl : ns.length ≤ sizeLine) (hr : Room k callerA)
    (F : ∀ base : Heap, K.In base → base.Ns mainGlobals mg → FnOk P w K mg base CX k fa fd [x] sp) (hbind : ∀ (s : Shared) (u : Value), BindsTo s fd ⟨[u], []⟩ [(x, u)])
    (hsp : ∀ H : Hp, Only H → SqL K H a (ns.map V.int) → sp [.ref a] H (fun v _ => v = .bl true) fun _ _ _ => False)
    (hCX : ∀ H e s', CX [] H s₁ (fun _ _ _ => False) e s' → False) :
    codeAny (model P w) callerA (.call (.ref fa) ⟨[.ref a], []⟩) (fun r s' => r = .ok (.ret (.bool true)) ∧ OldK s₁.heap s'.heap ∧ s'.os = s₁.os ∧ AllBare s'.gens) s₁ := by
  have rv := vals_ints hi
  have lenV := hi.length
  -- from an abstract heap in which nothing but the script may be tracked
  have core : ∀ H : Hp, Only H → SqL K H a (ns.map V.int) → HOk P w H s₁.heap → (∀ b, H b ≠ none → b = a) → (H a ≠ none → K.lookup a = none) →
      codeAny (model P w) callerA (.call (.ref fa) ⟨[.ref a], []⟩) (fun r s' => r = .ok (.ret (.bool true)) ∧ OldK s₁.heap s'.heap ∧ s'.os = s₁.os ∧ AllBare s'.gens) s₁ := by
    intro H hO hS hok hA hK
    have base_of : ∀ {b : Addr} {o : Obj}, s₁.heap.get? b = some o → H b = none → (hidT s₁.heap H).get? b = some o := fun e n => hidT_get e n
    have noA : ∀ {b : Addr} {o : Obj} {es : Array DictEntry} {ep : Nat}, s₁.heap.get? b = some o → o.data = .dict es ep → H b = none := fun {b o es ep} e d => by
      cases q : H b with
      | none => rfl
      | some u =>
        have e' : b = a := hA b (by rw [q]; simp)
        subst e'
        rw [ha] at e; cases e
        have d' : Data.seq vs.toArray _ = Data.dict es ep := d
        cases d'
    have nsK : ∀ {b : Addr} {m : Str → Option Value}, s₁.heap.Ns b m → (hidT s₁.heap H).Ns b m := fun {b m} ⟨o, es, ep, e, d, r⟩ => ⟨o, es, ep, base_of e (noA e d), d, r⟩
    have hKb : K.In (hidT s₁.heap H) := fun b o e => base_of (KX b o e) (by
      cases q : H b with
      | none => rfl
      | some u =>
        have e' : b = a := hA b (by rw [q]; simp)
        subst e'
        rw [hK (by rw [q]; simp)] at e; cases e)
    have hM : Mod K mg (hidT s₁.heap H) := ⟨hKb, nsK hns, ⟨mb, nsK hb, hbb⟩, let ⟨mc, h1, h2⟩ := hlim; ⟨mc, nsK h1, h2⟩⟩
    have e0 : Env0 P w K mg (hidT s₁.heap H) callerA [] s₁ H := ⟨rfl, hM, fun b o e => of_hidT e, Nat.le_of_eq (hidT_size _ _), trivial, fun b hb => absurd (show b ∈ ([] : List Addr) from hb) (by simp), hok, .of_eq hg⟩
    refine codeAny_mono ((F _ hKb (nsK hns)).run callerA [] s₁ H ⟨[.ref a], []⟩ [.ref a] [.ref a] _ _ hr e0 (hbind s₁ (.ref a)) (.cons rfl .nil) (hsp H hO hS)) fun r s' h => ?_
    cases r with
    | error e => exact (hCX H e s' h).elim
    | ok fl =>
      cases fl with
      | next => exact False.elim h
      | brk => exact False.elim h
      | cont => exact False.elim h
      | ret u =>
        obtain ⟨v, H', os, bare, un, hok', r', q⟩ := h
        have q' : v = .bl true := q
        subst q'
        obtain rfl : u = Value.bool true := r'
        refine ⟨rfl, OldK.of_keep fun b o e => ?_, os, bare⟩
        cases q : H b with
        | none => exact un.keep b o e q (by intro z; exact absurd (show b ∈ ([] : List Addr) from z) (by simp)) (by simp)
        | some u =>
          rcases hO b with z | ⟨ob, xs, z⟩
          · rw [q] at z; cases z
          · have z2 := un.frzs b ob _ z
            obtain ⟨e1, _⟩ := hok b _ z
            obtain ⟨e2, _⟩ := hok' b _ z2
            rw [e] at e1; cases e1
            exact e2
  cases hk : K.lookup a with
  | some o =>
    -- the script is one of the module's own objects
    have e := KX a o hk
    rw [ha] at e
    cases e
    refine core (fun _ => none) (fun _ => .inl rfl) (.inr ⟨_, vs.toArray, _, hk, rfl, rfl, rfl, by rw [List.size_toArray, lenV]; exact hl, by simpa using rv⟩) (fun b u z => by have z' : (none : Option HO) = some u := z; cases z') (fun b z => absurd rfl z) fun z => absurd rfl z
  | none =>
    refine core (fun b => if b = a then some (.frz { cls := .type "list", data := .seq vs.toArray } (.lst (ns.map V.int))) else none) (fun b => ?_) (.inl (.inr ⟨{ cls := .type "list", data := .seq vs.toArray }, if_pos rfl⟩)) (fun b u z => ?_) (fun b z => ?_) fun _ => hk
    · by_cases hb : b = a
      · exact .inr ⟨_, _, if_pos hb⟩
      · exact .inl (if_neg hb)
    · by_cases hb : b = a
      · have z' := (if_pos hb).symm.trans z
        cases z'
        subst hb
        exact ⟨ha, by rw [List.length_map]; exact hl, vs, _, rv, ha⟩
      · have z' := (if_neg hb).symm.trans z
        cases z'
    · by_cases hb : b = a
      · exact hb
      · exact absurd (if_neg hb) z
end L2

namespace L2
open PySem PySem.Spec PyProof.Rows

abbrev KOf {K : PySem.W.Frag} {h : Heap} (_ : K.In h) : PySem.W.Frag := K

/-- the goal that k_head leaves (case hc), from the law's promise. F gives the function object fd (K's own) once, then the promise over every base -/
theorem walk_of {l : PySem.W.OpenLaw} {n k : Nat} {q : Program} {loose : List Str} {XP : (Str → Option Value) → Heap → Prop} {YP : World → Heap → Prop} {d : DefRec} {K : Params → PySem.W.Frag} {CX : World → CXT} {sp : World → Sp} {x : Str}
    (hn : l.most = some n) (hn2 : n ≤ sizeLine) (hdf : d.params.defaults = []) (hr : Room k callerA)
    (hY : ∀ (w : World) (h : Heap), YP w h → (K w.params).In h)
    (F : ∀ (w : World) (mg : Str → Option Value) (fa : Addr) (h : Heap), (K w.params).In h → h.Ns mainGlobals mg → mg d.name = some (.ref fa) →
      ∃ fd : FuncData, (∀ (s : Shared) (u : Value), BindsTo s fd ⟨[u], []⟩ [(x, u)]) ∧
        ∀ base : Heap, (K w.params).In base → base.Ns mainGlobals mg → FnOk l.prog w (K w.params) mg base (CX w) k fa fd [x] (sp w))
    (hsp : ∀ (w : World) (H : Hp) (a : Addr) (ns : List Int), ns.length ≤ n → Only H → SqL (K w.params) H a (ns.map V.int) → sp w [.ref a] H (fun v _ => v = .bl true) fun _ _ _ => False)
    (hCX : ∀ (w : World) (H : Hp) (s : Shared) (e : Value) (s' : Shared), CX w [] H s (fun _ _ _ => False) e s' → False) :
    PySem.W.WalkO q loose XP YP l.row.toRowW d [] (fun f vs => PySem.call f vs) := by
  refine Att.attach_call hn hdf fun w s₀ s₁ mg mb fa o pm cd doc a vs ns G Y ho hd hcd hmg hobj hints hlen hg => ?_
  have KX := hY w _ Y
  obtain ⟨fd, hb, hF⟩ := F w mg fa _ KX G.T.g hmg
  exact law_call KX G.T.g G.T.b G.T.builtins G.T.nolimit hg hobj hints (Nat.le_trans hlen hn2) hr hF hb (fun H hO hS => hsp w H a ns hlen hO hS) fun H e s' => hCX w H s₁ e s'
end L2



/-! SHORT WORDS over the layer: a def of the text, its body, what a loop and a test want. -/
namespace L2
open PySem PySem.Spec PyProof.Rows

/-! ### the text by places -/
/-- the j-th statement of a class's body -/
def inClass (s : Stmt) (j : Nat) : Stmt := match s with
  | .ClassDef _ _ _ body _ _ _ _ _ _ _ => body.getD j (.Pass ⟨0, 0, 0, 0⟩)
  | _ => .Pass ⟨0, 0, 0, 0⟩
def defArgs (s : Stmt) : Arguments := match s with
  | .FunctionDef _ a _ _ _ _ _ _ _ _ => a
  | _ => { posonlyargs := [], args := [], vararg := none, kwonlyargs := [], kw_defaults := [], kwarg := none, defaults := [] }
def defBody (s : Stmt) : List Stmt := match s with
  | .FunctionDef _ _ b _ _ _ _ _ _ _ => b
  | _ => []
def defScope (s : Stmt) : Scope := match s with
  | .FunctionDef _ _ _ _ _ _ sc _ _ _ => sc
  | _ => { kind := .function, names := [], isGenerator := false, isCoroutine := false }

/-! ### no exception leaves a def -/
abbrev CX0 : CXT := fun _ _ _ _ _ _ => False
abbrev E0 : XK := fun _ _ _ => False
theorem pass0 {X : Cx} : Passes CX0 X E0 := fun _ _ _ _ _ _ _ h => h.elim

/-! ### a def (or method) of the text as it stands behind the top -/
structure Fun (K : PySem.W.Frag) (x qual : Str) (st : Stmt) (f : Addr) (fd : FuncData) : Prop where
  ex : ∃ (oc : Value) (od : Option Addr) (kV doc pm : Value) (an : Option Addr) (cdv ct : Value) (osl : Array (Option Value)),
    fd = PySem.W.fnOf x qual (defArgs st) (defBody st) (defScope st) .none kV doc pm an cdv ct ∧ K.lookup f = some ⟨oc, od, .func fd, osl⟩ ∧ PySem.W.codeIn K cdv qual = true
  kp : PySem.W.keepIn K (.ref f) = true
section
variable {P : Program} {w : World} {K : PySem.W.Frag} {mg : Str → Option Value} {base : Heap}
/-- THE RULE for a def: its body as a term of rules, and the reading of that term -/
theorem Fun.ok {x qual : Str} {st : Stmt} {f : Addr} {fd : FuncData} {N ps : List Str} {k : Nat} {sp : Sp} (F : Fun K x qual st f fd) (S : FnScope N ps (defScope st)) (len : ∀ vs H Q E, sp vs H Q E → vs.length = ps.length)
    (hbody : ∀ (cdv : Value) (A : Around) (outer : List Env) (s : Shared) (H : Hp) (vs : List V) (Q : VK) (E : XK), Room k (A.deeper (envOfC qual (defScope st) s.heap.objs.size f cdv)) → sp vs H Q E →
      ∃ t, PSs (cxOf CX0 P w K mg base N qual (defScope st) f cdv A outer s H E).nox (defBody st) t ∧ t { nx := fun _ H' => Q .non H', rt := Q } (start N vs) H) : FnOk P w K mg base CX0 (k + 1) f fd ps sp := by
  obtain ⟨oc, od, kV, doc, pm, an, cdv, ct, osl, rfl, lk, hcd⟩ := F.ex
  refine fn_of lk hcd S len fun A outer s H vs Q E hr hsp => ?_
  obtain ⟨t, h, q⟩ := hbody cdv A outer s H vs Q E hr hsp
  exact ⟨t, h.nox, q⟩
/-- how its arguments bind (no defaults): h is «fun _ _ _ _ _ _ us hl => match us, hl with | [_, _], _ => rfl», one _ a parameter -/
theorem Fun.binds {x qual : Str} {st : Stmt} {f : Addr} {fd : FuncData} {ps : List Str} (F : Fun K x qual st f fd)
    (h : ∀ (kV doc pm : Value) (an : Option Addr) (cdv ct : Value) (us : List Value), us.length = ps.length → bindArgs (PySem.W.fnOf x qual (defArgs st) (defBody st) (defScope st) .none kV doc pm an cdv ct) ⟨us, []⟩ = pure (ps.zip us)) : Binds K fd ps [] := by
  obtain ⟨oc, od, kV, doc, pm, an, cdv, ct, osl, rfl, lk, hcd⟩ := F.ex
  exact .all (h kV doc pm an cdv ct)
theorem fun_mk {x qual : Str} {st : Stmt} {f : Addr} {oc : Value} {od an : Option Addr} {osl : Array (Option Value)} {kV doc pm cdv ct : Value} (l : K.lookup f = some ⟨oc, od, .func (PySem.W.fnOf x qual (defArgs st) (defBody st) (defScope st) .none kV doc pm an cdv ct), osl⟩)
    (c : PySem.W.codeIn K cdv qual = true) (k : PySem.W.keepIn K (.ref f) = true) : Fun K x qual st f (PySem.W.fnOf x qual (defArgs st) (defBody st) (defScope st) .none kV doc pm an cdv ct) := ⟨⟨oc, od, kV, doc, pm, an, cdv, ct, osl, rfl, l, c⟩, k⟩
end
/-! ### expressions in short: the name that stands in the i-th slot -/
section
variable {X : Cx}
theorem pv (i : Nat) {x : Str} {pos : Pos} (hN : X.N[i]? = some x := by rfl) (hv : Vis X.env.scope x := by first | exact Or.inl rfl | exact Or.inr (Or.inl rfl) | exact Or.inr (Or.inr rfl)) (hd : (x == ("__debug__" : Str)) = false := by decide)
    (hcd : (x == ("__classdict__" : Str)) = false := by decide) : PE X (.Name x pos) (tVar i) := pe_var hN hv hd hcd
end

/-! ### tests -/
theorem iteF {A B : Prop} (h : B) : if false = true then A else B := by
  rw [if_neg Bool.false_ne_true]
  exact h
theorem iteT {A B : Prop} (h : A) : if true = true then A else B := by
  rw [if_pos rfl]
  exact h
/-! ### heaps -/
/-- all that was tracked is as it was -/
def Same (H H' : Hp) : Prop := ∀ b o, H b = some o → H' b = some o
theorem Same.refl (H : Hp) : Same H H := fun _ _ h => h
theorem Same.trans {H H1 H2 : Hp} (a : Same H H1) (b : Same H1 H2) : Same H H2 := fun c o h => b c o (a c o h)
theorem Same.free {H H' : Hp} (e : Same H H') {l : Addr} (h : H' l = Option.none) : H l = Option.none := by
  cases q : H l with
  | none => rfl
  | some o =>
    rw [e l o q] at h
    cases h
theorem Same.seq {K : PySem.W.Frag} {H H' : Hp} {a : Addr} {xs : List V} (e : Same H H') (h : SqL K H a xs) : SqL K H' a xs := by
  rcases h with (h | ⟨o, h⟩) | h
  · exact .inl (.inl (e _ _ h))
  · exact .inl (.inr ⟨o, e _ _ h⟩)
  · exact .inr h

end L2
namespace L2
open PySem PySem.Spec PyProof.Rows

/-! ### what a call made and dropped may be forgotten -/
theorem ObjOk.swap {P : Program} {w : World} {H H' : Hp} {h h' : Heap} {a : Addr} {o : HO} (x : ObjOk P w H h a o) (y : ObjOk P w H' h' a o) : ObjOk P w H h' a o := by
  induction o with
  | ins C dx fs => exact ⟨x.1, y.2⟩
  | frz ob u ih => exact ⟨y.1, ih x.2 y.2⟩
  | _ => exact y
theorem HOk.forget {P : Program} {w : World} {H H' : Hp} {h h' : Heap} (a : HOk P w H h) (b : HOk P w H' h') (s : Same H H') : HOk P w H h' := fun x o e => (a x o e).swap (b x o (s x o e))
theorem Un.forget {fs ex : List Addr} {H H' : Hp} {h h' : Heap} (u : Un fs ex H H' h h') : Un fs ex H H h h' :=
  ⟨u.keep, u.slot, fun _ _ _ n _ => n, u.there, fun _ _ q => q, fun _ _ _ q => q, fun b ps q => ⟨#[], by rw [q]; simp⟩⟩
theorem FnOk.forget {P : Program} {w : World} {K : PySem.W.Frag} {mg : Str → Option Value} {base : Heap} {CX : CXT} {k : Nat} {f : Addr} {fd : FuncData} {ps : List Str} {sp sp' : Sp} (F : FnOk P w K mg base CX k f fd ps sp)
    (h : ∀ vs H Q E, sp' vs H Q E → sp vs H (fun v H' => Same H H' ∧ Q v H) E) : FnOk P w K mg base CX k f fd ps sp' where
  len := fun vs H Q E q => F.len _ _ _ _ (h _ _ _ _ q)
  run := fun A outer s H args us vs Q E hr e0 hb hv hs => by
    refine codeAny_mono (F.run A outer s H args us vs _ E hr e0 hb hv (h _ _ _ _ hs)) fun r s' q => ?_
    cases r with
    | error e => exact q
    | ok fl =>
      cases fl with
      | ret u =>
        obtain ⟨v, H', os, bare, un, hok, rv, sm, qv⟩ := q
        exact ⟨v, H, os, bare, un.forget, e0.hok.forget hok sm, rv, qv⟩
      | next => exact q
      | brk => exact q
      | cont => exact q

/-! ### a def of the text, a def that keeps a promise -/
structure Src (K : PySem.W.Frag) (mg : Str → Option Value) (x : Str) (st : Stmt) (ps : List Str) : Prop where
  ex : ∃ (f : Addr) (fd : FuncData), Fun K x x st f fd ∧ mg x = some (.ref f) ∧ ∀ us : List Value, us.length = ps.length → bindArgs fd ⟨us, []⟩ = pure (ps.zip us)
structure Def (P : Program) (w : World) (K : PySem.W.Frag) (mg : Str → Option Value) (base : Heap) (k : Nat) (x : Str) (ps : List Str) (sp : Sp) : Prop where
  ex : ∃ (f : Addr) (fd : FuncData), FnOk P w K mg base CX0 k f fd ps sp ∧ mg x = some (.ref f) ∧ PySem.W.keepIn K (.ref f) = true ∧ (∀ us : List Value, us.length = ps.length → bindArgs fd ⟨us, []⟩ = pure (ps.zip us)) ∧
    ∃ o, K.lookup f = some o ∧ o.data = .func fd
section
variable {P : Program} {w : World} {K : PySem.W.Frag} {mg : Str → Option Value} {base : Heap} {x : Str} {st : Stmt} {N ps : List Str} {k : Nat} {sp : Sp}
theorem Src.ok (S : Src K mg x st ps) (sc : FnScope N ps (defScope st)) (len : ∀ vs H Q E, sp vs H Q E → vs.length = ps.length)
    (hbody : ∀ (f : Addr) (cdv : Value) (A : Around) (outer : List Env) (s : Shared) (H : Hp) (vs : List V) (Q : VK) (E : XK), Room k (A.deeper (envOfC x (defScope st) s.heap.objs.size f cdv)) → sp vs H Q E →
      ∃ t, PSs (cxOf CX0 P w K mg base N x (defScope st) f cdv A outer s H E).nox (defBody st) t ∧ t { nx := fun _ H' => Q .non H', rt := Q } (start N vs) H) : Def P w K mg base (k + 1) x ps sp := by
  obtain ⟨f, fd, F, hm, hb⟩ := S.ex
  refine ⟨f, fd, F.ok sc len (fun cdv => hbody f cdv), hm, F.kp, hb, ?_⟩
  obtain ⟨oc, od, kV, doc, pm, an, cdv, ct, osl, e, lk, hcd⟩ := F.ex
  exact ⟨_, lk, rfl⟩
/-- .. what it made is dropped -/
theorem Src.okF (S : Src K mg x st ps) (sc : FnScope N ps (defScope st)) (len : ∀ vs H Q E, sp vs H Q E → vs.length = ps.length)
    (hbody : ∀ (f : Addr) (cdv : Value) (A : Around) (outer : List Env) (s : Shared) (H : Hp) (vs : List V) (Q : VK) (E : XK), Room k (A.deeper (envOfC x (defScope st) s.heap.objs.size f cdv)) → sp vs H Q E →
      ∃ t, PSs (cxOf CX0 P w K mg base N x (defScope st) f cdv A outer s H E).nox (defBody st) t ∧ t { nx := fun _ H' => Same H H' ∧ Q .non H, rt := fun v H' => Same H H' ∧ Q v H } (start N vs) H) : Def P w K mg base (k + 1) x ps sp := by
  obtain ⟨f, fd, F, hm, hb⟩ := S.ex
  have G : FnOk P w K mg base CX0 (k + 1) f fd ps (fun vs H R E => ∃ Q, sp vs H Q E ∧ R = fun v H' => Same H H' ∧ Q v H) :=
    F.ok sc (fun vs H R E ⟨Q, h, _⟩ => len vs H Q E h) fun cdv A outer s H vs R E hr ⟨Q, h, e⟩ => by
      subst e
      exact hbody f cdv A outer s H vs Q E hr h
  refine ⟨f, fd, G.forget fun vs H Q E h => ⟨Q, h, rfl⟩, hm, F.kp, hb, ?_⟩
  obtain ⟨oc, od, kV, doc, pm, an, cdv, ct, osl, e, lk, hcd⟩ := F.ex
  exact ⟨_, lk, rfl⟩
theorem src_mk {h : Heap} {f : Addr} {oc : Value} {od an : Option Addr} {osl : Array (Option Value)} {kV doc pm cdv ct : Value} (X : K.In h) (G : h.Ns mainGlobals mg) (a : PySem.W.nsIn K mainGlobals x = some (some (.ref f)))
    (l : K.lookup f = some ⟨oc, od, .func (PySem.W.fnOf x x (defArgs st) (defBody st) (defScope st) .none kV doc pm an cdv ct), osl⟩) (c : PySem.W.codeIn K cdv x = true) (k : PySem.W.keepIn K (.ref f) = true)
    (hb : ∀ us : List Value, us.length = ps.length → bindArgs (PySem.W.fnOf x x (defArgs st) (defBody st) (defScope st) .none kV doc pm an cdv ct) ⟨us, []⟩ = pure (ps.zip us)) : Src K mg x st ps :=
  ⟨f, _, fun_mk l c k, PySem.W.mg_of X G a, hb⟩
theorem gint_mk {h : Heap} {i : Int} {t : Tok} (X : K.In h) (G : h.Ns mainGlobals mg) (a : PySem.W.nsIn K mainGlobals x = some (some (.int i t))) : ∃ t, mg x = some (.int i t) := ⟨t, PySem.W.mg_of X G a⟩
theorem gtup_mk {h : Heap} {p : Addr} {od : Option Addr} {its : Array Value} {n : Nat} {sl : Array (Option Value)} {xs : List V} (X : K.In h) (G : h.Ns mainGlobals mg) (a : PySem.W.nsIn K mainGlobals x = some (some (.ref p)))
    (l : K.lookup p = some ⟨.type "tuple", od, .seq its n, sl⟩) (r : Vals xs its.toList) (z : its.size ≤ sizeLine) : ∃ a, mg x = some (.ref a) ∧ ∀ H, SqT K H a xs :=
  ⟨p, PySem.W.mg_of X G a, fun H => .inr ⟨_, its, n, l, rfl, rfl, z, r⟩⟩
end
/-- the goal that k_head leaves, from the law's promise -/
theorem walk_def {l : PySem.W.OpenLaw} {lv : Nat} {q : Program} {loose : List Str} {XP : (Str → Option Value) → Heap → Prop} {YP : World → Heap → Prop} {d : DefRec} {K : Params → PySem.W.Frag} {sp : PySem.W.Frag → Sp} {x : Str} {st : Stmt}
    (hn : l.most = some 63) (hdf : d.params.defaults = []) (hnm : d.name = "law") (hr : Room lv callerA)
    (hY : ∀ (w : World) (h : Heap), YP w h → (K w.params).In h)
    (F : ∀ (w : World) (mg : Str → Option Value) (h : Heap), (K w.params).In h → h.Ns mainGlobals mg →
      Src (K w.params) mg "law" st [x] ∧ ∀ base : Heap, Def l.prog w (K w.params) mg base lv "law" [x] (sp (K w.params)))
    (hsp : ∀ (K : PySem.W.Frag) (H : Hp) (a : Addr) (ns : List Int), ns.length ≤ 63 → SqL K H a (ns.map V.int) → sp K [.ref a] H (fun v _ => v = .bl true) fun _ _ _ => False) :
    PySem.W.WalkO q loose XP YP l.row.toRowW d [] (fun f vs => PySem.call f vs) := by
  refine L2.walk_of (n := 63) (k := lv) (x := x) (CX := fun _ => CX0) (sp := fun w => sp (K w.params)) hn (by decide) hdf hr hY ?_ (fun w H a ns h1 h2 h3 => hsp (K w.params) H a ns h1 h3) fun _ _ _ _ _ z => z
  intro w mg fa h KX G hmg
  obtain ⟨S, D⟩ := F w mg h KX G
  obtain ⟨f, fd, Fn, hm, hb⟩ := S.ex
  obtain ⟨oc, od, kV, doc, pm, an, cdv, ct, osl, e, lk, hcd⟩ := Fn.ex
  refine ⟨fd, fun s u => .of_eq (hb [u] rfl), fun base _ _ => ?_⟩
  obtain ⟨f', fd', ok, hm', _, _, o, lk', ho⟩ := (D base).ex
  rw [hnm, hm] at hmg
  rw [hm] at hm'
  cases hmg
  cases hm'
  rw [lk] at lk'
  cases lk'
  cases ho
  exact ok

/-! ### rules of ours -/
section
variable {X : Cx} {x : Str} {p pos : Pos} {e : Expr} {es : List Expr} {t : TA} {j k : Nat} {ps : List Str} {sp : Sp}
theorem pe_fn (D : Def X.prog X.w X.K X.mg X.base j x ps sp) (hr : Room k X.A) (ha : PA X (e :: es) t) (hg : Gl X x := by rfl) (hj : j ≤ k := by decide) (hdb : (x == ("__debug__" : Str)) = false := by decide)
    (he : starEach (e :: es) X.env = (false, eval e X.env) :: starEach es X.env := by rfl) (hpl : (backTo pos (starEach es X.env)).any (·.1) = false := by rfl) :
    PE X (.Call (.Name x p) (e :: es) [] pos) (tCall sp [] E0 t) := by
  obtain ⟨f, fd, F, hm, hk, hb, _⟩ := D.ex
  exact pe_call F (hr.mono hj) hg hm hk (.all hb) .nil pass0 ha hdb he hpl
theorem pe_gint {i : Int} (h : ∃ t, X.mg x = some (.int i t)) (hg : Gl X x := by rfl) (hd : (x == ("__debug__" : Str)) = false := by decide) : PE X (.Name x pos) (tC (.int i)) := by
  obtain ⟨t, h⟩ := h
  exact pe_glob hg h ⟨t, rfl⟩ hd
def tGT (K : PySem.W.Frag) (xs : List V) : TE := fun _ H Q => ∀ a, (∀ H, SqT K H a xs) → Q (.ref a) H
theorem pe_gtup {xs : List V} (h : ∃ a, X.mg x = some (.ref a) ∧ ∀ H, SqT X.K H a xs) (hg : Gl X x := by rfl) (hd : (x == ("__debug__" : Str)) = false := by decide) : PE X (.Name x pos) (tGT X.K xs) := by
  obtain ⟨a, h, hs⟩ := h
  intro pins s σ H Q I hq
  exact pe_glob (v := .ref a) hg h rfl hd pins s σ H Q I (hq a hs)
theorem call_isinst : CallR X (.builtin "isinstance") (fun xs H Q => ∃ x t n b, xs = [x, .ty n] ∧ TyOf X.K H x t ∧ PySem.W.kitOne X.K t (.type n) = some b ∧ Q (.bl b) H) := by
  intro pins s σ H xs us Q I r h
  obtain ⟨x, t, n, b, rfl, ty, e, q⟩ := h
  obtain ⟨u, w', rfl, rx, rn⟩ := vals2 r
  cases rn
  exact isinst_ok I rx ty e fun tk => ⟨.bl b, H, I.tok tk, rfl, q⟩
end
/-! ### tests -/
theorem ifI {a b : Int} {A B : Prop} (h1 : a = b → A) (h2 : ¬ a = b → B) : if decide (V.int a = V.int b) = true then A else B := by
  by_cases h : a = b
  · rw [if_pos (by rw [h]; simp)]; exact h1 h
  · rw [if_neg (by simpa using h)]; exact h2 h
theorem ifNI {a b : Int} {A B : Prop} (h1 : ¬ a = b → A) (h2 : a = b → B) : if (!decide (V.int a = V.int b)) = true then A else B := by
  by_cases h : a = b
  · rw [if_neg (by rw [h]; simp)]; exact h2 h
  · rw [if_pos (by simpa using h)]; exact h1 h
theorem ifD {p A B : Prop} [Decidable p] (h1 : p → A) (h2 : ¬ p → B) : if decide p = true then A else B := by
  by_cases h : p
  · rw [if_pos (by simpa using h)]; exact h1 h
  · rw [if_neg (by simpa using h)]; exact h2 h
theorem ifB {c : Bool} {A B : Prop} (h1 : c = true → A) (h2 : c = false → B) : if c = true then A else B := by
  cases c with
  | true => rw [if_pos rfl]; exact h1 rfl
  | false => rw [if_neg Bool.false_ne_true]; exact h2 rfl
theorem dI {a b : Int} : decide (V.int a = V.int b) = decide (a = b) := by
  by_cases h : a = b <;> simp [h]
/-! ### a statement whose end is told by a word of one's own -/
def tCut (t : TS) : TS := fun D σ H => ∃ Mid : St → Hp → Prop, t { D with nx := Mid } σ H ∧ ∀ σ' H', Mid σ' H' → D.nx σ' H'
theorem ty_int {K : PySem.W.Frag} {H : Hp} {x : V} (h : TyOf K H x (.type "int")) : ∃ i, x = .int i := by
  generalize e : Value.type "int" = t at h
  cases h with
  | int i => exact ⟨i, rfl⟩
  | ins => cases e
  | _ => injection e with e; exact absurd e (by decide)
theorem int_ty {K : PySem.W.Frag} {H : Hp} {i : Int} {T : String} (h : TyOf K H (.int i) (.type T)) : T = "int" := by
  cases h
  rfl
end L2
namespace L2
open PySem PySem.Spec PyProof.Rows
/-! ### list comprehensions with one clause -/
theorem noE {α : Type} {M : Model} {A : Around} {s : Shared} {t : Sem α} {Q : α → Shared → Prop} {E : Value → Shared → Prop} (h : wpAny M A t Q (fun _ _ => False) s) : wpAny M A t Q E s := wpAny_mono h (fun _ _ q => q) fun _ _ z => z.elim
section
variable {prog : Program} {w : World} {A : Around} {R : Result → Shared → Prop} {s : Shared}
/-- a turn: the item, then (where the test holds) the element, put to the list -/
theorem comp_loop {elt target iter : Expr} {scope : Scope} {pos : Pos} {it acc : Value} {env : Env} (I : Nat → Shared → Prop)
    (turn : ∀ n s, I n s → wpAny (model prog w) A (pyNext it) (fun r s₁ => match r with
      | none => R (.ok .next) s₁
      | some v => wpAny (model prog w) A (letOwnedTupleGo target it v) (fun _ s₂ => wpAny (model prog w) A (assign target env v) (fun _ s₃ => wpAny (model prog w) A (eval elt env) (fun y s₄ =>
          wpAny (model prog w) A (call (.builtin "list.append") [acc, y]) (fun _ s₅ => ∃ m, m < n ∧ I m s₅) (fun _ _ => False) s₄) (fun _ _ => False) s₃) (fun _ _ => False) s₂) (fun _ _ => False) s₁) (fun _ _ => False) s)
    (n : Nat) (h : I n s) : codeAny (model prog w) A (.compLoop (.ListComp elt [⟨target, iter, [], 0⟩] scope pos) 0 it acc env) R s := by
  refine codeAny_loop rfl I (fun n s hI => ?_) n h
  show wpAny _ _ (Sem.onRaise (compTurn (.ListComp elt [⟨target, iter, [], 0⟩] scope pos) 0 it acc env) _) _ _ s
  refine wpAny_noted (noE ?_)
  rw [compTurn_list1]
  refine wpAny_bind (wpAny_standAt (wpAny_bind (wpAny_mono (turn n s hI) (fun r s₁ h₁ => ?_) fun _ _ z => z)))
  cases r with
  | none => exact wpAny_pure h₁
  | some v =>
    refine wpAny_bind (wpAny_mono h₁ (fun _ s₂ h₂ => ?_) fun _ _ z => z)
    refine wpAny_bind (wpAny_mono h₂ (fun _ s₃ h₃ => ?_) fun _ _ z => z)
    refine wpAny_bind (wpAny_bind (wpAny_mono h₃ (fun y s₄ h₄ => ?_) fun _ _ z => z))
    refine wpAny_bind (wpAny_mono h₄ (fun _ s₅ h₅ => ?_) fun _ _ z => z)
    exact wpAny_pure (wpAny_pure ⟨rfl, h₅⟩)
end
/-- the cells that the block takes over -/
def closOf (sc : Scope) (env : Env) : List (Str × Addr) := (sc.names.filterMap fun p => if p.2 == .free then (env.cells.lookup p.1).map fun c => (p.1, c) else none).reverse
/-- the block's run: its frame's dict, the state and heap ahead of it, pins, iterators -/
structure Blk where
  C : Addr
  s : Shared
  H : Hp
  pn : List (Addr × Obj)
  ex : List Addr
def Cx.block (X : Cx) (sc : Scope) (x : Str) (ix : List Nat) (b : Blk) : Cx where
  prog := X.prog
  w := X.w
  K := X.K
  mg := X.mg
  base := X.base
  A := X.A
  N := x :: ix.map fun i => X.N.getD i x
  s₀ := b.s
  H₀ := b.H
  env := compEnvC sc (closOf sc X.env) b.C X.env
  outer := X.stack
  stack := X.stack
  ex := b.ex
  fn := fun _ => false
  calm := X.calm
  pn := b.pn
  xe := fun _ _ => False
def capts (σ : St) (ix : List Nat) : St := ix.map fun i => σ.getD i none
def CapOk (X : Cx) (sc : Scope) (x : Str) (i : Nat) : Prop :=
  (X.env.kindOf (X.N.getD i x) = some .cell ∨ X.env.kindOf (X.N.getD i x) = some .free) ∧ ((relabel sc X.env).names.lookup (X.N.getD i x) = some .cell ∨ (relabel sc X.env).names.lookup (X.N.getD i x) = some .free) ∧
    (closOf sc X.env).lookup (X.N.getD i x) = X.env.cells.lookup (X.N.getD i x)
def CapsOk (X : Cx) (sc : Scope) (x : Str) : List Nat → Prop
  | [] => True
  | i :: r => CapOk X sc x i ∧ CapsOk X sc x r
theorem CapsOk.get {X : Cx} {sc : Scope} {x : Str} : ∀ {ix : List Nat}, CapsOk X sc x ix → ∀ i ∈ ix, CapOk X sc x i
  | [], _, _, h => nomatch h
  | _ :: _, h, _, hi => (List.mem_cons.mp hi).elim (fun e => e ▸ h.1) fun z => CapsOk.get h.2 _ z
def SubOk (cells : List (Str × Addr)) : List (Str × Addr) → Prop
  | [] => True
  | p :: r => cells.lookup p.1 = some p.2 ∧ SubOk cells r
theorem SubOk.get {cells : List (Str × Addr)} : ∀ {cl : List (Str × Addr)}, SubOk cells cl → ∀ y c, cl.lookup y = some c → cells.lookup y = some c
  | [], _, _, _, h => by simp at h
  | p :: r, h, y, c, e => by
    rw [List.lookup_cons] at e
    cases q : y == p.1 with
    | true =>
      rw [q] at e
      have e1 : p.2 = c := Option.some.inj e
      rw [eq_of_beq q, ← e1]
      exact h.1
    | false =>
      rw [q] at e
      exact SubOk.get h.2 y c e
def HasOk (cl : List (Str × Addr)) : List (Str × NameKind) → Prop
  | [] => True
  | p :: r => (p.2 = .cell ∨ p.2 = .free → ∃ c, cl.lookup p.1 = some c) ∧ HasOk cl r
theorem HasOk.get {cl : List (Str × Addr)} : ∀ {ns : List (Str × NameKind)}, HasOk cl ns → ∀ p ∈ ns, p.2 = .cell ∨ p.2 = .free → ∃ c, cl.lookup p.1 = some c
  | [], _, _, h => nomatch h
  | _ :: _, h, _, hp => (List.mem_cons.mp hp).elim (fun e => e ▸ h.1) fun z => HasOk.get h.2 _ z
structure CompOk (X : Cx) (sc : Scope) (x : Str) (ix : List Nat) : Prop where
  clos : closureFor sc X.env = pure (closOf sc X.env)
  cell : ∀ y ∈ sc.names, y.2 ≠ .cell
  kind : sc.kind = .function
  names : ∀ y ∈ sc.names, y.2 = .local → sc.names.lookup y.1 = some .local
  var : sc.names.lookup x = some .local
  nd : (x :: ix.map fun i => X.N.getD i x).Nodup
  cap : CapsOk X sc x ix
  sub : SubOk X.env.cells (closOf sc X.env)
  has : HasOk (closOf sc X.env) (relabel sc X.env).names
section
variable {X : Cx} {pins : List (Addr × Obj)} {σ : St} {H : Hp} {s : Shared} {sc : Scope} {x : Str} {ix : List Nat} {fp : List Addr}
theorem block_ok (I : Inv X pins σ H s) (O : CompOk X sc x ix) (hf : ∀ b ∈ fp, FpOk X pins H b) (hx : ∀ b ∈ fp, ∃ o, s.heap.get? b = some o) : (X.block sc x ix ⟨s.heap.objs.size, s, H, X.pn ++ pins, fp⟩).Ok where
  mod := I.ok.mod
  kind := O.kind
  glob := I.ok.glob
  blt := I.ok.blt
  above := Nat.le_refl _
  inj := fun y z c h1 h2 => I.ok.inj y z c (O.sub.get y c h1) (O.sub.get z c h2)
  has := fun y h => by
    have h' : (relabel sc X.env).names.lookup y = some .cell ∨ (relabel sc X.env).names.lookup y = some .free := h
    rcases h' with h' | h'
    · exact O.has.get _ (PySem.mem_of_lookup h') (.inl rfl)
    · exact O.has.get _ (PySem.mem_of_lookup h') (.inr rfl)
  cab := fun _ _ h => absurd (show false = true from h) Bool.false_ne_true
  hd := I.ok.hd
  frames := I.ok.frames
  stk := .inl rfl
  exf := fun b hb => by
    obtain ⟨o, e⟩ := hx b hb
    exact ⟨Nat.ne_of_lt (Heap.lt_size e), fun y c h => (hf b hb).2.2.2.2.1 y c (O.sub.get y c h)⟩
  bs := I.bs
  bsz := Nat.le_trans I.ok.bsz I.sz
  noex := fun b o e hb => by
    rcases (hf b hb).2.2.2.1 with z | z
    · exact I.ok.noex b o e z
    · exact absurd (Nat.lt_of_lt_of_le (Heap.lt_size e) (Nat.le_trans I.ok.bsz z)) (Nat.lt_irrefl _)
  exfs := fun b hb z => (List.mem_cons.mp (I.stkSub b z)).elim (hf b hb).2.1 (hf b hb).2.2.1
  funs := I.stack
  frf := I.stkFree
theorem block_inv {h₁ : Heap} {m : Str → Option Value} {tk : Nat} (I : Inv X pins σ H s) (O : CompOk X sc x ix) (hf : ∀ b ∈ fp, FpOk X pins H b) (hx : ∀ b ∈ fp, ∃ o, s.heap.get? b = some o)
    (hn : h₁.Ns s.heap.objs.size m) (keep : ∀ b o, s.heap.get? b = some o → h₁.get? b = some o) :
    Inv (X.block sc x ix ⟨s.heap.objs.size, s, H, X.pn ++ pins, fp⟩) [] (none :: capts σ ix) H { s with heap := h₁, toks := tk } := by
  refine ⟨block_ok I O hf hx, rfl, I.bare, Un.kept keep, ⟨m, hn, fun i y v e1 e2 _ => ?_⟩, fun y c h => ?_, I.hok.fresh (Nat.le_refl _), fun y c h => I.freeC y c (O.sub.get y c h), fun p hp => ?_, I.hok.kept keep, ?_⟩
  · cases i with
    | zero => cases e2
    | succ j =>
      have e1' : (ix.map fun i => X.N.getD i x)[j]? = some y := e1
      have e2' : (capts σ ix)[j]? = some (some v) := e2
      unfold capts at e2'
      rw [List.getElem?_map] at e1' e2'
      cases q : ix[j]? with
      | none => rw [q] at e1'; cases e1'
      | some i =>
        rw [q] at e1' e2'
        have e3 : X.N.getD i x = y := Option.some.inj e1'
        have e4 : σ.getD i none = some v := Option.some.inj e2'
        obtain ⟨c1, c2, c3⟩ := O.cap.get i (List.mem_of_getElem? q)
        rw [e3] at c1 c2 c3
        have e5 : σ[i]? = some (some v) := by
          rw [List.getD_eq_getElem?_getD] at e4
          cases z : σ[i]? with
          | none => rw [z] at e4; cases e4
          | some a => rw [z] at e4; exact congrArg some e4
        have hl : i < X.N.length := by
          rw [← I.len]
          exact (List.getElem?_eq_some_iff.mp e5).1
        have e6 : X.N[i]? = some y := by
          rw [List.getD_eq_getElem?_getD, List.getElem?_eq_getElem hl] at e3
          rw [List.getElem?_eq_getElem hl]
          exact congrArg some e3
        obtain ⟨m0, _, l0⟩ := I.loc
        have vis : Vis X.env.scope y := by
          rcases c1 with z | z
          · exact .inr (.inl z)
          · exact .inr (.inr z)
        obtain ⟨u, ru, lu⟩ := l0 i y v e6 e5 vis
        refine ⟨u, ru, ?_⟩
        rcases lu with ⟨k, _⟩ | ⟨_, c, hc, o, ho, hd⟩
        · rcases c1 with z | z
          · rw [z] at k; cases k
          · rw [z] at k; cases k
        · exact .inr ⟨c2, c, c3.trans hc, o, keep c o ho, hd⟩
  · obtain ⟨v, o, ho, hd⟩ := I.cell y c (O.sub.get y c h)
    exact ⟨v, o, keep c o ho, hd⟩
  · have hp' : p ∈ X.pn ++ pins := by
      rcases List.mem_append.mp hp with z | z
      · exact z
      · cases z
    obtain ⟨e, n, ne, nf, d⟩ := I.pin p hp'
    exact ⟨keep _ _ e, n, Nat.ne_of_lt (Heap.lt_size e), fun z => (List.mem_cons.mp (I.stkSub _ z)).elim ne nf, d⟩
  · show (none :: capts σ ix).length = (x :: ix.map fun i => X.N.getD i x).length
    simp [capts]
/-- back from the block -/
theorem block_back {pins' : List (Addr × Obj)} {σ' : St} {H' : Hp} {s' : Shared} (I : Inv X pins σ H s) (hf : ∀ b ∈ fp, FpOk X pins H b) (J : Inv (X.block sc x ix ⟨s.heap.objs.size, s, H, X.pn ++ pins, fp⟩) pins' σ' H' s') : Inv X pins σ H' s' :=
  I.call' J.os J.base J.hok J.bare fun b hb => ⟨(hf b hb).2.2.2.1, (hf b hb).2.1, (hf b hb).2.2.2.2.1, (hf b hb).2.2.2.2.2⟩
theorem Inv.addpin {b : Addr} {o : Obj} (I : Inv X pins σ H s) (e : s.heap.get? b = some o) (hn : H b = none) (hL : b ≠ X.env.locals) (hf : b ∉ X.fs) (hd : ∀ v, o.data ≠ .cell v) : Inv X (pins ++ [(b, o)]) σ H s :=
  I.pins_of fun p hp => (List.mem_append.mp hp).elim (fun z => I.pin p (List.mem_append_right _ z)) fun z => by
    have e' : p = (b, o) := by simpa using z
    subst e'
    exact ⟨e, hn, hL, hf, hd⟩
end
/-- what the block does, turn by turn: W by the turn, a measure, the list so far -/
def Turns (ix : List Nat) (te : TE) (σ : St) (J : It) (l : Addr) (R : Hp → Prop) (W : Nat → Nat → List V → Hp → Prop) : Prop :=
  ∀ i m xs H', W i m xs H' → H' l = some (.lst xs) ∧ ((J.stop i H' ∧ R H') ∨ (J.go i H' ∧ xs.length < sizeLine ∧ ∀ x H2, J.yld i H' x H2 →
    te (some x :: capts σ ix) H2 fun v H3 => H3 l = some (.lst xs) ∧ ∃ m', m' < m ∧ W (i + 1) m' (xs ++ [v]) (upd H3 l (.lst (xs ++ [v])))))
def tComp (ix : List Nat) (wi : TI) (te : TE) : TE := fun σ H Q => wi σ H fun J H1 => ∀ l, H1 l = none → ∃ W : Nat → Nat → List V → Hp → Prop, (∃ m, W 0 m [] (upd H1 l (.lst []))) ∧ Turns ix te σ J l (Q (.ref l)) W
section
variable {X : Cx} {pins : List (Addr × Obj)} {σ : St} {H : Hp} {s : Shared} {sc : Scope} {x : Str} {ix : List Nat} {fp : List Addr} {elt iter : Expr} {te : TE} {wi : TI} {px pos : Pos}
theorem comp_core {it : Addr} {tn : Nat → Heap → Prop} {J : It} {use : Option (Value → Sem Unit)} {Q : Value → Shared → Prop} {E : Value → Shared → Prop} (O : CompOk X sc x ix) (hel : ∀ b, PE (X.block sc x ix b) elt te) (hc : X.calm = true)
    (I : Inv X pins σ H s) (T : Turn X.prog X.w X.K (.Name x px) J fp it tn) (st : tn 0 s.heap) (hf : ∀ b ∈ fp, FpOk X pins H b) (R : Addr → Hp → Prop)
    (h : ∀ l, H l = none → ∃ W : Nat → Nat → List V → Hp → Prop, (∃ m, W 0 m [] (upd H l (.lst []))) ∧ Turns ix te σ J l (R l) W)
    (fin : ∀ l C m s' H', Inv X pins σ H' s' → s'.heap.Ns C m → FpOk X pins H' C → R l H' → compPost (model X.prog X.w) X.A E use Q (.ref l) C (.ok .next) s') :
    wpAny (model X.prog X.w) X.A (newList []) (fun acc s₃ => wpAny (model X.prog X.w) X.A (newFunctionEnv sc X.env.globals (closOf sc X.env) [] X.env.qual none .none (some X.env)) (fun cenv s₄ =>
      codeAny (model X.prog X.w) X.A (.compStart (.ListComp elt [⟨.Name x px, iter, [], 0⟩] sc pos) 0 (.ref it) acc { cenv with scope := relabel sc X.env }) (compPost (model X.prog X.w) X.A E use Q acc cenv.locals) s₄) E s₃) E s := by
  refine wpAny_newObj_type (wpAny_newFunctionEnv O.cell (by intro y hy; simp at hy) (fun h₁ hns hsb => ?_) O.kind)
  dsimp only at hns hsb ⊢
  have hl0 : H s.heap.objs.size = none := I.hok.fresh (Nat.le_refl _)
  obtain ⟨W, ⟨m0, w0⟩, tr⟩ := h s.heap.objs.size hl0
  have I3 : Inv X pins σ (upd H s.heap.objs.size (.lst [])) { s with heap := s.heap.push { cls := .type "list", dict := none, data := .seq ([] : List Value).toArray } } :=
    I.laid (t' := s.toks) (fun b o e => Heap.get?_push_of_some _ e) (Nat.le_refl _) ⟨Nat.zero_le _, [], 0, .nil, Heap.get?_push_size _ rfl⟩
  have ofp : ∀ b ∈ fp, ∃ o, s.heap.get? b = some o := fun b hb => by
    obtain ⟨o, e, _⟩ := T.obj 0 _ st b hb
    exact ⟨o, e⟩
  generalize e3 : s.heap.push { cls := .type "list", dict := none, data := .seq ([] : List Value).toArray } = G at I3 hns hsb ⊢
  have ofp3 : ∀ b ∈ fp, ∃ o, G.get? b = some o := fun b hb => by
    obtain ⟨o, e⟩ := ofp b hb
    exact ⟨o, by rw [← e3]; exact Heap.get?_push_of_some _ e⟩
  have nl : ∀ b ∈ fp, b ≠ s.heap.objs.size := fun b hb => by
    obtain ⟨o, e⟩ := ofp b hb
    exact Nat.ne_of_lt (Heap.lt_size e)
  have hf3 : ∀ b ∈ fp, FpOk X pins (upd H s.heap.objs.size (.lst [])) b := fun b hb => ⟨by rw [upd_ne (nl b hb)]; exact (hf b hb).1, (hf b hb).2⟩
  have keep3 : ∀ b o, G.get? b = some o → h₁.get? b = some o := fun b o e => hsb.extBut b o (Nat.ne_of_lt (Heap.lt_size e)) (Heap.get?_push_of_some _ e)
  have stk : tn 0 h₁ := T.keep _ _ _ st fun b hb o e => keep3 b o (by rw [← e3]; exact Heap.get?_push_of_some _ e)
  have J0 := block_inv (tk := s.toks + ([] : List (Str × Value)).length) I3 O hf3 ofp3 hns keep3
  -- what stays true of the iterator
  have stat : ∀ {H' : Hp}, (∀ b ∈ fp, H' b = none) → ∀ b ∈ fp, FpOk (X.block sc x ix ⟨G.objs.size, { s with heap := G }, upd H s.heap.objs.size (.lst []), X.pn ++ pins, fp⟩) [] H' b := fun hn b hb => by
    obtain ⟨o, e⟩ := ofp3 b hb
    refine ⟨hn b hb, Nat.ne_of_lt (Heap.lt_size e), fun z => (List.mem_cons.mp (I3.stkSub _ z)).elim (hf b hb).2.1 (hf b hb).2.2.1, .inl hb, fun y c q => (hf b hb).2.2.2.2.1 y c (O.sub.get y c q), fun p hp => ?_⟩
    have hp' : p ∈ X.pn ++ pins := by
      rcases List.mem_append.mp hp with z | z
      · exact z
      · cases z
    exact (hf b hb).2.2.2.2.2 p hp'
  have loop : ∀ s4 : Shared, s4 = { s with heap := h₁, toks := s.toks + ([] : List (Str × Value)).length } →
      codeAny (model X.prog X.w) X.A (.compLoop (.ListComp elt [⟨.Name x px, iter, [], 0⟩] sc pos) 0 (.ref it) (.ref s.heap.objs.size) (compEnvC sc (closOf sc X.env) G.objs.size X.env))
        (compPost (model X.prog X.w) X.A E use Q (.ref s.heap.objs.size) G.objs.size) s4 := by
    rintro s4 rfl
    refine comp_loop (fun n s' => ∃ i xs H' z, Inv (X.block sc x ix ⟨G.objs.size, { s with heap := G }, upd H s.heap.objs.size (.lst []), X.pn ++ pins, fp⟩) [] (z :: capts σ ix) H' s' ∧ tn i s'.heap ∧ (∀ b ∈ fp, H' b = none) ∧ W i n xs H') ?_ m0
      ⟨0, [], _, none, J0, stk, fun b hb => (hf3 b hb).1, w0⟩
    rintro n s5 ⟨i, xs, H5, z, I5, st5, fr5, w5⟩
    obtain ⟨hl5, h5⟩ := tr i n xs H5 w5
    rcases h5 with ⟨stop, r5⟩ | ⟨go, hz, step⟩
    · refine thn (T.done (X.block sc x ix ⟨G.objs.size, { s with heap := G }, upd H s.heap.objs.size (.lst []), X.pn ++ pins, fp⟩) rfl rfl rfl hc i [] s5 _ H5 _ I5 (stat fr5) st5 stop) fun r s6 ⟨hr, I6⟩ => ?_
      subst hr
      obtain ⟨m6, hn6, _⟩ := I6.loc
      refine fin _ _ m6 s6 H5 (block_back I3 hf3 I6) hn6 ?_ r5
      exact I3.fpOk (Nat.le_refl _) I6.free
    · refine thn (T.item (X.block sc x ix ⟨G.objs.size, { s with heap := G }, upd H s.heap.objs.size (.lst []), X.pn ++ pins, fp⟩) rfl rfl rfl hc i [] s5 _ H5 _ I5 (stat fr5) st5 go) fun r s6 ⟨u, hr, h6⟩ => ?_
      subst hr
      refine thn h6 fun _ s7 ⟨y, H7, I7, r7, y7, st7, fr7⟩ => ?_
      have I7' := I7.pinned (stat fr7) (T.obj _ _ st7)
      have lx : (relabel sc X.env).names.lookup x = some .local := lookup_relabel_local O.var
      refine thn ((pg_name (i := 0) O.nd rfl (Or.inl lx) (Or.inr lx) : PG (X.block sc x ix ⟨G.objs.size, { s with heap := G }, upd H s.heap.objs.size (.lst []), X.pn ++ pins, fp⟩) (.Name x px) (gName 0)) _ s7 _ H7 y u (fun σ' H' => σ' = some y :: capts σ ix ∧ H' = H7) I7' r7 ⟨rfl, rfl⟩) fun _ s8 ⟨σ8, H8, I8, e8, e8'⟩ => ?_
      subst e8 e8'
      refine thn (hel _ _ s8 _ H8 _ I8 (step y H8 y7)) fun v9 s9 ⟨v, H9, I9, r9, hl9, m', hm, w9⟩ => ?_
      refine thn (mt_append _ s9 _ H9 (.ref s.heap.objs.size) [v] (.ref s.heap.objs.size) [v9] (fun _ H' => H' = upd H9 s.heap.objs.size (.lst (xs ++ [v]))) I9 rfl (.cons r9 .nil) ⟨_, xs, v, rfl, rfl, hl9, hz, rfl⟩) fun _ s10 ⟨_, H10, I10, _, e10⟩ => ?_
      subst e10
      refine ⟨m', hm, i + 1, xs ++ [v], _, some y, I10.unpinned, T.keep _ _ _ st7 fun b hb o e => (I10.pin (b, o) (List.mem_append_right _ (List.mem_append_right _ (mem_pinsAt hb e)))).1, fun b hb => ?_, w9⟩
      obtain ⟨o, e, d⟩ := T.obj _ _ st7 b hb
      exact (I10.pin (b, o) (List.mem_append_right _ (List.mem_append_right _ (mem_pinsAt hb e)))).2.1
  exact codeAny_compStart_list (loop _ rfl) (T.self _ 0 _ _ _ stk (loop _ rfl))
/-- [elt for x in iter] -/
theorem pe_comp (O : CompOk X sc x ix) (hi : PI X (.Name x px) iter wi) (hel : ∀ b, PE (X.block sc x ix b) elt te) (hc : X.calm = true := by rfl) (hs : ∀ v, foldedSetIterable iter X.env v = pure v := by intro _; rfl) :
    PE X (.ListComp elt [⟨.Name x px, iter, [], 0⟩] sc pos) (tComp ix wi te) := by
  intro pins s σ H Q I h
  rw [eval_ListComp]
  refine wpAny_comprehension_free (use := none) rfl hs O.clos O.kind O.names (thn (hi pins s σ H _ I h) fun xv s1 h1 => thn h1 fun itv s2 h2 => ?_)
  obtain ⟨it, fp, tn, J, H2, e, I2, T, st2, f2, hq⟩ := h2
  subst e
  refine comp_core O hel hc I2 T st2 f2 (fun l H' => Q (.ref l) H') hq ?_
  intro l C m s' H' I' hn hf r
  refine ⟨m, hn, fun h' hb => ⟨.ref l, H', ?_, rfl, r⟩⟩
  exact I'.turned (t' := s'.toks) (fun b o hne e => hb.extBut b o hne e) hf.1 hf.2.1 hf.2.2.2.1 hf.2.2.2.2.1 hf.2.2.2.2.2
/-- y = [elt for x in iter], y a plain local -/
theorem ps_setc {y : Str} {i : Nat} {py spos : Pos} (hN : X.N.Nodup) (hiy : X.N[i]? = some y) (hy : X.env.scope.names.lookup y = some .local) (O : CompOk X sc x ix) (hi : PI X (.Name x px) iter wi) (hel : ∀ b, PE (X.block sc x ix b) elt te)
    (hc : X.calm = true := by rfl) (hs : ∀ v, foldedSetIterable iter X.env v = pure v := by intro _; rfl) (hsw : swapsWith (.ListComp elt [⟨.Name x px, iter, [], 0⟩] sc pos) (some (.Name y py)) spos.line X.env = pure true := by rfl) :
    PS X (.Assign [.Name y py] (.ListComp elt [⟨.Name x px, iter, [], 0⟩] sc pos) spos) (tAsg (tComp ix wi te) (gName i)) := by
  intro pins s σ H D I h
  rw [exec_Assign_Name_used _ _ _ _ hsw]
  refine wpAny_bind (wpAny_standAt (wpAny_bind ?_))
  show wpAny _ X.A (do let _ ← comprehension (.ListComp elt [⟨.Name x px, iter, [], 0⟩] sc pos) sc X.env _ (newList []) false (eval iter X.env) (some (assign (.Name y py) X.env))) _ _ s
  refine wpAny_bind (wpAny_mono (wpAny_comprehension_free (use := some (assign (.Name y py) X.env)) (Q := fun _ s' => SP X pins D .next s') rfl hs O.clos O.kind O.names
    (thn (hi pins s σ H _ I h) fun xv s1 h1 => thn h1 fun itv s2 h2 => ?_)) (fun _ s' hq => wpAny_pure (wpAny_pure hq)) fun _ _ e => e)
  obtain ⟨it, fp, tn, J, H2, e, I2, T, st2, f2, hq⟩ := h2
  subst e
  refine comp_core O hel hc I2 T st2 f2 (fun l H' => D.nx (σ.set i (some (.ref l))) H') hq ?_
  intro l C m s' H' I' hn hf r
  obtain ⟨o, es, ep, ho, hd, hr⟩ := id hn
  have Ip := I'.addpin ho hf.1 hf.2.1 hf.2.2.1 (by intro v z; rw [hd] at z; cases z)
  refine thn ((pg_name (i := i) hN hiy (Or.inl hy) (Or.inr hy) : PG X (.Name y py) (gName i)) _ s' σ H' (.ref l) (.ref l) (fun σ' H'' => σ' = σ.set i (some (.ref l)) ∧ H'' = H') Ip rfl ⟨rfl, rfl⟩) fun _ s'' ⟨σ'', H'', I'', e1, e2⟩ => ?_
  subst e1 e2
  have pc := (I''.pin (C, o) (List.mem_append_right _ (List.mem_append_right _ List.mem_cons_self))).1
  refine ⟨m, ⟨o, es, ep, pc, hd, hr⟩, fun h' hb => ⟨_, _, ?_, r⟩⟩
  exact I''.unpinned.turned (t' := s''.toks) (fun b o hne e => hb.extBut b o hne e) hf.1 hf.2.1 hf.2.2.2.1 hf.2.2.2.2.1 hf.2.2.2.2.2
end
def TurnsIf (ix : List Nat) (tt : TT) (te : TE) (σ : St) (J : It) (l : Addr) (R : Hp → Prop) (W : Nat → Nat → List V → Hp → Prop) : Prop :=
  ∀ i m xs H', W i m xs H' → H' l = some (.lst xs) ∧ ((J.stop i H' ∧ R H') ∨ (J.go i H' ∧ xs.length < sizeLine ∧ ∀ x H2, J.yld i H' x H2 →
    tt (some x :: capts σ ix) H2 fun b H3 => if b = true then te (some x :: capts σ ix) H3 fun v H4 => H4 l = some (.lst xs) ∧ ∃ m', m' < m ∧ W (i + 1) m' (xs ++ [v]) (upd H4 l (.lst (xs ++ [v]))) else ∃ m', m' < m ∧ W (i + 1) m' xs H3))
def tCompIf (ix : List Nat) (wi : TI) (tt : TT) (te : TE) : TE := fun σ H Q => wi σ H fun J H1 => ∀ l, H1 l = none → ∃ W : Nat → Nat → List V → Hp → Prop, (∃ m, W 0 m [] (upd H1 l (.lst []))) ∧ TurnsIf ix tt te σ J l (Q (.ref l)) W
section
variable {X : Cx} {pins : List (Addr × Obj)} {σ : St} {H : Hp} {s : Shared} {sc : Scope} {x : Str} {ix : List Nat} {fp : List Addr} {elt iter c : Expr} {te : TE} {tt : TT} {wi : TI} {px pos : Pos}
end
theorem same_new {H : Hp} {p : Addr} (h : H p = none) (o : HO) : Same H (upd H p o) := fun b u q => by rw [upd_ne (ne_of_none q h)]; exact q
/-- over a range, by what is true of each element -/
theorem comp_range {ix : List Nat} {te : TE} {σ : St} {lo : Int} {n : Nat} {l : Addr} {H : Hp} {R : Hp → Prop} (P : Nat → V → Prop) (hl : H l = none) (hn : n ≤ sizeLine)
    (hel : ∀ i H' Q', i < n → Same H H' → (∀ v, P i v → Q' v H') → te (some (.int (lo + i)) :: capts σ ix) H' Q') (fin : ∀ xs : List V, xs.length = n → (∀ j v, xs[j]? = some v → P j v) → R (upd H l (.lst xs))) :
    ∃ W : Nat → Nat → List V → Hp → Prop, (∃ m, W 0 m [] (upd H l (.lst []))) ∧ Turns ix te σ (Itr lo n) l R W := by
  refine ⟨fun i m xs H' => m = n - i ∧ i ≤ n ∧ xs.length = i ∧ (∀ j v, xs[j]? = some v → P j v) ∧ H' = upd H l (.lst xs), ⟨n, by simp, Nat.zero_le _, rfl, (fun j v e => by simp at e), rfl⟩, ?_⟩
  rintro i m xs H' ⟨rfl, hi, hx, hp, rfl⟩
  refine ⟨upd_same, ?_⟩
  by_cases hlt : i < n
  · refine .inr ⟨hlt, by omega, fun x H2 y => ?_⟩
    obtain ⟨e, y⟩ := y
    subst e y
    refine hel i _ _ hlt (same_new hl _) fun v hv => ⟨upd_same, n - (i + 1), by omega, rfl, hlt, by rw [List.length_append, hx] <;> rfl, fun j w e => ?_, by rw [upd_upd]⟩
    by_cases hj : j < xs.length
    · rw [List.getElem?_append_left hj] at e
      exact hp j w e
    · by_cases hj2 : j = xs.length
      · subst hj2
        rw [List.getElem?_append_right (Nat.le_refl _), Nat.sub_self] at e
        have e' : v = w := Option.some.inj e
        subst e'
        rw [hx]; exact hv
      · rw [List.getElem?_eq_none (by rw [List.length_append, List.length_singleton]; omega)] at e
        cases e
  · have e : i = n := by omega
    subst e
    exact .inl ⟨Nat.le_refl _, fin xs hx hp⟩
section
variable {X : Cx}
theorem intsAre_vals : ∀ {ns : List Int} {us : List Value}, Vals (ns.map V.int) us → IntsAre us ns
  | [], _, .nil => .nil
  | n :: ns, _, .cons ⟨t, e⟩ r => by
    subst e
    exact .cons n t (intsAre_vals r)
theorem call_sumI (hc : X.calm = true) : CallR X (.builtin "sum") (fun xs H Q => ∃ (p : Addr) (ns : List Int), xs = [.ref p] ∧ SqL X.K H p (ns.map V.int) ∧ Q (.int ns.sum) H) := by
  intro pins s σ H xs us Q I r h
  obtain ⟨p, ns, rfl, hq, q⟩ := h
  obtain ⟨u, rfl, rx⟩ := vals1 r
  cases rx
  obtain ⟨its, rv, pl, hz⟩ := I.list hq
  obtain ⟨xs, e⟩ := (intsAre_vals rv).allInts.items
  rw [e] at pl
  refine sum_intListG (I.ok.hd hc) pl.isList fun h' tk t' k => ⟨.int ns.sum, H, I.kept k, ⟨t', ?_⟩, q⟩
  have e1 := (intsAre_vals rv).numsOf
  rw [preSum_eq, List.take_of_length_le (by simp), ← e1]
  congr 1
  rw [← nums_intItems, ← e]
end
end L2
namespace L2
open PySem PySem.Spec PyProof.Rows
/-! ### == and != by data -/
mutual
inductive RdV (K : PySem.W.Frag) (H : Hp) : V → PyData → Prop
  | non : RdV K H .non .none
  | bl (b : Bool) : RdV K H (.bl b) (.bool b)
  | int (i : Int) : RdV K H (.int i) (.int i)
  | str (x : Str) : RdV K H (.str x) (.str x)
  | lst {a : Addr} {xs : List V} {ds : List PyData} : SqL K H a xs → RdVs K H xs ds → RdV K H (.ref a) (.list ds)
  | tup {a : Addr} {xs : List V} {ds : List PyData} : SqT K H a xs → RdVs K H xs ds → RdV K H (.ref a) (.tuple ds)
inductive RdVs (K : PySem.W.Frag) (H : Hp) : List V → List PyData → Prop
  | nil : RdVs K H [] []
  | cons {x : V} {d : PyData} {xs : List V} {ds : List PyData} : RdV K H x d → RdVs K H xs ds → RdVs K H (x :: xs) (d :: ds)
end
theorem RdVs.ints {K : PySem.W.Frag} {H : Hp} : ∀ ns : List Int, RdVs K H (ns.map V.int) (ns.map PyData.int)
  | [] => .nil
  | n :: r => .cons (.int n) (RdVs.ints r)
section
variable {X : Cx} {pins : List (Addr × Obj)} {σ : St} {H : Hp} {s : Shared} {pos : Pos}
mutual
theorem RdV.reads (I : Inv X pins σ H s) : ∀ {x : V} {d : PyData} {u : Value}, RdV X.K H x d → RelV x u → ∃ as, Reads s.heap u d as
  | _, _, _, .non, r => by cases r; exact ⟨_, .none⟩
  | _, _, _, .bl b, r => by cases r; exact ⟨_, .bool b⟩
  | _, _, _, .int i, r => by obtain ⟨t, rfl⟩ := r; exact ⟨_, .int i t⟩
  | _, _, _, .str x, r => by obtain ⟨t, rfl⟩ := r; exact ⟨_, .str x t⟩
  | _, _, _, .lst h hs, r => by
    cases r
    obtain ⟨its, rv, pl, hz⟩ := I.list h
    obtain ⟨as, q⟩ := RdVs.reads I hs rv
    obtain ⟨o, n, e, c, hd, dt⟩ := pl
    exact ⟨_, reads_list_at e c dt (by simpa using q)⟩
  | _, _, _, .tup h hs, r => by
    cases r
    obtain ⟨its, rv, pl, hz⟩ := I.tuple h
    obtain ⟨as, q⟩ := RdVs.reads I hs rv
    obtain ⟨o, e, c, n, dt⟩ := pl
    exact ⟨_, reads_tuple_at e c dt (by simpa using q)⟩
theorem RdVs.reads (I : Inv X pins σ H s) : ∀ {xs : List V} {ds : List PyData} {us : List Value}, RdVs X.K H xs ds → Vals xs us → ∃ as, ReadsAll s.heap us ds as
  | _, _, _, .nil, .nil => ⟨_, .nil⟩
  | _, _, _, .cons h hs, .cons r rs => by
    obtain ⟨as, q⟩ := RdV.reads I h r
    obtain ⟨bs, q'⟩ := RdVs.reads I hs rs
    exact ⟨_, .cons q q'⟩
end
def rEqD (K : PySem.W.Frag) : R2 := fun x y H Q => ∃ d e, RdV K H x d ∧ RdV K H y e ∧ SeqAt.shaped d = true ∧ SeqAt.shaped e = true ∧ Q (.bl (PyData.eqv d e)) H
def rNeD (K : PySem.W.Frag) : R2 := fun x y H Q => ∃ d e, RdV K H x d ∧ RdV K H y e ∧ SeqAt.shaped d = true ∧ SeqAt.shaped e = true ∧ Q (.bl (!PyData.eqv d e)) H
theorem op_eqD (hu : X.A.units + 64 < cLine) : OpR X (compareOp .Eq) (rEqD X.K) := by
  intro pins s σ H x y v u Q I rx ry h
  obtain ⟨d, e, hd, he, sd, se, q⟩ := h
  obtain ⟨as, ra⟩ := hd.reads I rx
  obtain ⟨bs, rb⟩ := he.reads I ry
  exact eq_dataH ra rb sd se hu ⟨.bl _, H, I, rfl, q⟩
theorem op_neD (hu : X.A.units + 64 < cLine) : OpR X (compareOp .NotEq) (rNeD X.K) := by
  intro pins s σ H x y v u Q I rx ry h
  obtain ⟨d, e, hd, he, sd, se, q⟩ := h
  obtain ⟨as, ra⟩ := hd.reads I rx
  obtain ⟨bs, rb⟩ := he.reads I ry
  exact ne_dataH ra rb sd se hu ⟨.bl _, H, I, rfl, q⟩
/-! ### {} -/
def tDNew : TE := fun _ H Q => ∀ p, H p = none → Q (.ref p) (upd H p (.dK []))
end
/-! ### isinstance of the plain kinds -/
def kinds : List String := ["NoneType", "bool", "int", "str", "list", "tuple", "dict"]
theorem kit_int {K : PySem.W.Frag} {T : String} (h : T ∈ kinds) : PySem.W.kitOne K (.type T) (.type "int") = some (decide (T = "int" ∨ T = "bool")) := by
  simp only [kinds, List.mem_cons, List.not_mem_nil, or_false] at h
  rcases h with rfl | rfl | rfl | rfl | rfl | rfl | rfl <;> rfl
theorem kit_bool {K : PySem.W.Frag} {T : String} (h : T ∈ kinds) : PySem.W.kitOne K (.type T) (.type "bool") = some (decide (T = "bool")) := by
  simp only [kinds, List.mem_cons, List.not_mem_nil, or_false] at h
  rcases h with rfl | rfl | rfl | rfl | rfl | rfl | rfl <;> rfl
/-- a flat thing or one of the three kinds of containers -/
def IsKind (K : PySem.W.Frag) (H : Hp) (x : V) (T : String) : Prop := TyOf K H x (.type T) ∧ T ∈ kinds
theorem iteNF {A B : Prop} (h : A) : if (!false) = true then A else B := iteT (B := B) h
theorem iteNT {A B : Prop} (h : B) : if (!true) = true then A else B := iteF (A := A) h
theorem ifND {p A B : Prop} [Decidable p] (h1 : ¬ p → A) (h2 : p → B) : if (!decide p) = true then A else B := by
  by_cases h : p
  · rw [if_neg (by simpa using h)]; exact h2 h
  · rw [if_pos (by simpa using h)]; exact h1 h
/-- a power of two written numbers -/
theorem pe_powc {X : Cx} {a b v : Int} {j j' : Nat} {p p' pos : Pos} (h : a ^ b.toNat = v) (hb : CPow a b) : PE X (.BinOp (.Constant (.int a) j p) .Pow (.Constant (.int b) j' p') pos) (tC (.int v)) := by
  intro pins s σ H Q I hq
  exact pe_op op_pow pe_int pe_int pins s σ H Q I ⟨_, _, rfl, rfl, hb, by show Q (V.int (a ^ b.toNat)) H; rw [h]; exact hq⟩
end L2
namespace L2
open PySem PySem.Spec PyProof.Rows
/-! ### an exception that flies -/
theorem ObjOk.get {P : Program} {w : World} {H : Hp} {h : Heap} {a : Addr} {o : HO} (x : ObjOk P w H h a o) : ∃ u, h.get? a = some u := by
  cases o with
  | lst xs => obtain ⟨_, _, _, _, e⟩ := x; exact ⟨_, e⟩
  | tup xs => obtain ⟨_, _, _, _, e, _⟩ := x; exact ⟨_, e⟩
  | dK kvs => obtain ⟨_, _, _, _, _, _, _, e, _⟩ := x; exact ⟨_, e⟩
  | set S n => obtain ⟨_, _, _, _, e, _⟩ := x; exact ⟨_, e⟩
  | ins C dx fs => obtain ⟨_, _, _, e, _⟩ := x; exact ⟨_, e⟩
  | own y => exact x
  | xd fs => obtain ⟨_, ⟨_, _, _, e, _⟩, _⟩ := x; exact ⟨_, e⟩
  | rng lo hi => obtain ⟨_, _, _, e⟩ := x; exact ⟨_, e⟩
  | frz ob u => obtain ⟨e, _⟩ := x; exact ⟨_, e⟩
  | tbl ps => exact ⟨_, (show h.get? a = some _ from x)⟩
  | met f y => exact ⟨_, (show h.get? a = some _ from x)⟩
  | ext φ => obtain ⟨_, e, _⟩ := x; exact e
theorem HOk.gone {P : Program} {w : World} {H : Hp} {h : Heap} {a : Addr} (x : HOk P w H h) (e : h.get? a = none) : H a = none := by
  cases q : H a with
  | none => rfl
  | some o =>
    obtain ⟨u, z⟩ := (x a o q).get
    rw [e] at z; cases z
/-- new since g, not tracked; its class C -/
structure ExcAt (g : Heap) (H : Hp) (h : Heap) (e : Addr) (C : Value) : Prop where
  new : g.get? e = none
  free : H e = none
  ex : ∃ oe vs T oT ts a0, h.get? e = some oe ∧ (oe.cls = C ∧ vs[0]? = some a0) ∧ oe.data = .fields vs ∧ vs[1]? = some (.ref T) ∧ (g.get? T = none ∧ H T = none) ∧ T ≠ e ∧ h.get? T = some oT ∧ oT.data = .fields ts ∧ ts[3]? = some .none
def CXX (P : Program) (w : World) : CXT := fun outer H s E ev s' => ∃ e C H', ev = .ref e ∧ E C none H' ∧ s'.os = s.os ∧ AllBare s'.gens ∧ Un (frs outer) [] H H' s.heap s'.heap ∧ HOk P w H' s'.heap ∧ ExcAt s.heap H' s'.heap e C
structure Flew (X : Cx) (hid : List Addr) (h h' : Heap) : Prop where
  keep : ∀ b o, h.get? b = some o → b ∉ frs X.stack → b ∉ hid → h'.get? b = some o
  slot : h.UpToSlots h'
section
variable {X : Cx} {pins : List (Addr × Obj)} {σ : St} {H : Hp} {s : Shared} {h' : Heap} {hid : List Addr}
theorem Inv.unFlew (I : Inv X pins σ H s) (F : Flew X hid s.heap h') (hh : ∀ b ∈ hid, X.s₀.heap.get? b = none) : Un X.fs X.ex X.H₀ H X.s₀.heap h' where
  keep := fun b o q n hb hx => F.keep b o (I.base.keep b o q n hb hx)
    (fun z => (List.mem_cons.mp (I.stkSub b z)).elim (fun e => absurd (Nat.lt_of_lt_of_le (Heap.lt_size q) I.ok.above) (by rw [e]; exact Nat.lt_irrefl _)) hb) (fun z => by rw [hh b z] at q; cases q)
  slot := fun b o q n hb hx => by
    obtain ⟨sl, e1⟩ := I.base.slot b o q n hb hx
    obtain ⟨_, o', ho', hd⟩ := I.funs.mem hb
    rw [e1] at ho'; cases ho'
    obtain ⟨sl', e2⟩ := F.slot b _ e1 hd
    exact ⟨sl', e2⟩
  free := I.base.free
  there := fun b o q hx => by
    obtain ⟨o', e1⟩ := I.base.there b o q hx
    by_cases z : b ∈ frs X.stack
    · obtain ⟨_, o'', ho, hd⟩ := I.stack.mem z
      rw [e1] at ho; cases ho
      obtain ⟨sl, e2⟩ := F.slot b _ e1 hd
      exact ⟨_, e2⟩
    · exact ⟨o', F.keep b o' e1 z (fun y => by rw [hh b y] at q; cases q)⟩
  tups := I.base.tups
  frzs := I.base.frzs
  tbls := I.base.tbls
theorem Inv.hokFlew (I : Inv X pins σ H s) (F : Flew X hid s.heap h') (hf : ∀ b ∈ hid, H b = none) : HOk X.prog X.w H h' := fun a o q => by
  refine (I.hok a o q).stay (fun b u hb r => ?_) (fun _ z => z) fun _ _ z => z
  have t : H b ≠ none := by
    rcases hb with rfl | hb
    · rw [q]; exact fun z => nomatch z
    · rw [hb]; exact fun z => nomatch z
  exact F.keep b u r (fun z => t (I.stkFree b z)) fun z => t (hf b z)
theorem cell_flew {h : Heap} {c : Addr} {v : Option Value} (F : h.UpToSlots h') (z : h.IsCell c v) : h'.IsCell c v := by
  obtain ⟨o, ho, hd⟩ := z
  obtain ⟨sl, e⟩ := F c o ho (fun vs q => by rw [hd] at q; cases q)
  exact ⟨_, e, hd⟩
theorem Inv.flew (I : Inv X pins σ H s) (F : Flew X hid s.heap h') (hh : ∀ b ∈ hid, X.s₀.heap.get? b = none ∧ H b = none ∧ ∀ p ∈ X.pn ++ pins, p.1 ≠ b) : Inv X pins σ H { s with heap := h' } := by
  refine ⟨I.ok, I.os, I.bare, I.unFlew F fun b hb => (hh b hb).1, ?_, fun x c e => ?_, I.free, I.freeC, fun p hp => ?_, I.hokFlew F fun b hb => (hh b hb).2.1, I.len⟩
  · obtain ⟨m, hn, hl⟩ := I.loc
    refine ⟨m, F.slot.ns hn, fun i x v e1 e2 e3 => ?_⟩
    obtain ⟨u, r, l⟩ := hl i x v e1 e2 e3
    refine ⟨u, r, ?_⟩
    rcases l with l | ⟨k, c, e, z⟩
    · exact .inl l
    · exact .inr ⟨k, c, e, cell_flew F.slot z⟩
  · obtain ⟨v, z⟩ := I.cell x c e
    exact ⟨v, cell_flew F.slot z⟩
  · obtain ⟨e, n, ne, nf, d⟩ := I.pin p hp
    exact ⟨F.keep p.1 p.2 e (fun z => (List.mem_cons.mp (I.stkSub _ z)).elim ne nf) (fun z => (hh p.1 z).2.2 p hp rfl), n, ne, nf, d⟩
theorem exc_of {B h'' : Heap} {l : List Env} {e : Addr} {C a0 : Value} (I : Inv X pins σ H s) (F : Flew X hid s.heap h'') (hB : ∀ b o, s.heap.get? b = some o → b ∉ frs X.stack → b ∉ hid → B.get? b = some o)
    (fl : Heap.FlyingW B l e C a0 h'') (hh : ∀ b ∈ hid, X.s₀.heap.get? b = none ∧ H b = none) (he : X.s₀.heap.get? e = none ∧ H e = none) (hex : ∀ b, b ∉ X.ex) : ExcAt X.s₀.heap H h'' e C := by
  obtain ⟨_, _, _, oe, vs, T, oT, ts, h1, h2, h3, h4, h5, h6, h7, h8, h9⟩ := fl
  have key : ∀ o, s.heap.get? T = some o → T ∈ hid := fun o q => by
    by_cases z : T ∈ hid
    · exact z
    · exfalso
      by_cases y : T ∈ frs X.stack
      · obtain ⟨_, o', ho, hd⟩ := I.stack.mem y
        obtain ⟨sl, e2⟩ := F.slot T o' ho hd
        rw [h7] at e2; cases e2
        exact hd ts h8
      · have := hB T o q y z
        rw [h5] at this; cases this
  refine ⟨he.1, he.2, oe, vs, T, oT, ts, a0, h1, h2, h3, h4, ⟨?_, ?_⟩, h6, h7, h8, h9⟩
  · cases q : X.s₀.heap.get? T with
    | none => rfl
    | some o =>
      obtain ⟨o', e1⟩ := I.base.there T o q (hex T)
      rw [(hh T (key o' e1)).1] at q; cases q
  · cases q : H T with
    | none => rfl
    | some u =>
      obtain ⟨o', e1⟩ := (I.hok T u q).get
      rw [(hh T (key o' e1)).2] at q; cases q
end
section
variable {P : Program} {w : World} {K : PySem.W.Frag} {mg : Str → Option Value} {base : Heap} {N : List Str} {qual : Str} {scope : Scope} {f : Addr} {cd : Value} {A : Around} {outer : List Env} {s₀ : Shared} {H₀ : Hp} {E : XK}
theorem xe_made {pins : List (Addr × Obj)} {σ : St} {H : Hp} {s : Shared} {h' : Heap} {e : Addr} {C : Value} {vs : List Value} (I : Inv (cxOf (CXX P w) P w K mg base N qual scope f cd A outer s₀ H₀ E) pins σ H s)
    (hx : Heap.MadeExcOf s.heap h' e C vs) (hE : E C none H) : (cxOf (CXX P w) P w K mg base N qual scope f cd A outer s₀ H₀ E).xe (.ref e) { s with heap := h' } := by
  refine wpAny_leaves_madeW (base := PySem.W.hideAll s.heap (frs (cxOf (CXX P w) P w K mg base N qual scope f cd A outer s₀ H₀ E).stack)) (h := s.heap) (outer := outer) (L := s₀.heap.objs.size) I.ok.frames rfl (fun b o q => PySem.W.of_hideAll _ q)
    (PySem.W.funFrames_hide I.stack fun env he a ha => List.mem_filterMap.mpr ⟨env, he, ha⟩) hx fun h'' t x1 x2 x3 x4 => ?_
  have F : Flew (cxOf (CXX P w) P w K mg base N qual scope f cd A outer s₀ H₀ E) [] s.heap h'' := ⟨fun b o q n _ => x1.1 b o (PySem.W.hideAll_get _ q n), (Heap.UpToSlots.of_keeps hx.keeps).trans x4⟩
  refine ⟨e, C, H, rfl, hE, I.os, I.bare, I.unFlew F (fun b z => absurd z (by simp)), I.hokFlew F (fun b z => absurd z (by simp)), exc_of I F (fun b o q n _ => PySem.W.hideAll_get _ q n) x1 (fun b z => absurd z (by simp)) ⟨?_, I.hok.gone hx.new⟩ fun b z => absurd (show b ∈ ([] : List Addr) from z) (by simp)⟩
  cases q : s₀.heap.get? e with
  | none => exact q
  | some o =>
    obtain ⟨o', e1⟩ := I.base.there e o q fun z => absurd (show e ∈ ([] : List Addr) from z) (by simp)
    rw [hx.new] at e1; cases e1
theorem passX : Passes (CXX P w) (cxOf (CXX P w) P w K mg base N qual scope f cd A outer s₀ H₀ E) E := by
  intro pins σ H s ev s' I hc
  obtain ⟨e, C, H', rfl, hE, os, bare, un, hok, new, free, oe, vs, T, oT, ts, a0, h1, h2, h3, h4, h5, h6, h7, h8, h9⟩ := hc
  have I' : Inv (cxOf (CXX P w) P w K mg base N qual scope f cd A outer s₀ H₀ E) pins σ H' s' := I.call' os un hok bare (fun b z => absurd z (by simp))
  have fresh : ∀ b, s.heap.get? b = none → s₀.heap.get? b = none := fun b z => by
    cases q : s₀.heap.get? b with
    | none => rfl
    | some o =>
      obtain ⟨o', e1⟩ := I.base.there b o q fun z => absurd (show b ∈ ([] : List Addr) from z) (by simp)
      rw [z] at e1; cases e1
  have me : e ∈ e :: T :: frs (cxOf (CXX P w) P w K mg base N qual scope f cd A outer s₀ H₀ E).stack := List.mem_cons_self
  have mT : T ∈ e :: T :: frs (cxOf (CXX P w) P w K mg base N qual scope f cd A outer s₀ H₀ E).stack := List.mem_cons_of_mem _ List.mem_cons_self
  refine wpAny_leaves_onW (base := PySem.W.hideAll s'.heap (e :: T :: frs (cxOf (CXX P w) P w K mg base N qual scope f cd A outer s₀ H₀ E).stack)) (outer := outer) (L := s₀.heap.objs.size) (cls := C) (a0 := a0) I.ok.frames rfl
    ⟨fun b o q => PySem.W.of_hideAll _ q, PySem.W.hideAll_none _ me, PySem.W.funFrames_hide I'.stack (fun env he a ha => List.mem_cons_of_mem _ (List.mem_cons_of_mem _ (List.mem_filterMap.mpr ⟨env, he, ha⟩))),
      oe, vs, T, oT, ts, h1, h2, h3, h4, PySem.W.hideAll_none _ mT, h6, h7, h8, h9⟩ fun h'' x1 x2 => ?_
  have nm : ∀ b, b ∉ frs (cxOf (CXX P w) P w K mg base N qual scope f cd A outer s₀ H₀ E).stack → b ∉ [e, T] → b ∉ e :: T :: frs (cxOf (CXX P w) P w K mg base N qual scope f cd A outer s₀ H₀ E).stack := fun b n m z => by
    rcases List.mem_cons.mp z with z | z
    · exact m (by rw [z]; simp)
    · rcases List.mem_cons.mp z with z | z
      · exact m (by rw [z]; simp)
      · exact n z
  have F : Flew (cxOf (CXX P w) P w K mg base N qual scope f cd A outer s₀ H₀ E) [e, T] s'.heap h'' := ⟨fun b o q n m => x1.1 b o (PySem.W.hideAll_get _ q (nm b n m)), x2⟩
  have hh : ∀ b ∈ [e, T], s₀.heap.get? b = none ∧ H' b = none := fun b z => by
    rcases List.mem_cons.mp z with z | z
    · subst z; exact ⟨fresh _ new, free⟩
    · have z' : b = T := by simpa using z
      subst z'; exact ⟨fresh _ h5.1, h5.2⟩
  exact ⟨e, C, H', rfl, hE, os.trans I.os, bare, I'.unFlew F (fun b z => (hh b z).1), I'.hokFlew F (fun b z => (hh b z).2), exc_of I' F (fun b o q n m => PySem.W.hideAll_get _ q (nm b n m)) x1 hh ⟨fresh _ new, free⟩ fun b z => absurd (show b ∈ ([] : List Addr) from z) (by simp)⟩
end
/-! ### a def that may raise -/
structure DefX (P : Program) (w : World) (K : PySem.W.Frag) (mg : Str → Option Value) (base : Heap) (k : Nat) (x : Str) (ps : List Str) (sp : Sp) : Prop where
  ex : ∃ (f : Addr) (fd : FuncData), FnOk P w K mg base (CXX P w) k f fd ps sp ∧ mg x = some (.ref f) ∧ PySem.W.keepIn K (.ref f) = true ∧ (∀ us : List Value, us.length = ps.length → bindArgs fd ⟨us, []⟩ = pure (ps.zip us))
theorem FnOk.forgetX {P : Program} {w : World} {K : PySem.W.Frag} {mg : Str → Option Value} {base : Heap} {k : Nat} {f : Addr} {fd : FuncData} {ps : List Str} {sp sp' : Sp} (F : FnOk P w K mg base (CXX P w) k f fd ps sp)
    (h : ∀ vs H Q E, sp' vs H Q E → sp vs H (fun v H' => Same H H' ∧ Q v H) (fun C d H' => Same H H' ∧ E C d H)) : FnOk P w K mg base (CXX P w) k f fd ps sp' where
  len := fun vs H Q E q => F.len _ _ _ _ (h _ _ _ _ q)
  run := fun A outer s H args us vs Q E hr e0 hb hv hs => by
    refine codeAny_mono (F.run A outer s H args us vs _ _ hr e0 hb hv (h _ _ _ _ hs)) fun r s' q => ?_
    cases r with
    | error e =>
      obtain ⟨e, C, H', rfl, ⟨sm, hE⟩, os, bare, un, hok, new, free, oe, vs, T, oT, ts, a0, h1, h2, h3, h4, h5, h6, h7, h8, h9⟩ := q
      have back : ∀ b, H' b = none → H b = none := fun b z => by
        cases q : H b with
        | none => rfl
        | some o => rw [sm b o q] at z; cases z
      exact ⟨e, C, H, rfl, hE, os, bare, un.forget, e0.hok.forget hok sm, new, back _ free, oe, vs, T, oT, ts, a0, h1, h2, h3, h4, ⟨h5.1, back _ h5.2⟩, h6, h7, h8, h9⟩
    | ok fl =>
      cases fl with
      | ret u =>
        obtain ⟨v, H', os, bare, un, hok, rv, sm, qv⟩ := q
        exact ⟨v, H, os, bare, un.forget, e0.hok.forget hok sm, rv, qv⟩
      | next => exact q
      | brk => exact q
      | cont => exact q
section
variable {P : Program} {w : World} {K : PySem.W.Frag} {mg : Str → Option Value} {base : Heap} {x : Str} {st : Stmt} {N ps : List Str} {k : Nat} {sp : Sp}
theorem Src.okXF (S : Src K mg x st ps) (sc : FnScope N ps (defScope st)) (len : ∀ vs H Q E, sp vs H Q E → vs.length = ps.length)
    (hbody : ∀ (f : Addr) (cdv : Value) (A : Around) (outer : List Env) (s : Shared) (H : Hp) (vs : List V) (Q : VK) (E : XK), Room k (A.deeper (envOfC x (defScope st) s.heap.objs.size f cdv)) → sp vs H Q E →
      ∃ t, PSs (cxOf (CXX P w) P w K mg base N x (defScope st) f cdv A outer s H (fun C d H' => Same H H' ∧ E C d H)) (defBody st) t ∧ t { nx := fun _ H' => Same H H' ∧ Q .non H, rt := fun v H' => Same H H' ∧ Q v H } (start N vs) H) : DefX P w K mg base (k + 1) x ps sp := by
  obtain ⟨f, fd, F, hm, hb⟩ := S.ex
  have kp := F.kp
  obtain ⟨oc, od, kV, doc, pm, an, cdv, ct, osl, rfl, lk, hcd⟩ := F.ex
  have G : FnOk P w K mg base (CXX P w) (k + 1) f _ ps (fun vs H R E' => ∃ Q E, sp vs H Q E ∧ R = (fun v H' => Same H H' ∧ Q v H) ∧ E' = fun C d H' => Same H H' ∧ E C d H) :=
    fn_of lk hcd sc (fun vs H R E' ⟨Q, E, h, _⟩ => len vs H Q E h) fun A outer s H vs R E' hr ⟨Q, E, h, e1, e2⟩ => by
      subst e1 e2
      exact hbody f cdv A outer s H vs Q E hr h
  exact ⟨f, _, G.forgetX fun vs H Q E h => ⟨Q, E, h, rfl, rfl⟩, hm, kp, hb⟩
end
section
variable {X : Cx} {x : Str} {p pos : Pos} {e : Expr} {es : List Expr} {t : TA} {j k : Nat} {ps : List Str} {sp : Sp}
theorem pe_fnX {E : XK} (D : DefX X.prog X.w X.K X.mg X.base j x ps sp) (hr : Room k X.A) (hx : Passes (CXX X.prog X.w) X E) (ha : PA X (e :: es) t) (hg : Gl X x := by rfl) (hj : j ≤ k := by decide) (hdb : (x == ("__debug__" : Str)) = false := by decide)
    (he : starEach (e :: es) X.env = (false, eval e X.env) :: starEach es X.env := by rfl) (hpl : (backTo pos (starEach es X.env)).any (·.1) = false := by rfl) :
    PE X (.Call (.Name x p) (e :: es) [] pos) (tCall sp [] E t) := by
  obtain ⟨f, fd, F, hm, hk, hb⟩ := D.ex
  exact pe_call F (hr.mono hj) hg hm hk (.all hb) .nil hx ha hdb he hpl
end
/-! ### own classes of exceptions -/
def bmV : List Value := [.type "ValueError", .type "Exception", .type "BaseException", .type "object"]
/-- the address of the class of that name -/
def cA (K : PySem.W.Frag) (x : Str) : Addr := match PySem.W.nsIn K mainGlobals x with
  | some (some (.ref C)) => C
  | _ => 0
theorem cA_of {K : PySem.W.Frag} {x : Str} {C : Addr} (e : PySem.W.nsIn K mainGlobals x = some (some (.ref C))) : cA K x = C := by unfold cA; rw [e]
/-- what isinstance asks of the class of an exception -/
structure XK1 (K : PySem.W.Frag) (C : Addr) : Prop where
  ga : PySem.W.findIn K (.ref C) "__getattribute__" = some (some (.builtin "BaseException.__getattribute__"))
  gh : PySem.W.findIn K (.ref C) "__getattr__" = some none
  cl : PySem.W.findIn K (.ref C) "__class__" = some (some (.builtin "object.__class__"))
  gt : PySem.W.specialIn K (.builtin "object.__class__") "__get__" = some (some (.builtin "getset_descriptor.__get__"))
  tk : PySem.W.takesIn K (.builtin "object.__class__") = some true
  ob : PySem.W.mroIn K C (.type "object") = some true
  be : PySem.W.subIn K (.ref C) (.type "BaseException") = some true
/-- .. and what raising it asks -/
structure XK2 (K : PySem.W.Frag) (C : Addr) : Prop where
  ok : PySem.W.excIn K C bmV "ValueError.__new__" = true
theorem exc_obj {K : PySem.W.Frag} {h : Heap} {C : Addr} {bmB : List Value} {newId : String} (X : K.In h) (q : PySem.W.excIn K C bmB newId = true) :
    ∃ bm N nm qn bs hdct sn sub ab col dd k0 k1 k2 k3 k5 mN, h.get? C = some (excClassObj nm qn C N bs bm hdct sn sub ab col dd k0 k1 k2 k3 k5 newId) ∧ h.Ns N mN ∧ mN "__init__" = none ∧ OwnTail h bmB bm := by
  unfold PySem.W.excIn at q
  split at q
  · rename_i dd cd sl ho
    split at q
    · rename_i C' bm k0 k1 k2 k3 n k5 hm hs
      simp only [Bool.and_eq_true, Bool.not_eq_true', beq_iff_eq] at q
      obtain ⟨⟨⟨⟨⟨e1, e2⟩, hdel⟩, ht⟩, hok⟩, hni⟩ := q
      subst e1 e2
      obtain ⟨nm, bs, mro, ns, qn, hd, sn, sub, ab, col, del⟩ := cd
      dsimp only at hm hdel hok hni
      subst hm hdel
      obtain ⟨l⟩ := sl
      have hl : l = [k0, k1, k2, k3, some (.builtin n), k5] := hs
      subst hl
      exact ⟨bm, ns, nm, qn, bs, hd, sn, sub, ab, col, dd, k0, k1, k2, k3, k5, _, X _ _ ho, .of_isNs (PySem.W.isNs_of_in X hok), PySem.W.nsMap_none_of_in X hok hni, PySem.W.tail_of_in X ht⟩
    · cases q
  · cases q
section
variable {X : Cx} {x : Str} {np cpos pos : Pos} {e0 : Expr} {rest : List Expr} {t : TA} {E : XK}
def tRaise (C : Addr) (E : XK) (t : TA) : TS := fun _ σ H => t σ H fun vs H1 => vs.length ≤ sizeLine ∧ E (.ref C) none H1
/-- raise C(e, ..) -/
theorem ps_raise (hm : X.mg x = some (.ref (cA X.K x))) (xk : XK2 X.K (cA X.K x)) (hE : ∀ pins σ H s h' e vs, Inv X pins σ H s → Heap.MadeExcOf s.heap h' e (.ref (cA X.K x)) vs → E (.ref (cA X.K x)) none H → X.xe (.ref e) { s with heap := h' })
    (ha : PA X (e0 :: rest) t) (hc : X.calm = true := by rfl) (hg : Gl X x := by rfl) (hd : (x == ("__debug__" : Str)) = false := by decide) (he : starEach (e0 :: rest) X.env = (false, eval e0 X.env) :: starEach rest X.env := by rfl)
    (hpl : (backTo cpos (starEach rest X.env)).any (·.1) = false := by rfl) : PS X (.Raise (some (.Call (.Name x np) (e0 :: rest) [] cpos)) none pos) (tRaise (cA X.K x) E t) := by
  intro pins s σ H D I h
  obtain ⟨bm, N, nm, qn, bs, hdct, sn, sub, ab, col, dd, k0, k1, k2, k3, k5, mN, hC, hN, hni, T⟩ := exc_obj I.ok.mod.kin xk.ok
  refine wpAny_Raise_call_subT (C := cA X.K x) (nm := nm) (q := qn) (N := N) (bs := bs) (bm := bm) (hdct := hdct) (sn := sn) (sub := sub) (ab := ab) (col := col) (dd := dd) (k0 := k0) (k1 := k1) (k2 := k2) (k3 := k3) (k5 := k5)
    PySem.F.excBase_ValueError (mN := mN) (T.hasType PySem.F.excBase_ValueError.hasBase) (I.ok.hd hc) (by rw [he]; show (false || (backTo cpos (starEach rest X.env)).any (·.1)) = false; rw [hpl]; rfl) hni (ld_glob I hg hm ⟨rfl, ?_⟩ hd)
  have h2 := ha cpos pins s σ H _ I h
  rw [he] at h2 ⊢
  refine Calls.evalArgs_plain (thn h2 fun us s1 hq => ?_)
  obtain ⟨vs, H1, I1, r, hz, hE1⟩ := hq
  exact ⟨rfl, by rw [← r.length]; exact hz, I1.bk _ _ hC, hN.keeps I1.bk, T.keeps I1.bk, fun h' e hx => hE pins σ H1 s1 h' e us I1 hx hE1⟩
end
/-! ### isinstance of an exception -/
def ExcO (e : Addr) (C : Value) : HO := .ext fun h => ∃ o vs, h.get? e = some o ∧ o.cls = C ∧ o.data = .fields vs
section
open PySem.Builtin PySem.Builtin.ObjectAttr PySem.Builtin.Getset_descriptor
variable {prog : Program} {w : World} {A : Around} {E : Value → Shared → Prop} {s : Shared} {K : PySem.W.Frag} {e C : Addr} {oe : Obj}
theorem xtype {M : Model} {h : Heap} (hx : h.get? e = some oe) (hc : oe.cls = .ref C) : PySem.W.Looks M h (typeOf (.ref e)) (.ref C) := hc ▸ (PySem.W.Looks.ld hx).andThen .now
theorem xclass_get {R : Result → Shared → Prop} {tp : Value} (X : K.In s.heap) (hx : s.heap.get? e = some oe) (hc : oe.cls = .ref C) (hm : PySem.W.mroIn K C (.type "object") = some true) (h : R (.ok (.ret (.ref C))) s) :
    codeAny (model prog w) A (.call (.builtin "getset_descriptor.__get__") ⟨[.builtin "object.__class__", .ref e, tp], []⟩) R s := by
  obtain ⟨hh, g, dr, t, os⟩ := s
  have M0 := xtype (M := model prog w) hx hc
  have M1 := PySem.W.looks_mroIn (M := model prog w) X hm
  refine codeAny_call_builtin PySem.W.KF.slot_gs.plain PySem.W.KF.entry_gs (PySem.W.KF.slot_gs.check _ _ _ _ _ _ _ _ PySem.W.KF.type_class (PySem.W.KF.args_gs _ _ _) ?_)
  unfold Builtin.«getset_descriptor.__get__» descrGet
  rw [PySem.W.dga_obj]
  refine wpAny_bind (wpAny_pure ?_)
  unfold descrGetter descrCheckInstance descrNameAndClass isInstance
  simp only [PySem.W.KF.owner_class]
  repeat lk
  refine ⟨Code.quiet_builtin _ (by decide +kernel), codeAny_builtin PySem.W.KF.entry_class ?_⟩
  unfold Builtin.«object.__class__» shownTypeOf
  repeat lk
  exact h
theorem xfind {M : Model} {h : Heap} (X : K.In h) (Z : XK1 K C) : PySem.W.Looks M h (find (.ref e) (.ref C) "__class__") (.bind (.builtin "getset_descriptor.__get__") (.builtin "object.__class__")) := by
  intro A Q E s k q
  have X' := X.keeps k
  obtain ⟨hh, g, d, t, os⟩ := s
  have L1 := PySem.W.looks_findIn (M := M) X' Z.cl
  have L2 := PySem.W.looks_specialIn (M := M) X' Z.gt
  have L3 := PySem.W.looks_takesIn (M := M) X' Z.tk
  unfold find
  refine wpAny_bind (L1.at (wpAny_bind (L2.at (wpAny_bind (wpAny_bind (L3.at ?_))))))
  repeat lk
  exact q
theorem xclass_attr {Q : Option Value → Shared → Prop} (X : K.In s.heap) (Z : XK1 K C) (hx : s.heap.get? e = some oe) (hc : oe.cls = .ref C) (h : Q (some (.ref C)) { s with toks := s.toks + 1 }) :
    wpAny (model prog w) A (getAttr? (.ref e) "__class__") Q E s := by
  obtain ⟨hh, g, d, t, os⟩ := s
  have L0 := xtype (M := model prog w) hx hc
  have L1 := PySem.W.looks_findIn (M := model prog w) X Z.ga
  have L2 := PySem.W.looks_findIn (M := model prog w) X Z.gh
  have L3 := xfind (M := model prog w) (e := e) X Z
  have L4 := PySem.W.looks_subIn (M := model prog w) X Z.be
  have hk : builtinKind "BaseException.__getattribute__" = some .slot := by decide +kernel
  have hsplit : splitId "BaseException.__getattribute__" = some ("BaseException", "__getattribute__") := by decide +kernel
  unfold getAttr? getAttrBy? getAttrBy
  refine wpAny_bind (wpAny_mkText (wpAny_bind (wpAny_attempt (wpAny_holding (wpAny_bind (L0.at (wpAny_bind (L1.at ?_))))))))
  have hne : (Value.builtin "BaseException.__getattribute__" == Value.builtin "object.__getattribute__") = false := by decide +kernel
  dsimp only
  rw [if_neg (by rw [hne, Bool.and_false]; exact Bool.false_ne_true)]
  unfold getAttrByItsOwn hookBefore
  rw [if_pos (show onTheHeap (Value.ref C) = true from rfl)]
  refine wpAny_bind (L2.at ?_)
  refine wpAny_bind (wpAny_attempt (wpAny_holding ?_))
  unfold callGetattribute boundAndCalled
  rw [if_neg (show ¬ (false && onTheHeap (Value.builtin "BaseException.__getattribute__")) = true from Bool.false_ne_true)]
  refine wpAny_bind (wpAny_of_eq (PySem.F.attr_ValueError.ga.bind (.ref e)) ?_)
  refine wpAny_call (codeAny_call_builtin PySem.F.attr_ValueError.ga.plain PySem.F.entry_bexc_ga ?_)
  have ha := F.args_bexc_ga (.ref e) (.str "__class__" t)
  simp only [checkBuiltinCall, hk, hsplit]
  unfold isInstance
  repeat (any_goals (first | with_reducible refine PySem.W.Looks.at (by assumption) ?_ | wp_step))
  refine xclass_get (s := ⟨hh, g, d, t + 1, os⟩) X hx hc Z.ob (wpAny_pure ?_)
  show wpAny _ _ (handedOut (.ref C)) _ _ _
  repeat (any_goals (first | assumption | wp_step))
end
end L2
namespace L2
open PySem PySem.Spec PyProof.Rows
section
variable {K : PySem.W.Frag} {e C : Addr}
theorem cls_of_mro {v : Value} {b : Bool} (h : PySem.W.mroIn K C v = some b) : ∃ c d cd sl, K.lookup C = some ⟨c, d, .cls cd, sl⟩ := by
  unfold PySem.W.mroIn PySem.W.clsIn at h
  obtain ⟨cd, hc, _⟩ := Option.bind_eq_some_iff.mp h
  split at hc
  · rename_i c d cd' sl ho
    exact ⟨c, d, cd', sl, ho⟩
  · cases hc
theorem kitx_exc (Z : XK1 K C) : PySem.W.KitX K (.ref e) (.ref C) (fun h => ∃ o vs, h.get? e = some o ∧ o.cls = .ref C ∧ o.data = .fields vs) where
  ty := fun M h X p => by
    obtain ⟨o, vs, h1, h2, _⟩ := p
    exact xtype h1 h2
  it := fun M h X _ => by
    obtain ⟨c, d, cd, sl, ho⟩ := cls_of_mro Z.ob
    intro A Q E s k q
    unfold isType loadHead
    exact wpAny_bind (wpAny_loadPart (k _ _ (X _ _ ho)) (wpAny_pure q))
  ne := fun h tp dd its n sl X htp => by
    obtain ⟨c, d, cd, sl', ho⟩ := cls_of_mro Z.ob
    refine Bool.eq_false_iff.mpr fun q => ?_
    have e : C = tp := Value.ref.inj (beq_iff_eq.mp q)
    subst e
    have z := (X _ _ ho).symm.trans htp
    cases z
  ca := fun X p k => by
    obtain ⟨o, vs, h1, h2, _⟩ := p
    exact xclass_attr X Z h1 h2 k
end
section
variable {X : Cx}
theorem exc_get {pins : List (Addr × Obj)} {σ : St} {H : Hp} {s : Shared} {e : Addr} {C : Value} (I : Inv X pins σ H s) (h : H e = some (ExcO e C)) : ∃ o vs, s.heap.get? e = some o ∧ o.cls = C ∧ o.data = .fields vs := (I.hok e _ h).1
/-- isinstance(e, C), C an own class or a built-in one -/
theorem call_isiO (K : PySem.W.Frag) (hK : X.K = K := by rfl) : CallR X (.builtin "isinstance") (fun xs H Q => ∃ e C D b, xs = [.ref e, .ref D] ∧ H e = some (ExcO e (.ref C)) ∧ XK1 K C ∧ PySem.W.kitOne K (.ref C) (.ref D) = some b ∧ Q (.bl b) H) := by
  subst hK
  intro pins s σ H xs us Q I r h
  obtain ⟨e, C, D, b, rfl, he, Z, kit, q⟩ := h
  obtain ⟨u, v, rfl, ru, rv⟩ := vals2 r
  cases ru
  cases rv
  exact PySem.W.kia_one (kitx_exc Z) I.kIn (exc_get I he) kit (fun z => nomatch z) fun tk => ⟨.bl b, H, I.tok tk, rfl, q⟩
end
/-! ### try: y = f(..) except C as n: suite -/
abbrev Cx.held (X : Cx) (e : Addr) : Cx := { X with A := X.A.mark (some (.ref e)), calm := false, xe := fun _ _ => False }
section
variable {X : Cx} {pins : List (Addr × Obj)} {σ : St} {H : Hp} {s : Shared} {e : Addr}
theorem Inv.held (I : Inv X pins σ H s) (e : Addr) : Inv (X.held e) pins σ H s :=
  ⟨⟨I.ok.mod, I.ok.kind, I.ok.glob, I.ok.blt, I.ok.above, I.ok.inj, I.ok.has, I.ok.cab, fun z => (Bool.false_ne_true z).elim, I.ok.frames, I.ok.stk, I.ok.exf, I.ok.bs, I.ok.bsz, I.ok.noex, I.ok.exfs, I.ok.funs, I.ok.frf⟩,
    I.os, I.bare, I.base, I.loc, I.cell, I.free, I.freeC, I.pin, I.hok, I.len⟩
theorem Inv.unheld (ok : X.Ok) (I : Inv (X.held e) pins σ H s) : Inv X pins σ H s := ⟨ok, I.os, I.bare, I.base, I.loc, I.cell, I.free, I.freeC, I.pin, I.hok, I.len⟩
theorem Inv.track {o : HO} (I : Inv X pins σ H s) (hn : H e = none) (h0 : X.s₀.heap.get? e = none) (hL : e ≠ X.env.locals) (hC : ∀ x c, X.env.cells.lookup x = some c → c ≠ e) (hp : ∀ p ∈ X.pn ++ pins, p.1 ≠ e)
    (new : ObjOk X.prog X.w (upd H e o) s.heap e o) : Inv X pins σ (upd H e o) s := by
  refine ⟨I.ok, I.os, I.bare, ⟨I.base.keep, I.base.slot, fun b u q n hx => ?_, I.base.there, fun b xs q => ?_, fun b u v q => ?_, fun b ps q => ?_⟩, I.loc, I.cell, ?_, fun x c q => ?_, fun p q => ?_, fun b u q => ?_, I.len⟩
  · rw [upd_ne (fun z => by rw [z, h0] at q; cases q)]
    exact I.base.free b u q n hx
  · have z := I.base.tups b xs q
    rw [upd_ne (ne_of_none z hn)]; exact z
  · have z := I.base.frzs b u v q
    rw [upd_ne (ne_of_none z hn)]; exact z
  · obtain ⟨more, z⟩ := I.base.tbls b ps q
    exact ⟨more, by rw [upd_ne (ne_of_none z hn)]; exact z⟩
  · rw [upd_ne (Ne.symm hL)]; exact I.free
  · rw [upd_ne (hC x c q)]; exact I.freeC x c q
  · obtain ⟨a, b, c, d, f⟩ := I.pin p q
    exact ⟨a, by rw [upd_ne (hp p q)]; exact b, c, d, f⟩
  · by_cases hb : b = e
    · subst hb
      rw [upd_same] at q; cases q
      exact new
    · rw [upd_ne hb] at q
      exact (I.hok b u q).stay (fun _ _ _ z => z) (fun c z => by rw [upd_ne (ne_of_none z hn)]; exact z) fun c xs z => by rw [upd_ne (ne_of_none z hn)]; exact z
theorem Inv.forgetLoc {h' : Heap} {m' : Str → Option Value} {t' : Nat} (I : Inv X pins σ H s) (hn : h'.Ns X.env.locals m') (hs : Heap.SameBut X.env.locals s.heap h') : Inv X pins (List.replicate X.N.length none) H { s with heap := h', toks := t' } := by
  have neL : ∀ b o, X.s₀.heap.get? b = some o → b ≠ X.env.locals := fun b o q => Nat.ne_of_lt (Nat.lt_of_lt_of_le (Heap.lt_size q) I.ok.above)
  refine ⟨I.ok, I.os, I.bare, ⟨fun b o q n hb hx => (hs.2 b (neL b o q)).trans (I.base.keep b o q n hb hx), fun b o q n hb hx => ?_, I.base.free, fun b o q hx => ?_, I.base.tups, I.base.frzs, I.base.tbls⟩, ⟨m', hn, fun i x v e1 e2 e3 => ?_⟩, fun x c q => ?_, I.free, I.freeC, fun p hp => ?_, fun a o q => ?_, by rw [List.length_replicate]⟩
  · obtain ⟨sl, e1⟩ := I.base.slot b o q n hb hx
    exact ⟨sl, (hs.2 b (neL b o q)).trans e1⟩
  · obtain ⟨o', e1⟩ := I.base.there b o q hx
    exact ⟨o', (hs.2 b (neL b o q)).trans e1⟩
  · rw [List.getElem?_replicate] at e2
    split at e2 <;> cases e2
  · obtain ⟨v, o, ho, hd⟩ := I.cell x c q
    exact ⟨v, o, (hs.2 c (I.cne x c q)).trans ho, hd⟩
  · obtain ⟨a, b, c, d, f⟩ := I.pin p hp
    exact ⟨(hs.2 p.1 c).trans a, b, c, d, f⟩
  · refine (I.hok a o q).stay (fun b u hb r => (hs.2 b ?_).trans r) (fun _ z => z) fun _ _ z => z
    intro z
    have t : H b ≠ none := by
      rcases hb with rfl | hb
      · rw [q]; exact fun z => nomatch z
      · rw [hb]; exact fun z => nomatch z
    exact t (by rw [z]; exact I.free)
end
def tTry (K : PySem.W.Frag) (Cx : Addr) (i j : Nat) (ta : TA) (sp : Sp) (th : TS) : TS := fun D σ H => ta σ H fun vs H1 => sp vs H1 (fun v H2 => D.nx (σ.set i (some v)) H2) fun C _ H2 =>
  ∃ c, C = .ref c ∧ PySem.W.exmOne K (.ref c) (.ref Cx) = some true ∧ ∀ e, H2 e = none → th { nx := fun _ _ => False, rt := D.rt } (σ.set j (some (.ref e))) (upd H2 e (ExcO e (.ref c)))
theorem ps_try {X : Cx} {fn y n x : Str} {i j lv k : Nat} {ps : List Str} {sp : Sp} {e0 : Expr} {es : List Expr} {ta : TA} {pf pc py pst np hpos pos : Pos} {b₀ : Stmt} {suite : List Stmt} {th : TS}
    (Df : DefX X.prog X.w X.K X.mg X.base lv fn ps sp) (hr : Room k X.A) (hN : X.N.Nodup) (hi : X.N[i]? = some y) (hy : X.env.scope.names.lookup y = some .local) (hj : X.N[j]? = some n) (hn : X.env.scope.names.lookup n = some .local)
    (hcx : X.mg x = some (.ref (cA X.K x))) (ha : PA X.nox (e0 :: es) ta) (hs : ∀ e, PSs (X.held e) (b₀ :: suite) th)
    (hlv : lv ≤ k := by decide) (hg : Gl X fn := by rfl) (hgx : Gl X x := by rfl) (hst : X.stack = X.env :: X.outer := by rfl) (hfr : X.env.frame = some X.env.locals := by rfl) (hex : X.ex = [] := by rfl) (hdb : (fn == ("__debug__" : Str)) = false := by decide) (hdx : (x == ("__debug__" : Str)) = false := by decide)
    (he : starEach (e0 :: es) X.env = (false, eval e0 X.env) :: starEach es X.env := by rfl) (hpl : (backTo pc (starEach es X.env)).any (·.1) = false := by rfl)
    (hsw : swapsWith (.Call (.Name fn pf) (e0 :: es) [] pc) (some (.Name y py)) pst.line X.env = pure false := by rfl) :
    PS X (.Try [.Assign [.Name y py] (.Call (.Name fn pf) (e0 :: es) [] pc) pst] [.ExceptHandler (some (.Name x np)) (some n) (b₀ :: suite) hpos] [] [] pos) (tTry X.K (cA X.K x) i j ta sp th) := by
  intro pins s σ H D I h
  obtain ⟨f, fd, F, hm, hk, hb⟩ := Df.ex
  refine wpAny_Try_except (wpAny_execs_cons (wpAny_Assign_Name (wpAny_Call_Name_kw (ld_glob I hg hm (PySem.W.callWith_K (h₀ := X.base) I.ok.mod.kin hk ?_ he hpl) hdb)) hsw))
  refine wpAny_mono (ha pc pins s σ H _ (I.wish _) h) (fun us s1 hq1 => ?_) fun _ _ z => False.elim z
  obtain ⟨vs, H1, J1, r, q⟩ := hq1
  have I1 := J1.unwish
  refine ⟨I1.kIn, ?_⟩
  have hl : us.length = ps.length := by rw [← r.length]; exact F.len _ _ _ _ q
  have bd := (Binds.all (K := X.K) hb) s1 us I1.kIn (by rw [List.append_nil]; exact hl)
  rw [List.append_nil] at bd
  refine wpAny_call (codeAny_mono (F.run X.A X.stack s1 H1 ⟨us, []⟩ us vs _ _ (hr.mono hlv) I1.env0 bd r q) fun rs s2 hq => ?_)
  cases rs with
  | ok fl =>
    cases fl with
    | ret u =>
      obtain ⟨v, H2, I2, rv, q2⟩ := I1.after hq
      exact store_ok I2 hN hi (.inl hy) rv (fun s3 I3 => wpAny_execs_nil (wpAny_execs_nil ⟨_, H2, I3, q2⟩)) (.inr hy)
    | next => exact False.elim hq
    | brk => exact False.elim hq
    | cont => exact False.elim hq
  | error ev =>
    obtain ⟨e, C, H2, rfl, hE, os, bare, un, hok, new, free, oe, vs', T, oT, ts, a0, h1, h2, h3, h4, h5, h6, h7, h8, h9⟩ := hq
    obtain ⟨c, rfl, hsub, hth⟩ := hE
    have I2 : Inv X pins σ H2 s2 := I1.call' os un hok bare (fun b z => absurd z (by simp))
    have fresh : ∀ b, s1.heap.get? b = none → X.s₀.heap.get? b = none := fun b z => by
      cases q : X.s₀.heap.get? b with
      | none => rfl
      | some o =>
        obtain ⟨o', e1⟩ := I1.base.there b o q (by rw [hex]; simp)
        rw [z] at e1; cases e1
    have pnn : ∀ b, s1.heap.get? b = none → ∀ p ∈ X.pn ++ pins, p.1 ≠ b := fun b z p hp y => by
      have := (I1.pin p hp).1
      rw [y, z] at this; cases this
    have me : e ∈ e :: T :: frs X.stack := List.mem_cons_self
    have mT : T ∈ e :: T :: frs X.stack := List.mem_cons_of_mem _ List.mem_cons_self
    have nm : ∀ b, b ∉ frs X.stack → b ∉ [e, T] → b ∉ e :: T :: frs X.stack := fun b n m z => by
      rcases List.mem_cons.mp z with z | z
      · exact m (by rw [z]; simp)
      · rcases List.mem_cons.mp z with z | z
        · exact m (by rw [z]; simp)
        · exact n z
    have hh : ∀ b ∈ [e, T], X.s₀.heap.get? b = none ∧ H2 b = none ∧ ∀ p ∈ X.pn ++ pins, p.1 ≠ b := fun b z => by
      rcases List.mem_cons.mp z with z | z
      · subst z; exact ⟨fresh _ new, free, pnn _ new⟩
      · have z' : b = T := by simpa using z
        subst z'; exact ⟨fresh _ h5.1, h5.2, pnn _ h5.1⟩
    refine wpAny_looks_onW (base := PySem.W.hideAll s2.heap (e :: T :: frs X.stack)) (outer := X.outer) (L := X.env.locals) (cls := .ref c) (a0 := a0) (by rw [I.ok.frames, hst]) hfr
      ⟨fun b o q => PySem.W.of_hideAll _ q, PySem.W.hideAll_none _ me, by rw [← hst]; exact PySem.W.funFrames_hide I2.stack (fun env he a ha => List.mem_cons_of_mem _ (List.mem_cons_of_mem _ (List.mem_filterMap.mpr ⟨env, he, ha⟩))),
        oe, vs', T, oT, ts, h1, h2, h3, h4, PySem.W.hideAll_none _ mT, h6, h7, h8, h9⟩ fun h₄ held u4 => ?_
    refine wpAny_landsW held fun h₅ fly u5 => ?_
    have F5 : Flew X [e, T] s2.heap h₅ := ⟨fun b o q n m => fly.1 b o (PySem.W.hideAll_get _ q (nm b n m)), u4.trans u5⟩
    have I5 := I2.flew F5 hh
    obtain ⟨ob, hob, hobc⟩ := fly.there
    refine wpAny_handleBy_cons (codeAny_handlers_test (ld_glob (I5.held e) hgx hcx ?_ hdx)) (by intro q; cases q)
    refine (PySem.W.exm_one (K := X.K) I5.kIn (xtype hob hobc) hsub).here ?_
    refine codeAny_handlers_suite_as (lands_againW fly fun h₆ fly6 u6 => ?_)
    have F6 : Flew X [e, T] s2.heap h₆ := ⟨fun b o q n m => fly6.1 b o (PySem.W.hideAll_get _ q (nm b n m)), (u4.trans u5).trans u6⟩
    have I6 := I2.flew F6 hh
    obtain ⟨oe6, vs6, he6, hc6, hd6, _⟩ := fly6.first
    have I7 : Inv X pins σ (upd H2 e (ExcO e (.ref c))) { s2 with heap := h₆ } := by
      refine I6.track free (fresh e new) (fun z => ?_) (fun x c' q z => ?_) (pnn e new) ⟨⟨oe6, vs6, he6, hc6, hd6⟩, ⟨oe6, he6⟩, fun g1 g2 p k => ?_⟩
      · obtain ⟨m, ⟨o, es, ep, ho, hd, _⟩, _⟩ := I6.loc
        rw [← z] at ho
        have y := ho.symm.trans he6
        cases y
        rw [hd6] at hd; cases hd
      · obtain ⟨v, o, ho, hd⟩ := I6.cell x c' q
        rw [z] at ho
        have y := ho.symm.trans he6
        cases y
        rw [hd6] at hd; cases hd
      · obtain ⟨o, vs, a, b, d⟩ := p
        exact ⟨o, vs, k o a, b, d⟩
    refine store_ok I7 hN hj (.inl hn) (v := .ref e) rfl (fun s7 I8 => ?_) (.inr hn)
    refine wpAny_mono (hs e pins s7 _ _ _ (I8.held e) (hth e free)) (fun fl s8 q8 => ?_) fun _ _ z => False.elim z
    cases fl with
    | ret u =>
      obtain ⟨v, σ', H8, I9, rv, qv⟩ := q8
      have I9 := I9.unheld I.ok
      obtain ⟨m, hm', _⟩ := id I9.loc
      exact wpAny_nameGoes hn hm' (by rw [I.ok.kind]; rfl) fun h₉ m₉ hn₉ hs₉ => ⟨v, _, H8, I9.forgetLoc hn₉ hs₉, rv, qv⟩
    | next => obtain ⟨_, _, _, z⟩ := q8; exact False.elim z
    | brk => obtain ⟨_, _, _, z⟩ := q8; exact False.elim z
    | cont => obtain ⟨_, _, _, z⟩ := q8; exact False.elim z
end L2
namespace L2
open PySem PySem.Spec PyProof.Rows
/-! ### the facts of classes, as they stand behind the top -/
section
variable {K : PySem.W.Frag} {h : Heap} {mg : Str → Option Value} {x y : Str} {C D : Addr} {v : Bool} {n : String}
theorem nsHave (X : K.In h) (a : PySem.W.nsIn K mainGlobals x = some (some (.ref C))) : PySem.W.nsIn K mainGlobals x = some (some (.ref C)) := a
theorem m_mk (X : K.In h) (G : h.Ns mainGlobals mg) (a : PySem.W.nsIn K mainGlobals x = some (some (.ref C))) : mg x = some (.ref (cA K x)) := by
  rw [cA_of a]; exact PySem.W.mg_of X G a
theorem x2_mk (a : PySem.W.nsIn K mainGlobals x = some (some (.ref C))) (q : PySem.W.excIn K C [.type "ValueError", .type "Exception", .type "BaseException", .type "object"] "ValueError.__new__" = true) : XK2 K (cA K x) := by
  rw [cA_of a]; exact ⟨q⟩
theorem x1_mk (a : PySem.W.nsIn K mainGlobals x = some (some (.ref C))) (q1 : PySem.W.findIn K (.ref C) "__getattribute__" = some (some (.builtin "BaseException.__getattribute__"))) (q2 : PySem.W.findIn K (.ref C) "__getattr__" = some none)
    (q3 : PySem.W.findIn K (.ref C) "__class__" = some (some (.builtin "object.__class__"))) (q4 : PySem.W.specialIn K (.builtin "object.__class__") "__get__" = some (some (.builtin "getset_descriptor.__get__")))
    (q5 : PySem.W.takesIn K (.builtin "object.__class__") = some true) (q6 : PySem.W.mroIn K C (.type "object") = some true) (q7 : PySem.W.subIn K (.ref C) (.type "BaseException") = some true) : XK1 K (cA K x) := by
  rw [cA_of a]; exact ⟨q1, q2, q3, q4, q5, q6, q7⟩
theorem kit_mk (a : PySem.W.nsIn K mainGlobals x = some (some (.ref C))) (b : PySem.W.nsIn K mainGlobals y = some (some (.ref D))) (q : PySem.W.kitOne K (.ref C) (.ref D) = some v) : PySem.W.kitOne K (.ref (cA K x)) (.ref (cA K y)) = some v := by
  rw [cA_of a, cA_of b]; exact q
inductive NL (K : PySem.W.Frag) : List Str → List Addr → Prop
  | nil : NL K [] []
  | cons {x : Str} {C : Addr} {xs : List Str} {Cs : List Addr} (a : PySem.W.nsIn K mainGlobals x = some (some (.ref C))) (l : NL K xs Cs) : NL K (x :: xs) (C :: Cs)
theorem NL.eq {xs : List Str} {Cs : List Addr} (l : NL K xs Cs) : xs.map (cA K) = Cs := by
  induction l with
  | nil => rfl
  | cons a _ ih => rw [List.map_cons, cA_of a, ih]
theorem exm_mk (a : PySem.W.nsIn K mainGlobals x = some (some (.ref C))) (b : PySem.W.nsIn K mainGlobals y = some (some (.ref D))) (q1 : PySem.W.subIn K (.ref D) (.type "BaseException") = some true)
    (q2 : PySem.W.isClsIn K D = true) (q3 : PySem.W.typeIn K (.ref D) = some (.type "type")) (q4 : PySem.W.subIn K (.ref C) (.ref D) = some true) : PySem.W.exmOne K (.ref (cA K x)) (.ref (cA K y)) = some true := by
  rw [cA_of a, cA_of b]
  unfold PySem.W.exmOne PySem.W.kitCls
  unfold PySem.W.isClsIn at q2
  rw [q1, if_pos (by decide)]
  dsimp only
  rw [q2, q3, if_pos (by decide)]
  exact q4
end
end L2
namespace L2
open PySem PySem.Spec PyProof.Rows
/-! ### a def that is called within an except suite (it raises nothing) -/
structure RoomH (k : Nat) (A : Around) : Prop where
  dp : A.depth + 3 * k + 5 < recursionLimit
  un : A.units + 16 * k + 200 < cLine
theorem RoomH.of {k : Nat} {A : Around} {v : Option Value} (r : Room k A) : RoomH k (A.mark v) := ⟨r.dp, r.un⟩
theorem RoomH.mono {j k : Nat} {A : Around} (r : RoomH k A) (h : j ≤ k) : RoomH j A := ⟨by have := r.dp; omega, by have := r.un; omega⟩
theorem RoomH.deeper {k : Nat} {A : Around} (r : RoomH (k + 1) A) (env : Env) : RoomH k (A.deeper env) :=
  ⟨by have := r.dp; show A.depth + 1 + 3 * k + 5 < _; omega, by have := r.un; show A.units + 3 + 16 * k + 200 < _; omega⟩
abbrev cxH (P : Program) (w : World) (K : PySem.W.Frag) (mg : Str → Option Value) (base : Heap) (N : List Str) (qual : Str) (scope : Scope) (f : Addr) (cd : Value) (A : Around) (outer : List Env) (s : Shared) (H : Hp) : Cx :=
  { cxOf CX0 P w K mg base N qual scope f cd A outer s H E0 with calm := false, xe := fun _ _ => False }
structure FnOkH (P : Program) (w : World) (K : PySem.W.Frag) (mg : Str → Option Value) (base : Heap) (k : Nat) (f : Addr) (fd : FuncData) (ps : List Str) (sp : Sp) : Prop where
  len : ∀ vs H Q E, sp vs H Q E → vs.length = ps.length
  run : ∀ (A : Around) (outer : List Env) (s : Shared) (H : Hp) (args : Args) (us : List Value) (vs : List V) (Q : VK), RoomH k A → Env0 P w K mg base A outer s H → BindsTo s fd args (ps.zip us) → Vals vs us → sp vs H Q E0 →
    codeAny (model P w) A (.call (.ref f) args) (CR CX0 outer P w H s Q E0) s
structure DefH (P : Program) (w : World) (K : PySem.W.Frag) (mg : Str → Option Value) (base : Heap) (k : Nat) (x : Str) (ps : List Str) (sp : Sp) : Prop where
  ex : ∃ (f : Addr) (fd : FuncData), FnOkH P w K mg base k f fd ps sp ∧ mg x = some (.ref f) ∧ PySem.W.keepIn K (.ref f) = true ∧ (∀ us : List Value, us.length = ps.length → bindArgs fd ⟨us, []⟩ = pure (ps.zip us))
section
variable {P : Program} {w : World} {K : PySem.W.Frag} {mg : Str → Option Value} {base : Heap} {x : Str} {st : Stmt} {N ps : List Str} {k : Nat} {sp : Sp}
end
section
variable {X : Cx} {x : Str} {p pos : Pos} {e : Expr} {es : List Expr} {t : TA} {j k : Nat} {ps : List Str} {sp : Sp}
end
/-! ### lists by what is true of each item -/
theorem at_mem {xs : List V} {k : Int} (h0 : 0 ≤ k) (h : k < (xs.length : Int)) : ∃ v, atI xs k = some v ∧ v ∈ xs := by
  have hk : k.toNat < xs.length := by omega
  have q : atI xs ((k.toNat : Nat) : Int) = some xs[k.toNat] := atI_nat (List.getElem?_eq_getElem hk)
  rw [show ((k.toNat : Nat) : Int) = k by omega] at q
  exact ⟨_, q, List.getElem_mem hk⟩
theorem mem1 {v : V} {xs : List V} {p : V → Prop} (h : p v) (t : ∀ x ∈ xs, p x) : ∀ x ∈ v :: xs, p x := fun x hx => by
  rcases List.mem_cons.mp hx with rfl | hx
  · exact h
  · exact t x hx
theorem mem0 {p : V → Prop} : ∀ x ∈ ([] : List V), p x := fun x hx => by cases hx
theorem IsKind.same {K : PySem.W.Frag} {H H' : Hp} {x : V} {T : String} (h : IsKind K H x T) (s : Same H H') : IsKind K H' x T := by
  refine ⟨?_, h.2⟩
  have q := h.1
  generalize e : Value.type T = t at q ⊢
  cases q with
  | non => exact .non
  | bl b => exact .bl b
  | int i => exact .int i
  | str y => exact .str y
  | flt y => exact .flt y
  | lst ea => exact .lst (s _ _ ea)
  | frz ea => exact .frz (s _ _ ea)
  | tup ea => exact .tup (s _ _ ea)
  | dK ea => exact .dK (s _ _ ea)
  | ins => cases e
theorem IsKind.upd {K : PySem.W.Frag} {H : Hp} {x : V} {T : String} {l : Addr} {xs ys : List V} (h : IsKind K H x T) (hl : H l = some (.lst xs)) : IsKind K (upd H l (.lst ys)) x T := by
  refine ⟨?_, h.2⟩
  have q := h.1
  generalize e : Value.type T = t at q ⊢
  cases q with
  | non => exact .non
  | bl b => exact .bl b
  | int i => exact .int i
  | str y => exact .str y
  | flt y => exact .flt y
  | @lst a zs ea =>
    by_cases z : a = l
    · subst z; exact .lst upd_same
    · exact .lst (by rw [upd_ne z]; exact ea)
  | @frz a o zs ea => exact .frz (by rw [upd_ne (ne_of ea hl (by intro z; cases z))]; exact ea)
  | @tup a zs ea => exact .tup (by rw [upd_ne (ne_of ea hl (by intro z; cases z))]; exact ea)
  | @dK a zs ea => exact .dK (by rw [upd_ne (ne_of ea hl (by intro z; cases z))]; exact ea)
  | ins => cases e
/-- a list that is newer than H is changed -/
theorem same_put {H H' : Hp} {l : Addr} {o : HO} (s : Same H H') (h : H l = none) : Same H (upd H' l o) := fun b u q => by
  rw [upd_ne (ne_of_none q h)]; exact s b u q
end L2
namespace L2
open PySem PySem.W PyProof.Rows
def tSeqN (t u : TS) : TS := tSeq t u
theorem pss_consN {X : Cx} {st : Stmt} {rest : List Stmt} {t u : TS} (h1 : PS X st t) (h2 : PSs X rest u) : PSs X (st :: rest) (tSeqN t u) := pss_cons h1 h2
def Mkd (p : Prop) : Prop := p
variable {t1 t2 t3 t4 t5 t6 t7 t8 t9 t10 : TS} {D : Ends} {σ : St} {H : Hp}
theorem sqG (h : Mkd (tSeqN t1 t2 D σ H)) : tSeqN t1 t2 D σ H := h
theorem sqN2 (h : let v1 := t2; tSeq t1 v1 D σ H) : Mkd ((tSeqN t1 t2) D σ H) := h
theorem sqN3 (h : let v2 := t3; let v1 := tSeq t2 v2; tSeq t1 v1 D σ H) : Mkd ((tSeqN t1 (tSeqN t2 t3)) D σ H) := h
theorem sqN4 (h : let v3 := t4; let v2 := tSeq t3 v3; let v1 := tSeq t2 v2; tSeq t1 v1 D σ H) : Mkd ((tSeqN t1 (tSeqN t2 (tSeqN t3 t4))) D σ H) := h
theorem sqN5 (h : let v4 := t5; let v3 := tSeq t4 v4; let v2 := tSeq t3 v3; let v1 := tSeq t2 v2; tSeq t1 v1 D σ H) : Mkd ((tSeqN t1 (tSeqN t2 (tSeqN t3 (tSeqN t4 t5)))) D σ H) := h
theorem sqN6 (h : let v5 := t6; let v4 := tSeq t5 v5; let v3 := tSeq t4 v4; let v2 := tSeq t3 v3; let v1 := tSeq t2 v2; tSeq t1 v1 D σ H) : Mkd ((tSeqN t1 (tSeqN t2 (tSeqN t3 (tSeqN t4 (tSeqN t5 t6))))) D σ H) := h
theorem sqN7 (h : let v6 := t7; let v5 := tSeq t6 v6; let v4 := tSeq t5 v5; let v3 := tSeq t4 v4; let v2 := tSeq t3 v3; let v1 := tSeq t2 v2; tSeq t1 v1 D σ H) : Mkd ((tSeqN t1 (tSeqN t2 (tSeqN t3 (tSeqN t4 (tSeqN t5 (tSeqN t6 t7)))))) D σ H) := h
theorem sqN8 (h : let v7 := t8; let v6 := tSeq t7 v7; let v5 := tSeq t6 v6; let v4 := tSeq t5 v5; let v3 := tSeq t4 v4; let v2 := tSeq t3 v3; let v1 := tSeq t2 v2; tSeq t1 v1 D σ H) : Mkd ((tSeqN t1 (tSeqN t2 (tSeqN t3 (tSeqN t4 (tSeqN t5 (tSeqN t6 (tSeqN t7 t8))))))) D σ H) := h
theorem sqN9 (h : let v8 := t9; let v7 := tSeq t8 v8; let v6 := tSeq t7 v7; let v5 := tSeq t6 v6; let v4 := tSeq t5 v5; let v3 := tSeq t4 v4; let v2 := tSeq t3 v3; let v1 := tSeq t2 v2; tSeq t1 v1 D σ H) : Mkd ((tSeqN t1 (tSeqN t2 (tSeqN t3 (tSeqN t4 (tSeqN t5 (tSeqN t6 (tSeqN t7 (tSeqN t8 t9)))))))) D σ H) := h
theorem sqN10 (h : let v9 := t10; let v8 := tSeq t9 v9; let v7 := tSeq t8 v8; let v6 := tSeq t7 v7; let v5 := tSeq t6 v6; let v4 := tSeq t5 v5; let v3 := tSeq t4 v4; let v2 := tSeq t3 v3; let v1 := tSeq t2 v2; tSeq t1 v1 D σ H) : Mkd ((tSeqN t1 (tSeqN t2 (tSeqN t3 (tSeqN t4 (tSeqN t5 (tSeqN t6 (tSeqN t7 (tSeqN t8 (tSeqN t9 t10))))))))) D σ H) := h
inductive Ee4 {α0 α1 α2 α3 : Type} (p : α0 → α1 → α2 → α3 → Prop) : Prop | mk (x0 : α0) (x1 : α1) (x2 : α2) (x3 : α3) (h : p x0 x1 x2 x3) : Ee4 p
inductive Ee5 {α0 α1 α2 α3 α4 : Type} (p : α0 → α1 → α2 → α3 → α4 → Prop) : Prop | mk (x0 : α0) (x1 : α1) (x2 : α2) (x3 : α3) (x4 : α4) (h : p x0 x1 x2 x3 x4) : Ee5 p
inductive Ee6 {α0 α1 α2 α3 α4 α5 : Type} (p : α0 → α1 → α2 → α3 → α4 → α5 → Prop) : Prop | mk (x0 : α0) (x1 : α1) (x2 : α2) (x3 : α3) (x4 : α4) (x5 : α5) (h : p x0 x1 x2 x3 x4 x5) : Ee6 p
inductive Ee7 {α0 α1 α2 α3 α4 α5 α6 : Type} (p : α0 → α1 → α2 → α3 → α4 → α5 → α6 → Prop) : Prop | mk (x0 : α0) (x1 : α1) (x2 : α2) (x3 : α3) (x4 : α4) (x5 : α5) (x6 : α6) (h : p x0 x1 x2 x3 x4 x5 x6) : Ee7 p
inductive Ee8 {α0 α1 α2 α3 α4 α5 α6 α7 : Type} (p : α0 → α1 → α2 → α3 → α4 → α5 → α6 → α7 → Prop) : Prop | mk (x0 : α0) (x1 : α1) (x2 : α2) (x3 : α3) (x4 : α4) (x5 : α5) (x6 : α6) (x7 : α7) (h : p x0 x1 x2 x3 x4 x5 x6 x7) : Ee8 p
inductive Ee9 {α0 α1 α2 α3 α4 α5 α6 α7 α8 : Type} (p : α0 → α1 → α2 → α3 → α4 → α5 → α6 → α7 → α8 → Prop) : Prop | mk (x0 : α0) (x1 : α1) (x2 : α2) (x3 : α3) (x4 : α4) (x5 : α5) (x6 : α6) (x7 : α7) (x8 : α8) (h : p x0 x1 x2 x3 x4 x5 x6 x7 x8) : Ee9 p
inductive Ee10 {α0 α1 α2 α3 α4 α5 α6 α7 α8 α9 : Type} (p : α0 → α1 → α2 → α3 → α4 → α5 → α6 → α7 → α8 → α9 → Prop) : Prop | mk (x0 : α0) (x1 : α1) (x2 : α2) (x3 : α3) (x4 : α4) (x5 : α5) (x6 : α6) (x7 : α7) (x8 : α8) (x9 : α9) (h : p x0 x1 x2 x3 x4 x5 x6 x7 x8 x9) : Ee10 p
inductive Ee11 {α0 α1 α2 α3 α4 α5 α6 α7 α8 α9 α10 : Type} (p : α0 → α1 → α2 → α3 → α4 → α5 → α6 → α7 → α8 → α9 → α10 → Prop) : Prop | mk (x0 : α0) (x1 : α1) (x2 : α2) (x3 : α3) (x4 : α4) (x5 : α5) (x6 : α6) (x7 : α7) (x8 : α8) (x9 : α9) (x10 : α10) (h : p x0 x1 x2 x3 x4 x5 x6 x7 x8 x9 x10) : Ee11 p
inductive Ee12 {α0 α1 α2 α3 α4 α5 α6 α7 α8 α9 α10 α11 : Type} (p : α0 → α1 → α2 → α3 → α4 → α5 → α6 → α7 → α8 → α9 → α10 → α11 → Prop) : Prop | mk (x0 : α0) (x1 : α1) (x2 : α2) (x3 : α3) (x4 : α4) (x5 : α5) (x6 : α6) (x7 : α7) (x8 : α8) (x9 : α9) (x10 : α10) (x11 : α11) (h : p x0 x1 x2 x3 x4 x5 x6 x7 x8 x9 x10 x11) : Ee12 p
inductive Ee13 {α0 α1 α2 α3 α4 α5 α6 α7 α8 α9 α10 α11 α12 : Type} (p : α0 → α1 → α2 → α3 → α4 → α5 → α6 → α7 → α8 → α9 → α10 → α11 → α12 → Prop) : Prop | mk (x0 : α0) (x1 : α1) (x2 : α2) (x3 : α3) (x4 : α4) (x5 : α5) (x6 : α6) (x7 : α7) (x8 : α8) (x9 : α9) (x10 : α10) (x11 : α11) (x12 : α12) (h : p x0 x1 x2 x3 x4 x5 x6 x7 x8 x9 x10 x11 x12) : Ee13 p
inductive Aa3 (a0 a1 a2 : Prop) : Prop | mk (h0 : a0) (h1 : a1) (h2 : a2) : Aa3 a0 a1 a2
inductive Aa4 (a0 a1 a2 a3 : Prop) : Prop | mk (h0 : a0) (h1 : a1) (h2 : a2) (h3 : a3) : Aa4 a0 a1 a2 a3
inductive Aa5 (a0 a1 a2 a3 a4 : Prop) : Prop | mk (h0 : a0) (h1 : a1) (h2 : a2) (h3 : a3) (h4 : a4) : Aa5 a0 a1 a2 a3 a4
inductive Aa6 (a0 a1 a2 a3 a4 a5 : Prop) : Prop | mk (h0 : a0) (h1 : a1) (h2 : a2) (h3 : a3) (h4 : a4) (h5 : a5) : Aa6 a0 a1 a2 a3 a4 a5
inductive Aa7 (a0 a1 a2 a3 a4 a5 a6 : Prop) : Prop | mk (h0 : a0) (h1 : a1) (h2 : a2) (h3 : a3) (h4 : a4) (h5 : a5) (h6 : a6) : Aa7 a0 a1 a2 a3 a4 a5 a6
inductive Aa8 (a0 a1 a2 a3 a4 a5 a6 a7 : Prop) : Prop | mk (h0 : a0) (h1 : a1) (h2 : a2) (h3 : a3) (h4 : a4) (h5 : a5) (h6 : a6) (h7 : a7) : Aa8 a0 a1 a2 a3 a4 a5 a6 a7
inductive Aa9 (a0 a1 a2 a3 a4 a5 a6 a7 a8 : Prop) : Prop | mk (h0 : a0) (h1 : a1) (h2 : a2) (h3 : a3) (h4 : a4) (h5 : a5) (h6 : a6) (h7 : a7) (h8 : a8) : Aa9 a0 a1 a2 a3 a4 a5 a6 a7 a8
inductive Aa10 (a0 a1 a2 a3 a4 a5 a6 a7 a8 a9 : Prop) : Prop | mk (h0 : a0) (h1 : a1) (h2 : a2) (h3 : a3) (h4 : a4) (h5 : a5) (h6 : a6) (h7 : a7) (h8 : a8) (h9 : a9) : Aa10 a0 a1 a2 a3 a4 a5 a6 a7 a8 a9
inductive Aa11 (a0 a1 a2 a3 a4 a5 a6 a7 a8 a9 a10 : Prop) : Prop | mk (h0 : a0) (h1 : a1) (h2 : a2) (h3 : a3) (h4 : a4) (h5 : a5) (h6 : a6) (h7 : a7) (h8 : a8) (h9 : a9) (h10 : a10) : Aa11 a0 a1 a2 a3 a4 a5 a6 a7 a8 a9 a10
inductive Aa12 (a0 a1 a2 a3 a4 a5 a6 a7 a8 a9 a10 a11 : Prop) : Prop | mk (h0 : a0) (h1 : a1) (h2 : a2) (h3 : a3) (h4 : a4) (h5 : a5) (h6 : a6) (h7 : a7) (h8 : a8) (h9 : a9) (h10 : a10) (h11 : a11) : Aa12 a0 a1 a2 a3 a4 a5 a6 a7 a8 a9 a10 a11
inductive Aa13 (a0 a1 a2 a3 a4 a5 a6 a7 a8 a9 a10 a11 a12 : Prop) : Prop | mk (h0 : a0) (h1 : a1) (h2 : a2) (h3 : a3) (h4 : a4) (h5 : a5) (h6 : a6) (h7 : a7) (h8 : a8) (h9 : a9) (h10 : a10) (h11 : a11) (h12 : a12) : Aa13 a0 a1 a2 a3 a4 a5 a6 a7 a8 a9 a10 a11 a12
end L2
namespace L2
open PySem PySem.Spec PyProof.Rows
/-! ### an own class of exceptions with an __init__ of its own, right under one without -/
structure XK3 (K : PySem.W.Frag) (C f : Addr) : Prop where
  ob : ∃ D nm q N bs sn sub ab col dd k0 k1 k2 k3 k5, K.lookup C = some (excClassObj nm q C N bs (.ref D :: bmV) true sn sub ab col dd k0 k1 k2 k3 k5 "ValueError.__new__") ∧ PySem.W.excIn K D bmV "ValueError.__new__" = true
  init : PySem.W.findIn K (.ref C) "__init__" = some (some (.ref f))
  fn : PySem.W.typeIn K (.ref f) = some (.type "function")
  sa : PySem.W.findIn K (.ref C) "__setattr__" = some (some (.builtin "object.__setattr__"))
  kp : PySem.W.keepIn K (.ref C) = true
  z : XK1 K C
section
variable {prog : Program} {w : World} {A : Around} {E : Value → Shared → Prop} {s : Shared} {K : PySem.W.Frag} {e C f : Addr} {oe : Obj}
end
section
open PySem.Builtin PySem.Builtin.ObjectAttr
variable {prog : Program} {w : World} {A : Around} {E : Value → Shared → Prop} {s : Shared} {K : PySem.W.Frag} {e C f dx : Addr} {oe : Obj} {vs : Array Value} {mA : Str → Option Value} {name : Str} {v : Value}
end
section
open PySem.Builtin PySem.Builtin.ObjectAttr
variable {prog : Program} {w : World} {A : Around} {E : Value → Shared → Prop} {s : Shared} {K : PySem.W.Frag} {x C f dx : Addr} {o : Obj} {vs : Array Value} {mA : Str → Option Value} {name : Str} {v : Value}
set_option maxHeartbeats 2000000 in
end
/-! ### exceptions as things that are made and read -/
def ExcN (e : Addr) (C : Value) : HO := .ext fun h => ∃ o vs, h.get? e = some o ∧ o.cls = C ∧ o.data = .fields vs ∧ o.dict = none ∧ (∃ a0, vs[0]? = some a0) ∧ vs[1]? = some .none
def ExcD (e : Addr) (C : Value) (d : Addr) : HO := .ext fun h => ∃ o vs, h.get? e = some o ∧ o.cls = C ∧ o.data = .fields vs ∧ o.dict = some d ∧ (∃ a0, vs[0]? = some a0) ∧ vs[1]? = some .none
/-- an exception of the class C, with or without a dict -/
def IsX (H : Hp) (e : Addr) (C : Value) : Prop := ∃ φ, H e = some (.ext φ) ∧ ∀ h, φ h → ∃ o vs, h.get? e = some o ∧ o.cls = C ∧ o.data = .fields vs
theorem IsX.o {H : Hp} {e : Addr} {C : Value} (h : H e = some (ExcO e C)) : IsX H e C := ⟨_, h, fun _ q => q⟩
theorem IsX.d {H : Hp} {e d : Addr} {C : Value} (h : H e = some (ExcD e C d)) : IsX H e C := ⟨_, h, fun _ ⟨o, vs, a, b, c, _⟩ => ⟨o, vs, a, b, c⟩⟩
theorem IsX.same {H H' : Hp} {e : Addr} {C : Value} (x : IsX H e C) (s : Same H H') : IsX H' e C := let ⟨φ, a, b⟩ := x; ⟨φ, s _ _ a, b⟩
section
variable {X : Cx} {pins : List (Addr × Obj)} {σ : St} {H : Hp} {s : Shared} {e : Addr}
end
section
variable {X : Cx} {x : Str} {np pos : Pos} {e0 : Expr} {rest : List Expr} {t : TA}
/-- C(..), C an own class of exceptions without an __init__ -/
def tNewX (C : Addr) (t : TA) : TE := fun σ H Q => t σ H fun vs H1 => vs.length ≤ sizeLine ∧ ∀ e H', Same H1 H' → IsX H' e (.ref C) → Q (.ref e) H'
end
section
variable {X : Cx} {o value : Expr} {name : Str} {pos pos' : Pos} {ta tv : TE} {C f : Addr}
/-- e.name = value, e an exception that has no dict yet -/
def sXFld (C : Addr) (ta tv : TE) (name : Str) : TS := fun D σ H => tv σ H fun y H1 => ta σ H1 fun x H2 => ∃ e, x = .ref e ∧ H2 e = some (ExcN e (.ref C)) ∧ ∀ d, d ≠ e → H2 d = none → D.nx σ (upd (upd H2 e (ExcD e (.ref C) d)) d (.xd [(name, y)]))
/-- e.name, a number in the dict of an exception -/
def tXFld (C : Addr) (ta : TE) (name : Str) : TE := fun σ H Q => ta σ H fun x H1 => ∃ e d fs i, x = .ref e ∧ H1 e = some (ExcD e (.ref C) d) ∧ H1 d = some (.xd fs) ∧ fs.lookup name = some (.int i) ∧ Q (.int i) H1
end
section
variable {X : Cx} {x : Str} {np pos : Pos} {e0 : Expr} {t : TA} {C f : Addr} {fd : FuncData} {ps : List Str} {name : Str} {j k : Nat}
/-- what the __init__ of such a class does: one name in the new dict -/
def sp_xinit (C : Addr) (name : Str) : Sp := fun vs H Q _ => ∃ e v, vs = [.ref e, v] ∧ H e = some (ExcN e (.ref C)) ∧ ∀ d, d ≠ e → H d = none → Q .non (upd (upd H e (ExcD e (.ref C) d)) d (.xd [(name, v)]))
def tNewI (C : Addr) (name : Str) (t : TA) : TE := fun σ H Q => t σ H fun vs H1 => ∃ v, vs = [v] ∧ ∀ e d H', Same H1 H' → H' e = some (ExcD e (.ref C) d) → H' d = some (.xd [(name, v)]) → Q (.ref e) H'
structure InitX (P : Program) (w : World) (K : PySem.W.Frag) (mg : Str → Option Value) (base : Heap) (k : Nat) (C : Addr) (name : Str) : Prop where
  ex : ∃ f fd ps, FnOk P w K mg base CX0 k f fd ps (sp_xinit C name) ∧ XK3 K C f ∧ ps.length = 2 ∧ ∀ us : List Value, us.length = ps.length → bindArgs fd ⟨us, []⟩ = pure (ps.zip us)
end
/-! ### the facts, as they stand behind the top -/
section
variable {X : Cx} {o : Expr} {name : Str} {pos : Pos} {ta : TE} {C : Addr}
end
section
variable {K : PySem.W.Frag} {h : Heap} {mg : Str → Option Value} {x : Str} {C f D : Addr}
structure InitS (K : PySem.W.Frag) (C : Addr) (x qual : Str) (st : Stmt) (ps : List Str) : Prop where
  ex : ∃ f fd, Fun K x qual st f fd ∧ XK3 K C f ∧ ∀ us : List Value, us.length = ps.length → bindArgs fd ⟨us, []⟩ = pure (ps.zip us)
theorem InitS.xk {qual : Str} {st : Stmt} {ps : List Str} (S : InitS K C x qual st ps) : ∃ f, XK3 K C f := let ⟨f, _, _, z, _⟩ := S.ex; ⟨f, z⟩
end
end L2
namespace L2
open PySem PySem.Spec PyProof.Rows
/-! ### sets of whole numbers: what stands in the table, and how it is walked -/
namespace SetL
def Up (xs : Array Nat) : Prop := xs.toList.Pairwise (· < ·)
/-- what holds of the table of a set that was filled and never lost anything -/
structure Tab (bt : Bool) (t : SetTable) : Prop where
  led : t.led = !bt
  dum : t.dummies = #[]
  up : t.plain = true → Up t.place
end SetL
end L2
namespace L2
open PySem PySem.Spec PyProof.Rows
namespace SetL
def intOf : Value → Int
  | .int i _ => i
  | _ => 0
/-- the set at a has just the whole numbers ms, in the order of its entries -/
structure SetI (prog : Program) (w : World) (h : Heap) (a : Addr) (ms : List Int) : Prop where
  ex : ∃ o es ep t, (h.get? a = some o ∧ o.ExactSet ∧ o.data = .set es ep t) ∧ (ElemsOf (intKind prog w) es.toList ∧ es.size < scanBound ∧ t.fits es.size = true) ∧ Tab (w.params.followText "set-order") t ∧
    es.toList.map (fun e => intOf e.2) = ms
  nd : ms.Nodup
section
variable {prog : Program} {w : World} {A : Around} {E : Value → Shared → Prop} {s : Shared} {a : Addr} {ms : List Int} {k : Int} {tk : Tok}
end
end SetL
end L2
namespace L2
open PySem PySem.Spec PyProof.Rows
namespace SetL
theorem SetI.keep {prog : Program} {w : World} {h h' : Heap} {a : Addr} {ms : List Int} (S : SetI prog w h a ms) (k : ∀ o, h.get? a = some o → h'.get? a = some o) : SetI prog w h' a ms := by
  obtain ⟨⟨o, es, ep, t, ⟨ho, r⟩, r2⟩, nd⟩ := S
  exact ⟨⟨o, es, ep, t, ⟨k o ho, r⟩, r2⟩, nd⟩
section
variable {prog : Program} {w : World} {A : Around} {R : Result → Shared → Prop} {I a : Addr} {fp wr : List Addr} {G : Array GenState → Array GenState → Prop} {n : Nat} {P : Nat → Value → Prop} {St : Nat → Shared → Prop} {val : Nat → Int}
end
section
variable {prog : Program} {w : World} {A : Around} {E : Value → Shared → Prop} {s : Shared}
abbrev empty (w : World) : Obj := { cls := .type "set", dict := none, data := .set #[] 0 (.fresh 0 0 (!w.params.followText "set-order")) }
end
end SetL
end L2
namespace L2
open PySem PySem.Spec PyProof.Rows
namespace SetL
section
variable {prog : Program} {w : World} {A : Around} {E : Value → Shared → Prop} {s : Shared}
set_option maxHeartbeats 3200000 in
end
end SetL
end L2
namespace L2
open PySem PySem.Spec PyProof.Rows
namespace SetL
/-- the iterator at I, at its i-th turn -/
def IterAt (h : Heap) (I a : Addr) (first : Value) (i n ep : Nat) : Prop := ∃ o, h.get? I = some o ∧ o.cls = .type "set_iterator" ∧ o.data = .fields #[first, .int i 0, .ref a, .int n 0, .int ep 0]
theorem IterAt.ty {s : Shared} {I a : Addr} {first : Value} {i n ep : Nat} (h : IterAt s.heap I a first i n ep) : s.TypeIs (.ref I) "set_iterator" := let ⟨_, a, b, _⟩ := h; ⟨_, a, b⟩
theorem IterAt.keep {h h' : Heap} {I a : Addr} {first : Value} {i n ep : Nat} (x : IterAt h I a first i n ep) (k : ∀ o, h.get? I = some o → h'.get? I = some o) : IterAt h' I a first i n ep := let ⟨o, a, b⟩ := x; ⟨o, k o a, b⟩
/-- the object of the set -/
def ObjAt (h : Heap) (a : Addr) (es : Array (Int × Value)) (ep : Nat) (t : SetTable) : Prop := ∃ o, h.get? a = some o ∧ o.data = .set es ep t ∧ t.fits es.size = true
theorem ObjAt.keep {h h' : Heap} {a : Addr} {es : Array (Int × Value)} {ep : Nat} {t : SetTable} (x : ObjAt h a es ep t) (k : ∀ o, h.get? a = some o → h'.get? a = some o) : ObjAt h' a es ep t := let ⟨o, a, b⟩ := x; ⟨o, k o a, b⟩
section
variable {prog : Program} {w : World} {A : Around} {E : Value → Shared → Prop} {s : Shared} {I a : Addr} {es : Array (Int × Value)} {ep : Nat} {t : SetTable}
end
end SetL
end L2
namespace L2
open PySem PySem.Spec PyProof.Rows
namespace SetL
section
variable {prog : Program} {w : World} {A : Around} {E : Value → Shared → Prop} {s : Shared} {I a : Addr} {es : Array (Int × Value)} {ep : Nat} {t : SetTable}
end
end SetL
end L2
namespace L2
open PySem PySem.Spec PyProof.Rows
namespace SetL
section
variable {prog : Program} {w : World} {A : Around} {E : Value → Shared → Prop} {s : Shared} {I a T : Addr} {es : Array (Int × Value)} {ep : Nat} {t : SetTable} {ps : Array Value}
def PlacesAt (h : Heap) (T : Addr) (ps : Array Value) : Prop := ∃ o n, h.get? T = some o ∧ o.data = .seq ps n
theorem PlacesAt.keep {h h' : Heap} (x : PlacesAt h T ps) (k : ∀ o, h.get? T = some o → h'.get? T = some o) : PlacesAt h' T ps := let ⟨o, n, a, b⟩ := x; ⟨o, n, k o a, b⟩
end
end SetL
end L2
namespace L2
open PySem PySem.Spec PyProof.Rows
namespace SetL
/-- the slot from which the i-th turn looks -/
def slotAt (t : SetTable) (i : Nat) : Nat := if i = 0 then 0 else t.place.getD (i - 1) 0 + 1
section
variable {prog : Program} {w : World} {a : Addr} {es : Array (Int × Value)} {ep : Nat} {t : SetTable}
end
end SetL
end L2
namespace L2
open PySem PySem.Spec PyProof.Rows
namespace SetL
section
variable {prog : Program} {w : World} {A : Around} {E : Value → Shared → Prop}
end
section
variable {prog : Program} {w : World} {A : Around} {E : Value → Shared → Prop} {s : Shared} {a : Addr} {es : Array (Int × Value)} {ep : Nat} {t : SetTable}
end
end SetL
end L2
namespace L2
open PySem PySem.Spec PyProof.Rows
namespace SetL
section
variable {prog : Program} {w : World} {A : Around} {E : Value → Shared → Prop} {s : Shared} {a : Addr} {es : Array (Int × Value)} {ep : Nat} {t : SetTable}
end
end SetL
end L2
namespace L2
open PySem PySem.Spec PyProof.Rows
namespace SetL
section
variable {prog : Program} {w : World} {A : Around} {E : Value → Shared → Prop} {s : Shared} {a : Addr} {ms : List Int}
end
end SetL
end L2
namespace L2
open PySem PySem.Spec PyProof.Rows
/-- a set of just the whole numbers ms -/
def SetO (P : Program) (w : World) (a : Addr) (ms : List Int) : HO := .ext fun h => SetL.SetI P w h a ms
theorem SetL.SetI.obj {P : Program} {w : World} {h : Heap} {a : Addr} {ms : List Int} (S : SetL.SetI P w h a ms) : ∃ o, h.get? a = some o := let ⟨⟨o, _, _, _, ⟨e, _⟩, _⟩, _⟩ := S; ⟨o, e⟩
section
variable {X : Cx} {pins : List (Addr × Obj)} {σ : St} {H : Hp} {s : Shared}
end
end L2
namespace L2
open PySem PySem.Spec PyProof.Rows
/-! ### for a, b in zip(xs, ys): two lists -/
section
variable {X : Cx} {pins : List (Addr × Obj)} {σ : St} {H : Hp} {s : Shared} {h' : Heap}
end
def Itz (K : PySem.W.Frag) (a b : Addr) : It :=
  ⟨fun i H => ∃ xs ys x y, SqL K H a xs ∧ SqL K H b ys ∧ xs[i]? = some x ∧ ys[i]? = some y,
    fun i H v H' => ∃ p, v = .ref p ∧ H p = none ∧ ∀ xs ys x y, SqL K H a xs → SqL K H b ys → xs[i]? = some x → ys[i]? = some y → H' = upd H p (.tup [x, y]),
    fun i H => ∃ xs ys, SqL K H a xs ∧ SqL K H b ys ∧ (xs.length ≤ i ∨ ys.length ≤ i)⟩
/-- the zip at z, at turn i -/
def ZipT (z ti to i1 i2 l1 l2 : Addr) (i : Nat) (h : Heap) : Prop := ((IsZip h z ti to .none ∧ IsPair h ti (.ref i1) (.ref i2)) ∧ ∃ a b, IsPair h to a b) ∧ h.IsListIter i1 l1 i ∧ h.IsListIter i2 l2 i
def iZip (K : PySem.W.Frag) (ta : TA) : TI := fun σ H R => ta σ H fun vs H1 => ∃ a b, vs = [.ref a, .ref b] ∧ (∃ xs, SqL K H1 a xs) ∧ (∃ ys, SqL K H1 b ys) ∧ R (Itz K a b) H1
end L2
namespace L2
open PySem PySem.Spec PyProof.Rows
/-! ### lists of tuples of two whole numbers each (tables, spans) -/
inductive Rows2 (K : PySem.W.Frag) (H : Hp) : List V → List (Int × Int) → Prop
  | nil : Rows2 K H [] []
  | cons {p : Addr} {s : Int × Int} {xs : List V} {l : List (Int × Int)} : H p = some (.tup [.int s.1, .int s.2]) → Rows2 K H xs l → Rows2 K H (.ref p :: xs) (s :: l)
section
variable {K : PySem.W.Frag} {H H' : Hp} {xs ys zs : List V} {l : List (Int × Int)} {p : Addr} {s : Int × Int}
theorem Rows2.get (r : Rows2 K H xs l) : ∀ {i : Nat} {x : V}, xs[i]? = some x → ∃ p s, x = .ref p ∧ l[i]? = some s ∧ H p = some (.tup [.int s.1, .int s.2]) := by
  induction r with
  | nil => intro i x e; simp at e
  | cons h _ ih =>
    intro i x e
    cases i with
    | zero => cases e; exact ⟨_, _, rfl, rfl, h⟩
    | succ i => exact ih e
theorem Rows2.length (r : Rows2 K H xs l) : xs.length = l.length := by
  induction r with
  | nil => rfl
  | cons _ _ ih => simp [ih]
theorem Rows2.same (r : Rows2 K H xs l) (s : Same H H') : Rows2 K H' xs l := by
  induction r with
  | nil => exact .nil
  | cons h _ ih => exact .cons (s _ _ h) ih
theorem Rows2.put (r : Rows2 K H xs l) (hp : H p = some (.lst ys)) : Rows2 K (upd H p (.lst zs)) xs l := by
  induction r with
  | nil => exact .nil
  | cons h _ ih => exact .cons (by rw [upd_ne (ne_of h hp (by intro z; cases z))]; exact h) ih
theorem Rows2.push (r : Rows2 K H xs l) (h : H p = some (.tup [.int s.1, .int s.2])) : Rows2 K H (xs ++ [.ref p]) (l ++ [s]) := by
  induction r with
  | nil => exact .cons h .nil
  | cons h' _ ih => exact .cons h' ih
def rowD (s : Int × Int) : PyData := .tuple [.int s.1, .int s.2]
theorem Rows2.rd (r : Rows2 K H xs l) : RdVs K H xs (l.map rowD) := by
  induction r with
  | nil => exact .nil
  | cons h _ ih => exact .cons (.tup (SqT.of h) (.cons (.int _) (.cons (.int _) .nil))) ih
end
end L2
namespace L2
open PySem PySem.Spec PyProof.Rows
/-! ### comprehensions, whatever is walked -/
/-- what is walked has just these items, however the heap grows -/
structure WalkOf (J : It) (H : Hp) (xs : List V) : Prop where
  go : ∀ i H', Same H H' → i < xs.length → J.go i H'
  yld : ∀ i H' x H2, Same H H' → J.yld i H' x H2 → H2 = H' ∧ xs[i]? = some x
  stop : ∀ i H', Same H H' → xs.length ≤ i → J.stop i H'
/-- each item by a word of it that new objects don't touch -/
theorem comp_any {J : It} {ix : List Nat} {te : TE} {σ : St} {l : Addr} {xs : List V} {H : Hp} {R : Hp → Prop} (Y : WalkOf J H xs) (hl : H l = none) (hz : xs.length ≤ sizeLine) (P : Nat → V → Hp → Prop)
    (mono : ∀ i v H1 H2, Same H1 H2 → P i v H1 → P i v H2) (put : ∀ i v H1 ys zs, H1 l = some (.lst ys) → P i v H1 → P i v (upd H1 l (.lst zs)))
    (hel : ∀ i x H' Q', xs[i]? = some x → Same H H' → (∀ v H2, Same H' H2 → P i v H2 → Q' v H2) → te (some x :: capts σ ix) H' Q')
    (fin : ∀ ys H', Same H H' → H' l = some (.lst ys) → ys.length = xs.length → (∀ j v, ys[j]? = some v → P j v H') → R H') :
    ∃ W : Nat → Nat → List V → Hp → Prop, (∃ m, W 0 m [] (upd H l (.lst []))) ∧ Turns ix te σ J l R W := by
  refine ⟨fun i m ys H' => m = xs.length - i ∧ i ≤ xs.length ∧ ys.length = i ∧ (∀ j v, ys[j]? = some v → P j v H') ∧ Same H H' ∧ H' l = some (.lst ys), ⟨xs.length, by simp, Nat.zero_le _, rfl, (fun j v e => by simp at e), same_new hl _, upd_same⟩, ?_⟩
  rintro i m ys H' ⟨rfl, hi, hx, hp, sH, hL⟩
  refine ⟨hL, ?_⟩
  by_cases hlt : i < xs.length
  · refine .inr ⟨Y.go i H' sH hlt, by omega, fun x H2 y => ?_⟩
    obtain ⟨rfl, e2⟩ := Y.yld i H' x H2 sH y
    refine hel i x _ _ e2 sH fun v H3 s3 hv => ⟨s3 _ _ hL, xs.length - (i + 1), by omega, rfl, hlt, by rw [List.length_append, hx]; rfl, fun j w e => ?_, same_put (sH.trans s3) hl, upd_same⟩
    by_cases hj : j < ys.length
    · rw [List.getElem?_append_left hj] at e
      exact put _ _ _ _ _ (s3 _ _ hL) (mono _ _ _ _ s3 (hp j w e))
    · by_cases hj2 : j = ys.length
      · subst hj2
        rw [List.getElem?_append_right (Nat.le_refl _), Nat.sub_self] at e
        cases e
        rw [hx]
        exact put _ _ _ _ _ (s3 _ _ hL) hv
      · rw [List.getElem?_eq_none (by rw [List.length_append, List.length_singleton]; omega)] at e
        cases e
  · exact .inl ⟨Y.stop i H' sH (by omega), fin ys H' sH hL (by omega) hp⟩
theorem sIx_nat (n d k : Nat) : HT.sIx n d (some (k : Int)) = min k n := by
  show (if (k : Int) < 0 then ((k : Int) + (n : Int)).toNat else min (k : Int).toNat n) = min k n
  rw [if_neg (by omega)]
  rfl
theorem cutV_lo (xs : List V) (k : Nat) : cutV xs (some (k : Int)) none = xs.drop k := by
  unfold cutV
  rw [sIx_nat, show HT.sIx xs.length xs.length none = xs.length from rfl]
  by_cases h : k ≤ xs.length
  · rw [Nat.min_eq_left h, List.take_of_length_le (by rw [List.length_drop]; exact Nat.le_refl _)]
  · rw [Nat.min_eq_right (by omega), List.drop_of_length_le (Nat.le_refl _), List.drop_of_length_le (by omega), List.take_nil]
/-! ### range with a step -/
def Its (lo st : Int) (n : Nat) : It := ⟨fun i _ => i < n, fun i H x H' => H' = H ∧ x = .int (lo + i * st), fun i _ => n ≤ i⟩
def iRng3 (n : Nat) (ta : TA) : TI := fun σ H R => ta σ H fun vs H1 => ∃ i j k : Int, vs = [.int i, .int j, .int k] ∧ (k ≠ 0 ∧ Builtin.Range.small i j k = true ∧ (n : Int) = Builtin.Range.rangeSize i j k ∧ Builtin.divisionGoesByPylong (j - i) k = false) ∧ R (Its i k n) H1
end L2
namespace L2
open PySem
theorem Rows2.take {K : PySem.W.Frag} {H : Hp} {xs : List V} {l : List (Int × Int)} (r : Rows2 K H xs l) : ∀ n : Nat, Rows2 K H (xs.take n) (l.take n) := by
  induction r with
  | nil => intro n; rw [List.take_nil, List.take_nil]; exact .nil
  | cons h _ ih =>
    intro n
    cases n with
    | zero => exact .nil
    | succ n => exact .cons h (ih n)
end L2
namespace L2
open PySem PySem.Spec PyProof.Rows
section
variable {X : Cx} {pins : List (Addr × Obj)} {σ : St} {H : Hp} {s : Shared} {sc : Scope} {x : Str} {ix : List Nat} {fp : List Addr} {elt iter c : Expr} {te : TE} {tt : TT} {wi : TI} {px pos : Pos}
end
end L2
namespace L2
open PySem PySem.Spec PyProof.Rows
/-! ### C() where no class of it has an __init__ -/
structure Mk0 (K : PySem.W.Frag) (C : Addr) : Prop where
  makes : PySem.W.makesIn K C = true
  init : PySem.W.findIn K (.ref C) "__init__" = some (some (.builtin "object.__init__"))
  kp : PySem.W.keepIn K (.ref C) = true
def tNew0 (C : Addr) : TE := fun _ H Q => ∀ x dx, H x = none → H dx = none → dx ≠ x → Q (.ref x) (upd (upd H dx (.own x)) x (.ins C dx []))
section
variable {X : Cx} {C : Addr} {x m : Str} {p pos apos : Pos} {e o : Expr} {es : List Expr} {ta : TE} {t : TA} {j k : Nat} {ps : List Str}
/-! ### four classes, one under which the others stand; methods by the class of the instance -/
inductive Kd where
  | plain | bank | thirty | exact
def Kd.cls : Kd → Str
  | .plain => "Count"
  | .bank => "Bank"
  | .thirty => "Thirty"
  | .exact => "Exact"
/-- an instance of that class, without attributes -/
def IsCnt (K : PySem.W.Frag) (H : Hp) (a : Addr) (kd : Kd) : Prop := ∃ dx, H a = some (.ins (cA K kd.cls) dx [])
theorem IsCnt.same {K : PySem.W.Frag} {H H' : Hp} {a : Addr} {kd : Kd} (h : IsCnt K H a kd) (s : Same H H') : IsCnt K H' a kd := let ⟨dx, e⟩ := h; ⟨dx, s _ _ e⟩
/-- a method of the text, as it is found from a class -/
structure MethS (K : PySem.W.Frag) (C : Addr) (m qual : Str) (st : Stmt) (ps : List Str) : Prop where
  ex : ∃ (f : Addr) (fd : FuncData), Fun K m qual st f fd ∧ Meth K C m f ∧ ∀ us : List Value, us.length = ps.length → bindArgs fd ⟨us, []⟩ = pure (ps.zip us)
structure DefM (P : Program) (w : World) (K : PySem.W.Frag) (mg : Str → Option Value) (base : Heap) (k : Nat) (C : Addr) (m : Str) (ps : List Str) (sp : Sp) : Prop where
  ex : ∃ (f : Addr) (fd : FuncData), FnOk P w K mg base CX0 k f fd ps sp ∧ Meth K C m f ∧ ∀ us : List Value, us.length = ps.length → bindArgs fd ⟨us, []⟩ = pure (ps.zip us)
theorem MethS.ok {P : Program} {w : World} {K : PySem.W.Frag} {mg : Str → Option Value} {base : Heap} {C : Addr} {m qual : Str} {st : Stmt} {N ps : List Str} {k : Nat} {sp : Sp} (S : MethS K C m qual st ps) (sc : FnScope N ps (defScope st)) (len : ∀ vs H Q E, sp vs H Q E → vs.length = ps.length)
    (hbody : ∀ (f : Addr) (cdv : Value) (A : Around) (outer : List Env) (s : Shared) (H : Hp) (vs : List V) (Q : VK) (E : XK), Room k (A.deeper (envOfC qual (defScope st) s.heap.objs.size f cdv)) → sp vs H Q E →
      ∃ t, PSs (cxOf CX0 P w K mg base N qual (defScope st) f cdv A outer s H E).nox (defBody st) t ∧ t { nx := fun _ H' => Q .non H', rt := Q } (start N vs) H) : DefM P w K mg base (k + 1) C m ps sp := by
  obtain ⟨f, fd, F, hm, hb⟩ := S.ex
  exact ⟨f, fd, F.ok sc len (fun cdv => hbody f cdv), hm, hb⟩
theorem MethS.okF {P : Program} {w : World} {K : PySem.W.Frag} {mg : Str → Option Value} {base : Heap} {C : Addr} {m qual : Str} {st : Stmt} {N ps : List Str} {k : Nat} {sp : Sp} (S : MethS K C m qual st ps) (sc : FnScope N ps (defScope st)) (len : ∀ vs H Q E, sp vs H Q E → vs.length = ps.length)
    (hbody : ∀ (f : Addr) (cdv : Value) (A : Around) (outer : List Env) (s : Shared) (H : Hp) (vs : List V) (Q : VK) (E : XK), Room k (A.deeper (envOfC qual (defScope st) s.heap.objs.size f cdv)) → sp vs H Q E →
      ∃ t, PSs (cxOf CX0 P w K mg base N qual (defScope st) f cdv A outer s H E).nox (defBody st) t ∧ t { nx := fun _ H' => Same H H' ∧ Q .non H, rt := fun v H' => Same H H' ∧ Q v H } (start N vs) H) : DefM P w K mg base (k + 1) C m ps sp := by
  obtain ⟨f, fd, F, hm, hb⟩ := S.ex
  have G : FnOk P w K mg base CX0 (k + 1) f fd ps (fun vs H R E => ∃ Q, sp vs H Q E ∧ R = fun v H' => Same H H' ∧ Q v H) :=
    F.ok sc (fun vs H R E ⟨Q, h, _⟩ => len vs H Q E h) fun cdv A outer s H vs R E hr ⟨Q, h, e⟩ => by
      subst e
      exact hbody f cdv A outer s H vs Q E hr h
  exact ⟨f, fd, G.forget fun vs H Q E h => ⟨Q, h, rfl⟩, hm, hb⟩
def tMethK (K : PySem.W.Frag) (sp : Kd → Sp) (ta : TE) (t : TA) : TE := fun σ H Q => ta σ H fun x H1 => ∃ (kd : Kd) (a : Addr), x = .ref a ∧ IsCnt K H1 a kd ∧ t σ H1 fun vs H2 => sp kd (x :: vs) H2 Q E0
end
/-! ### the facts, by the class's name -/
section
variable {K : PySem.W.Frag} {x : Str} {C f : Addr}
end
end L2
namespace L2
open PySem
end L2
namespace L2
end L2
namespace L2
open PySem PySem.Spec PyProof.Rows
/-! ### for x in reversed(xs), xs a list -/
def Itv (K : PySem.W.Frag) (a : Addr) (n : Nat) : It :=
  ⟨fun i H => ∃ xs x, SqL K H a xs ∧ xs.length = n ∧ i < n ∧ xs[n - 1 - i]? = some x, fun i H x H' => H' = H ∧ ∀ xs, SqL K H a xs → xs[n - 1 - i]? = some x, fun i _ => n ≤ i⟩
def iRev (K : PySem.W.Frag) (ta : TA) : TI := fun σ H R => ta σ H fun vs H1 => ∃ a xs, vs = [.ref a] ∧ SqL K H1 a xs ∧ R (Itv K a xs.length) H1
end L2
namespace L2
open PySem PySem.Spec PyProof.Rows
/-! ### comprehensions with two names: [elt for x, y in iter] -/
def Cx.block2 (X : Cx) (sc : Scope) (x y0 : Str) (ix : List Nat) (b : Blk) : Cx where
  prog := X.prog
  w := X.w
  K := X.K
  mg := X.mg
  base := X.base
  A := X.A
  N := x :: y0 :: ix.map fun i => X.N.getD i x
  s₀ := b.s
  H₀ := b.H
  env := compEnvC sc (closOf sc X.env) b.C X.env
  outer := X.stack
  stack := X.stack
  ex := b.ex
  fn := fun _ => false
  calm := X.calm
  pn := b.pn
  xe := fun _ _ => False
structure CompOk2 (X : Cx) (sc : Scope) (x y0 : Str) (ix : List Nat) : Prop where
  clos : closureFor sc X.env = pure (closOf sc X.env)
  cell : ∀ y ∈ sc.names, y.2 ≠ .cell
  kind : sc.kind = .function
  names : ∀ y ∈ sc.names, y.2 = .local → sc.names.lookup y.1 = some .local
  var : sc.names.lookup x = some .local
  var2 : sc.names.lookup y0 = some .local
  nd : (x :: y0 :: ix.map fun i => X.N.getD i x).Nodup
  cap : CapsOk X sc x ix
  sub : SubOk X.env.cells (closOf sc X.env)
  has : HasOk (closOf sc X.env) (relabel sc X.env).names
section
variable {X : Cx} {pins : List (Addr × Obj)} {σ : St} {H : Hp} {s : Shared} {sc : Scope} {x y0 : Str} {ix : List Nat} {fp : List Addr}
end
def Turns2 (K0 : PySem.W.Frag) (ix : List Nat) (te : TE) (σ : St) (J : It) (l : Addr) (R : Hp → Prop) (W : Nat → Nat → List V → Hp → Prop) : Prop :=
  ∀ i m xs H', W i m xs H' → H' l = some (.lst xs) ∧ ((J.stop i H' ∧ R H') ∨ (J.go i H' ∧ xs.length < sizeLine ∧ ∀ x H2, J.yld i H' x H2 → ∃ p v1 v2, x = .ref p ∧ SqT K0 H2 p [v1, v2] ∧
    te (some v1 :: some v2 :: capts σ ix) H2 fun v H3 => H3 l = some (.lst xs) ∧ ∃ m', m' < m ∧ W (i + 1) m' (xs ++ [v]) (upd H3 l (.lst (xs ++ [v])))))
def tComp2 (K0 : PySem.W.Frag) (ix : List Nat) (wi : TI) (te : TE) : TE := fun σ H Q => wi σ H fun J H1 => ∀ l, H1 l = none → ∃ W : Nat → Nat → List V → Hp → Prop, (∃ m, W 0 m [] (upd H1 l (.lst []))) ∧ Turns2 K0 ix te σ J l (Q (.ref l)) W
section
variable {X : Cx} {pins : List (Addr × Obj)} {σ : St} {H : Hp} {s : Shared} {sc : Scope} {x y0 : Str} {ix : List Nat} {fp : List Addr} {elt iter : Expr} {te : TE} {wi : TI} {px py0 pt0 pos : Pos} {kt0 : Nat}
end
end L2
/-! The library's sorting of few items, as a tree of questions, told by an order. -/
namespace SortT
open PySem PySem.W PyProof.Rows
/-- every question is about two of n items, and answered by lt -/
def okT {α : Type} (n : Nat) (lt : Nat → Nat → Bool) : KasT α → (α → Prop) → Prop
  | .ret a, Q => Q a
  | .ask i j k, Q => (i < n ∧ j < n) ∧ okT n lt (k (lt i j)) Q
/-- an order: never both ways, and through -/
structure Ord (lt : Nat → Nat → Bool) : Prop where
  irr : ∀ i, lt i i = false
  asy : ∀ i j, lt i j = true → lt j i = false
  neg : ∀ i j k, lt i j = false → lt j k = false → lt i k = false
variable {N : Nat} {lt : Nat → Nat → Bool}
/-- all places name one of N items -/
def In (N : Nat) (p : Array Nat) : Prop := p.size = N ∧ ∀ i, i < N → p.getD i 0 < N
/-- rising up to k -/
def Up (lt : Nat → Nat → Bool) (p : Array Nat) (k : Nat) : Prop := ∀ i j, i ≤ j → j < k → lt (p.getD j 0) (p.getD i 0) = false
def Dn (lt : Nat → Nat → Bool) (p : Array Nat) (k : Nat) : Prop := ∀ i j, i ≤ j → j < k → lt (p.getD i 0) (p.getD j 0) = false
theorem getD_of {p q : Array Nat} {i j : Nat} (h : p[i]? = q[j]?) : p.getD i 0 = q.getD j 0 := by
  rw [Array.getD_eq_getD_getElem?, Array.getD_eq_getD_getElem?, h]
theorem rev_at {p : Array Nat} {i j k : Nat} (hj : j ≤ p.size) : (kas_rev p i j).getD k 0 = if i ≤ k ∧ k < j then p.getD (i + j - 1 - k) 0 else p.getD k 0 := by
  have e := getElem?_mirror_all (xs := p) (i := i) hj k
  unfold kas_rev
  by_cases c : i ≤ k ∧ k < j
  · rw [if_pos c] at e ⊢; exact getD_of e
  · rw [if_neg c] at e ⊢; exact getD_of e
theorem Up.one {p : Array Nat} (O : Ord lt) : Up lt p 1 := fun i j h1 h2 => by
  have : i = j := by omega
  subst this
  exact O.irr _
theorem Up.next {p : Array Nat} {n : Nat} (O : Ord lt) (h : Up lt p n) (h1 : 1 ≤ n) (c : lt (p.getD n 0) (p.getD (n - 1) 0) = false) : Up lt p (n + 1) := fun i j h2 h3 => by
  by_cases e : j = n
  · subst e
    by_cases e2 : i = j
    · subst e2; exact O.irr _
    · exact O.neg _ _ _ c (h i (j - 1) (by omega) (by omega))
  · exact h i j h2 (by omega)
/-- falling up to n, the last q + 1 alike -/
structure Des (lt : Nat → Nat → Bool) (p : Array Nat) (n q : Nat) : Prop where
  hq : q + 1 ≤ n
  dn : Dn lt p n
  al : ∀ i, n ≤ i + (q + 1) → i < n → lt (p.getD i 0) (p.getD (n - 1) 0) = false ∧ lt (p.getD (n - 1) 0) (p.getD i 0) = false
theorem Des.alike {p : Array Nat} {n q : Nat} (O : Ord lt) (D : Des lt p n q) {i j : Nat} (h1 : n ≤ i + (q + 1)) (h2 : i < n) (h3 : n ≤ j + (q + 1)) (h4 : j < n) : lt (p.getD i 0) (p.getD j 0) = false := O.neg _ _ _ (D.al i h1 h2).1 (D.al j h3 h4).2
/-- the alike ones turned about: still falling -/
theorem Des.turn {p : Array Nat} {n q : Nat} (O : Ord lt) (D : Des lt p n q) (hn : n ≤ p.size) : Dn lt (kas_rev p (n - (q + 1)) n) n := fun i j h1 h2 => by
  have := D.hq
  rw [rev_at hn, rev_at hn]
  by_cases ci : n - (q + 1) ≤ i ∧ i < n
  · rw [if_pos ci, if_pos (show n - (q + 1) ≤ j ∧ j < n by omega)]
    exact D.alike O (by omega) (by omega) (by omega) (by omega)
  · rw [if_neg ci]
    by_cases cj : n - (q + 1) ≤ j ∧ j < n
    · rw [if_pos cj]
      exact D.dn _ _ (by omega) (by omega)
    · rw [if_neg cj]
      exact D.dn i j h1 h2
theorem Dn.up {p : Array Nat} {n : Nat} (dn : Dn lt p n) (hn : n ≤ p.size) : Up lt (kas_rev p 0 n) n := fun i j h1 h2 => by
  rw [rev_at hn, rev_at hn, if_pos (by omega), if_pos (by omega)]
  exact dn _ _ (by omega) (by omega)
abbrev Good (N : Nat) (lt : Nat → Nat → Bool) (p0 : Array Nat) (r : Nat × Array Nat) : Prop := In N r.2 ∧ r.2.Perm p0 ∧ 1 ≤ r.1 ∧ r.1 ≤ N ∧ Up lt r.2 r.1
end SortT
namespace SortT
open PySem PySem.W PyProof.Rows PySem.Calls
/-! ### tuples of two whole numbers -/
def PairAt (h : Heap) (v : Value) (x : Int × Int) : Prop := ∃ a o n t u, v = .ref a ∧ h.get? a = some o ∧ o.cls = .type "tuple" ∧ o.data = .seq #[.int x.1 t, .int x.2 u] n
theorem PairAt.keep {h h' : Heap} {v : Value} {x : Int × Int} (p : PairAt h v x) (k : ∀ a o, v = .ref a → h.get? a = some o → h'.get? a = some o) : PairAt h' v x := by
  obtain ⟨a, o, n, t, u, rfl, e, r⟩ := p
  exact ⟨a, o, n, t, u, rfl, k a o rfl e, r⟩
def lex (x y : Int × Int) : Bool := decide (x.1 < y.1 ∨ (x.1 = y.1 ∧ x.2 < y.2))
section
variable {prog : Program} {w : World} {A : Around} {E : Value → Shared → Prop} {s : Shared}
end
end SortT
namespace L2
open PySem PySem.Spec PyProof.Rows
section
variable {X : Cx} {e k : Expr} {te : TE} {p2 pos : Pos} {lo hi : Option Expr} {tl th : TO}
/-! ### xs[::-1] of a list -/
def tSlR (K : PySem.W.Frag) (te : TE) (tl th tk : TO) : TE := fun σ H Q => te σ H fun x H1 => tl σ H1 fun l H2 => th σ H2 fun u H3 => tk σ H3 fun y H4 => ∃ a xs, x = .ref a ∧ l = none ∧ u = none ∧ y = some (-1) ∧ SqL K H4 a xs ∧ ∀ p, H4 p = none → Q (.ref p) (upd H4 p (.lst xs.reverse))
end
end L2
namespace L2
open PySem PySem.Spec PyProof.Rows
/-! ### a dict of whole numbers, by a list of pairs; no Python -/
def storedI (l : List (Int × Int)) (k y : Int) : List (Int × Int) := if l.any (fun p => p.1 = k) then l.map (fun p => if p.1 = k then (p.1, y) else p) else l ++ [(k, y)]
def dctI (l : List (Int × Int)) : List (Int × Int) := l.foldl (fun acc s => storedI acc s.1 s.2) []
inductive KR : List (Int × Value) → List (Int × Int) → Prop
  | nil : KR [] []
  | cons {k y : Int} {t : Tok} {r : List (Int × Value)} {l : List (Int × Int)} : KR r l → KR ((k, .int y t) :: r) ((k, y) :: l)
theorem KR.length {r : List (Int × Value)} {l : List (Int × Int)} (h : KR r l) : r.length = l.length := by
  induction h with
  | nil => rfl
  | cons _ ih => simp [ih]
theorem KR.any {r : List (Int × Value)} {l : List (Int × Int)} {k : Int} (h : KR r l) : r.any (fun kv => kv.1 = k) = l.any (fun p => p.1 = k) := by
  induction h with
  | nil => rfl
  | cons _ ih => rw [List.any_cons, List.any_cons, ih]
theorem KR.snoc {r : List (Int × Value)} {l : List (Int × Int)} {k y : Int} {t : Tok} (h : KR r l) : KR (r ++ [(k, .int y t)]) (l ++ [(k, y)]) := by
  induction h with
  | nil => exact .cons .nil
  | cons _ ih => exact .cons ih
theorem KR.map {r : List (Int × Value)} {l : List (Int × Int)} {k y : Int} {t : Tok} (h : KR r l) : KR (r.map fun kv => if kv.1 = k then (kv.1, .int y t) else kv) (l.map fun p => if p.1 = k then (p.1, y) else p) := by
  induction h with
  | nil => exact .nil
  | @cons k' y' t' r l _ ih =>
    rw [List.map_cons, List.map_cons]
    by_cases e : k' = k
    · rw [if_pos e, if_pos e]; exact .cons ih
    · rw [if_neg e, if_neg e]; exact .cons ih
theorem KR.stored {r : List (Int × Value)} {l : List (Int × Int)} {k y : Int} {t : Tok} (h : KR r l) : KR (stored r k (.int y t)) (storedI l k y) := by
  unfold PySem.stored storedI
  rw [h.any]
  split
  · exact h.map
  · exact h.snoc
theorem KR.get {r : List (Int × Value)} {l : List (Int × Int)} (h : KR r l) : ∀ {i : Nat} {k : Int} {v : Value}, r[i]? = some (k, v) → ∃ y t, l[i]? = some (k, y) ∧ v = .int y t := by
  induction h with
  | nil => intro i k v e; simp at e
  | cons _ ih =>
    intro i k v e
    cases i with
    | zero => cases e; exact ⟨_, _, rfl, rfl⟩
    | succ i => exact ih e
section
variable {prog : Program} {w : World} {A : Around} {s : Shared} {R : Result → Shared → Prop}
end
/-! ### such a dict, its items, sorted: as things of the text -/
def DictO (P : Program) (w : World) (d : Addr) (l : List (Int × Int)) : HO := .ext fun h => (d == sysModules) = false ∧ ∃ kvs, h.DictOf (intKind P w) d kvs ∧ KR kvs l
def ViewO (v d : Addr) : HO := .ext fun h => h.IsItemsView v d
section
variable {X : Cx} {pins : List (Addr × Obj)} {σ : St} {H : Hp} {s : Shared}
/-- d.items() -/
def tItems (P : Program) (w : World) (to : TE) : TE := fun σ H Q => to σ H fun x H1 => ∃ (d : Addr) (l : List (Int × Int)), x = .ref d ∧ H1 d = some (DictO P w d l) ∧ ∀ (v : Addr) (H' : Hp), H1 v = none → Same H1 H' → H' v = some (ViewO v d) → Q (.ref v) H'
end
end L2
/-! a debt: its principal m and its units n, and what a deed makes of them; no Python -/
namespace Dbt
def mx (a b : Int) : Int := if b > a then b else a
def mn (a b : Int) : Int := if b < a then b else a
theorem mx_le {a b : Int} : a ≤ mx a b ∧ b ≤ mx a b ∧ (mx a b = a ∨ mx a b = b) := by unfold mx; split <;> omega
theorem mn_le {a b : Int} : mn a b ≤ a ∧ mn a b ≤ b ∧ (mn a b = a ∨ mn a b = b) := by unfold mn; split <;> omega
inductive Wd where
  | lend | fee | turn | take | grow
/-- what is charged or lent, less what is taken, in cents -/
def cents : Wd → Int → Int
  | .lend, x => x
  | .fee, x => x
  | .take, x => -x
  | _, _ => 0
def grown : Wd → Int → Int
  | .grow, x => x
  | _, _ => 0
def step (u : Int) (w : Wd) (x m n : Int) : Int × Int :=
  match w with
  | .lend => (mn (m + x) (mx 0 ((n + u * x) / u)), n + u * x)
  | .fee => (mn m (mx 0 ((n + u * x) / u)), n + u * x)
  | .take => (mn m (mx 0 ((n + u * -x) / u)), n + u * -x)
  | .turn => (mx 0 (n / u), n)
  | .grow => (m, n + x)
/-- the number of a deed: what is lent and what is grown is from 0 on -/
def Okd : Wd → Int → Prop
  | .lend, x => 0 ≤ x
  | .grow, x => 0 ≤ x
  | _, _ => True
def Good (u m n : Int) : Prop := 0 ≤ m ∧ m ≤ mx 0 (n / u)
theorem good_step {u : Int} {w : Wd} {x m n : Int} (hu : 0 < u) (ok : Okd w x) (g : Good u m n) : Good u (step u w x m n).1 (step u w x m n).2 := by
  obtain ⟨g0, g1⟩ := g
  cases w with
  | lend =>
    have h0 : 0 ≤ x := ok
    have := mx_le (a := 0) (b := (n + u * x) / u)
    have := mn_le (a := m + x) (b := mx 0 ((n + u * x) / u))
    show 0 ≤ mn (m + x) (mx 0 ((n + u * x) / u)) ∧ mn (m + x) (mx 0 ((n + u * x) / u)) ≤ mx 0 ((n + u * x) / u)
    omega
  | fee =>
    have := mx_le (a := 0) (b := (n + u * x) / u)
    have := mn_le (a := m) (b := mx 0 ((n + u * x) / u))
    show 0 ≤ mn m (mx 0 ((n + u * x) / u)) ∧ mn m (mx 0 ((n + u * x) / u)) ≤ mx 0 ((n + u * x) / u)
    omega
  | take =>
    have := mx_le (a := 0) (b := (n + u * -x) / u)
    have := mn_le (a := m) (b := mx 0 ((n + u * -x) / u))
    show 0 ≤ mn m (mx 0 ((n + u * -x) / u)) ∧ mn m (mx 0 ((n + u * -x) / u)) ≤ mx 0 ((n + u * -x) / u)
    omega
  | turn =>
    have := mx_le (a := 0) (b := n / u)
    show 0 ≤ mx 0 (n / u) ∧ mx 0 (n / u) ≤ mx 0 (n / u)
    omega
  | grow =>
    have h0 : 0 ≤ x := ok
    have h1 : n / u ≤ (n + x) / u := Int.ediv_le_ediv hu (by omega)
    have := mx_le (a := 0) (b := n / u)
    have := mx_le (a := 0) (b := (n + x) / u)
    show 0 ≤ m ∧ m ≤ mx 0 ((n + x) / u)
    omega
/-- the six numbers, by their places -/
def six (u m n w : Int) : Int := if w = 0 then m else if w = 1 then n else if w = 2 then n / u else if w = 3 then mx 0 (n / u) - m else if w = 4 then mx 0 (-(n / u)) else n - u * (n / u)
/-- what a row of deeds comes to -/
def sumC : List (Wd × Int) → Int
  | [] => 0
  | d :: r => cents d.1 d.2 + sumC r
def sumG : List (Wd × Int) → Int
  | [] => 0
  | d :: r => grown d.1 d.2 + sumG r
/-! ### two debts side by side -/
theorem mx_mono {a b : Int} (h : a ≤ b) : mx 0 a ≤ mx 0 b := by unfold mx; split <;> split <;> omega
theorem mn_mono {a b c d : Int} (h : a ≤ c) (h2 : b ≤ d) : mn a b ≤ mn c d := by unfold mn; split <;> split <;> omega
structure Two (u s0 s1 m1 n1 m2 n2 : Int) : Prop where
  a0 : 0 ≤ s0
  a1 : 0 ≤ s1
  n : n1 ≤ n2 - u * (s0 + s1)
  m : m1 ≤ m2
  g1 : Good u m1 n1
  g2 : Good u m2 n2
variable {u s0 s1 m1 n1 m2 n2 x y : Int}
theorem Two.le (hu : 0 < u) (T : Two u s0 s1 m1 n1 m2 n2) : n1 ≤ n2 := by
  have h := Int.mul_nonneg (Int.le_of_lt hu) (show 0 ≤ s0 + s1 by have := T.a0; have := T.a1; omega)
  have := T.n
  omega
theorem step_mono {w : Wd} (hw : w = .lend ∨ w = .fee ∨ w = .take) (hu : 0 < u) (hm : m1 ≤ m2) (hx : w = .lend → x = y) (hn : (step u w x m1 n1).2 ≤ (step u w y m2 n2).2) : (step u w x m1 n1).1 ≤ (step u w y m2 n2).1 := by
  rcases hw with rfl | rfl | rfl
  · obtain rfl := hx rfl
    exact mn_mono (by omega) (mx_mono (Int.ediv_le_ediv hu hn))
  · exact mn_mono hm (mx_mono (Int.ediv_le_ediv hu hn))
  · exact mn_mono hm (mx_mono (Int.ediv_le_ediv hu hn))
theorem Two.lend (hu : 0 < u) (T : Two u s0 s1 m1 n1 m2 n2) (h : 0 ≤ x) : Two u s0 s1 (step u .lend x m1 n1).1 (step u .lend x m1 n1).2 (step u .lend x m2 n2).1 (step u .lend x m2 n2).2 := by
  have le := T.le hu
  have h1 : (step u .lend x m1 n1).2 = n1 + u * x := rfl
  have h2 : (step u .lend x m2 n2).2 = n2 + u * x := rfl
  exact ⟨T.a0, T.a1, by rw [h1, h2]; have := T.n; omega, step_mono (.inl rfl) hu T.m (fun _ => rfl) (by rw [h1, h2]; omega), good_step hu (w := .lend) h T.g1, good_step hu (w := .lend) h T.g2⟩
theorem Two.fee (hu : 0 < u) (T : Two u s0 s1 m1 n1 m2 n2) (h : 0 ≤ s1 + y - x) : Two u s0 (s1 + y - x) (step u .fee x m1 n1).1 (step u .fee x m1 n1).2 (step u .fee y m2 n2).1 (step u .fee y m2 n2).2 := by
  have h1 : (step u .fee x m1 n1).2 = n1 + u * x := rfl
  have h2 : (step u .fee y m2 n2).2 = n2 + u * y := rfl
  have hn : n1 + u * x ≤ n2 + u * y - u * (s0 + (s1 + y - x)) := by
    have := T.n
    rw [Int.mul_add] at this
    rw [Int.mul_add, Int.mul_sub, Int.mul_add]
    omega
  have h3 := Int.mul_nonneg (Int.le_of_lt hu) (show 0 ≤ s0 + (s1 + y - x) by have := T.a0; omega)
  exact ⟨T.a0, h, by rw [h1, h2]; exact hn, step_mono (.inr (.inl rfl)) hu T.m (fun z => by cases z) (by rw [h1, h2]; omega), good_step hu (w := .fee) trivial T.g1, good_step hu (w := .fee) trivial T.g2⟩
theorem Two.take (hu : 0 < u) (T : Two u s0 s1 m1 n1 m2 n2) (h : 0 ≤ s0 + x - y) : Two u (s0 + x - y) s1 (step u .take x m1 n1).1 (step u .take x m1 n1).2 (step u .take y m2 n2).1 (step u .take y m2 n2).2 := by
  have h1 : (step u .take x m1 n1).2 = n1 + u * -x := rfl
  have h2 : (step u .take y m2 n2).2 = n2 + u * -y := rfl
  have hn : n1 + u * -x ≤ n2 + u * -y - u * (s0 + x - y + s1) := by
    have := T.n
    rw [Int.mul_add] at this
    rw [Int.mul_add, Int.mul_sub, Int.mul_add, Int.mul_neg, Int.mul_neg]
    omega
  have h3 := Int.mul_nonneg (Int.le_of_lt hu) (show 0 ≤ s0 + x - y + s1 by have := T.a1; omega)
  exact ⟨h, T.a1, by rw [h1, h2]; exact hn, step_mono (.inr (.inr rfl)) hu T.m (fun z => by cases z) (by rw [h1, h2]; omega), good_step hu (w := .take) trivial T.g1, good_step hu (w := .take) trivial T.g2⟩
theorem Two.turn (hu : 0 < u) (T : Two u s0 s1 m1 n1 m2 n2) : Two u s0 s1 (step u .turn x m1 n1).1 (step u .turn x m1 n1).2 (step u .turn y m2 n2).1 (step u .turn y m2 n2).2 :=
  ⟨T.a0, T.a1, T.n, mx_mono (Int.ediv_le_ediv hu (T.le hu)), good_step hu (w := .turn) trivial T.g1, good_step hu (w := .turn) trivial T.g2⟩
theorem Two.turn2 (hu : 0 < u) (T : Two u s0 s1 m1 n1 m2 n2) : Two u s0 s1 m1 n1 (step u .turn y m2 n2).1 (step u .turn y m2 n2).2 :=
  ⟨T.a0, T.a1, T.n, Int.le_trans T.g1.2 (mx_mono (Int.ediv_le_ediv hu (T.le hu))), T.g1, good_step hu (w := .turn) trivial T.g2⟩
theorem Two.grow (hu : 0 < u) (T : Two u s0 s1 m1 n1 m2 n2) (h : 0 ≤ x) (h2 : x ≤ y) : Two u s0 s1 (step u .grow x m1 n1).1 (step u .grow x m1 n1).2 (step u .grow y m2 n2).1 (step u .grow y m2 n2).2 :=
  ⟨T.a0, T.a1, by have := T.n; show n1 + x ≤ n2 + y - _; omega, T.m, good_step hu (w := .grow) h T.g1, good_step hu (w := .grow) (show 0 ≤ y by omega) T.g2⟩
/-- a deed, or none, of the first one and a deed of the other -/
inductive POk (s0 s1 : Int) : Option (Wd × Int) → Wd × Int → Prop
  | lend {x : Int} : 0 ≤ x → POk s0 s1 (some (.lend, x)) (.lend, x)
  | fee {x y : Int} : 0 ≤ s1 + y - x → POk s0 s1 (some (.fee, x)) (.fee, y)
  | take {x y : Int} : 0 ≤ s0 + x - y → POk s0 s1 (some (.take, x)) (.take, y)
  | turn : POk s0 s1 (some (.turn, 0)) (.turn, 0)
  | turn2 : POk s0 s1 none (.turn, 0)
  | grow {x y : Int} : 0 ≤ x → x ≤ y → POk s0 s1 (some (.grow, x)) (.grow, y)
def up1 (u : Int) (f : Option (Wd × Int)) (m n : Int) : Int × Int :=
  match f with
  | none => (m, n)
  | some (w, x) => step u w x m n
def un (u n : Int) (f : Option (Wd × Int)) : Int :=
  match f with
  | none => n
  | some (w, x) => n + u * cents w x + grown w x
def t0 (s0 : Int) : Option (Wd × Int) → Wd × Int → Int
  | some (.take, x), (.take, y) => s0 + x - y
  | _, _ => s0
def t1 (s1 : Int) : Option (Wd × Int) → Wd × Int → Int
  | some (.fee, x), (.fee, y) => s1 + y - x
  | _, _ => s1
theorem POk.two {f : Option (Wd × Int)} {g : Wd × Int} (hu : 0 < u) (T : Two u s0 s1 m1 n1 m2 n2) (p : POk s0 s1 f g) : Two u (t0 s0 f g) (t1 s1 f g) (up1 u f m1 n1).1 (up1 u f m1 n1).2 (step u g.1 g.2 m2 n2).1 (step u g.1 g.2 m2 n2).2 := by
  cases p with
  | lend h => exact T.lend hu h
  | fee h => exact T.fee hu h
  | take h => exact T.take hu h
  | turn => exact T.turn (x := 0) (y := 0) hu
  | turn2 => exact T.turn2 (y := 0) hu
  | grow h h2 => exact T.grow hu h h2
end Dbt
namespace L2
open PySem PySem.Spec PyProof.Rows
/-! ### greater divisors and factors -/
def CDivW (i j : Int) : Prop := 0 < j ∧ j < 1152921504606846976
def CPowW (i j : Int) : Prop := 0 ≤ j ∧ (Builtin.Int.intBits i : Int) * j ≤ 2 ^ 27
section
variable {X : Cx}
theorem op_fdivW : OpR X (binaryOp .FloorDiv) (rI CDivW fun i j => .int (i / j)) := opI fun i j _ _ _ _ _ hc q => by
  have h1 : (0 : Int) < j := hc.1
  have h2 : j < 1152921504606846976 := hc.2
  refine floordiv_int (by omega) (by rw [Int.fdiv_eq_ediv_of_nonneg i (by omega)]; exact q) (.inl (PyProof.noPylong_of_log2 ?_))
  have h0 : j.natAbs ≠ 0 := by omega
  have : j.natAbs.log2 < 60 := (Nat.log2_lt h0).mpr (show j.natAbs < 1152921504606846976 by omega)
  omega
end
/-! ### a class of one's own with fields: C(..), o.f, o.f = e, o.m(..) -/
structure MkI (K : PySem.W.Frag) (C : Addr) : Prop where
  makes : PySem.W.makesIn K C = true
  kp : PySem.W.keepIn K (.ref C) = true
def tFldC (C : Addr) (f : Str) (ta : TE) : TE := fun σ H Q => ta σ H fun x H1 => ∃ a dx fs v, x = .ref a ∧ H1 a = some (.ins C dx fs) ∧ fs.lookup f = some v ∧ Q v H1
def sFldC (C : Addr) (f : Str) (ta tv : TE) : TS := fun D σ H => tv σ H fun y H1 => ta σ H1 fun x H2 => ∃ a dx fs, x = .ref a ∧ H2 a = some (.ins C dx fs) ∧ fs.length < 1000 ∧ D.nx σ (upd H2 a (.ins C dx (putF f y fs)))
section
variable {X : Cx} {C : Addr} {x m f : Str} {p pos pos' apos : Pos} {e o value : Expr} {es : List Expr} {ta tv : TE} {t : TA} {j k : Nat} {ps : List Str} {sp : Sp}
end
section
variable {K : PySem.W.Frag} {x : Str} {C f : Addr}
end
/-! ### a debt -/
def dbtF (u m n : Int) : List (Str × V) := [("cent_units", .int u), ("principal_cents", .int m), ("owed_units", .int n)]
abbrev Deb (K : PySem.W.Frag) (H : Hp) (p dx : Addr) (u m n : Int) : Prop := H p = some (.ins (cA K "Debt") dx (dbtF u m n))
def wtxt : Dbt.Wd → Str
  | .lend => "lend"
  | .fee => "fee"
  | .turn => "turn"
  | .take => "take"
  | .grow => "grow"
/-- a deed: a tuple of its word and its number -/
abbrev Deed (H : Hp) (d : Addr) (w : Dbt.Wd) (x : Int) : Prop := H d = some (.tup [.str (wtxt w), .int x])
theorem Deb.same {K : PySem.W.Frag} {H H' : Hp} {p dx : Addr} {u m n : Int} (e : Deb K H p dx u m n) (s : Same H H') : Deb K H' p dx u m n := s _ _ e
theorem at_new {H : Hp} {p : Addr} (o : HO) (_h : H p = none) : (upd H p o) p = some o := upd_same
/-- a list of deeds -/
def Deeds (H : Hp) (vs : List V) : Prop := ∀ v ∈ vs, ∃ (d : Addr) (w : Dbt.Wd) (x : Int), v = .ref d ∧ Deed H d w x
theorem Deeds.same {H H' : Hp} {vs : List V} (h : Deeds H vs) (s : Same H H') : Deeds H' vs := fun v hv => let ⟨d, w, x, e, hd⟩ := h v hv; ⟨d, w, x, e, s _ _ hd⟩
theorem Deeds.put {H : Hp} {vs : List V} {p C dx : Addr} {fs : List (Str × V)} {o : HO} (h : Deeds H vs) (e : H p = some (.ins C dx fs)) : Deeds (upd H p o) vs := fun v hv => let ⟨d, w, x, e1, hd⟩ := h v hv; ⟨d, w, x, e1, by
  show (upd H p o) d = _
  rw [upd_ne (ne_of hd e (by intro z; cases z))]; exact hd⟩
/-- .. by the deeds themselves -/
inductive DL (H : Hp) : List V → List (Dbt.Wd × Int) → Prop
  | nil : DL H [] []
  | cons {p : Addr} {d : Dbt.Wd × Int} {xs : List V} {l : List (Dbt.Wd × Int)} : Deed H p d.1 d.2 → DL H xs l → DL H (.ref p :: xs) (d :: l)
section
variable {H H' : Hp} {xs ys zs : List V} {l r : List (Dbt.Wd × Int)} {p : Addr} {d : Dbt.Wd × Int}
theorem DL.get (h : DL H xs l) : ∀ {i : Nat} {x : V}, xs[i]? = some x → ∃ p d, x = .ref p ∧ l[i]? = some d ∧ Deed H p d.1 d.2 := by
  induction h with
  | nil => intro i x e; simp at e
  | cons h _ ih =>
    intro i x e
    cases i with
    | zero => cases e; exact ⟨_, _, rfl, rfl, h⟩
    | succ i => exact ih e
theorem DL.length (h : DL H xs l) : xs.length = l.length := by
  induction h with
  | nil => rfl
  | cons _ _ ih => simp [ih]
theorem DL.same (h : DL H xs l) (s : Same H H') : DL H' xs l := by
  induction h with
  | nil => exact .nil
  | cons h _ ih => exact .cons (s _ _ h) ih
theorem DL.append (h : DL H xs l) (k : DL H ys r) : DL H (xs ++ ys) (l ++ r) := by
  induction h with
  | nil => exact k
  | cons h' _ ih => exact .cons h' ih
theorem DL.push (h : DL H xs l) (e : Deed H p d.1 d.2) : DL H (xs ++ [.ref p]) (l ++ [d]) := h.append (.cons e .nil)
theorem DL.take (h : DL H xs l) : ∀ n, DL H (xs.take n) (l.take n) := by
  induction h with
  | nil => intro n; simp; exact .nil
  | cons h' _ ih =>
    intro n
    cases n with
    | zero => exact .nil
    | succ n => exact .cons h' (ih n)
theorem DL.drop (h : DL H xs l) : ∀ n, DL H (xs.drop n) (l.drop n) := by
  induction h with
  | nil => intro n; simp; exact .nil
  | cons h' r ih =>
    intro n
    cases n with
    | zero => exact .cons h' r
    | succ n => exact ih n
theorem DL.reverse (h : DL H xs l) : DL H xs.reverse l.reverse := by
  induction h with
  | nil => exact .nil
  | cons h' _ ih => rw [List.reverse_cons, List.reverse_cons]; exact ih.push h'
/-- all but what is grown -/
def kept : Dbt.Wd → Bool
  | .grow => false
  | _ => true
def pkD : List V → List (Dbt.Wd × Int) → List (Bool × V)
  | x :: xs, d :: l => (kept d.1, x) :: pkD xs l
  | _, _ => []
end
/-- a deed, or none -/
def FirstAt (H : Hp) (v : V) : Option (Dbt.Wd × Int) → Prop
  | none => v = .non
  | some d => ∃ a, v = .ref a ∧ Deed H a d.1 d.2
theorem FirstAt.same {H H' : Hp} {v : V} {f : Option (Dbt.Wd × Int)} (h : FirstAt H v f) (s : Same H H') : FirstAt H' v f := by
  cases f with
  | none => exact h
  | some d => obtain ⟨a, e, hd⟩ := h; exact ⟨a, e, s _ _ hd⟩
/-! ### isinstance of an instance of one's own -/
structure InsK (K : PySem.W.Frag) (C : Addr) : Prop where
  ha : PySem.W.findIn K (.ref C) "__class__" = some (some (.builtin "object.__class__"))
  hn : PySem.W.specialIn K (.builtin "object.__class__") "__get__" = some (some (.builtin "getset_descriptor.__get__"))
  htk : PySem.W.takesIn K (.builtin "object.__class__") = some true
  hm : PySem.W.mroIn K C (.type "object") = some true
/-! ### tests of texts -/
theorem ifST {s : Str} {A B : Prop} (h : A) : if decide (V.str s = V.str s) = true then A else B := by rw [if_pos (by simp)]; exact h
theorem ifSF {s t : Str} {A B : Prop} (ne : s ≠ t) (h : B) : if decide (V.str s = V.str t) = true then A else B := by rw [if_neg (by simpa using ne)]; exact h
theorem ifSNT {s : Str} {A B : Prop} (h : B) : if (!decide (V.str s = V.str s)) = true then A else B := by rw [if_neg (by simp)]; exact h
theorem ifSNF {s t : Str} {A B : Prop} (ne : s ≠ t) (h : A) : if (!decide (V.str s = V.str t)) = true then A else B := by rw [if_pos (by simpa using ne)]; exact h
end L2
namespace L2
open PySem PySem.Spec PyProof.Rows
/-! ### C.m(..): a method taken of its class -/
structure UnbS (K : PySem.W.Frag) (C : Addr) (m qual : Str) (st : Stmt) (ps : List Str) : Prop where
  ex : ∃ (f : Addr) (fd : FuncData), Fun K m qual st f fd ∧ (PySem.W.specialIn K (.ref C) "__getattribute__" = some (some (.builtin "type.__getattribute__")) ∧ PySem.W.readsIn K C (.type "type") = true ∧
    PySem.W.findCls K (.ref C) (.type "type") m = some (.val (.ref f)) ∧ PySem.W.handedIn (.ref f) = true) ∧ ∀ us : List Value, us.length = ps.length → bindArgs fd ⟨us, []⟩ = pure (ps.zip us)
structure DefU (P : Program) (w : World) (K : PySem.W.Frag) (mg : Str → Option Value) (base : Heap) (k : Nat) (C : Addr) (m : Str) (ps : List Str) (sp : Sp) : Prop where
  ex : ∃ (f : Addr) (fd : FuncData), FnOk P w K mg base CX0 k f fd ps sp ∧ (PySem.W.specialIn K (.ref C) "__getattribute__" = some (some (.builtin "type.__getattribute__")) ∧ PySem.W.readsIn K C (.type "type") = true ∧
    PySem.W.findCls K (.ref C) (.type "type") m = some (.val (.ref f)) ∧ PySem.W.handedIn (.ref f) = true) ∧ PySem.W.keepIn K (.ref f) = true ∧ ∀ us : List Value, us.length = ps.length → bindArgs fd ⟨us, []⟩ = pure (ps.zip us)
theorem UnbS.ok {P : Program} {w : World} {K : PySem.W.Frag} {mg : Str → Option Value} {base : Heap} {C : Addr} {m qual : Str} {st : Stmt} {N ps : List Str} {k : Nat} {sp : Sp} (S : UnbS K C m qual st ps) (sc : FnScope N ps (defScope st)) (len : ∀ vs H Q E, sp vs H Q E → vs.length = ps.length)
    (hbody : ∀ (f : Addr) (cdv : Value) (A : Around) (outer : List Env) (s : Shared) (H : Hp) (vs : List V) (Q : VK) (E : XK), Room k (A.deeper (envOfC qual (defScope st) s.heap.objs.size f cdv)) → sp vs H Q E →
      ∃ t, PSs (cxOf CX0 P w K mg base N qual (defScope st) f cdv A outer s H E).nox (defBody st) t ∧ t { nx := fun _ H' => Q .non H', rt := Q } (start N vs) H) : DefU P w K mg base (k + 1) C m ps sp := by
  obtain ⟨f, fd, F, hm, hb⟩ := S.ex
  exact ⟨f, fd, F.ok sc len (fun cdv => hbody f cdv), hm, F.kp, hb⟩
section
variable {X : Cx} {C : Addr} {x m : Str} {p pos apos : Pos} {e o : Expr} {es : List Expr} {t : TA} {j k : Nat} {ps : List Str} {sp : Sp}
end
/-! ### all(xs), xs a list of truths -/
theorem boolsAre_vals : ∀ {bs : List Bool} {us : List Value}, Vals (bs.map V.bl) us → LSm.BoolsAre us bs
  | [], _, .nil => .nil
  | b :: bs, _, .cons r rs => by
    cases r
    exact .cons b (boolsAre_vals rs)
theorem call_allB {X : Cx} (hc : X.calm = true) : CallR X (.builtin "all") (fun xs H Q => ∃ (p : Addr) (bs : List Bool), xs = [.ref p] ∧ SqL X.K H p (bs.map V.bl) ∧ Q (.bl (bs.all id)) H) := by
  intro pins s σ H xs us Q I r h
  obtain ⟨p, bs, rfl, hq, q⟩ := h
  obtain ⟨u, rfl, rx⟩ := vals1 r
  cases rx
  obtain ⟨vs, rv, pl, hz⟩ := I.list hq
  have hb := boolsAre_vals rv
  have hl := pl.isList
  have hlt : p < s.heap.objs.size := by obtain ⟨_, e, _⟩ := hl; exact Heap.lt_size e
  refine PySem.call_all_walk (wpAny_pyIter_list hl ?_)
  refine ⟨s.heap.objs.size, [s.heap.objs.size, p], [s.heap.objs.size], vs.toArray.size, _, _, fun i => (bs[i]?).getD true, rfl, Walks.list (A := X.A.in1) (I.ok.hd hc) _ p (Nat.ne_of_lt hlt) vs.toArray,
    ⟨⟨_, Heap.get?_push_size _ rfl, rfl, rfl⟩, hl.push _⟩, fun i v s' Q' E' hP hQ => ?_, fun h' tk hk => ?_⟩
  · obtain ⟨b, e, rfl⟩ := hb.get i v (by simpa using hP)
    simp only [e, Option.getD_some] at hQ
    exact wpAny_truthy_bool hQ
  · have e : ((List.range vs.toArray.size).all fun i => (bs[i]?).getD true) = bs.all id := by
      rw [← LSm.range_all, List.size_toArray, hb.length]
    rw [e]
    exact ⟨.bl _, H, I.kept (LSm.kept_iter hk), rfl, q⟩
/-! ### nine classes, one above all others -/
inductive Ek where
  | out | fee | pay | due | turn | rate | late | still | base
def Ek.cls : Ek → Str
  | .out => "Out"
  | .fee => "Fee"
  | .pay => "Pay"
  | .due => "Due"
  | .turn => "Turn"
  | .rate => "Rate"
  | .late => "Late"
  | .still => "Still"
  | .base => "Entry"
def Ek.word : Ek → Str
  | .out => "out"
  | .fee => "fee"
  | .pay => "pay"
  | .due => "due"
  | .turn => "turn"
  | .rate => "rate"
  | .late => "late"
  | .still => "still"
  | .base => ""
/-- the fields of an entry -/
def entF : Ek → Int → Int → List (Str × V)
  | .turn, d, _ => [("day", .int d)]
  | .base, d, _ => [("day", .int d)]
  | .rate, d, x => [("day", .int d), ("rate", .int x)]
  | .late, d, x => [("day", .int d), ("rate", .int x)]
  | .still, d, x => [("day", .int d), ("until", .int x)]
  | .out, d, x => [("day", .int d), ("amount", .int x)]
  | .fee, d, x => [("day", .int d), ("amount", .int x)]
  | .pay, d, x => [("day", .int d), ("amount", .int x)]
  | .due, d, x => [("day", .int d), ("amount", .int x)]
/-- its row -/
def rowV : Ek → Int → Int → List V
  | .turn, d, _ => [.str "turn", .int d]
  | .base, d, _ => [.str "", .int d]
  | k, d, x => [.str k.word, .int d, .int x]
abbrev IsEnt (K : PySem.W.Frag) (H : Hp) (a dx : Addr) (k : Ek) (d x : Int) : Prop := H a = some (.ins (cA K k.cls) dx (entF k d x))
/-- whether the one stands under the other -/
def subE : Ek → Ek → Bool
  | _, .base => true
  | .out, .out => true
  | .fee, .fee => true
  | .pay, .pay => true
  | .due, .due => true
  | .turn, .turn => true
  | .rate, .rate => true
  | .late, .late => true
  | .still, .still => true
  | _, _ => false
/-- what the third thing of a row must be -/
def ThirdOk : Ek → Int → Int → Prop
  | .fee, _, x => -1000000000000 ≤ x ∧ x ≤ 1000000000000
  | .rate, _, x => 0 ≤ x ∧ x ≤ 1000000
  | .late, _, x => 0 ≤ x ∧ x ≤ 1000000
  | .still, d, x => d + 1 ≤ x ∧ x ≤ 1000000
  | .turn, _, _ => True
  | .base, _, _ => False
  | .out, _, x => 1 ≤ x ∧ x ≤ 1000000000000
  | .pay, _, x => 1 ≤ x ∧ x ≤ 1000000000000
  | .due, _, x => 1 ≤ x ∧ x ≤ 1000000000000
def GoodRow (k : Ek) (d x : Int) : Prop := (0 ≤ d ∧ d ≤ 999999) ∧ ThirdOk k d x
def rowDt : Ek → Int → Int → List PyData
  | .turn, d, _ => [.str "turn", .int d]
  | .base, d, _ => [.str "", .int d]
  | k, d, x => [.str k.word, .int d, .int x]
/-- the eight answers, and the eight words -/
def kindsV (k : Ek) : List V := [.bl (subE k .out), .bl (subE k .fee), .bl (subE k .pay), .bl (subE k .due), .bl (subE k .turn), .bl (subE k .rate), .bl (subE k .late), .bl (subE k .still)]
def kindsD (k : Ek) : List PyData := [.bool (subE k .out), .bool (subE k .fee), .bool (subE k .pay), .bool (subE k .due), .bool (subE k .turn), .bool (subE k .rate), .bool (subE k .late), .bool (subE k .still)]
def eightW : List Str := ["out", "fee", "pay", "due", "turn", "rate", "late", "still"]
def tMethE (K : PySem.W.Frag) (m : Str) (sp : Ek → Sp) (ta : TE) (t : TA) : TE := fun σ H Q => ta σ H fun x H1 => ∃ (k : Ek) (a dx : Addr) (fs : List (Str × V)), x = .ref a ∧ H1 a = some (.ins (cA K k.cls) dx fs) ∧ fs.lookup m = none ∧ t σ H1 fun vs H2 => sp k (x :: vs) H2 Q E0
section
variable {X : Cx} {C : Addr} {x m : Str} {p pos apos : Pos} {e o : Expr} {es : List Expr} {ta : TE} {t : TA} {j k : Nat} {ps : List Str}
end
section
variable {K : PySem.W.Frag} {x : Str} {C f : Addr}
end
end L2
namespace L2
open PySem PySem.Spec PyProof.Rows
/-! ### texts: slices, upper; a call in a try whose value is dropped -/
section
variable {X : Cx}
/-- a slice of a text: some text, no longer -/
def rSlS : V → Option Int → Option Int → Hp → VK → Prop := fun x _ _ H Q => ∃ z, x = .str z ∧ z.length ≤ 1000 ∧ ∀ y : Str, y.length ≤ z.length → Q (.str y) H
/-- in great letters -/
def rUpper : V → List V → Hp → VK → Prop := fun x vs H Q => ∃ z, x = .str z ∧ vs = [] ∧ Builtin.Str.tooLong (Txt.upper z).length = false ∧ Q (.str (Txt.upper z)) H
end
def tTryE (K : PySem.W.Frag) (Cx : Addr) (j : Nat) (ta : TA) (sp : Sp) (th : TS) : TS := fun D σ H => ta σ H fun vs H1 => sp vs H1 (fun _ H2 => D.nx σ H2) fun C _ H2 =>
  ∃ c, C = .ref c ∧ PySem.W.exmOne K (.ref c) (.ref Cx) = some true ∧ ∀ e, H2 e = none → th { nx := fun _ _ => False, rt := D.rt } (σ.set j (some (.ref e))) (upd H2 e (ExcO e (.ref c)))
end L2
namespace L2
open PySem
end L2
namespace L2
def eqK : Kd → Kd → Bool
  | .plain, .plain => true
  | .bank, .bank => true
  | .thirty, .thirty => true
  | .exact, .exact => true
  | _, _ => false
def subK (k : Kd) : Kd → Bool
  | .plain => true
  | .bank => eqK k .bank
  | .thirty => eqK k .thirty
  | .exact => eqK k .exact
end L2
namespace L2
open PySem PySem.Spec PyProof.Rows
/-! ### a list of things and what is known of each -/
inductive LL {α : Type} (R : V → α → Prop) : List V → List α → Prop
  | nil : LL R [] []
  | cons {v : V} {e : α} {vs : List V} {es : List α} : R v e → LL R vs es → LL R (v :: vs) (e :: es)
section
variable {α : Type} {R S : V → α → Prop} {vs ws : List V} {es fs : List α}
theorem LL.length (h : LL R vs es) : vs.length = es.length := by
  induction h with
  | nil => rfl
  | cons _ _ ih => simp [ih]
theorem LL.append (h : LL R vs es) (k : LL R ws fs) : LL R (vs ++ ws) (es ++ fs) := by
  induction h with
  | nil => exact k
  | cons h _ ih => exact .cons h ih
theorem LL.push {v : V} {e : α} (h : LL R vs es) (k : R v e) : LL R (vs ++ [v]) (es ++ [e]) := h.append (.cons k .nil)
theorem LL.reverse (h : LL R vs es) : LL R vs.reverse es.reverse := by
  induction h with
  | nil => exact .nil
  | cons h _ ih => rw [List.reverse_cons, List.reverse_cons]; exact ih.push h
theorem LL.take (h : LL R vs es) : ∀ n, LL R (vs.take n) (es.take n) := by
  induction h with
  | nil => intro n; simp; exact .nil
  | cons h _ ih =>
    intro n
    cases n with
    | zero => exact .nil
    | succ n => exact .cons h (ih n)
theorem LL.get (h : LL R vs es) : ∀ {i : Nat} {v : V}, vs[i]? = some v → ∃ e, es[i]? = some e ∧ R v e := by
  induction h with
  | nil => intro i v e; simp at e
  | cons h _ ih =>
    intro i v e
    cases i with
    | zero => cases e; exact ⟨_, rfl, h⟩
    | succ i => exact ih e
end
def lkI (l : List (Int × Int)) (k : Int) : Option Int := (l.find? fun p => p.1 = k).map (·.2)
theorem KR.look {r : List (Int × Value)} {l : List (Int × Int)} {k : Int} {v : V} {u : Value} (rv : RelV v u) (h : KR r l) : RelV (((lkI l k).map V.int).getD v) ((valueAt r k).getD u) := by
  induction h with
  | nil => exact rv
  | @cons k' y t r l _ ih =>
    unfold lkI PySem.valueAt at *
    by_cases e : k' = k
    · rw [List.find?_cons_of_pos (by simpa using e), List.find?_cons_of_pos (by simpa using e)]
      exact ⟨t, rfl⟩
    · rw [List.find?_cons_of_neg (by simpa using e), List.find?_cons_of_neg (by simpa using e)]
      exact ih
section
variable {X : Cx} {pins : List (Addr × Obj)} {σ : St} {H : Hp} {s : Shared} {o i e f value : Expr} {pos pos' apos cpos : Pos} {td ty tx tv : TE}
def tDNewI (P : Program) (w : World) : TE := fun _ H Q => ∀ p, H p = none → Q (.ref p) (upd H p (DictO P w p []))
def tGetI (P : Program) (w : World) (td ty tx : TE) : TE := fun σ H Q => td σ H fun x H1 => ∃ (d : Addr) (l : List (Int × Int)), x = .ref d ∧ H1 d = some (DictO P w d l) ∧ ty σ H1 fun y H2 => tx σ H2 fun z H3 => ∃ (k : Int), y = .int k ∧ H3 d = some (DictO P w d l) ∧ Q (((lkI l k).map V.int).getD z) H3
def sPutI (P : Program) (w : World) (td ty tv : TE) : TS := fun D σ H => tv σ H fun v H1 => td σ H1 fun x H2 => ty σ H2 fun y H3 => ∃ (d : Addr) (l : List (Int × Int)) (k n : Int), x = .ref d ∧ y = .int k ∧ v = .int n ∧ H3 d = some (DictO P w d l) ∧ l.length ≤ 1000 ∧ D.nx σ (upd H3 d (DictO P w d (storedI l k n)))
end
/-! ### fields and methods of entries within comprehensions -/
section
variable {X : Cx} {m f : Str} {pos apos : Pos} {o e : Expr} {ta : TE} {j k : Nat} {ps : List Str}
end
end L2
namespace L2
open PySem PySem.Spec PyProof.Rows
/-! ### comprehensions with three names and a test: [elt for x, y, z in iter if c] -/
def Cx.block3 (X : Cx) (sc : Scope) (x y0 y1 : Str) (ix : List Nat) (b : Blk) : Cx where
  prog := X.prog
  w := X.w
  K := X.K
  mg := X.mg
  base := X.base
  A := X.A
  N := x :: y0 :: y1 :: ix.map fun i => X.N.getD i x
  s₀ := b.s
  H₀ := b.H
  env := compEnvC sc (closOf sc X.env) b.C X.env
  outer := X.stack
  stack := X.stack
  ex := b.ex
  fn := fun _ => false
  calm := X.calm
  pn := b.pn
  xe := fun _ _ => False
structure CompOk3 (X : Cx) (sc : Scope) (x y0 y1 : Str) (ix : List Nat) : Prop where
  clos : closureFor sc X.env = pure (closOf sc X.env)
  cell : ∀ y ∈ sc.names, y.2 ≠ .cell
  kind : sc.kind = .function
  names : ∀ y ∈ sc.names, y.2 = .local → sc.names.lookup y.1 = some .local
  var : sc.names.lookup x = some .local
  var2 : sc.names.lookup y0 = some .local
  var3 : sc.names.lookup y1 = some .local
  nd : (x :: y0 :: y1 :: ix.map fun i => X.N.getD i x).Nodup
  cap : CapsOk X sc x ix
  sub : SubOk X.env.cells (closOf sc X.env)
  has : HasOk (closOf sc X.env) (relabel sc X.env).names
section
variable {X : Cx} {pins : List (Addr × Obj)} {σ : St} {H : Hp} {s : Shared} {sc : Scope} {x y0 y1 : Str} {ix : List Nat} {fp : List Addr}
end
def TurnsIf3 (K0 : PySem.W.Frag) (ix : List Nat) (tt : TT) (te : TE) (σ : St) (J : It) (l : Addr) (R : Hp → Prop) (W : Nat → Nat → List V → Hp → Prop) : Prop :=
  ∀ i m xs H', W i m xs H' → H' l = some (.lst xs) ∧ ((J.stop i H' ∧ R H') ∨ (J.go i H' ∧ xs.length < sizeLine ∧ ∀ x H2, J.yld i H' x H2 → ∃ p v1 v2 v3, x = .ref p ∧ SqT K0 H2 p [v1, v2, v3] ∧
    tt (some v1 :: some v2 :: some v3 :: capts σ ix) H2 fun b H3 => if b = true then te (some v1 :: some v2 :: some v3 :: capts σ ix) H3 fun v H4 => H4 l = some (.lst xs) ∧ ∃ m', m' < m ∧ W (i + 1) m' (xs ++ [v]) (upd H4 l (.lst (xs ++ [v]))) else ∃ m', m' < m ∧ W (i + 1) m' xs H3))
def tComp3If (K0 : PySem.W.Frag) (ix : List Nat) (wi : TI) (tt : TT) (te : TE) : TE := fun σ H Q => wi σ H fun J H1 => ∀ l, H1 l = none → ∃ W : Nat → Nat → List V → Hp → Prop, (∃ m, W 0 m [] (upd H1 l (.lst []))) ∧ TurnsIf3 K0 ix tt te σ J l (Q (.ref l)) W
section
variable {X : Cx} {pins : List (Addr × Obj)} {σ : St} {H : Hp} {s : Shared} {sc : Scope} {x y0 y1 : Str} {ix : List Nat} {fp : List Addr} {elt iter c : Expr} {te : TE} {tt : TT} {wi : TI} {px py0 py1 pt0 pos : Pos} {kt0 : Nat}
end
end L2
namespace L2
open PySem PySem.Spec PyProof.Rows
/-! ### texts as they are: slices, find, startswith, zfill, int(text); a text walked sign by sign -/
section
variable {X : Cx}
/-- a slice of a text, as it is -/
def rSlE : V → Option Int → Option Int → Hp → VK → Prop := fun x lo hi H Q => ∃ z, x = .str z ∧ z.length ≤ 1000 ∧ Q (.str (Txt.slice z lo hi)) H
theorem sl_strE : SlR X rSlE := by
  intro pins s σ H x v vl vu lo hi sl Q I rx hs pl pu h
  obtain ⟨z, rfl, hz, q⟩ := h
  obtain ⟨t, rfl⟩ := rx
  obtain ⟨o, ho, hc, hd⟩ := hs
  have hsz : z.length ≤ sizeLine := by have := sizeLine_eq; omega
  refine ⟨"str", _, F.slot_str_getitem.lookup, typeIs_str _ _ _, ?_⟩
  cases pl with
  | none =>
    cases pu with
    | none => exact wpAny_getItem_str_slice (l := none) (u := none) (st := none) ⟨o, ho, hc, hd⟩ rfl (post_val_or_str ⟨Nat.le_trans (Txt.slice_le z _ _) hsz, fun t' k => ⟨.str _, H, I.tok k, ⟨_, rfl⟩, q⟩⟩)
    | int j uj => exact wpAny_getItem_str_slice (l := none) (u := some (j, uj)) (st := none) ⟨o, ho, hc, hd⟩ rfl (post_val_or_str ⟨Nat.le_trans (Txt.slice_le z _ _) hsz, fun t' k => ⟨.str _, H, I.tok k, ⟨_, rfl⟩, q⟩⟩)
  | int i ui =>
    cases pu with
    | none => exact wpAny_getItem_str_slice (l := some (i, ui)) (u := none) (st := none) ⟨o, ho, hc, hd⟩ rfl (post_val_or_str ⟨Nat.le_trans (Txt.slice_le z _ _) hsz, fun t' k => ⟨.str _, H, I.tok k, ⟨_, rfl⟩, q⟩⟩)
    | int j uj => exact wpAny_getItem_str_slice (l := some (i, ui)) (u := some (j, uj)) (st := none) ⟨o, ho, hc, hd⟩ rfl (post_val_or_str ⟨Nat.le_trans (Txt.slice_le z _ _) hsz, fun t' k => ⟨.str _, H, I.tok k, ⟨_, rfl⟩, q⟩⟩)
def rFind : V → List V → Hp → VK → Prop := fun x vs H Q => ∃ z y, x = .str z ∧ vs = [.str y] ∧ Q (.int (Txt.find z y)) H
theorem mt_find : MtR X "str.find" rFind := by
  intro pins s σ H x vs v us Q I rx rv h
  obtain ⟨z, y, rfl, rfl, q⟩ := h
  obtain ⟨t, rfl⟩ := rx
  obtain ⟨u, rfl, ru⟩ := vals1 rv
  obtain ⟨t2, rfl⟩ := ru
  exact SC.find ⟨.int _, H, I.tok _, ⟨_, rfl⟩, q⟩
def rStarts : V → List V → Hp → VK → Prop := fun x vs H Q => ∃ z y, x = .str z ∧ vs = [.str y] ∧ Q (.bl (Txt.startswith z y)) H
def rZfill : V → List V → Hp → VK → Prop := fun x vs H Q => ∃ z i, x = .str z ∧ vs = [.int i] ∧ (0 ≤ i ∧ i ≤ 1000) ∧ Q (.str (Txt.zfill z i)) H
theorem mt_zfill : MtR X "str.zfill" rZfill := by
  intro pins s σ H x vs v us Q I rx rv h
  obtain ⟨z, i, rfl, rfl, ⟨h0, h1⟩, q⟩ := h
  obtain ⟨t, rfl⟩ := rx
  obtain ⟨u, rfl, ru⟩ := vals1 rv
  obtain ⟨t2, rfl⟩ := ru
  exact SC.zfill (padOk_of (by omega) (by omega)) fun t' k => ⟨.str _, H, I.tok _, ⟨_, rfl⟩, q⟩
def rIntT : List V → Hp → VK → Prop := fun xs H Q => ∃ z n, xs = [.str z] ∧ z.length ≤ 640 ∧ PySem.intText? z = some n ∧ Q (.int n) H
theorem call_intT : CallR X (.type "int") rIntT := by
  intro pins s σ H xs us Q I r h
  obtain ⟨z, n, rfl, hl, hn, q⟩ := h
  obtain ⟨u, rfl, ru⟩ := vals1 r
  obtain ⟨t, rfl⟩ := ru
  exact PySem.W.KIN.call_text hn hl ⟨.int _, H, I.tok _, ⟨_, rfl⟩, q⟩
end
theorem gstr_mk {K : PySem.W.Frag} {mg : Str → Option Value} {x : Str} {h : Heap} {i : Str} {t : Tok} (X : K.In h) (G : h.Ns mainGlobals mg) (a : PySem.W.nsIn K mainGlobals x = some (some (.str i t))) : ∃ t, mg x = some (.str i t) := ⟨t, PySem.W.mg_of X G a⟩
theorem pe_gstr {X : Cx} {x : Str} {pos : Pos} {i : Str} (h : ∃ t, X.mg x = some (.str i t)) (hg : Gl X x := by rfl) (hd : (x == ("__debug__" : Str)) = false := by decide) : PE X (.Name x pos) (tC (.str i)) := by
  obtain ⟨t, h⟩ := h
  exact pe_glob hg h ⟨t, rfl⟩ hd
/-- the signs of a text, one by one -/
def Itx (x : Str) : It := ⟨fun i _ => i < x.cps.size, fun i H v H' => H' = H ∧ ∃ c, x.cps[i]? = some c ∧ v = .str ⟨#[c]⟩, fun i _ => x.cps.size ≤ i⟩
theorem walks_str {P : Program} {w : World} {A : Around} (h : A.handled = none) (it : Addr) (x : Str) (t : Tok) : Walks P w A it [it] [it] x.cps.size (SignAt x) fun i h => h.IsStrIter it (strIterType x) x t i := by
  unfold strIterType
  split
  · exact Walks.strAscii h it x t
  · exact Walks.strWide h it x t
theorem turn_str {P : Program} {w : World} {K : PySem.W.Frag} {tg : Expr} (it : Addr) (x : Str) (t : Tok) : Turn P w K tg (Itx x) [it] it (fun i h => i ≤ x.cps.size ∧ h.IsStrIter it (strIterType x) x t i) where
  mem := by simp
  obj := fun i h st b hb => by
    have e : b = it := by simpa using hb
    subst e
    obtain ⟨_, o, e, c, d⟩ := st
    exact ⟨o, e, fun v z => by rw [d] at z; cases z⟩
  keep := fun i h h' st k => by
    obtain ⟨l, o, e, c, d⟩ := st
    exact ⟨l, o, k it (by simp) o e, c, d⟩
  item := by
    intro X hP hw hK hc i pins s σ H E I hf st hg
    subst hP hw hK
    obtain ⟨f0, f1, f2, f3, f4, f5⟩ := hf it (by simp)
    refine (walks_str (I.ok.hd hc) it x t).item i s _ E hg st.2 fun v h' tk hv st' kp => ?_
    have I1 : Inv X pins σ H { s with heap := h', toks := tk } := I.turned (t' := tk) (fun b o hb e => kp b o (by simpa using hb) e) f0 f1 f3 f4 f5
    obtain ⟨c, u, hc1, rfl⟩ := hv
    obtain ⟨o, e, cl, d⟩ := id st'
    exact ⟨_, rfl, go_of (s := { s with heap := h', toks := tk }) e cl d (by unfold strIterType; split <;> decide) ⟨.str ⟨#[c]⟩, H, I1, ⟨u, rfl⟩, ⟨rfl, c, hc1, rfl⟩, ⟨hg, st'⟩, fun b hb => (hf b hb).1⟩⟩
  done := by
    intro X hP hw hK hc i pins s σ H E I hf st hg
    subst hP hw hK
    obtain ⟨f0, f1, f2, f3, f4, f5⟩ := hf it (by simp)
    have e : i = x.cps.size := Nat.le_antisymm st.1 hg
    subst e
    exact (walks_str (I.ok.hd hc) it x t).done s _ E st.2 fun h' tk kp => ⟨rfl, I.turned (t' := tk) (fun b o hb e => kp b o (by simpa using hb) e) f0 f1 f3 f4 f5⟩
  self := fun A i s Q E st h => by
    obtain ⟨_, st⟩ := st
    unfold strIterType at st
    split at st
    · exact wpAny_pyIter_striter_ascii st h
    · exact wpAny_pyIter_striter_wide st h
def iTxt (tl : TE) : TI := fun σ H R => tl σ H fun x H1 => ∃ z, x = .str z ∧ R (Itx z) H1
theorem pi_str {X : Cx} {tg : Expr} {l : Expr} {tl : TE} (hl : PE X l tl) : PI X tg l (iTxt tl) := by
  intro pins s σ H R I h
  refine thn (hl pins s σ H _ I h) fun v s1 ⟨x, H1, I1, r1, q1⟩ => ?_
  obtain ⟨z, e, q⟩ := q1
  subst e
  obtain ⟨t, rfl⟩ := r1
  refine wpAny_pyIter_strU ?_
  refine ⟨s1.heap.objs.size, [s1.heap.objs.size], _, _, H1, rfl, I1.kept (t' := s1.toks) fun b o e => Heap.get?_push_of_some _ e, turn_str _ z t, ⟨Nat.zero_le _, _, Heap.get?_push_size _ rfl, rfl, rfl⟩, fun b hb => ?_, q⟩
  have e : b = s1.heap.objs.size := by simpa using hb
  subst e
  exact I1.fpOk (Nat.le_refl _) (I1.hok.fresh (Nat.le_refl _))
theorem walk_str {H : Hp} {x : Str} : WalkOf (Itx x) H (x.cps.toList.map fun c => V.str ⟨#[c]⟩) :=
  ⟨fun i H' s hi => by rw [List.length_map, Array.length_toList] at hi; exact hi, fun i H' v H2 s y => ⟨y.1, by
    obtain ⟨_, c, e, rfl⟩ := y
    rw [List.getElem?_map, Array.getElem?_toList, e]; rfl⟩, fun i H' s hi => by rw [List.length_map, Array.length_toList] at hi; exact hi⟩
theorem for_str {x : Str} {g : TG} {tb : TS} {D : Ends} {σ : St} {H : Hp} (Pv : Nat → St → Hp → Prop) (h0 : Pv 0 σ H)
    (hs : ∀ i c σ H, x.cps.toList[i]? = some c → Pv i σ H → g (.str ⟨#[c]⟩) σ H fun σ2 H2 => tb { D with nx := Pv (i + 1), ct := Pv (i + 1), bk := D.nx } σ2 H2) (hd : ∀ σ H, Pv x.cps.size σ H → D.nx σ H) :
    ∃ W : Nat → Nat → St → Hp → Prop, (∃ m, W 0 m σ H) ∧ ∀ i m σ H, W i m σ H →
      ((Itx x).stop i H ∧ D.nx σ H) ∨ ((Itx x).go i H ∧ ∃ N : St → Hp → Prop, (∀ σ' H', N σ' H' → ∃ m', m' < m ∧ W (i + 1) m' σ' H') ∧ ∀ v H', (Itx x).yld i H v H' → g v σ H' fun σ2 H2 => tb { D with nx := N, ct := N, bk := D.nx } σ2 H2) := by
  refine ⟨fun i m σ H => m = x.cps.size - i ∧ i ≤ x.cps.size ∧ Pv i σ H, ⟨x.cps.size, by simp, Nat.zero_le _, h0⟩, ?_⟩
  rintro i m σ H ⟨rfl, hi, p⟩
  by_cases hlt : i < x.cps.size
  · refine .inr ⟨hlt, Pv (i + 1), fun σ' H' p' => ⟨x.cps.size - (i + 1), by omega, rfl, hlt, p'⟩, fun v H' y => ?_⟩
    obtain ⟨e, c, hc, rfl⟩ := y
    subst e
    exact hs i c σ _ (by rw [Array.getElem?_toList]; exact hc) p
  · have e : i = x.cps.size := by omega
    subst e
    exact .inl ⟨Nat.le_refl _, hd σ H p⟩
/-- texts joined -/
def SL (H : Hp) (a : Addr) (zs : List Str) : Prop := H a = some (.lst (zs.map V.str))
section
variable {X : Cx}
theorem strs_are : ∀ {zs : List Str} {us : List Value}, Vals (zs.map V.str) us → StrsAre us zs
  | [], us, h => by cases h; exact .nil
  | z :: zs, us, h => by
    cases h with
    | cons r rs =>
      obtain ⟨t, rfl⟩ := r
      exact .cons _ _ (strs_are rs)
def rJoin (K : PySem.W.Frag) : V → List V → Hp → VK → Prop := fun x vs H Q => ∃ z a zs, x = .str z ∧ vs = [.ref a] ∧ SqL K H a (zs.map V.str) ∧ (zs.map (·.length)).sum + zs.length * z.length ≤ 16777216 ∧ Q (.str (Txt.join z zs)) H
theorem mt_join : MtR X "str.join" (rJoin X.K) := by
  intro pins s σ H x vs v us Q I rx rv h
  obtain ⟨z, a, zs, rfl, rfl, hq, hz, q⟩ := h
  obtain ⟨t, rfl⟩ := rx
  obtain ⟨u, rfl, ru⟩ := vals1 rv
  cases ru
  obtain ⟨its, r', pl, _⟩ := I.list hq
  exact join_list pl.isList (by simpa using strs_are r') hz fun t' k => ⟨.str _, H, I.tok _, ⟨_, rfl⟩, q⟩
def rPart : V → List V → Hp → VK → Prop := fun x vs H Q => ∃ z y, x = .str z ∧ vs = [.str y] ∧ 0 < y.length ∧ z.length ≤ 1000 ∧ ∀ l, H l = none → Q (.ref l) (upd H l (.tup [.str (Txt.partition z y).1, .str (Txt.partition z y).2.1, .str (Txt.partition z y).2.2]))
def rSplit : V → List V → Hp → VK → Prop := fun x vs H Q => ∃ z y, x = .str z ∧ vs = [.str y] ∧ 0 < y.length ∧ z.length ≤ 1000 ∧ ∀ l, H l = none → Q (.ref l) (upd H l (.lst ((Txt.split z y).map V.str)))
theorem vals_strs : ∀ l : List (Str × Tok), Vals ((l.map (·.1)).map V.str) (strValues l)
  | [] => .nil
  | (z, t) :: l => .cons ⟨t, rfl⟩ (vals_strs l)
theorem mt_split : MtR X "str.split" rSplit := by
  intro pins s σ H x vs v us Q I rx rv h
  obtain ⟨z, y, rfl, rfl, hy, hz, q⟩ := h
  obtain ⟨t, rfl⟩ := rx
  obtain ⟨u, rfl, ru⟩ := vals1 rv
  obtain ⟨t2, rfl⟩ := ru
  have sz := sizeLine_eq
  have hy' : (y.length == 0) = false := by simp; omega
  have q' := q _ (I.hok.fresh (Nat.le_refl _))
  have lay : ∀ (l : List (Str × Tok)) (k : Nat), l.map (·.1) = Txt.split z y → l.length ≤ sizeLine → Inv X pins σ (upd H s.heap.objs.size (.lst ((Txt.split z y).map V.str))) { s with heap := s.heap.push { cls := .type "list", data := .seq (strValues l).toArray }, toks := k } := fun l k e hl => by
    rw [← e]
    exact I.laid (t' := k) (fun b o e => Heap.get?_push_of_some _ e) (Nat.le_refl _) (show ObjOk X.prog X.w _ _ _ (.lst _) from ⟨by simpa using hl, _, _, vals_strs l, Heap.get?_push_size _ rfl⟩)
  have ol : (Builtin.Str.partsBetween z (Builtin.Str.occurrences z y 0 z.length (z.length + 1)) y.length).length ≤ sizeLine := by
    rw [length_partsBetween]
    have := PySem.StrLaws.occ_length_le z y 0 z.length (z.length + 1)
    omega
  cases h1 : (decide (z.length < y.length) || decide (Builtin.Str.strKind z < Builtin.Str.strKind y)) with
  | true => exact call_meets F.slot_str_split (typeIs_str _ _ _) F.entry_str_split (F.args_str_split_2 _ _) (meets_str_split_cannot_occur z y t t2 h1) ⟨.ref _, _, lay [(z, t)] _ (if_pos h1).symm (by simp; omega), rfl, q'⟩
  | false =>
    cases hf : (Builtin.Str.occurrences z y 0 z.length (z.length + 1)).isEmpty with
    | true => exact call_meets F.slot_str_split (typeIs_str _ _ _) F.entry_str_split (F.args_str_split_2 _ _) (meets_str_split_not_found z y t t2 h1 hy' hf) ⟨.ref _, _, lay [(z, t)] _ ((if_neg (ne_true_of_eq_false h1)).trans (if_pos hf)).symm (by simp; omega), rfl, q'⟩
    | false =>
      refine call_meets F.slot_str_split (typeIs_str _ _ _) F.entry_str_split (F.args_str_split_2 _ _) (meets_str_split_sep z y t t2 h1 hy' hf (by omega) ol) ?_
      rw [strsFrom_eq]
      exact ⟨.ref _, _, lay (numbered s.toks _) _ ((numbered_texts _ _).trans ((if_neg (ne_true_of_eq_false h1)).trans (if_neg (ne_true_of_eq_false hf))).symm) (by rw [← List.length_map (f := (·.1)), numbered_texts]; exact ol), rfl, q'⟩
end
end L2
/-! ### raise C(..) from None within a handler: what was caught had nothing handled when it was raised -/
namespace L2
open PySem PySem.Spec PyProof.Rows
def Ctx0 (h : Heap) (e : Addr) : Prop := ∃ o fs, h.get? e = some o ∧ o.data = .fields fs ∧ fs[2]? = some .none
/-- e as it was, but its first field -/
def Map1 (h : Heap) (e : Addr) (o : Obj) : Prop := ∃ T : Addr, h.get? e = some (Obj.mapFields (·.setIfInBounds 1 (Value.ref T)) o)
theorem Map1.ctx {h : Heap} {e : Addr} {o : Obj} {fs : Array Value} (m : Map1 h e o) (od : o.data = .fields fs) (c : fs[2]? = some .none) : Ctx0 h e := by
  obtain ⟨T, g⟩ := m
  exact ⟨_, _, g, Obj.data_mapFields od _, by rw [Array.getElem?_setIfInBounds_ne (by decide)]; exact c⟩
section
variable {M : Model} {A : Around} {E : Value → Shared → Prop} {s : Shared} {B : Heap} {v : Env} {out : List Env} {L e : Addr} {Q : Unit → Shared → Prop}
theorem noteC_new {oe : Obj} {fs : Array Value} {top x0 : Value} {more : Bool} (fr : A.frames = some (v :: out)) (ff : s.heap.FunFrames B (v :: out)) (vf : v.frame = some L) (ge : s.heap.get? e = some oe) (st : B.StaysIn s.heap) (be : B.get? e = none)
    (od : oe.data = .fields fs) (o1 : 1 < fs.size) (o0 : fs[0]? = some x0) (k : ∀ h', Heap.NotedW B (v :: out) e oe.cls x0 (rawInt L) s.heap h' → Map1 h' e oe → Q () { s with heap := h' }) :
    wpAny M A (do let a ← frameOf v; let pl ← entryPlaceOf L more; let b ← EntryCells.newEntry top a .none (rawInt L) .none pl; setField (.ref e) 1 b) Q E s := by
  have none_of : ∀ b o, s.heap.get? b = some o → (∀ w, o.data ≠ .fields w) → b ≠ e := fun b o hb nf z => by
    rw [z] at hb
    cases hb.symm.trans ge
    exact nf fs od
  have notin : e ∉ (v :: out).filterMap (·.frame) := fun hm => by
    obtain ⟨_, o, ho, nf⟩ := ff.mem hm
    exact none_of e o ho nf rfl
  refine wpAny_bind (wpAny_frameOf_fun fr ff vf fun g hg => wpAny_bind (wpAny_entryPlaceOf fun pl hp => ?_))
  unfold EntryCells.newEntry newFields
  refine wpAny_bind (wpAny_newObj_type ?_ (hp.sizeOk5 _ _ _ _ _))
  obtain ⟨tb, htb⟩ : ∃ tb : Obj, tb = { cls := .type "traceback", dict := none, data := .fields ([top, .ref L, .none, rawInt L, .none] ++ (if pl.isEmpty then List.replicate 6 Value.none else pl)).toArray } := ⟨_, rfl⟩
  have g1 : g.get? e = some oe := (hg.2.1 e notin).trans ge
  have stg : B.StaysIn g := fun b o hb => (hg.2.1 b fun hm => by cases (ff.mem hm).1.symm.trans hb).trans (st b o hb)
  have g2 := Heap.get?_push_of_some (h := g) tb g1
  rw [← htb]
  have od' := Obj.data_mapFields od (·.setIfInBounds 1 (Value.ref g.objs.size))
  have g3 := Heap.get?_update_self (Obj.mapFields (·.setIfInBounds 1 (Value.ref g.objs.size))) g2 (Obj.isFreed_of_fields od')
  refine wpAny_setField g2 od o1 (k _ ?_ ⟨_, g3⟩)
  have apart : g.objs.size ≠ e := Nat.ne_of_gt (Heap.lt_size g1)
  have stay : ∀ b o, b ≠ e → g.get? b = some o → ((g.push tb).update e (Obj.mapFields (·.setIfInBounds 1 (Value.ref g.objs.size)))).get? b = some o := fun b o ne hb =>
    (Heap.get?_update_other _ _ ne.symm).trans (Heap.get?_push_of_some _ hb)
  have tbAt := (Heap.get?_update_other (g.push tb) (Obj.mapFields (·.setIfInBounds 1 (Value.ref g.objs.size))) apart.symm).trans (Heap.get?_push_size g (by rw [htb]; rfl))
  refine ⟨fun b o hb => stay b o (fun z => by rw [z, be] at hb; cases hb) (stg b o hb), ff.of_keeps fun b o hb nf => ?_, ?_, fun b o hb nf => ?_⟩
  · obtain ⟨sl, hs⟩ := hg.2.2 b o hb
    exact ⟨_, stay b _ (none_of b o hb nf) hs, rfl⟩
  · refine ⟨_, _, g.objs.size, tb, _, g3, ⟨Obj.cls_mapFields _ _, ?_⟩, od', by simp [o1], stg.fresh, apart, tbAt, by rw [htb], ?_⟩
    · rw [Array.getElem?_setIfInBounds_ne (by decide)]
      exact o0
    · first | (simp; done) | (rcases hp with rfl | ⟨_, _, _, _, _, _, _, rfl⟩ <;> simp)
  · obtain ⟨sl, hs⟩ := hg.2.2 b o hb
    exact ⟨sl, stay b _ (none_of b o hb nf) hs⟩
/-- the mark of where it flies is put out, or put in -/
theorem flightC {c x0 fl : Value} {l : List Env} {to : Option Addr} (st : B.StaysIn s.heap) (ff : s.heap.FunFrames B l) (tr : s.heap.TracedAtW B e c x0 fl)
    (k : ∀ h', B.StaysIn h' → h'.FunFrames B l → h'.TracedAtW B e c x0 (to.elim .none fun f => rawInt f) → h'.get? e = s.heap.get? e → s.heap.UpToSlots h' → Q () { s with heap := h' }) : wpAny M A (setFlight (.ref e) to) Q E s := by
  obtain ⟨oe, fs, T, oT, ts, ge, cx, od, o1, bT, Te, gT, dT, t3⟩ := tr
  have z3 : 3 < ts.size := (Array.getElem?_eq_some_iff.mp t3).1
  have rest : ∀ b, b ≠ T → (s.heap.update T (Obj.mapFields (·.setIfInBounds 3 (to.elim Value.none fun f => rawInt f)))).get? b = s.heap.get? b := fun b ne => Heap.get?_update_other _ _ ne.symm
  have none_of : ∀ b o, s.heap.get? b = some o → (∀ w, o.data ≠ .fields w) → b ≠ T := fun b o hb nf z => by
    rw [z] at hb
    cases hb.symm.trans gT
    exact nf ts dT
  unfold setFlight
  refine wpAny_bind (wpAny_field ge od o1 ?_)
  rw [if_pos (show (Value.ref T != Value.none) = true from by simp)]
  refine wpAny_setField gT dT z3 (k _ (fun b o hb => (rest b fun z => by rw [z, bT] at hb; cases hb).trans (st b o hb)) (ff.of_keeps fun b o hb nf => ⟨o, (rest b (none_of b o hb nf)).trans hb, rfl⟩) ?_ (rest e Te.symm) fun b o hb nf => ⟨o.slots, (rest b (none_of b o hb nf)).trans hb⟩)
  exact ⟨oe, fs, T, _, _, (rest e Te.symm).trans ge, cx, od, o1, bT, Te, Heap.get?_update_self _ gT (Obj.isFreed_of_fields (Obj.data_mapFields dT _)), Obj.data_mapFields dT _, by simp [z3]⟩
theorem noteC_first {oe : Obj} {fs : Array Value} {x0 : Value} (fr : A.frames = some (v :: out)) (ff : s.heap.FunFrames B (v :: out)) (vf : v.frame = some L) (ge : s.heap.get? e = some oe) (st : B.StaysIn s.heap) (be : B.get? e = none)
    (od : oe.data = .fields fs) (o1 : fs[1]? = some .none) (o0 : fs[0]? = some x0) (k : ∀ h', Heap.HeldW B (v :: out) e oe.cls x0 L h' → Map1 h' e oe → s.heap.UpToSlots h' → Q () { s with heap := h' }) : wpAny M A (noteFrame (.ref e) v) Q E s := by
  unfold noteFrame
  simp only [vf]
  refine wpAny_bind (wpAny_field ge od o1 ?_)
  rw [if_neg (by decide)]
  refine noteC_new fr ff vf ge st be od (Array.getElem?_eq_some_iff.mp o1).1 o0 fun h' n m => ?_
  obtain ⟨n1, n2, n3, n4⟩ := n
  exact k h' ⟨n1, be, n2, n3⟩ m n4
theorem leaveC_first {oe : Obj} {fs : Array Value} {x0 : Value} (fr : A.frames = some (v :: out)) (ff : s.heap.FunFrames B (v :: out)) (vf : v.frame = some L) (ge : s.heap.get? e = some oe) (st : B.StaysIn s.heap) (be : B.get? e = none)
    (od : oe.data = .fields fs) (o1 : fs[1]? = some .none) (o0 : fs[0]? = some x0) (k : ∀ h', Heap.FlyingW B out e oe.cls x0 h' → Map1 h' e oe → s.heap.UpToSlots h' → Q () { s with heap := h' }) : wpAny M A (leaving v (.ref e)) Q E s := by
  unfold leaving
  refine wpAny_bind (noteC_first fr ff vf ge st be od o1 o0 fun h' n m u => ?_)
  refine flightC n.1 n.2.2.1 n.2.2.2 fun h'' m1 m2 m3 m4 m5 => ?_
  obtain ⟨_, _, m2⟩ := m2
  obtain ⟨T, m⟩ := m
  exact k h'' ⟨m1, be, m2, m3⟩ ⟨T, m4.trans m⟩ (u.trans m5)
theorem noteC_on {c x0 : Value} {oe : Obj} (fr : A.frames = some (v :: out)) (vf : v.frame = some L) (fl : Heap.FlyingW B (v :: out) e c x0 s.heap) (he : s.heap.get? e = some oe)
    (k : ∀ h', Heap.HeldW B (v :: out) e c x0 L h' → Map1 h' e oe → s.heap.UpToSlots h' → Q () { s with heap := h' }) : wpAny M A (noteFrame (.ref e) v) Q E s := by
  obtain ⟨st, be, ff, oe', fs, T, oT, ts, ge, ⟨cx, o0⟩, od, o1, bT, Te, gT, dT, t3⟩ := fl
  cases he.symm.trans ge
  subst cx
  have rest : ∀ b, b ≠ T → (s.heap.update T (Obj.mapFields (·.setIfInBounds 3 Value.none))).get? b = s.heap.get? b := fun b ne => Heap.get?_update_other _ _ ne.symm
  have none_of : ∀ b o, s.heap.get? b = some o → (∀ w, o.data ≠ .fields w) → b ≠ T := fun b o hb nf z => by
    rw [z] at hb
    cases hb.symm.trans gT
    exact nf ts dT
  unfold noteFrame
  simp only [vf]
  refine wpAny_bind (wpAny_field ge od o1 ?_)
  rw [if_pos (show (Value.ref T != Value.none) = true from by simp)]
  refine wpAny_bind (wpAny_field gT dT t3 ?_)
  rw [if_neg (show ¬ ((Value.none == rawInt L) = true) from by simp [rawInt])]
  refine wpAny_bind (wpAny_setField gT dT (Array.getElem?_eq_some_iff.mp t3).1 ?_)
  refine noteC_new (oe := oe) (fs := fs) (x0 := x0) fr (ff.of_keeps fun b o hb nf => ⟨o, (rest b (none_of b o hb nf)).trans hb, rfl⟩) vf ((rest e Te.symm).trans ge) (fun b o hb => (rest b fun z => by rw [z, bT] at hb; cases hb).trans (st b o hb)) be od (Array.getElem?_eq_some_iff.mp o1).1 o0 fun h' n m => ?_
  obtain ⟨n1, n2, n3, n4⟩ := n
  exact k h' ⟨n1, be, n2, n3⟩ m fun b o hb nf => n4 b o ((rest b (none_of b o hb nf)).trans hb) nf
end
/-- as CXX, and nothing was handled -/
def CXC (P : Program) (w : World) : CXT := fun outer H s E ev s' => CXX P w outer H s E ev s' ∧ ∀ e, ev = .ref e → Ctx0 s'.heap e
section
variable {P : Program} {w : World} {K : PySem.W.Frag} {mg : Str → Option Value} {base : Heap} {N : List Str} {qual : Str} {scope : Scope} {f : Addr} {cd : Value} {A : Around} {outer : List Env} {s₀ : Shared} {H₀ : Hp} {E : XK}
theorem xe_madeC {pins : List (Addr × Obj)} {σ : St} {H : Hp} {s : Shared} {h' : Heap} {e : Addr} {C : Value} {vs : List Value} (I : Inv (cxOf (CXC P w) P w K mg base N qual scope f cd A outer s₀ H₀ E) pins σ H s)
    (hx : Heap.MadeExcOf s.heap h' e C vs) (hE : E C none H) : (cxOf (CXC P w) P w K mg base N qual scope f cd A outer s₀ H₀ E).xe (.ref e) { s with heap := h' } := by
  obtain ⟨t, ht, htn, htt⟩ := hx.there
  have fresh : ∀ b, s.heap.get? b = none → (PySem.W.hideAll s.heap (frs (cxOf (CXC P w) P w K mg base N qual scope f cd A outer s₀ H₀ E).stack)).get? b = none := fun b z => by
    cases q : (PySem.W.hideAll s.heap (frs (cxOf (CXC P w) P w K mg base N qual scope f cd A outer s₀ H₀ E).stack)).get? b with
    | none => rfl
    | some o => rw [PySem.W.of_hideAll _ q] at z; cases z
  refine leaveC_first (B := PySem.W.hideAll s.heap (frs (cxOf (CXC P w) P w K mg base N qual scope f cd A outer s₀ H₀ E).stack)) (out := outer) (L := s₀.heap.objs.size) (x0 := .ref t) I.ok.frames
    ((PySem.W.funFrames_hide I.stack fun env he a ha => List.mem_filterMap.mpr ⟨env, he, ha⟩).of_keeps fun b o hb _ => ⟨o, hx.keeps b o hb, rfl⟩) rfl ht (fun b o q => hx.keeps b o (PySem.W.of_hideAll _ q)) (fresh e hx.new) rfl rfl rfl fun h'' x1 x2 x4 => ?_
  have F : Flew (cxOf (CXC P w) P w K mg base N qual scope f cd A outer s₀ H₀ E) [] s.heap h'' := ⟨fun b o q n _ => x1.1 b o (PySem.W.hideAll_get _ q n), (Heap.UpToSlots.of_keeps hx.keeps).trans x4⟩
  refine ⟨⟨e, C, H, rfl, hE, I.os, I.bare, I.unFlew F (fun b z => absurd z (by simp)), I.hokFlew F (fun b z => absurd z (by simp)), exc_of I F (fun b o q n _ => PySem.W.hideAll_get _ q n) x1 (fun b z => absurd z (by simp)) ⟨?_, I.hok.gone hx.new⟩ fun b z => absurd (show b ∈ ([] : List Addr) from z) (by simp)⟩, fun e' z => ?_⟩
  · cases q : s₀.heap.get? e with
    | none => exact q
    | some o =>
      obtain ⟨o', e1⟩ := I.base.there e o q fun z => absurd (show e ∈ ([] : List Addr) from z) (by simp)
      rw [hx.new] at e1; cases e1
  · cases z
    exact x2.ctx rfl rfl
/-- an exception that was raised within a handler leaves the def -/
theorem xe_held {pins : List (Addr × Obj)} {σ : St} {H : Hp} {s : Shared} {h' : Heap} {e : Addr} {C x0 : Value} (I : Inv (cxOf (CXX P w) P w K mg base N qual scope f cd A outer s₀ H₀ E) pins σ H s) (new : s.heap.get? e = none)
    (hd : Heap.HeldW (PySem.W.hideAll s.heap (frs (cxOf (CXX P w) P w K mg base N qual scope f cd A outer s₀ H₀ E).stack)) (cxOf (CXX P w) P w K mg base N qual scope f cd A outer s₀ H₀ E).stack e C x0 (cxOf (CXX P w) P w K mg base N qual scope f cd A outer s₀ H₀ E).env.locals h') (up : s.heap.UpToSlots h')
    (hE : E C none H) : (cxOf (CXX P w) P w K mg base N qual scope f cd A outer s₀ H₀ E).xe (.ref e) { s with heap := h' } := by
  obtain ⟨n1, n2, n3, n4⟩ := hd
  show wpAny _ _ (leaving _ _) _ _ _
  unfold leaving
  refine wpAny_bind (wpAny_noteFrame_againW (s := { s with heap := h' }) rfl n4 ?_)
  refine flightC (s := { s with heap := h' }) n1 n3 n4 fun h'' m1 m2 m3 m4 m5 => ?_
  obtain ⟨_, _, m2⟩ := m2
  have F : Flew (cxOf (CXX P w) P w K mg base N qual scope f cd A outer s₀ H₀ E) [] s.heap h'' := ⟨fun b o q n _ => m1 b o (PySem.W.hideAll_get _ q n), up.trans m5⟩
  refine ⟨e, C, H, rfl, hE, I.os, I.bare, I.unFlew F (fun b z => absurd z (by simp)), I.hokFlew F (fun b z => absurd z (by simp)), exc_of I F (fun b o q n _ => PySem.W.hideAll_get _ q n) ⟨m1, n2, m2, m3⟩ (fun b z => absurd z (by simp)) ⟨?_, I.hok.gone new⟩ fun b z => absurd (show b ∈ ([] : List Addr) from z) (by simp)⟩
  cases q : s₀.heap.get? e with
  | none => exact q
  | some o =>
    obtain ⟨o', e1⟩ := I.base.there e o q fun z => absurd (show e ∈ ([] : List Addr) from z) (by simp)
    rw [new] at e1; cases e1
end
/-! ### a def that may raise, nothing being handled -/
structure DefC (P : Program) (w : World) (K : PySem.W.Frag) (mg : Str → Option Value) (base : Heap) (k : Nat) (x : Str) (ps : List Str) (sp : Sp) : Prop where
  ex : ∃ (f : Addr) (fd : FuncData), FnOk P w K mg base (CXC P w) k f fd ps sp ∧ mg x = some (.ref f) ∧ PySem.W.keepIn K (.ref f) = true ∧ (∀ us : List Value, us.length = ps.length → bindArgs fd ⟨us, []⟩ = pure (ps.zip us))
theorem FnOk.forgetC {P : Program} {w : World} {K : PySem.W.Frag} {mg : Str → Option Value} {base : Heap} {k : Nat} {f : Addr} {fd : FuncData} {ps : List Str} {sp sp' : Sp} (F : FnOk P w K mg base (CXC P w) k f fd ps sp)
    (h : ∀ vs H Q E, sp' vs H Q E → sp vs H (fun v H' => Same H H' ∧ Q v H) (fun C d H' => Same H H' ∧ E C d H)) : FnOk P w K mg base (CXC P w) k f fd ps sp' where
  len := fun vs H Q E q => F.len _ _ _ _ (h _ _ _ _ q)
  run := fun A outer s H args us vs Q E hr e0 hb hv hs => by
    refine codeAny_mono (F.run A outer s H args us vs _ _ hr e0 hb hv (h _ _ _ _ hs)) fun r s' q => ?_
    cases r with
    | error e =>
      obtain ⟨⟨e, C, H', rfl, ⟨sm, hE⟩, os, bare, un, hok, new, free, oe, vs, T, oT, ts, a0, h1, h2, h3, h4, h5, h6, h7, h8, h9⟩, cx⟩ := q
      have back : ∀ b, H' b = none → H b = none := fun b z => by
        cases q : H b with
        | none => rfl
        | some o => rw [sm b o q] at z; cases z
      exact ⟨⟨e, C, H, rfl, hE, os, bare, un.forget, e0.hok.forget hok sm, new, back _ free, oe, vs, T, oT, ts, a0, h1, h2, h3, h4, ⟨h5.1, back _ h5.2⟩, h6, h7, h8, h9⟩, cx⟩
    | ok fl =>
      cases fl with
      | ret u =>
        obtain ⟨v, H', os, bare, un, hok, rv, sm, qv⟩ := q
        exact ⟨v, H, os, bare, un.forget, e0.hok.forget hok sm, rv, qv⟩
      | next => exact q
      | brk => exact q
      | cont => exact q
theorem Src.okXFc {P : Program} {w : World} {K : PySem.W.Frag} {mg : Str → Option Value} {base : Heap} {x : Str} {st : Stmt} {N ps : List Str} {k : Nat} {sp : Sp} (S : Src K mg x st ps) (sc : FnScope N ps (defScope st)) (len : ∀ vs H Q E, sp vs H Q E → vs.length = ps.length)
    (hbody : ∀ (f : Addr) (cdv : Value) (A : Around) (outer : List Env) (s : Shared) (H : Hp) (vs : List V) (Q : VK) (E : XK), Room k (A.deeper (envOfC x (defScope st) s.heap.objs.size f cdv)) → sp vs H Q E →
      ∃ t, PSs (cxOf (CXC P w) P w K mg base N x (defScope st) f cdv A outer s H (fun C d H' => Same H H' ∧ E C d H)) (defBody st) t ∧ t { nx := fun _ H' => Same H H' ∧ Q .non H, rt := fun v H' => Same H H' ∧ Q v H } (start N vs) H) : DefC P w K mg base (k + 1) x ps sp := by
  obtain ⟨f, fd, F, hm, hb⟩ := S.ex
  have kp := F.kp
  obtain ⟨oc, od, kV, doc, pm, an, cdv, ct, osl, rfl, lk, hcd⟩ := F.ex
  have G : FnOk P w K mg base (CXC P w) (k + 1) f _ ps (fun vs H R E' => ∃ Q E, sp vs H Q E ∧ R = (fun v H' => Same H H' ∧ Q v H) ∧ E' = fun C d H' => Same H H' ∧ E C d H) :=
    fn_of lk hcd sc (fun vs H R E' ⟨Q, E, h, _⟩ => len vs H Q E h) fun A outer s H vs R E' hr ⟨Q, E, h, e1, e2⟩ => by
      subst e1 e2
      exact hbody f cdv A outer s H vs Q E hr h
  exact ⟨f, _, G.forgetC fun vs H Q E h => ⟨Q, E, h, rfl, rfl⟩, hm, kp, hb⟩
/-! ### raise C(..) from None -/
theorem en_unchain : entryFor table "proto.unchain" = some Builtin.«proto.unchain» := entryFor_of_tree (by kernel_rfl)
section
variable {prog : Program} {w : World} {A : Around} {E : Value → Shared → Prop} {env : Env} {nm q : Str} {C N : Addr} {bs bm : List Value} {hdct : Bool} {sn : List Str} {sub : List Value} {ab : Bool} {col : Option Bool} {dd : Option Addr} {k0 k1 k2 k3 k5 : Option Value} {newId : String}
theorem raise_on {s : Shared} {e e1 : Addr} {t : Value} {c : Value} {α : Type} {Q : α → Shared → Prop} (hh : A.handled = some (.ref e1)) (ne : e ≠ e1) (cx : Ctx0 s.heap e1)
    (he : s.heap.get? e = some { cls := c, data := .fields #[t, .none, .none, .none, .bool true, .none] })
    (h : ∀ h', (∀ b, b ≠ e → h'.get? b = s.heap.get? b) → h'.get? e = some { cls := c, data := .fields #[t, .none, .ref e1, .none, .bool true, .none] } → E (.ref e) { s with heap := h' }) :
    wpAny (model prog w) A (raiseNew (.ref e) : Sem α) Q E s := by
  obtain ⟨o, fs, g1, g2, g3⟩ := cx
  unfold raiseNew
  refine wpAny_bind (wpAny_handled ?_)
  rw [hh]
  dsimp only
  rw [if_pos (by simp; exact fun z => ne z.symm)]
  refine wpAny_bind (wpAny_holding (wpAny_runValue (codeAny_builtin en_unchain ?_)))
  unfold Builtin.«proto.unchain»
  refine wpAny_bind (wpAny_field g1 g2 g3 ?_)
  repeat wp_step
  exact h _ (fun b z => Heap.get?_update_other _ _ z.symm) (Heap.get?_update_self _ he rfl)
theorem raise_from {s : Shared} {x : Sem Value} {e1 : Addr} {j : Nat} {cp p2 : Pos} {Q : Flow → Shared → Prop} (hb : bm.contains (.type "BaseException") = true) (hh : A.handled = some (.ref e1))
    (h : wpAny (model prog w) A x (fun v s1 => ∃ e t, v = .ref e ∧ s1.heap.get? C = some (excClassObj nm q C N bs bm hdct sn sub ab col dd k0 k1 k2 k3 k5 newId) ∧ s1.heap.get? e = some { cls := .ref C, data := .fields #[t, .none, .none, .none, .bool false, .none] } ∧ e ≠ e1 ∧ Ctx0 s1.heap e1 ∧
      ∀ h', (∀ b, b ≠ e → h'.get? b = s1.heap.get? b) → h'.get? e = some { cls := .ref C, data := .fields #[t, .none, .ref e1, .none, .bool true, .none] } → E (.ref e) { s1 with heap := h' }) E s) :
    wpAny (model prog w) A (raiseStmt env (some x) (some (do let v ← eval (.Constant .none j cp) env; standAt p2; pure v))) Q E s := by
  have own : (Value.ref C :: bm).contains (.type "BaseException") = true := by rw [List.contains_cons, hb, Bool.or_true]
  unfold raiseStmt
  refine wpAny_bind (wpAny_mono h (fun v s1 h1 => ?_) fun _ _ x => x)
  obtain ⟨e, t, rfl, gC, ge, ne, cx, hE⟩ := h1
  dsimp only
  refine wpAny_bind (wpAny_holding (wpAny_bind (Constant_none (wpAny_bind (wpAny_standAt (wpAny_pure (wpAny_bind (wpAny_pure ?_))))))))
  obtain ⟨hp, g, d, tk, os⟩ := s1
  refine wpAny_bind (wpAny_holding ?_)
  unfold excFromValue
  repeat (first | with_reducible refine wpAny_loadPart_at ge ?_ | with_reducible refine wpAny_loadPart_at gC ?_ | (with_reducible refine wpAny_isSubtype_exc gC ?_; rw [own]) | wp_step)
  have neC : e ≠ C := fun z => by
    subst z
    have y := gC.symm.trans ge
    unfold excClassObj at y
    cases y
  have gC2 : ((hp.update e (Obj.mapFields fun x => x.setIfInBounds 3 Value.none)).update e (Obj.mapFields fun x => x.setIfInBounds 4 (Value.bool true))).get? C = some (excClassObj nm q C N bs bm hdct sn sub ab col dd k0 k1 k2 k3 k5 newId) := (Heap.get?_update_other _ _ neC).trans ((Heap.get?_update_other _ _ neC).trans gC)
  have ge2 : ((hp.update e (Obj.mapFields fun x => x.setIfInBounds 3 Value.none)).update e (Obj.mapFields fun x => x.setIfInBounds 4 (Value.bool true))).get? e = some { cls := .ref C, data := .fields #[t, .none, .none, .none, .bool true, .none] } := Heap.get?_update_self _ (Heap.get?_update_self _ ge rfl) rfl
  have cx2 : Ctx0 ((hp.update e (Obj.mapFields fun x => x.setIfInBounds 3 Value.none)).update e (Obj.mapFields fun x => x.setIfInBounds 4 (Value.bool true))) e1 := by
    obtain ⟨o, fs, a1, a2, a3⟩ := cx
    exact ⟨o, fs, (Heap.get?_update_other _ _ ne).trans ((Heap.get?_update_other _ _ ne).trans a1), a2, a3⟩
  have ot : ∀ b, b ≠ e → ((hp.update e (Obj.mapFields fun x => x.setIfInBounds 3 Value.none)).update e (Obj.mapFields fun x => x.setIfInBounds 4 (Value.bool true))).get? b = hp.get? b := fun b z => (Heap.get?_update_other _ _ z.symm).trans (Heap.get?_update_other _ _ z.symm)
  refine wpAny_loadPart_at gC2 ?_
  refine wpAny_pure ?_
  rw [if_pos (by rfl)]
  refine wpAny_pure ?_
  unfold setFlight
  refine wpAny_bind (wpAny_bind (wpAny_field ge2 rfl (x := .none) rfl ?_))
  rw [if_neg (by decide)]
  refine wpAny_pure ?_
  exact raise_on hh ne cx2 ge2 fun h' z1 z2 => hE h' (fun b z => (z1 b z).trans (ot b z)) z2
end
theorem Inv.pinAt {X : Cx} {pins : List (Addr × Obj)} {σ : St} {H : Hp} {s : Shared} {e : Addr} {o : Obj} (I : Inv X pins σ H s) (h : s.heap.get? e = some o ∧ H e = none ∧ e ≠ X.env.locals ∧ e ∉ X.fs ∧ ∀ v, o.data ≠ .cell v) : Inv X ((e, o) :: pins) σ H s :=
  ⟨I.ok, I.os, I.bare, I.base, I.loc, I.cell, I.free, I.freeC, fun p hp => by
    rcases List.mem_append.mp hp with z | z
    · exact I.pin p (List.mem_append_left _ z)
    · rcases List.mem_cons.mp z with z | z
      · subst z; exact h
      · exact I.pin p (List.mem_append_right _ z), I.hok, I.len⟩
def tTryR (K : PySem.W.Frag) (Cx Cy : Addr) (ta : TA) (sp : Sp) (E : XK) (th : TA) : TS := fun D σ H => ta σ H fun vs H1 => sp vs H1 (fun v H2 => D.rt v H2) fun C _ H2 =>
  ∃ c, C = .ref c ∧ PySem.W.exmOne K (.ref c) (.ref Cx) = some true ∧ th σ H2 fun us H3 => us.length ≤ sizeLine ∧ E (.ref Cy) none H3
/-- try: return f(..) except X: raise Y(..) from None -/
theorem ps_tryR {X : Cx} {fn x y : Str} {lv k j : Nat} {ps : List Str} {sp : Sp} {e0 c0 : Expr} {es cs : List Expr} {ta th : TA} {pf pc pst np hpos pos np2 cpos rpos cp : Pos} {E : XK}
    (Df : DefC X.prog X.w X.K X.mg X.base lv fn ps sp) (hr : Room k X.A) (hcx : X.mg x = some (.ref (cA X.K x))) (hcy : X.mg y = some (.ref (cA X.K y))) (xk : XK2 X.K (cA X.K y)) (ha : PA X.nox (e0 :: es) ta) (hs : ∀ e, PA (X.held e) (c0 :: cs) th)
    (hE : ∀ pins σ H s h' e x0, Inv X pins σ H s → s.heap.get? e = none → Heap.HeldW (PySem.W.hideAll s.heap (frs X.stack)) X.stack e (.ref (cA X.K y)) x0 X.env.locals h' → s.heap.UpToSlots h' → E (.ref (cA X.K y)) none H → X.xe (.ref e) { s with heap := h' })
    (hlv : lv ≤ k := by decide) (hg : Gl X fn := by rfl) (hgx : Gl X x := by rfl) (hgy : Gl X y := by rfl) (hst : X.stack = X.env :: X.outer := by rfl) (hfr : X.env.frame = some X.env.locals := by rfl) (hex : X.ex = [] := by rfl) (hdb : (fn == ("__debug__" : Str)) = false := by decide) (hdx : (x == ("__debug__" : Str)) = false := by decide) (hdy : (y == ("__debug__" : Str)) = false := by decide)
    (he : starEach (e0 :: es) X.env = (false, eval e0 X.env) :: starEach es X.env := by rfl) (hpl : (backTo pc (starEach es X.env)).any (·.1) = false := by rfl)
    (hey : starEach (c0 :: cs) X.env = (false, eval c0 X.env) :: starEach cs X.env := by rfl) (hply : (backTo cpos (starEach cs X.env)).any (·.1) = false := by rfl) :
    PS X (.Try [.Return (some (.Call (.Name fn pf) (e0 :: es) [] pc)) pst] [.ExceptHandler (some (.Name x np)) none [.Raise (some (.Call (.Name y np2) (c0 :: cs) [] cpos)) (some (.Constant .none j cp)) rpos] hpos] [] [] pos) (tTryR X.K (cA X.K x) (cA X.K y) ta sp E th) := by
  intro pins s σ H D I h
  obtain ⟨f, fd, F, hm, hk, hb⟩ := Df.ex
  refine wpAny_Try_except (wpAny_execs_cons (wpAny_Return_some (wpAny_Call_Name_kw (ld_glob I hg hm (PySem.W.callWith_K (h₀ := X.base) I.ok.mod.kin hk ?_ he hpl) hdb))))
  refine wpAny_mono (ha pc pins s σ H _ (I.wish _) h) (fun us s1 hq1 => ?_) fun _ _ z => False.elim z
  obtain ⟨vs, H1, J1, r, q⟩ := hq1
  have I1 := J1.unwish
  refine ⟨I1.kIn, ?_⟩
  have hl : us.length = ps.length := by rw [← r.length]; exact F.len _ _ _ _ q
  have bd := (Binds.all (K := X.K) hb) s1 us I1.kIn (by rw [List.append_nil]; exact hl)
  rw [List.append_nil] at bd
  refine wpAny_call (codeAny_mono (F.run X.A X.stack s1 H1 ⟨us, []⟩ us vs _ _ (hr.mono hlv) I1.env0 bd r q) fun rs s2 hq => ?_)
  cases rs with
  | ok fl =>
    cases fl with
    | ret u =>
      obtain ⟨v, H2, I2, rv, q2⟩ := I1.after hq
      exact ⟨v, σ, H2, I2, rv, q2⟩
    | next => exact False.elim hq
    | brk => exact False.elim hq
    | cont => exact False.elim hq
  | error ev =>
    obtain ⟨⟨e, C, H2, rfl, hE', os, bare, un, hok, new, free, oe, vs', T, oT, ts, a0, h1, h2, h3, h4, h5, h6, h7, h8, h9⟩, cx⟩ := hq
    obtain ⟨c, rfl, hsub, hth⟩ := hE'
    obtain ⟨oe', fs, ce, cd, c2⟩ := cx e rfl
    cases ce.symm.trans h1
    have I2 : Inv X pins σ H2 s2 := I1.call' os un hok bare (fun b z => absurd z (by simp))
    have fresh : ∀ b, s1.heap.get? b = none → X.s₀.heap.get? b = none := fun b z => by
      cases q : X.s₀.heap.get? b with
      | none => rfl
      | some o =>
        obtain ⟨o', e1⟩ := I1.base.there b o q (by rw [hex]; simp)
        rw [z] at e1; cases e1
    have pnn : ∀ b, s1.heap.get? b = none → ∀ p ∈ X.pn ++ pins, p.1 ≠ b := fun b z p hp y => by
      have := (I1.pin p hp).1
      rw [y, z] at this; cases this
    have me : e ∈ e :: T :: frs X.stack := List.mem_cons_self
    have mT : T ∈ e :: T :: frs X.stack := List.mem_cons_of_mem _ List.mem_cons_self
    have nm : ∀ b, b ∉ frs X.stack → b ∉ [e, T] → b ∉ e :: T :: frs X.stack := fun b n m z => by
      rcases List.mem_cons.mp z with z | z
      · exact m (by rw [z]; simp)
      · rcases List.mem_cons.mp z with z | z
        · exact m (by rw [z]; simp)
        · exact n z
    have hh : ∀ b ∈ [e, T], X.s₀.heap.get? b = none ∧ H2 b = none ∧ ∀ p ∈ X.pn ++ pins, p.1 ≠ b := fun b z => by
      rcases List.mem_cons.mp z with z | z
      · subst z; exact ⟨fresh _ new, free, pnn _ new⟩
      · have z' : b = T := by simpa using z
        subst z'; exact ⟨fresh _ h5.1, h5.2, pnn _ h5.1⟩
    refine noteC_on (B := PySem.W.hideAll s2.heap (e :: T :: frs X.stack)) (out := X.outer) (L := X.env.locals) (c := .ref c) (x0 := a0) (by rw [I.ok.frames, hst]) hfr
      ⟨fun b o q => PySem.W.of_hideAll _ q, PySem.W.hideAll_none _ me, by rw [← hst]; exact PySem.W.funFrames_hide I2.stack (fun env he a ha => List.mem_cons_of_mem _ (List.mem_cons_of_mem _ (List.mem_filterMap.mpr ⟨env, he, ha⟩))),
        oe, vs', T, oT, ts, h1, h2, h3, h4, PySem.W.hideAll_none _ mT, h6, h7, h8, h9⟩ h1 fun h₄ held m4 u4 => ?_
    obtain ⟨oe4, fs4, ge4, gd4, gx4⟩ := m4.ctx cd c2
    refine flightC (s := { s2 with heap := h₄ }) held.1 held.2.2.1 held.2.2.2 fun h₅ b1 b2 b3 b4 u5 => ?_
    have F5 : Flew X [e, T] s2.heap h₅ := ⟨fun b o q n m => b1 b o (PySem.W.hideAll_get _ q (nm b n m)), u4.trans u5⟩
    have I5 := I2.flew F5 hh
    have fly : Heap.FlyingW (PySem.W.hideAll s2.heap (e :: T :: frs X.stack)) (X.env :: X.outer) e (.ref c) a0 h₅ := ⟨b1, held.2.1, b2, b3⟩
    obtain ⟨ob, hob, hobc⟩ := fly.there
    refine wpAny_handleBy_cons (codeAny_handlers_test (ld_glob (I5.held e) hgx hcx ?_ hdx)) (by intro q; cases q)
    refine (PySem.W.exm_one (K := X.K) I5.kIn (xtype hob hobc) hsub).here ?_
    refine codeAny_handlers_suite (flightC (s := { s2 with heap := h₅ }) b1 b2 b3 fun h₆ d1 d2 d3 d4 u6 => ?_)
    have F6 : Flew X [e, T] s2.heap h₆ := ⟨fun b o q n m => d1 b o (PySem.W.hideAll_get _ q (nm b n m)), (u4.trans u5).trans u6⟩
    have I6 := I2.flew F6 hh
    have ge6 : h₆.get? e = some oe4 := d4.trans (b4.trans ge4)
    have loc : e ≠ X.env.locals := fun z => by
      obtain ⟨m, ⟨o, es, ep, ho, hd, _⟩, _⟩ := I6.loc
      rw [← z] at ho
      cases ho.symm.trans ge6
      rw [gd4] at hd; cases hd
    have nfs : e ∉ X.fs := fun z => by
      obtain ⟨_, o, ho, nf⟩ := I6.funs.mem z
      cases ho.symm.trans ge6
      exact nf _ gd4
    have J6 := (I6.pinAt (e := e) (o := oe4) ⟨ge6, free, loc, nfs, fun v z => by rw [gd4] at z; cases z⟩).held e
    obtain ⟨bm, N, nm', qn, bs, hdct, sn, sub, ab, col, dd, k0, k1, k2, k3, k5, mN, hC, hN, hni, TT⟩ := exc_obj I.ok.mod.kin xk.ok
    refine wpAny_execs_cons ?_
    rw [arm_exec_Raise]
    refine wpAny_bind (wpAny_standAt ?_)
    refine raise_from (e1 := e) (C := cA X.K y) (nm := nm') (q := qn) (N := N) (bs := bs) (bm := bm) (hdct := hdct) (sn := sn) (sub := sub) (ab := ab) (col := col) (dd := dd) (k0 := k0) (k1 := k1) (k2 := k2) (k3 := k3) (k5 := k5) (newId := "ValueError.__new__") (TT.hasType PySem.F.excBase_ValueError.hasBase) rfl ?_
    refine wpAny_bind (wpAny_Call_ofName (ld_glob J6 hgy hcy ?_ hdy))
    unfold callWith
    have g7 := hs e cpos _ _ _ _ _ J6 hth
    rw [show (X.held e).env = X.env from rfl, hey] at g7
    rw [hey]
    refine wpAny_bind (wpAny_holding (Calls.evalArgs_plain (wpAny_mono g7 (fun us7 s7 hq7 => wpAny_bind (wpAny_standAt ?_)) fun _ _ z => False.elim z)))
    obtain ⟨vs7, H7, J7, r7, hz7, hE7⟩ := hq7
    have I7 := J7.unheld I.ok
    have sl : ((backTo cpos ((false, eval c0 X.env) :: starEach cs X.env)).any fun x => x.1) = false := by
      show (false || (backTo cpos (starEach cs X.env)).any (·.1)) = false
      rw [hply]; rfl
    simp only [sl]
    obtain ⟨hp7, gg7, dr7, tk7, os7⟩ := s7
    have gC7 := I7.bk _ _ hC
    refine wpAny_bind (wpAny_keeperOf_exc gC7 ?_)
    refine wpAny_bind (wpAny_call_exc_subT (hrest := by rw [List.nil_append, ← r7.length]; exact hz7) PySem.F.excBase_ValueError (TT.keeps I7.bk) gC7 (hN.keeps I7.bk) hni fun h8 e2 mk => wpAny_bind (wpAny_holding (wpAny_point (wpAny_pure ?_))))
    refine wpAny_bind (wpAny_standAt (wpAny_pure ?_))
    obtain ⟨t, ht, tn, tt⟩ := mk.there
    have ge7 : hp7.get? e = some oe4 := (I7.pin (e, oe4) (List.mem_append_right _ List.mem_cons_self)).1
    have ne2 : e2 ≠ e := fun z => by
      have y := mk.new
      rw [z, ge7] at y; cases y
    refine ⟨e2, .ref t, rfl, mk.keeps _ _ gC7, ht, ne2, ⟨oe4, fs4, mk.keeps _ _ ge7, gd4, gx4⟩, fun h9 w1 w2 => ?_⟩
    have kp9 : ∀ b o, hp7.get? b = some o → h9.get? b = some o := fun b o z => (w1 b fun y => by
      have q := mk.new
      rw [← y, z] at q; cases q).trans (mk.keeps b o z)
    have fr9 : ∀ b, hp7.get? b = none → (PySem.W.hideAll hp7 (frs X.stack)).get? b = none := fun b z => by
      cases q : (PySem.W.hideAll hp7 (frs X.stack)).get? b with
      | none => rfl
      | some o => rw [PySem.W.of_hideAll _ q] at z; cases z
    show wpAny _ _ (noteFrame _ _) _ _ _
    have ff7 : h9.FunFrames (PySem.W.hideAll hp7 (frs X.stack)) (X.env :: X.outer) := by
      rw [← hst]
      exact (PySem.W.funFrames_hide I7.stack fun env he a ha => List.mem_filterMap.mpr ⟨env, he, ha⟩).of_keeps fun b o hb _ => ⟨o, kp9 b o hb, rfl⟩
    refine noteC_first (s := ⟨h9, gg7, dr7, tk7, os7⟩) (B := PySem.W.hideAll hp7 (frs X.stack)) (out := X.outer) (L := X.env.locals) (x0 := .ref t) (by rw [show (X.A.mark (some (Value.ref e))).frames = X.A.frames from rfl, I.ok.frames, hst]) ff7 hfr w2 (fun b o q => kp9 b o (PySem.W.of_hideAll _ q)) (fr9 e2 mk.new) rfl rfl rfl fun h10 hd10 m10 u10 => ?_
    show wpAny _ _ _ _ _ _
    obtain ⟨T10, g10⟩ := m10
    refine wpAny_bind (wpAny_field g10 (Obj.data_mapFields rfl _) (x := .ref T10) rfl ?_)
    rw [if_neg (by simp)]
    rw [hfr]
    refine flightC (s := ⟨h10, gg7, dr7, tk7, os7⟩) hd10.1 hd10.2.2.1 hd10.2.2.2 fun h11 n1 n2 n3 n4 u11 => ?_
    exact hE _ σ H7 ⟨hp7, gg7, dr7, tk7, os7⟩ h11 e2 (.ref t) I7 mk.new ⟨n1, hd10.2.1, hst.symm ▸ n2, n3⟩ ((Heap.UpToSlots.of_keeps kp9).trans (u10.trans u11)) hE7
end L2
namespace Cal
def leap (y : Int) : Bool := decide (y % 4 = 0) && (!decide (y % 100 = 0) || decide (y % 400 = 0))
def lp (y : Int) : Int := if leap y = true then 1 else 0
def mlen (y m : Int) : Int := if m = 2 then 28 + lp y else 31 - (m - 1) % 7 % 2
def ny (y : Int) : Int := 365 * (y - 2000) + (y - 2000 + 3) / 4 - (y - 2000 + 99) / 100 + (y - 2000 + 399) / 400
def cum (y m : Int) : Int :=
  if m = 1 then 0 else if m = 2 then 31 else
  lp y + (if m = 3 then 59 else if m = 4 then 90 else if m = 5 then 120 else if m = 6 then 151 else if m = 7 then 181 else if m = 8 then 212
    else if m = 9 then 243 else if m = 10 then 273 else if m = 11 then 304 else 334)
def num (y m d : Int) : Int := ny y + cum y m + d - 1
structure IsDate (y m d : Int) : Prop where
  m1 : 1 ≤ m
  m2 : m ≤ 12
  d1 : 1 ≤ d
  d2 : d ≤ mlen y m

theorem lp_iff (y : Int) : (lp y = 1 ∧ y % 4 = 0 ∧ (y % 100 ≠ 0 ∨ y % 400 = 0)) ∨ (lp y = 0 ∧ (y % 4 ≠ 0 ∨ (y % 100 = 0 ∧ y % 400 ≠ 0))) := by
  unfold lp leap
  by_cases h1 : y % 4 = 0 <;> by_cases h2 : y % 100 = 0 <;> by_cases h3 : y % 400 = 0 <;> simp [h1, h2, h3]
theorem lp_01 (y : Int) : 0 ≤ lp y ∧ lp y ≤ 1 := by
  rcases lp_iff y with h | h <;> omega
theorem st4 (y : Int) : (y + 1 - 2000 + 3) / 4 = (y - 2000 + 3) / 4 + (if y % 4 = 0 then 1 else 0) := by split <;> omega
theorem st100 (y : Int) : (y + 1 - 2000 + 99) / 100 = (y - 2000 + 99) / 100 + (if y % 100 = 0 then 1 else 0) := by split <;> omega
theorem st400 (y : Int) : (y + 1 - 2000 + 399) / 400 = (y - 2000 + 399) / 400 + (if y % 400 = 0 then 1 else 0) := by split <;> omega
theorem ny_lin {y b d f p q r : Int} : 365 * (y + 1 - 2000) + (b + p) - (d + q) + (f + r) = 365 * (y - 2000) + b - d + f + 365 + (p - q + r) := by omega
theorem lp_eq (y : Int) : lp y = (if y % 4 = 0 then 1 else 0) - (if y % 100 = 0 then 1 else 0) + (if y % 400 = 0 then 1 else 0) := by
  have h1 : y % 100 = 0 → y % 4 = 0 := by omega
  have h2 : y % 400 = 0 → y % 100 = 0 := by omega
  unfold lp leap
  by_cases a : y % 4 = 0
  · by_cases b : y % 100 = 0
    · by_cases c : y % 400 = 0
      · rw [if_pos a, if_pos b, if_pos c, decide_eq_true a, decide_eq_true b, decide_eq_true c]; rfl
      · rw [if_pos a, if_pos b, if_neg c, decide_eq_true a, decide_eq_true b, decide_eq_false c]; rfl
    · rw [if_pos a, if_neg b, if_neg (fun c => b (h2 c)), decide_eq_true a, decide_eq_false b]; rfl
  · rw [if_neg a, if_neg (fun b => a (h1 b)), if_neg (fun c => a (h1 (h2 c))), decide_eq_false a]; rfl
theorem ny_succ (y : Int) : ny (y + 1) = ny y + 365 + lp y := by
  unfold ny
  rw [st4, st100, st400, lp_eq]
  exact ny_lin
def cumL (l m : Int) : Int :=
  if m = 1 then 0 else if m = 2 then 31 else
  l + (if m = 3 then 59 else if m = 4 then 90 else if m = 5 then 120 else if m = 6 then 151 else if m = 7 then 181 else if m = 8 then 212
    else if m = 9 then 243 else if m = 10 then 273 else if m = 11 then 304 else 334)
def mlenL (l m : Int) : Int := if m = 2 then 28 + l else 31 - (m - 1) % 7 % 2
theorem tabL : ∀ l : Bool, ∀ k : Fin 12, (28 ≤ mlenL l.toInt (k.val + 1) ∧ mlenL l.toInt (k.val + 1) ≤ 31) ∧
    (0 ≤ cumL l.toInt (k.val + 1) ∧ cumL l.toInt (k.val + 1) + mlenL l.toInt (k.val + 1) ≤ 365 + l.toInt) ∧
    (k.val < 11 → cumL l.toInt (k.val + 1 + 1) = cumL l.toInt (k.val + 1) + mlenL l.toInt (k.val + 1)) ∧ cumL l.toInt 12 + mlenL l.toInt 12 = 365 + l.toInt := by decide
theorem lpB (y : Int) : lp y = (leap y).toInt := by unfold lp; cases leap y <;> rfl
theorem monB {m : Int} (h1 : 1 ≤ m) (h2 : m ≤ 12) : ∃ k : Fin 12, m = k.val + 1 := ⟨⟨(m - 1).toNat, by omega⟩, by show m = ((m - 1).toNat : Int) + 1; omega⟩
theorem cumE (y m : Int) : cum y m = cumL (leap y).toInt m := by rw [← lpB]; rfl
theorem mlenE (y m : Int) : mlen y m = mlenL (leap y).toInt m := by rw [← lpB]; rfl
theorem cum_succ {y m : Int} (h1 : 1 ≤ m) (h2 : m ≤ 11) : cum y (m + 1) = cum y m + mlen y m := by
  obtain ⟨k, rfl⟩ := monB h1 (Int.le_trans h2 (by decide))
  rw [cumE, cumE, mlenE]
  exact (tabL (leap y) k).2.2.1 (by omega)
theorem mlen_in {y m : Int} (h1 : 1 ≤ m) (h2 : m ≤ 12) : 28 ≤ mlen y m ∧ mlen y m ≤ 31 := by
  obtain ⟨k, rfl⟩ := monB h1 h2
  rw [mlenE]
  exact (tabL (leap y) k).1
theorem cum_in {y m : Int} (h1 : 1 ≤ m) (h2 : m ≤ 12) : 0 ≤ cum y m ∧ cum y m + mlen y m ≤ 365 + lp y := by
  obtain ⟨k, rfl⟩ := monB h1 h2
  rw [cumE, mlenE, lpB]
  exact (tabL (leap y) k).2.1
theorem cum_12 (y : Int) : cum y 12 + mlen y 12 = 365 + lp y := by
  rw [cumE, mlenE, lpB]
  exact (tabL (leap y) 0).2.2.2
def ms (M : Int) : Int := ny (M / 12) + cum (M / 12) (M % 12 + 1)
def ml (M : Int) : Int := mlen (M / 12) (M % 12 + 1)
theorem ml_in (M : Int) : 28 ≤ ml M ∧ ml M ≤ 31 := mlen_in (by omega) (by omega)
theorem ms_succ (M : Int) : ms (M + 1) = ms M + ml M := by
  unfold ms ml
  by_cases h : M % 12 = 11
  · have e1 : (M + 1) / 12 = M / 12 + 1 := by omega
    have e2 : (M + 1) % 12 = 0 := by omega
    rw [e1, e2, h, ny_succ]
    have := cum_12 (M / 12)
    simp only [show (11 : Int) + 1 = 12 by rfl]
    have e3 : cum (M / 12 + 1) (0 + 1) = 0 := by simp [cum]
    omega
  · have e1 : (M + 1) / 12 = M / 12 := by omega
    have e2 : (M + 1) % 12 = M % 12 + 1 := by omega
    rw [e1, e2, cum_succ (by omega) (by omega)]
    omega
theorem ms_add (M : Int) : ∀ k : Nat, ms M + k ≤ ms (M + k)
  | 0 => by simp
  | k + 1 => by
    have h := ms_add M k
    have h2 := ms_succ (M + k)
    have h3 := ml_in (M + k)
    have e : M + ((k + 1 : Nat) : Int) = M + k + 1 := by omega
    rw [e, h2]; omega
theorem ms_mono {M N : Int} (h : M ≤ N) : ms M + (N - M) ≤ ms N := by
  have := ms_add M (N - M).toNat
  have e : M + ((N - M).toNat : Int) = N := by omega
  rw [e] at this; omega
theorem ms_lt {M N : Int} (h : M < N) : ms M + ml M ≤ ms N := by
  have := ms_mono (show M + 1 ≤ N by omega)
  rw [ms_succ] at this; omega
theorem num_ms {y m d : Int} (h1 : 1 ≤ m) (h2 : m ≤ 12) : num y m d = ms (12 * y + m - 1) + d - 1 := by
  unfold num ms
  rw [show (12 * y + m - 1) / 12 = y by omega, show (12 * y + m - 1) % 12 + 1 = m by omega]
theorem ml_y {y m : Int} (h1 : 1 ≤ m) (h2 : m ≤ 12) : ml (12 * y + m - 1) = mlen y m := by
  unfold ml
  rw [show (12 * y + m - 1) / 12 = y by omega, show (12 * y + m - 1) % 12 + 1 = m by omega]
/-- one date a day -/
theorem date_inj {y m d y' m' d' : Int} (h : IsDate y m d) (h' : IsDate y' m' d') (e : num y m d = num y' m' d') : y = y' ∧ m = m' ∧ d = d' := by
  obtain ⟨a, b, c, f⟩ := h
  obtain ⟨a', b', c', f'⟩ := h'
  rw [num_ms a b, num_ms a' b'] at e
  rw [← ml_y a b] at f
  rw [← ml_y a' b'] at f'
  have h1 : ¬ (12 * y + m - 1 < 12 * y' + m' - 1) := fun q => by have := ms_lt q; omega
  have h2 : ¬ (12 * y' + m' - 1 < 12 * y + m - 1) := fun q => by have := ms_lt q; omega
  have h3 : 12 * y + m - 1 = 12 * y' + m' - 1 := by omega
  rw [h3] at e
  omega
theorem ny_add (y : Int) : ∀ k : Nat, ny y + 365 * k ≤ ny (y + k)
  | 0 => by simp
  | k + 1 => by
    have h := ny_add y k
    have h2 := ny_succ (y + k)
    have h3 := lp_01 (y + k)
    have e : y + ((k + 1 : Nat) : Int) = y + k + 1 := by omega
    rw [e, h2]; omega
theorem ny_mono {y z : Int} (h : y ≤ z) : ny y + 365 * (z - y) ≤ ny z := by
  have := ny_add y (z - y).toNat
  have e : y + ((z - y).toNat : Int) = z := by omega
  rw [e] at this; omega
theorem ny_0 : ny 2000 = 0 := by decide
theorem num_nn {y m d : Int} (hy : 2000 ≤ y) (h1 : 1 ≤ m) (h2 : m ≤ 12) (hd : 1 ≤ d) : 0 ≤ num y m d := by
  have := ny_mono hy
  have := ny_0
  have := @cum_in y m h1 h2
  unfold num; omega
theorem year_of_nn {y m d : Int} (h : IsDate y m d) (h0 : 0 ≤ num y m d) : 2000 ≤ y := by
  have hc := @cum_in y m h.m1 h.m2
  have := h.d2
  have h1 := ny_succ y
  have h2 := ny_0
  by_cases q : 2000 ≤ y
  · exact q
  · have := ny_mono (show y + 1 ≤ 2000 by omega)
    unfold num at h0
    omega
theorem year_guess {d : Int} : ny (2000 + d * 400 / 146097 - 1) ≤ d := by
  unfold ny; omega
end Cal
/-! What stands up to a day by months of 30 days, and exact. No Python here. -/
namespace Cnt
open Cal
def RelT (d u : Int) : Prop := ∃ y m r, IsDate y m r ∧ num y m r = d ∧ u = 30 * (12 * (y - 2000) + m - 1) + (if 30 < r then 30 else r) - 1
def each (y : Int) : Int := if leap y = true then 365 else 366
def RelE (d u : Int) : Prop := ∃ y, ny y ≤ d ∧ d < ny (y + 1) ∧ u = 365 * 366 * (y - 2000) + each y * (d - ny y)
theorem RelT.one {d u v : Int} (a : RelT d u) (b : RelT d v) : u = v := by
  obtain ⟨y, m, r, D, e, rfl⟩ := a
  obtain ⟨y', m', r', D', e', rfl⟩ := b
  obtain ⟨rfl, rfl, rfl⟩ := date_inj D D' (e.trans e'.symm)
  rfl
theorem year_one {d y z : Int} (h1 : ny y ≤ d) (h2 : d < ny (y + 1)) (h3 : ny z ≤ d) (h4 : d < ny (z + 1)) : y = z := by
  rcases Int.lt_trichotomy y z with h | h | h
  · have := ny_mono (show y + 1 ≤ z by omega)
    omega
  · exact h
  · have := ny_mono (show z + 1 ≤ y by omega)
    omega
theorem RelE.one {d u v : Int} (a : RelE d u) (b : RelE d v) : u = v := by
  obtain ⟨y, h1, h2, rfl⟩ := a
  obtain ⟨z, h3, h4, rfl⟩ := b
  obtain rfl := year_one h1 h2 h3 h4
  rfl
noncomputable def UT (d : Int) : Int := Classical.epsilon fun u => RelT d u
noncomputable def UE (d : Int) : Int := Classical.epsilon fun u => RelE d u
end Cnt
namespace Cnt
open Cal
theorem year_in {d y : Int} (h1 : d ≤ 1000000) (h2 : ny y ≤ d) : y ≤ 4740 := by
  by_cases c : y ≤ 4740
  · exact c
  · have := ny_mono (show (2000 : Int) ≤ y by omega)
    rw [ny_0] at this
    omega
end Cnt
namespace Cnt
open Cal
end Cnt
namespace Cnt
open Cal
end Cnt
namespace Cnt
open Cal
end Cnt
/-! the reading, step by step -/
theorem L2.us1 {α : Type} {P : List α → Prop} (h : ∀ a, P [a]) : ∀ us : List α, us.length = 1 → P us
  | [a], _ => h a
theorem L2.us2 {α : Type} {P : List α → Prop} (h : ∀ a b, P [a, b]) : ∀ us : List α, us.length = 2 → P us
  | [a, b], _ => h a b
theorem L2.us3 {α : Type} {P : List α → Prop} (h : ∀ a b c, P [a, b, c]) : ∀ us : List α, us.length = 3 → P us
  | [a, b, c], _ => h a b c
theorem L2.us4 {α : Type} {P : List α → Prop} (h : ∀ a b c d, P [a, b, c, d]) : ∀ us : List α, us.length = 4 → P us
  | [a, b, c, d], _ => h a b c d
theorem L2.us5 {α : Type} {P : List α → Prop} (h : ∀ a b c d e, P [a, b, c, d, e]) : ∀ us : List α, us.length = 5 → P us
  | [a, b, c, d, e], _ => h a b c d e
theorem L2.qb {Q : L2.VK} {H : L2.Hp} {a b : Bool} (h : Q (.bl a) H) (e : a = b) : Q (.bl b) H := e ▸ h
theorem L2.qi {Q : L2.VK} {H : L2.Hp} {a b : Int} (h : Q (.int a) H) (e : a = b) : Q (.int b) H := e ▸ h
local macro_rules | `(tactic| walk_at "cap") => `(tactic| repeat (first | exact trivial | refine ⟨⟨by first | exact Or.inl rfl | exact Or.inr rfl, by first | exact Or.inl rfl | exact Or.inr rfl, rfl⟩, ?_⟩))
local macro_rules | `(tactic| walk_at "sub") => `(tactic| repeat (first | exact trivial | refine ⟨rfl, ?_⟩))
local macro_rules | `(tactic| walk_at "has") => `(tactic| repeat (first | exact trivial | refine ⟨fun _ => ⟨_, rfl⟩, ?_⟩ | refine ⟨(fun z => by (rcases z with z | z <;> first | cases (show PySem.NameKind.local = PySem.NameKind.cell from z) | cases (show PySem.NameKind.local = PySem.NameKind.free from z) | cases (show PySem.NameKind.globalImplicit = PySem.NameKind.cell from z) | cases (show PySem.NameKind.globalImplicit = PySem.NameKind.free from z))), ?_⟩))
local macro_rules | `(tactic| walk_at "rd1") => `(tactic| first
  | with_reducible refine L2.iteT ?_
  | with_reducible refine L2.iteF ?_
  | refine ⟨_, rfl, ?_⟩
  | refine ⟨_, _, rfl, rfl, ?_⟩
  | refine ⟨_, _, rfl, ?_⟩
  | refine ⟨_, _, _, rfl, ?_⟩
  | refine ⟨rfl, ?_⟩
  | refine ⟨(⟨by decide, by decide⟩ : L2.CDiv _ _), ?_⟩
  | refine ⟨(show (0 : Int) < _ by first | decide | omega), ?_⟩
  | refine ⟨(⟨by decide, by decide, by decide⟩ : L2.CPow _ _), ?_⟩
  | refine ⟨(Or.inl ⟨by first | decide | omega, by first | decide | omega⟩ : L2.CMul _ _), ?_⟩
  | refine ⟨(Or.inr ⟨by first | decide | omega, by first | decide | omega⟩ : L2.CMul _ _), ?_⟩
  | refine ⟨_, _, rfl, .inl (by assumption), ?_⟩
  | refine ⟨_, _, _, _, rfl, rfl, L2.SqT.of (by assumption), rfl, ?_⟩
  | (refine ⟨_, _, _, _, rfl, (by assumption), (by first | omega | decide), (by first | omega | decide), (by first | omega | decide), ?_⟩; intro r' r0' r1')
  | (refine ⟨_, _, _, rfl, (by assumption), (by omega), (by omega), ?_⟩; intro r' r0' r1')
  | refine And.intro (by omega) ?_
  | refine And.intro (Nat.le_of_ble_eq_true rfl) ?_
  | with_reducible refine L2.iteNF ?_
  | with_reducible refine L2.iteNT ?_
  | with_reducible refine L2.ifI (fun _ => ?_) (fun _ => ?_)
  | with_reducible refine L2.ifNI (fun _ => ?_) (fun _ => ?_)
  | with_reducible refine L2.ifD (fun _ => ?_) (fun _ => ?_)
  | with_reducible refine L2.ifND (fun _ => ?_) (fun _ => ?_))
local macro_rules | `(tactic| walk_at "rd") => `(tactic| repeat' walk_at "rd1")
seal L2.PSs L2.PS L2.PE L2.PT L2.PA L2.PI L2.PG L2.PGs L2.PW L2.PC L2.PO
local macro_rules | `(tactic| walk_at "rd1") => `(tactic| first
  | with_reducible refine L2.ifST ?_
  | with_reducible refine L2.ifSF (by decide) ?_
  | with_reducible refine L2.ifSNT ?_
  | with_reducible refine L2.ifSNF (by decide) ?_
  | ((with_reducible refine And.intro (a := L2.CDivW _ _) ?_ ?_); (exact ⟨by first | decide | omega, by first | decide | omega⟩))
  | fail)
local macro_rules | `(tactic| walk_at "rd1") => `(tactic| ((with_reducible refine L2.sqG ?_); (first | (with_reducible refine L2.sqN10 ?_) | (with_reducible refine L2.sqN9 ?_) | (with_reducible refine L2.sqN8 ?_) | (with_reducible refine L2.sqN7 ?_) | (with_reducible refine L2.sqN6 ?_) | (with_reducible refine L2.sqN5 ?_) | (with_reducible refine L2.sqN4 ?_) | (with_reducible refine L2.sqN3 ?_) | (with_reducible refine L2.sqN2 ?_)); intros))
local macro_rules | `(tactic| walk_at "s1") => `(tactic| first | exact L2.us1 (fun _ => rfl) | exact L2.us2 (fun _ _ => rfl) | exact L2.us3 (fun _ _ _ => rfl) | exact L2.us4 (fun _ _ _ _ => rfl) | exact L2.us5 (fun _ _ _ _ _ => rfl) | k_is | rfl)
namespace My
open PySem L2
def top (i : Nat) : Stmt := PySem.Challenge.pw_loanroll_k92_dates_written.main.body.getD i (.Pass ⟨0, 0, 0, 0⟩)
structure Txt (K : PySem.W.Frag) (mg : Str → Option Value) : Prop where
  n_all : mg "all" = none
  n_bool : mg "bool" = none
  n_int : mg "int" = none
  n_isinstance : mg "isinstance" = none
  n_len : mg "len" = none
  n_range : mg "range" = none
  n_str : mg "str" = none
  n_sum : mg "sum" = none
  m_LoanError : mg "LoanError" = some (.ref (cA K "LoanError"))
  m_NoDay : mg "NoDay" = some (.ref (cA K "NoDay"))
  m_NoText : mg "NoText" = some (.ref (cA K "NoText"))
  x_NoDay : XK2 K (cA K "NoDay")
  x_NoText : XK2 K (cA K "NoText")
  e_NoDay_NoDay : PySem.W.exmOne K (.ref (cA K "NoDay")) (.ref (cA K "NoDay")) = some true
  e_NoText_NoText : PySem.W.exmOne K (.ref (cA K "NoText")) (.ref (cA K "NoText")) = some true
  z_NoText : XK1 K (cA K "NoText")
  k_NoText_LoanError : PySem.W.kitOne K (.ref (cA K "NoText")) (.ref (cA K "LoanError")) = some true
  k_NoText_NoDay : PySem.W.kitOne K (.ref (cA K "NoText")) (.ref (cA K "NoDay")) = some false
  g_FIGURES : ∃ t, mg "FIGURES" = some (.str "0123456789" t)
  g_FIRST_YEAR : ∃ t, mg "FIRST_YEAR" = some (.int 2000 t)
  g_LAST_DAY : ∃ t, mg "LAST_DAY" = some (.int 999999 t)
  g_LENGTHS : ∃ a, mg "LENGTHS" = some (.ref a) ∧ ∀ H, SqT K H a [.int 31, .int 28, .int 31, .int 30, .int 31, .int 30, .int 31, .int 31, .int 30, .int 31, .int 30, .int 31]
  g_ROUND_DAYS : ∃ t, mg "ROUND_DAYS" = some (.int 146097 t)
  g_ROUND_YEARS : ∃ t, mg "ROUND_YEARS" = some (.int 400 t)
abbrev s_is_whole : Stmt := top 10
abbrev s_is_leap : Stmt := top 12
abbrev s_new_year : Stmt := top 15
abbrev s_check_text : Stmt := top 21
abbrev s_are_figures : Stmt := top 22
abbrev s_two_figures : Stmt := top 24
abbrev s__law_cell_at : Stmt := top 27
abbrev s__law_draws : Stmt := top 28
abbrev s__law_leap : Stmt := top 29
abbrev s__law_two : Stmt := top 32
abbrev s__law_part : Stmt := top 34
abbrev s_is_day : Stmt := top 11
abbrev s_month_days : Stmt := top 13
abbrev s_year_of : Stmt := top 16
abbrev s__law_month_size : Stmt := top 30
abbrev s__law_shown : Stmt := top 33
abbrev s_is_date : Stmt := top 14
abbrev s_date_of : Stmt := top 18
abbrev s__law_date : Stmt := top 31
abbrev s__law_day : Stmt := top 35
abbrev s__law_bent : Stmt := top 39
abbrev s_day_of : Stmt := top 17
abbrev s_show_date : Stmt := top 25
abbrev s__law_due : Stmt := top 36
abbrev s_read_date : Stmt := top 23
abbrev s__law_read : Stmt := top 37
abbrev s__law_right : Stmt := top 38
abbrev s_law : Stmt := top 40
section
variable {P : Program} {w : World} {K : PySem.W.Frag} {mg : Str → Option Value} {base : Heap}
--@ is_whole
def sp_is_whole (K : PySem.W.Frag) : Sp := fun vs H Q _ => ∃ x T, vs = [x] ∧ IsKind K H x T ∧ Q (.bl (decide (T = "int"))) H
theorem sc_is_whole : FnScope ["thing"] ["thing"] (defScope s_is_whole) := ⟨rfl, rfl, rfl, by decide +kernel, rfl, by decide +kernel, by decide +kernel⟩
theorem d_is_whole (S : Src K mg "is_whole" s_is_whole ["thing"]) (T : Txt K mg)  : Def P w K mg base 1 "is_whole" ["thing"] (sp_is_whole K) := by
  refine S.ok sc_is_whole (fun vs H Q E h => ?_) (fun f cdv A outer s H vs Q E hr h => ?_)
  · obtain ⟨x, Tk, rfl, hk, h⟩ := h
    rfl
  obtain ⟨x, Tk, rfl, hk, h⟩ := h
  refine ⟨_, (pss_one (ps_ret (pe_and (pe_callB call_isinst rfl T.n_isinstance PyProof.Rows.boot_isinstance (pa_cons (pv 0) (pa_cons (pe_bltn (v := .ty "int") rfl T.n_int PyProof.Rows.boot_int rfl) pa_nil))) (pe_one (pe_not (pe_callB call_isinst rfl T.n_isinstance PyProof.Rows.boot_isinstance (pa_cons (pv 0) (pa_cons (pe_bltn (v := .ty "bool") rfl T.n_bool PyProof.Rows.boot_bool rfl) pa_nil)))))))), ?_⟩
  walk_at "rd"
  refine ⟨_, _, _, _, rfl, hk.1, kit_int hk.2, ?_⟩
  walk_at "rd"
  · refine ⟨_, _, _, _, rfl, hk.1, kit_bool hk.2, ?_⟩
    walk_at "rd"
    rename_i z
    exact qb h (by rcases z with rfl | rfl <;> decide)
  · rename_i z
    exact qb h (decide_eq_false fun q => z (.inl q))
--@ is_leap
def sp_is_leap (K : PySem.W.Frag) : Sp := fun vs H Q _ => ∃ y, vs = [.int y] ∧ Q (.bl (Cal.leap y)) H
theorem sc_is_leap : FnScope ["year"] ["year"] (defScope s_is_leap) := ⟨rfl, rfl, rfl, by decide +kernel, rfl, by decide +kernel, by decide +kernel⟩
theorem d_is_leap (S : Src K mg "is_leap" s_is_leap ["year"]) (T : Txt K mg)  : Def P w K mg base 1 "is_leap" ["year"] (sp_is_leap K) := by
  refine S.ok sc_is_leap (fun vs H Q E h => ?_) (fun f cdv A outer s H vs Q E hr h => ?_)
  · obtain ⟨y, rfl, h⟩ := h
    rfl
  obtain ⟨y, rfl, h⟩ := h
  refine ⟨_, (pss_one (ps_ret (pe_and (pe_cmpR op_eq (pe_op op_mod (pv 0) pe_int) pe_int (nomark _)) (pe_one (pe_or (pe_cmpR op_ne (pe_op op_mod (pv 0) pe_int) pe_int (nomark _)) (pe_one (pe_cmpR op_eq (pe_op op_mod (pv 0) pe_int) pe_int (nomark _)))))))), ?_⟩
  walk_at "rd"
  all_goals exact qb h (by simp [Cal.leap, dI, *])
--@ new_year
def sp_new_year (K : PySem.W.Frag) : Sp := fun vs H Q _ => ∃ y, vs = [.int y] ∧ Q (.int (Cal.ny y)) H
theorem sc_new_year : FnScope ["year", "years", "leaps"] ["year"] (defScope s_new_year) := ⟨rfl, rfl, rfl, by decide +kernel, rfl, by decide +kernel, by decide +kernel⟩
theorem d_new_year (S : Src K mg "new_year" s_new_year ["year"]) (T : Txt K mg)  : Def P w K mg base 1 "new_year" ["year"] (sp_new_year K) := by
  refine S.ok sc_new_year (fun vs H Q E h => ?_) (fun f cdv A outer s H vs Q E hr h => ?_)
  · obtain ⟨y, rfl, h⟩ := h
    rfl
  obtain ⟨y, rfl, h⟩ := h
  refine ⟨_, (pss_consN (ps_set (i := 1) sc_new_year.nd rfl (by first | exact Or.inl rfl | exact Or.inr rfl) (pe_op op_sub (pv 0) (pe_gint T.g_FIRST_YEAR)))
      (pss_consN (ps_set (i := 2) sc_new_year.nd rfl (by first | exact Or.inl rfl | exact Or.inr rfl) (pe_op op_add (pe_op op_sub (pe_op op_fdiv (pe_op op_add (pv 1) pe_int) pe_int) (pe_op op_fdiv (pe_op op_add (pv 1) pe_int) pe_int)) (pe_op op_fdiv (pe_op op_add (pv 1) pe_int) pe_int)))
      (pss_one (ps_ret (pe_op op_add (pe_op op_mul pe_int (pv 1)) (pv 2)))))), ?_⟩
  walk_at "rd"
  all_goals exact qi h (by unfold Cal.ny; omega)
--@ check_text
theorem kit_txt {K : PySem.W.Frag} {T : String} (h : T ∈ kinds) : PySem.W.kitOne K (.type T) (.type "str") = some (decide (T = "str")) := by
  simp only [kinds, List.mem_cons, List.not_mem_nil, or_false] at h
  rcases h with rfl | rfl | rfl | rfl | rfl | rfl | rfl <;> rfl
def sp_check_text (K : PySem.W.Frag) : Sp := fun vs H Q E => ∃ x T, vs = [x] ∧ IsKind K H x T ∧ (T = "str" → Q .non H) ∧ (T ≠ "str" → E (.ref (cA K "NoText")) none H)
theorem sc_check_text : FnScope ["thing"] ["thing"] (defScope s_check_text) := ⟨rfl, rfl, rfl, by decide +kernel, rfl, by decide +kernel, by decide +kernel⟩
theorem d_check_text (S : Src K mg "check_text" s_check_text ["thing"]) (T : Txt K mg)  : DefX P w K mg base 1 "check_text" ["thing"] (sp_check_text K) := by
  refine S.okXF sc_check_text (fun vs H Q E h => ?_) (fun f cdv A outer s H vs Q E hr h => ?_)
  · obtain ⟨x, Tk, rfl, hk, h, hE⟩ := h
    rfl
  obtain ⟨x, Tk, rfl, hk, h, hE⟩ := h
  refine ⟨_, (pss_one (ps_if (pt_not (pt_val (pe_callB call_isinst rfl T.n_isinstance PyProof.Rows.boot_isinstance (pa_cons (pv 0) (pa_cons (pe_bltn (v := .ty "str") rfl T.n_str PyProof.Rows.boot_str rfl) pa_nil)))))
      (pss_one (ps_raise (E := fun C d H' => Same H H' ∧ E C d H) T.m_NoText T.x_NoText (fun _ _ _ _ _ _ _ I hx hE => xe_made I hx hE) (pa_cons pe_str pa_nil)))
      pss_nil)), ?_⟩
  walk_at "rd"
  refine ⟨_, _, _, _, rfl, hk.1, kit_txt hk.2, ?_⟩
  walk_at "rd"
  · rename_i z
    exact ⟨Same.refl _, hE z⟩
  · rename_i z
    exact ⟨Same.refl _, h z⟩
--@ are_figures
def figB (c : Nat) : Bool := decide (48 ≤ c) && decide (c ≤ 57)
theorem fig_in (c : Nat) : (!(Builtin.Str.occurrences (Str.ofString "0123456789") ⟨#[c]⟩ 0 (Str.ofString "0123456789").length 1).isEmpty) = figB c := by
  rw [PySem.StrLaws.found_one]
  have e : (Str.ofString "0123456789").cps.toList = [48, 49, 50, 51, 52, 53, 54, 55, 56, 57] := by decide +kernel
  rw [e, Bool.eq_iff_iff]
  simp [figB]
  omega
def sp_are_figures (K : PySem.W.Frag) : Sp := fun vs H Q _ => ∃ (z : Str), vs = [.str z] ∧ z.length ≤ 1000 ∧ Q (.bl (z.cps.toList.all figB)) H
theorem sc_are_figures : FnScope ["text"] ["text"] (defScope s_are_figures) := ⟨rfl, rfl, rfl, by decide +kernel, rfl, by decide +kernel, by decide +kernel⟩
theorem d_are_figures (S : Src K mg "are_figures" s_are_figures ["text"]) (T : Txt K mg)  : Def P w K mg base 1 "are_figures" ["text"] (sp_are_figures K) := by
  refine S.okF sc_are_figures (fun vs H Q E h => ?_) (fun f cdv A outer s H vs Q E hr h => ?_)
  · obtain ⟨z, rfl, hz, h⟩ := h
    rfl
  obtain ⟨z, rfl, hz, h⟩ := h
  refine ⟨_, (pss_one (ps_ret (pe_callB (call_allB rfl) rfl T.n_all PyProof.Rows.boot_all (pa_cons (pe_comp (ix := []) ⟨rfl, by decide +kernel, rfl, by decide +kernel, rfl, (show (["sign"] : List Str).Nodup by decide +kernel), by walk_at "cap", by walk_at "sub", by walk_at "has"⟩ (pi_str (pv 0)) (fun b => (pe_cmpR op_in_str (pv 0) (pe_gstr T.g_FIGURES) (by with_unfolding_all rfl)))) pa_nil)))), ?_⟩
  have sz := sizeLine_eq
  walk_at "rd"
  intro l nl
  have zl : (z.cps.toList.map fun c => V.str ⟨#[c]⟩).length = z.length := by rw [List.length_map, Array.length_toList]; rfl
  refine comp_any walk_str nl (by omega) (fun i v _ => ∃ c, z.cps.toList[i]? = some c ∧ v = .bl (figB c)) (fun _ _ _ _ _ q => q) (fun _ _ _ _ _ _ q => q) ?_ ?_
  · rintro i v H' Q' hv sH hq
    rw [List.getElem?_map] at hv
    obtain ⟨c, hc, rfl⟩ := Option.map_eq_some_iff.mp hv
    walk_at "rd"
    rw [fig_in]
    exact hq _ _ (Same.refl _) ⟨c, hc, rfl⟩
  · rintro ys H' s' eL yl hp
    have ey : ys = (z.cps.toList.map figB).map V.bl := by
      apply List.ext_getElem?
      intro j
      cases e : ys[j]? with
      | none => rw [List.getElem?_eq_none (by have := List.getElem?_eq_none_iff.mp e; rw [List.length_map, List.length_map]; rw [List.length_map] at yl; omega)]
      | some v =>
        obtain ⟨c, h1, rfl⟩ := hp j v e
        rw [List.getElem?_map, List.getElem?_map, h1]
        rfl
    walk_at "rd"
    refine ⟨l, z.cps.toList.map figB, rfl, SqL.of (by rw [← ey]; exact eL), s', ?_⟩
    rw [List.all_map]
    exact h
--@ two_figures
theorem log2_small {f : Int} (h0 : 0 ≤ f) (h1 : f < 10 ^ 60) : f.natAbs.log2 < 1920 := by
  by_cases hz : f.natAbs = 0
  · rw [hz]; decide
  · exact (Nat.log2_lt hz).mpr (Nat.lt_of_lt_of_le (show f.natAbs < 10 ^ 60 by omega) (by decide))
def two (n : Int) : Str := ⟨#[48 + (n / 10).toNat, 48 + (n % 10).toNat]⟩
theorem two_eq {n : Int} (h0 : 0 ≤ n) (h1 : n ≤ 99) : Txt.zfill (Str.ofString (toString n)) 2 = two n := by
  obtain ⟨k, rfl⟩ := Int.eq_ofNat_of_zero_le h0
  have : k < 100 := by omega
  revert this
  clear h0 h1
  revert k
  decide +kernel
def sp_two_figures (K : PySem.W.Frag) : Sp := fun vs H Q _ => ∃ n, vs = [.int n] ∧ (0 ≤ n ∧ n ≤ 99) ∧ Q (.str (two n)) H
theorem sc_two_figures : FnScope ["number"] ["number"] (defScope s_two_figures) := ⟨rfl, rfl, rfl, by decide +kernel, rfl, by decide +kernel, by decide +kernel⟩
theorem d_two_figures (S : Src K mg "two_figures" s_two_figures ["number"]) (T : Txt K mg)  : Def P w K mg base 1 "two_figures" ["number"] (sp_two_figures K) := by
  refine S.ok sc_two_figures (fun vs H Q E h => ?_) (fun f cdv A outer s H vs Q E hr h => ?_)
  · obtain ⟨n, rfl, ⟨h0, h1⟩, h⟩ := h
    rfl
  obtain ⟨n, rfl, ⟨h0, h1⟩, h⟩ := h
  refine ⟨_, (pss_one (ps_ret (pe_bm PySem.F.plainAttrs_str PySem.F.slot_str_zfill PySem.F.type_str_zfill mt_zfill (pe_callTy call_str_int rfl T.n_str PyProof.Rows.boot_str (pa_cons (pv 0) pa_nil)) (pa_cons pe_int pa_nil)))), ?_⟩
  walk_at "rd"
  refine ⟨log2_small h0 (by omega), ?_⟩
  walk_at "rd"
  rw [two_eq h0 h1]
  exact h
--@ _law_cell_at
def cellAt (ns : List Int) (k : Nat) : Int := ns.getD k 0
def sp__law_cell_at (K : PySem.W.Frag) : Sp := fun vs H Q _ => ∃ (p : Addr) (ns : List Int) (k : Nat), vs = [.ref p, .int k] ∧ SqL K H p (ns.map V.int) ∧ Q (.int (cellAt ns k)) H
theorem sc__law_cell_at : FnScope ["_law_script", "_law_k"] ["_law_script", "_law_k"] (defScope s__law_cell_at) := ⟨rfl, rfl, rfl, by decide +kernel, rfl, by decide +kernel, by decide +kernel⟩
theorem d__law_cell_at (S : Src K mg "_law_cell_at" s__law_cell_at ["_law_script", "_law_k"]) (T : Txt K mg)  : Def P w K mg base 1 "_law_cell_at" ["_law_script", "_law_k"] (sp__law_cell_at K) := by
  refine S.ok sc__law_cell_at (fun vs H Q E h => ?_) (fun f cdv A outer s H vs Q E hr h => ?_)
  · obtain ⟨p, ns, k, rfl, hp, h⟩ := h
    rfl
  obtain ⟨p, ns, k, rfl, hp, h⟩ := h
  refine ⟨_, (pss_consN (ps_if (pt_cmpR op_lt (pv 1) (pe_callB call_len_seq rfl T.n_len PySem.boot_len (pa_cons (pv 0) pa_nil)) (nomark _))
      (pss_one (ps_ret (pe_ix ix_list (pv 0) (pv 1) (fun _ _ => rfl))))
      pss_nil)
      (pss_one (ps_ret pe_int))), ?_⟩
  walk_at "rd"
  · rename_i q
    rw [List.length_map] at q
    have kl : k < ns.length := by omega
    refine ⟨p, _, _, _, rfl, rfl, hp, atI_nat (by rw [List.getElem?_map, List.getElem?_eq_getElem kl]; rfl), ?_⟩
    unfold cellAt at h
    rw [List.getD_eq_getElem?_getD, List.getElem?_eq_getElem kl] at h
    exact h
  · rename_i q
    rw [List.length_map] at q
    unfold cellAt at h
    rw [List.getD_eq_getElem?_getD, List.getElem?_eq_none (by omega)] at h
    walk_at "rd"
    exact h
--@ _law_draws
def sp__law_draws (K : PySem.W.Frag) : Sp := fun vs H Q _ => ∃ c k, vs = [.int c, .int k] ∧ 0 ≤ k ∧ k ≤ 20 ∧ ∀ p (ns : List Int) H', Same H H' → H p = none → H' p = some (.lst (ns.map V.int)) → (ns.length : Int) = k → (∀ x ∈ ns, (0 : Int) ≤ x ∧ x < 10000000000000) → Q (.ref p) H'
theorem sc__law_draws : FnScope ["_law_cell", "_law_many", "_law_found", "_law_number", "_law_one", "_law_other", "_law_k"] ["_law_cell", "_law_many"] (defScope s__law_draws) := ⟨rfl, rfl, rfl, by decide +kernel, rfl, by decide +kernel, by decide +kernel⟩
theorem d__law_draws (S : Src K mg "_law_draws" s__law_draws ["_law_cell", "_law_many"]) (T : Txt K mg)  : Def P w K mg base 1 "_law_draws" ["_law_cell", "_law_many"] (sp__law_draws K) := by
  refine S.ok sc__law_draws (fun vs H Q E h => ?_) (fun f cdv A outer s H vs Q E hr h => ?_)
  · obtain ⟨c, k, rfl, k0, k1, h⟩ := h
    rfl
  obtain ⟨c, k, rfl, k0, k1, h⟩ := h
  refine ⟨_, (pss_consN (ps_set (i := 2) sc__law_draws.nd rfl (by first | exact Or.inl rfl | exact Or.inr rfl) (pe_lst pa_nil))
      (pss_consN (ps_set (i := 3) sc__law_draws.nd rfl (by first | exact Or.inl rfl | exact Or.inr rfl) (pe_op op_fdiv (pv 0) pe_int))
      (pss_consN (ps_set (i := 4) sc__law_draws.nd rfl (by first | exact Or.inl rfl | exact Or.inr rfl) (pe_op op_add (pe_op op_mod (pv 0) pe_int) pe_int))
      (pss_consN (ps_set (i := 5) sc__law_draws.nd rfl (by first | exact Or.inl rfl | exact Or.inr rfl) (pe_op op_add (pe_op op_mod (pv 0) pe_int) pe_int))
      (pss_consN (ps_for PassesOwn.never rfl (pi_range1 rfl T.n_range (pa_cons (pv 1) pa_nil)) (pg_name (i := 6) sc__law_draws.nd rfl (by first | exact Or.inl rfl | exact Or.inr rfl))
      (pss_consN (ps_set (i := 4) sc__law_draws.nd rfl (by first | exact Or.inl rfl | exact Or.inr rfl) (pe_op op_mod (pe_op op_mul (pv 4) pe_int) pe_int))
      (pss_consN (ps_set (i := 5) sc__law_draws.nd rfl (by first | exact Or.inl rfl | exact Or.inr rfl) (pe_op op_mod (pe_op op_add (pe_op op_mul (pv 5) (pv 5)) (pv 4)) pe_int))
      (pss_one (ps_if (PW.pt (pw_and (pt_cmpR op_gt (pv 0) (pe_powc (v := 1000000000000000000) (by decide +kernel) ⟨by decide, by decide, by decide⟩) (nomark _)) (pw_and (pt_cmpR op_eq (pe_op op_mod (pv 0) pe_int) pe_int (nomark _)) (pw_and1 (pt_cmpR op_gt (pv 3) pe_int (nomark _))))))
      (pss_consN (ps_expr (pe_bm PySem.F.plainAttrs_list PySem.F.slot_list_append PySem.F.type_list_append mt_append (pv 2) (pa_cons (pe_op op_mod (pv 3) (pe_powc (v := 10000000000000) (by decide +kernel) ⟨by decide, by decide, by decide⟩)) pa_nil)))
      (pss_one (ps_set (i := 3) sc__law_draws.nd rfl (by first | exact Or.inl rfl | exact Or.inr rfl) (pe_op op_fdivW (pv 3) (pe_powc (v := 10000000000000) (by decide +kernel) ⟨by decide, by decide, by decide⟩)))))
      (pss_one (ps_expr (pe_bm PySem.F.plainAttrs_list PySem.F.slot_list_append PySem.F.type_list_append mt_append (pv 2) (pa_cons (pe_op op_fdiv (pe_op op_mod (pe_op op_add (pv 4) (pe_op op_mul (pv 5) pe_int)) pe_int) pe_int) pa_nil)))))))))
      (pss_one (ps_ret (pv 2)))))))), ?_⟩
  have sz := sizeLine_eq
  walk_at "rd"
  intro p np
  have sp := same_new np (.lst [])
  walk_at "rd"
  have o0 : 0 ≤ c % 2147483647 := Int.emod_nonneg _ (by decide)
  have o1 : c % 2147483647 < 2147483647 := Int.emod_lt_of_pos _ (by decide)
  have p0 : 0 ≤ c % 998244353 := Int.emod_nonneg _ (by decide)
  have p1 : c % 998244353 < 998244353 := Int.emod_lt_of_pos _ (by decide)
  refine for_range (fun i σ H' => ∃ (ns : List Int) (a b e : Int) (z : Option V), (Same H H' ∧ H' p = some (.lst (ns.map V.int))) ∧ ns.length = i ∧ (∀ x ∈ ns, (0 : Int) ≤ x ∧ x < 10000000000000) ∧ (0 ≤ a ∧ a < 4294967296 ∧ 0 ≤ b ∧ b < 4294967296) ∧ σ = [some (.int c), some (.int k), some (.ref p), some (.int e), some (.int a), some (.int b), z])
    ⟨[], _, _, _, _, ⟨sp, upd_same⟩, rfl, fun x hx => (by cases hx), ⟨by omega, by omega, by omega, by omega⟩, rfl⟩ ?_ ?_
  · rintro i σ H' hi ⟨ns, a, b, e, z, ⟨sH, eP⟩, nl, nn, ⟨a0, a1, b0, b1⟩, rfl⟩
    have ab := Int.emod_nonneg (a * 48271) (show (2147483647 : Int) ≠ 0 by decide)
    have ab1 := Int.emod_lt_of_pos (a * 48271) (show (0 : Int) < 2147483647 by decide)
    have bb := Int.emod_nonneg (b * b + a * 48271 % 2147483647) (show (998244353 : Int) ≠ 0 by decide)
    have bb1 := Int.emod_lt_of_pos (b * b + a * 48271 % 2147483647) (show (0 : Int) < 998244353 by decide)
    have snoc : ∀ y : Int, (0 ≤ y ∧ y < 10000000000000) → ∀ x ∈ ns ++ [y], (0 : Int) ≤ x ∧ x < 10000000000000 := fun y hy x hx => by
      rcases List.mem_append.mp hx with hx | hx
      · exact nn x hx
      · obtain rfl : x = y := by simpa using hx
        exact hy
    have eP' : ∀ y : Int, (upd H' p (.lst (ns.map V.int ++ [.int y]))) p = some (.lst ((ns ++ [y]).map V.int)) := fun y => by rw [List.map_append]; exact upd_same
    have small : ∀ z : Int, (0 : Int) ≤ z % 2147483647 / 7 ∧ z % 2147483647 / 7 < 10000000000000 := fun z => by
      have := Int.emod_nonneg z (show (2147483647 : Int) ≠ 0 by decide)
      have := Int.emod_lt_of_pos z (show (0 : Int) < 2147483647 by decide)
      omega
    have i20 : i < 20 := by omega
    walk_at "rd"
    · refine ⟨.inl ⟨rfl, _, SqL.of eP⟩, ?_⟩
      walk_at "rd"
      refine ⟨p, _, _, rfl, rfl, eP, by rw [List.length_map]; omega, ?_⟩
      walk_at "rd"
      exact ⟨ns ++ [_], _, _, _, _, ⟨same_put sH np, eP' _⟩, by rw [List.length_append, nl]; rfl, snoc _ ⟨Int.emod_nonneg _ (by decide), Int.emod_lt_of_pos _ (by decide)⟩, ⟨ab, by omega, bb, by omega⟩, rfl⟩
    all_goals
      refine ⟨.inl ⟨rfl, _, SqL.of eP⟩, ?_⟩
      walk_at "rd"
      refine ⟨p, _, _, rfl, rfl, eP, by rw [List.length_map]; omega, ?_⟩
      exact ⟨ns ++ [_], _, _, _, _, ⟨same_put sH np, eP' _⟩, by rw [List.length_append, nl]; rfl, snoc _ (small _), ⟨ab, by omega, bb, by omega⟩, rfl⟩
  · rintro σ H' ⟨ns, a, b, e, z, ⟨sH, eP⟩, nl, nn, _, rfl⟩
    walk_at "rd"
    exact h p ns H' sH np eP (by omega) nn
--@ _law_leap
def sp__law_leap (K : PySem.W.Frag) : Sp := fun vs H Q _ => ∃ y, vs = [.int y] ∧ Q (.bl (Cal.leap y)) H
theorem sc__law_leap : FnScope ["_law_year"] ["_law_year"] (defScope s__law_leap) := ⟨rfl, rfl, rfl, by decide +kernel, rfl, by decide +kernel, by decide +kernel⟩
theorem d__law_leap (S : Src K mg "_law_leap" s__law_leap ["_law_year"]) (T : Txt K mg)  : Def P w K mg base 1 "_law_leap" ["_law_year"] (sp__law_leap K) := by
  refine S.ok sc__law_leap (fun vs H Q E h => ?_) (fun f cdv A outer s H vs Q E hr h => ?_)
  · obtain ⟨y, rfl, h⟩ := h
    rfl
  obtain ⟨y, rfl, h⟩ := h
  refine ⟨_, (pss_one (ps_ret (pe_and (pe_cmpR op_eq (pe_op op_mod (pv 0) pe_int) pe_int (nomark _)) (pe_one (pe_or (pe_cmpR op_gt (pe_op op_mod (pv 0) pe_int) pe_int (nomark _)) (pe_one (pe_cmpR op_eq (pe_op op_mod (pv 0) pe_int) pe_int (nomark _)))))))), ?_⟩
  walk_at "rd"
  · exact qb h (by have : ¬ y % 100 = 0 := by omega
                   simp [Cal.leap, dI, *])
  · exact qb h (by have : y % 100 = 0 := by omega
                   simp [Cal.leap, dI, *])
  · exact qb h (by simp [Cal.leap, dI, *])
--@ _law_two
theorem two_law {n : Int} (h0 : 0 ≤ n) (h1 : n ≤ 99) : Str.ofString (toString (n / 10)) ++ Str.ofString (toString (n % 10)) = two n := by
  obtain ⟨k, rfl⟩ := Int.eq_ofNat_of_zero_le h0
  have : k < 100 := by omega
  revert this
  clear h0 h1
  revert k
  decide +kernel
def sp__law_two (K : PySem.W.Frag) : Sp := fun vs H Q _ => ∃ n, vs = [.int n] ∧ (0 ≤ n ∧ n ≤ 99) ∧ Q (.str (two n)) H
theorem sc__law_two : FnScope ["_law_number"] ["_law_number"] (defScope s__law_two) := ⟨rfl, rfl, rfl, by decide +kernel, rfl, by decide +kernel, by decide +kernel⟩
theorem d__law_two (S : Src K mg "_law_two" s__law_two ["_law_number"]) (T : Txt K mg)  : Def P w K mg base 1 "_law_two" ["_law_number"] (sp__law_two K) := by
  refine S.ok sc__law_two (fun vs H Q E h => ?_) (fun f cdv A outer s H vs Q E hr h => ?_)
  · obtain ⟨n, rfl, ⟨h0, h1⟩, h⟩ := h
    rfl
  obtain ⟨n, rfl, ⟨h0, h1⟩, h⟩ := h
  refine ⟨_, (pss_one (ps_ret (pe_op op_add_str (pe_callTy call_str_int rfl T.n_str PyProof.Rows.boot_str (pa_cons (pe_op op_fdiv (pv 0) pe_int) pa_nil)) (pe_callTy call_str_int rfl T.n_str PyProof.Rows.boot_str (pa_cons (pe_op op_mod (pv 0) pe_int) pa_nil))))), ?_⟩
  have sz := sizeLine_eq
  walk_at "rd"
  refine ⟨log2_small (by omega) (by omega), ?_⟩
  walk_at "rd"
  refine ⟨log2_small (by omega) (by omega), ?_⟩
  walk_at "rd"
  have e := two_law h0 h1
  refine ⟨?_, by rw [e]; exact h⟩
  have l2 : (Str.ofString (toString (n / 10))).length + (Str.ofString (toString (n % 10))).length = 2 := by
    have := congrArg Str.length e
    rw [Str.length_append] at this
    exact this
  omega
--@ _law_part
def fval (l : List Nat) : Int := l.foldl (fun (v : Int) (c : Nat) => 10 * v + ((c : Int) - 48)) 0
theorem fval_snoc (l : List Nat) (c : Nat) : fval (l ++ [c]) = 10 * fval l + ((c : Int) - 48) := by unfold fval; rw [List.foldl_append]; rfl
theorem fig_find (c : Nat) : Txt.find (Str.ofString "0123456789") ⟨#[c]⟩ = if figB c = true then (c : Int) - 48 else -1 := by
  by_cases h : figB c = true
  · rw [if_pos h]
    obtain ⟨k, rfl, hk⟩ : ∃ k, c = 48 + k ∧ k < 10 := ⟨c - 48, by simp [figB] at h; omega, by simp [figB] at h; omega⟩
    clear h
    revert hk
    revert k
    decide +kernel
  · rw [if_neg h]
    have e := fig_in c
    rw [Bool.eq_false_iff.mpr h] at e
    unfold Txt.find
    cases q : Builtin.Str.occurrences (Str.ofString "0123456789") ⟨#[c]⟩ 0 (Str.ofString "0123456789").length 1 with
    | nil => rfl
    | cons i r => rw [q] at e; simp at e
def partV (z : Str) (n : Int) : V := if (z.length : Int) = n ∧ z.cps.toList.all figB = true then .int (fval z.cps.toList) else .non
def sp__law_part (K : PySem.W.Frag) : Sp := fun vs H Q _ => ∃ (z : Str) (n : Int), vs = [.str z, .int n] ∧ (z.length ≤ 1000 ∧ n ≤ 10) ∧ Q (partV z n) H
theorem sc__law_part : FnScope ["_law_text", "_law_size", "_law_value", "_law_sign", "_law_figure"] ["_law_text", "_law_size"] (defScope s__law_part) := ⟨rfl, rfl, rfl, by decide +kernel, rfl, by decide +kernel, by decide +kernel⟩
theorem d__law_part (S : Src K mg "_law_part" s__law_part ["_law_text", "_law_size"]) (T : Txt K mg)  : Def P w K mg base 1 "_law_part" ["_law_text", "_law_size"] (sp__law_part K) := by
  refine S.ok sc__law_part (fun vs H Q E h => ?_) (fun f cdv A outer s H vs Q E hr h => ?_)
  · obtain ⟨z, n, rfl, ⟨hz, hn⟩, h⟩ := h
    rfl
  obtain ⟨z, n, rfl, ⟨hz, hn⟩, h⟩ := h
  refine ⟨_, (pss_consN (ps_if (pt_cmpR op_ne (pe_callB call_len rfl T.n_len PySem.boot_len (pa_cons (pv 0) pa_nil)) (pv 1) (nomark _))
      (pss_one (ps_ret pe_non))
      pss_nil)
      (pss_consN (ps_set (i := 2) sc__law_part.nd rfl (by first | exact Or.inl rfl | exact Or.inr rfl) pe_int)
      (pss_consN (ps_for PassesOwn.never rfl (pi_str (pv 0)) (pg_name (i := 3) sc__law_part.nd rfl (by first | exact Or.inl rfl | exact Or.inr rfl))
      (pss_consN (ps_set (i := 4) sc__law_part.nd rfl (by first | exact Or.inl rfl | exact Or.inr rfl) (pe_bm PySem.F.plainAttrs_str PySem.F.slot_str_find PySem.F.type_str_find mt_find pe_str (pa_cons (pv 3) pa_nil)))
      (pss_consN (ps_if (pt_cmpR op_lt (pv 4) pe_int (nomark _))
      (pss_one (ps_ret pe_non))
      pss_nil)
      (pss_one (ps_set (i := 2) sc__law_part.nd rfl (by first | exact Or.inl rfl | exact Or.inr rfl) (pe_op op_add (pe_op op_mul pe_int (pv 2)) (pv 4)))))))
      (pss_one (ps_ret (pv 2)))))), ?_⟩
  have sz := sizeLine_eq
  walk_at "rd"
  refine ⟨.str z, z.length, rfl, ⟨by omega, rfl⟩, ?_⟩
  walk_at "rd"
  · rename_i c
    rw [show partV z n = .non from if_neg fun q => c q.1] at h
    exact h
  · rename_i c
    refine for_str (fun i σ H' => H' = H ∧ (z.cps.toList.take i).all figB = true ∧ ∃ z1 z2 : Option V, σ = [some (.str z), some (.int n), some (.int (fval (z.cps.toList.take i))), z1, z2]) ⟨rfl, rfl, _, _, rfl⟩ ?_ ?_
    · rintro i c1 σ H' hc ⟨eH, hf, z1, z2, rfl⟩
      subst eH
      have tk : z.cps.toList.take (i + 1) = z.cps.toList.take i ++ [c1] := by rw [List.take_add_one, hc]; rfl
      have ff := fig_find c1
      walk_at "rd"
      · rename_i lt
        have hg : ¬ figB c1 = true := fun hg => by
          rw [if_pos hg] at ff
          have c48 : 48 ≤ c1 := by simp [figB] at hg; omega
          have := lt
          omega
        rw [show partV z n = .non from if_neg fun q => hg (List.all_eq_true.mp q.2 c1 (List.mem_of_getElem? hc))] at h
        exact h
      · rename_i lt
        have hg : figB c1 = true := by
          cases q : figB c1 with
          | true => rfl
          | false =>
            rw [if_neg (by rw [q]; decide)] at ff
            have := lt
            omega
        rw [if_pos hg] at ff
        rw [tk, fval_snoc, ← ff]
        exact ⟨by rw [List.all_append, hf]; simp [hg], _, _, rfl⟩
    · rintro σ H' ⟨eH, hf, z1, z2, rfl⟩
      subst eH
      rw [show z.cps.toList.take z.cps.size = z.cps.toList from List.take_of_length_le (by simp)] at *
      walk_at "rd"
      rw [show partV z n = .int (fval z.cps.toList) from if_pos ⟨c, hf⟩] at h
      exact h
--@ is_day
def dayB : V → Bool
  | .int i => decide (0 ≤ i) && decide (i ≤ 999999)
  | _ => false
def sp_is_day (K : PySem.W.Frag) : Sp := fun vs H Q _ => ∃ x T, vs = [x] ∧ IsKind K H x T ∧ Q (.bl (dayB x)) H
theorem sc_is_day : FnScope ["thing"] ["thing"] (defScope s_is_day) := ⟨rfl, rfl, rfl, by decide +kernel, rfl, by decide +kernel, by decide +kernel⟩
theorem d_is_day (S : Src K mg "is_day" s_is_day ["thing"]) (T : Txt K mg) (D_is_whole : Def P w K mg base 1 "is_whole" ["thing"] (sp_is_whole K)) : Def P w K mg base 2 "is_day" ["thing"] (sp_is_day K) := by
  refine S.ok sc_is_day (fun vs H Q E h => ?_) (fun f cdv A outer s H vs Q E hr h => ?_)
  · obtain ⟨x, Tk, rfl, hk, h⟩ := h
    rfl
  obtain ⟨x, Tk, rfl, hk, h⟩ := h
  refine ⟨_, (pss_one (ps_ret (pe_and (pe_fn D_is_whole hr (pa_cons (pv 0) pa_nil)) (pe_one (pe_chain op_le op_le pe_int (pv 0) (pe_gint T.g_LAST_DAY)))))), ?_⟩
  walk_at "rd"
  refine ⟨_, _, rfl, hk, ?_⟩
  walk_at "rd"
  · rename_i z
    subst z
    obtain ⟨i, rfl⟩ := ty_int hk.1
    walk_at "rd"
    · exact qb h (by simp [dayB, *])
    · exact qb h (by simp [dayB, *])
  · rename_i z
    refine qb h ?_
    cases x with
    | int i => exact absurd (int_ty hk.1) z
    | _ => rfl
--@ month_days
def sp_month_days (K : PySem.W.Frag) : Sp := fun vs H Q _ => ∃ y m, vs = [.int y, .int m] ∧ 1 ≤ m ∧ m ≤ 12 ∧ Q (.int (Cal.mlen y m)) H
theorem sc_month_days : FnScope ["year", "month"] ["year", "month"] (defScope s_month_days) := ⟨rfl, rfl, rfl, by decide +kernel, rfl, by decide +kernel, by decide +kernel⟩
theorem d_month_days (S : Src K mg "month_days" s_month_days ["year", "month"]) (T : Txt K mg) (D_is_leap : Def P w K mg base 1 "is_leap" ["year"] (sp_is_leap K)) : Def P w K mg base 2 "month_days" ["year", "month"] (sp_month_days K) := by
  refine S.ok sc_month_days (fun vs H Q E h => ?_) (fun f cdv A outer s H vs Q E hr h => ?_)
  · obtain ⟨y, m, rfl, h1, h2, h⟩ := h
    rfl
  obtain ⟨y, m, rfl, h1, h2, h⟩ := h
  refine ⟨_, (pss_consN (ps_if (PW.pt (pw_and (pt_cmpR op_eq (pv 1) pe_int (nomark _)) (pw_and1 (pt_val (pe_fn D_is_leap hr (pa_cons (pv 0) pa_nil))))))
      (pss_one (ps_ret pe_int))
      pss_nil)
      (pss_one (ps_ret (pe_ix ix_tup (pe_gtup T.g_LENGTHS) (pe_op op_sub (pv 1) pe_int) (fun _ _ => rfl))))), ?_⟩
  have tab : ∀ a : Addr, (∀ H, SqT K H a [.int 31, .int 28, .int 31, .int 30, .int 31, .int 30, .int 31, .int 31, .int 30, .int 31, .int 30, .int 31]) → (m = 2 → Cal.leap y = false) →
      ∃ p xs i v, V.ref a = .ref p ∧ V.int (m - 1) = .int i ∧ SqT K H p xs ∧ atI xs i = some v ∧ Q v H := fun a ha hb => by
    have q : m = 1 ∨ m = 2 ∨ m = 3 ∨ m = 4 ∨ m = 5 ∨ m = 6 ∨ m = 7 ∨ m = 8 ∨ m = 9 ∨ m = 10 ∨ m = 11 ∨ m = 12 := by omega
    rcases q with rfl | rfl | rfl | rfl | rfl | rfl | rfl | rfl | rfl | rfl | rfl | rfl
    all_goals refine ⟨_, _, _, _, rfl, rfl, ha H, rfl, qi h (by simp [Cal.mlen, Cal.lp, *])⟩
  walk_at "rd"
  · refine ifB (fun hb => ?_) (fun hb => ?_)
    · exact qi h (by simp [Cal.mlen, Cal.lp, *])
    · intro a ha
      walk_at "rd"
      exact tab a ha (fun _ => hb)
  · intro a ha
    walk_at "rd"
    exact tab a ha (fun z => absurd z (by assumption))
--@ year_of
def sp_year_of (K : PySem.W.Frag) : Sp := fun vs H Q _ => ∃ d, vs = [.int d] ∧ ∀ y, Cal.ny y ≤ d → d < Cal.ny (y + 1) → Q (.int y) H
theorem sc_year_of : FnScope ["day", "year"] ["day"] (defScope s_year_of) := ⟨rfl, rfl, rfl, by decide +kernel, rfl, by decide +kernel, by decide +kernel⟩
theorem d_year_of (S : Src K mg "year_of" s_year_of ["day"]) (T : Txt K mg) (D_new_year : Def P w K mg base 1 "new_year" ["year"] (sp_new_year K)) : Def P w K mg base 2 "year_of" ["day"] (sp_year_of K) := by
  refine S.ok sc_year_of (fun vs H Q E h => ?_) (fun f cdv A outer s H vs Q E hr h => ?_)
  · obtain ⟨d, rfl, h⟩ := h
    rfl
  obtain ⟨d, rfl, h⟩ := h
  refine ⟨_, (pss_consN (ps_set (i := 1) sc_year_of.nd rfl (by first | exact Or.inl rfl | exact Or.inr rfl) (pe_op op_sub (pe_op op_add (pe_gint T.g_FIRST_YEAR) (pe_op op_fdiv (pe_op op_mul (pv 0) (pe_gint T.g_ROUND_YEARS)) (pe_gint T.g_ROUND_DAYS))) pe_int))
      (pss_consN (ps_while PassesOwn.never (pt_cmpR op_le (pe_fn D_new_year hr (pa_cons (pe_op op_add (pv 1) pe_int) pa_nil)) (pv 0) (nomark _))
      (pss_one (ps_set (i := 1) sc_year_of.nd rfl (by first | exact Or.inl rfl | exact Or.inr rfl) (pe_op op_add (pv 1) pe_int))))
      (pss_one (ps_ret (pv 1))))), ?_⟩
  walk_at "rd"
  refine ⟨fun n σ H' => H = H' ∧ ∃ y, σ = [some (.int d), some (.int y)] ∧ Cal.ny y ≤ d ∧ n = (d - Cal.ny y).toNat, ⟨_, rfl, _, rfl, Cal.year_guess, rfl⟩, ?_⟩
  rintro n σ H' ⟨rfl, y, rfl, hy, rfl⟩
  walk_at "rd"
  · refine ⟨_, fun σ' H' z => z, ?_⟩
    walk_at "rd"
    have e := Cal.ny_succ y
    have l := Cal.lp_01 y
    exact ⟨_, by omega, rfl, _, rfl, by assumption, rfl⟩
  · exact h y hy (by omega)
--@ _law_month_size
theorem mon_at {y m : Int} (h1 : 1 ≤ m) (h2 : m ≤ 12) : atI [V.int 31, .int (28 + Cal.lp y), .int 31, .int 30, .int 31, .int 30, .int 31, .int 31, .int 30, .int 31, .int 30, .int 31] (m - 1) = some (.int (Cal.mlen y m)) := by
  rcases (show m = 1 ∨ m = 2 ∨ m = 3 ∨ m = 4 ∨ m = 5 ∨ m = 6 ∨ m = 7 ∨ m = 8 ∨ m = 9 ∨ m = 10 ∨ m = 11 ∨ m = 12 by omega) with e | e | e | e | e | e | e | e | e | e | e | e <;> subst e <;> rfl
def sp__law_month_size (K : PySem.W.Frag) : Sp := fun vs H Q _ => ∃ y m, vs = [.int y, .int m] ∧ 1 ≤ m ∧ m ≤ 12 ∧ Q (.int (Cal.mlen y m)) H
theorem sc__law_month_size : FnScope ["_law_year", "_law_month"] ["_law_year", "_law_month"] (defScope s__law_month_size) := ⟨rfl, rfl, rfl, by decide +kernel, rfl, by decide +kernel, by decide +kernel⟩
theorem d__law_month_size (S : Src K mg "_law_month_size" s__law_month_size ["_law_year", "_law_month"]) (T : Txt K mg) (D__law_leap : Def P w K mg base 1 "_law_leap" ["_law_year"] (sp__law_leap K)) : Def P w K mg base 2 "_law_month_size" ["_law_year", "_law_month"] (sp__law_month_size K) := by
  refine S.okF sc__law_month_size (fun vs H Q E h => ?_) (fun f cdv A outer s H vs Q E hr h => ?_)
  · obtain ⟨y, m, rfl, h1, h2, h⟩ := h
    rfl
  obtain ⟨y, m, rfl, h1, h2, h⟩ := h
  refine ⟨_, (pss_one (ps_ret (pe_ix ix_list (pe_lst (pa_cons pe_int (pa_cons (pe_op op_add pe_int (pe_callTy call_int1 rfl T.n_int PyProof.Rows.boot_int (pa_cons (pe_fn D__law_leap hr (pa_cons (pv 0) pa_nil)) pa_nil))) (pa_cons pe_int (pa_cons pe_int (pa_cons pe_int (pa_cons pe_int (pa_cons pe_int (pa_cons pe_int (pa_cons pe_int (pa_cons pe_int (pa_cons pe_int (pa_cons pe_int pa_nil))))))))))))) (pe_op op_sub (pv 1) pe_int) (fun _ _ => rfl)))), ?_⟩
  walk_at "rd"
  refine .inr ⟨_, rfl, ?_⟩
  walk_at "rd"
  intro p np
  walk_at "rd"
  refine ⟨p, _, _, _, rfl, rfl, SqL.of upd_same, mon_at (y := y) h1 h2, ?_⟩
  exact ⟨same_new np _, h⟩
--@ _law_shown
noncomputable def shown (y m d : Int) : Str := Str.ofString (toString y) ++ Str.ofString "-" ++ two m ++ Str.ofString "-" ++ two d
theorem len_y {y : Int} (h0 : 0 ≤ y) (h1 : y < 10000) : (Str.ofString (toString y)).length ≤ 5 := by
  have := int_text_length_le10 (a := y) (k := 4) (by decide) (by omega)
  rw [ofString_length]
  exact this
def sp__law_shown (K : PySem.W.Frag) : Sp := fun vs H Q _ => L2.Ee4 fun a y m d => L2.Aa4 (vs = [.ref a]) (SqT K H a [.int y, .int m, .int d]) (((0 ≤ y ∧ y < 10000) ∧ (0 ≤ m ∧ m ≤ 99) ∧ (0 ≤ d ∧ d ≤ 99))) (Q (.str (shown y m d)) H)
theorem sc__law_shown : FnScope ["_law_date_here"] ["_law_date_here"] (defScope s__law_shown) := ⟨rfl, rfl, rfl, by decide +kernel, rfl, by decide +kernel, by decide +kernel⟩
theorem d__law_shown (S : Src K mg "_law_shown" s__law_shown ["_law_date_here"]) (T : Txt K mg) (D__law_two : Def P w K mg base 1 "_law_two" ["_law_number"] (sp__law_two K)) : Def P w K mg base 2 "_law_shown" ["_law_date_here"] (sp__law_shown K) := by
  refine S.ok sc__law_shown (fun vs H Q E h => ?_) (fun f cdv A outer s H vs Q E hr h => ?_)
  · obtain ⟨a, y, m, d, rfl, hT, ⟨⟨y0, y1⟩, ⟨m0, m1⟩, ⟨d0, d1⟩⟩, h⟩ := h
    rfl
  obtain ⟨a, y, m, d, rfl, hT, ⟨⟨y0, y1⟩, ⟨m0, m1⟩, ⟨d0, d1⟩⟩, h⟩ := h
  refine ⟨_, (pss_one (ps_ret (pe_op op_add_str (pe_op op_add_str (pe_op op_add_str (pe_op op_add_str (pe_callTy call_str_int rfl T.n_str PyProof.Rows.boot_str (pa_cons (pe_ix ix_tup (pv 0) pe_int (fun _ _ => rfl)) pa_nil)) pe_str) (pe_fn D__law_two hr (pa_cons (pe_ix ix_tup (pv 0) pe_int (fun _ _ => rfl)) pa_nil))) pe_str) (pe_fn D__law_two hr (pa_cons (pe_ix ix_tup (pv 0) pe_int (fun _ _ => rfl)) pa_nil))))), ?_⟩
  have sz := sizeLine_eq
  walk_at "rd"
  refine ⟨a, _, _, _, rfl, rfl, hT, rfl, ?_⟩
  walk_at "rd"
  refine ⟨log2_small y0 (by omega), ?_⟩
  walk_at "rd"
  have ly := len_y y0 y1
  have l1 : (Str.ofString "-").length = 1 := by decide +kernel
  have lt : ∀ n : Int, (two n).length = 2 := fun n => rfl
  refine ⟨by omega, ?_⟩
  walk_at "rd"
  refine ⟨a, _, _, _, rfl, rfl, hT, rfl, ?_⟩
  walk_at "rd"
  refine ⟨by rw [Str.length_append, lt]; omega, ?_⟩
  walk_at "rd"
  refine ⟨by rw [Str.length_append, Str.length_append, lt]; omega, ?_⟩
  walk_at "rd"
  refine ⟨a, _, _, _, rfl, rfl, hT, rfl, ?_⟩
  walk_at "rd"
  refine ⟨by rw [Str.length_append, Str.length_append, Str.length_append, lt, lt]; omega, ?_⟩
  exact h
--@ is_date
def dateV : V → V → V → Bool
  | .int y, .int m, .int d => decide (1 ≤ m) && decide (m ≤ 12) && decide (1 ≤ d) && decide (d ≤ Cal.mlen y m)
  | _, _, _ => false
theorem dateV_iff {y m d : Int} : dateV (.int y) (.int m) (.int d) = true ↔ Cal.IsDate y m d := by
  simp only [dateV, Bool.and_eq_true, decide_eq_true_eq]
  exact ⟨fun h => ⟨h.1.1.1, h.1.1.2, h.1.2, h.2⟩, fun h => ⟨⟨⟨h.1, h.2⟩, h.3⟩, h.4⟩⟩
theorem dateV_no1 {x y z : V} (h : ∀ i, x ≠ .int i) : dateV x y z = false := by
  cases x <;> first | rfl | exact absurd rfl (h _)
theorem dateV_no2 {x y z : V} (h : ∀ i, y ≠ .int i) : dateV x y z = false := by
  cases x <;> first | rfl | (cases y <;> first | rfl | exact absurd rfl (h _))
theorem dateV_no3 {x y z : V} (h : ∀ i, z ≠ .int i) : dateV x y z = false := by
  cases x <;> first | rfl | (cases y <;> first | rfl | (cases z <;> first | rfl | exact absurd rfl (h _)))
def sp_is_date (K : PySem.W.Frag) : Sp := fun vs H Q _ => L2.Ee6 fun x y z S T U => L2.Aa5 (vs = [x, y, z]) (IsKind K H x S) (IsKind K H y T) (IsKind K H z U) (Q (.bl (dateV x y z)) H)
theorem sc_is_date : FnScope ["year", "month", "day"] ["year", "month", "day"] (defScope s_is_date) := ⟨rfl, rfl, rfl, by decide +kernel, rfl, by decide +kernel, by decide +kernel⟩
theorem d_is_date (S : Src K mg "is_date" s_is_date ["year", "month", "day"]) (T : Txt K mg) (D_is_whole : Def P w K mg base 1 "is_whole" ["thing"] (sp_is_whole K)) (D_month_days : Def P w K mg base 2 "month_days" ["year", "month"] (sp_month_days K)) : Def P w K mg base 3 "is_date" ["year", "month", "day"] (sp_is_date K) := by
  refine S.ok sc_is_date (fun vs H Q E h => ?_) (fun f cdv A outer s H vs Q E hr h => ?_)
  · obtain ⟨x, y, z, Sk, Tk, Uk, rfl, kx, ky, kz, h⟩ := h
    rfl
  obtain ⟨x, y, z, Sk, Tk, Uk, rfl, kx, ky, kz, h⟩ := h
  refine ⟨_, (pss_consN (ps_if (pt_not (PW.pt (pw_and (pt_val (pe_fn D_is_whole hr (pa_cons (pv 0) pa_nil))) (pw_and (pt_val (pe_fn D_is_whole hr (pa_cons (pv 1) pa_nil))) (pw_and1 (pt_val (pe_fn D_is_whole hr (pa_cons (pv 2) pa_nil))))))))
      (pss_one (ps_ret pe_bl))
      pss_nil)
      (pss_one (ps_ret (pe_and (pe_chain op_le op_le pe_int (pv 1) pe_int) (pe_one (pe_chain op_le op_le pe_int (pv 2) (pe_fn D_month_days hr (pa_cons (pv 0) (pa_cons (pv 1) pa_nil))))))))), ?_⟩
  walk_at "rd"
  refine ⟨_, _, rfl, kx, ?_⟩
  walk_at "rd"
  · rename_i q1
    refine ⟨_, _, rfl, ky, ?_⟩
    walk_at "rd"
    · rename_i q2
      refine ⟨_, _, rfl, kz, ?_⟩
      walk_at "rd"
      · rename_i q3
        exact qb h (dateV_no3 fun i e => by subst e; simp [int_ty kz.1] at q3)
      · rename_i q3
        have e3 : Uk = "int" := by simpa using q3
        subst q1 q2 e3
        obtain ⟨i, rfl⟩ := ty_int kx.1
        obtain ⟨j, rfl⟩ := ty_int ky.1
        obtain ⟨k, rfl⟩ := ty_int kz.1
        walk_at "rd"
        · exact qb h (by simp [dateV, *])
        · exact qb h (by simp [dateV, *])
        · exact qb h (by simp [dateV, *])
        · exact qb h (by simp [dateV, *])
    · rename_i q2
      walk_at "rd"
      exact qb h (dateV_no2 fun i e => by subst e; exact q2 (int_ty ky.1))
  · rename_i q1
    walk_at "rd"
    exact qb h (dateV_no1 fun i e => by subst e; exact q1 (int_ty kx.1))
--@ date_of
def sp_date_of (K : PySem.W.Frag) : Sp := fun vs H Q _ => ∃ d, vs = [.int d] ∧ ∀ y m r p, Cal.IsDate y m r → Cal.num y m r = d → H p = none → Q (.ref p) (upd H p (.tup [.int y, .int m, .int r]))
theorem sc_date_of : FnScope ["day", "year", "month", "rest"] ["day"] (defScope s_date_of) := ⟨rfl, rfl, rfl, by decide +kernel, rfl, by decide +kernel, by decide +kernel⟩
theorem d_date_of (S : Src K mg "date_of" s_date_of ["day"]) (T : Txt K mg) (D_year_of : Def P w K mg base 2 "year_of" ["day"] (sp_year_of K)) (D_new_year : Def P w K mg base 1 "new_year" ["year"] (sp_new_year K)) (D_month_days : Def P w K mg base 2 "month_days" ["year", "month"] (sp_month_days K)) : Def P w K mg base 3 "date_of" ["day"] (sp_date_of K) := by
  refine S.ok sc_date_of (fun vs H Q E h => ?_) (fun f cdv A outer s H vs Q E hr h => ?_)
  · obtain ⟨d, rfl, h⟩ := h
    rfl
  obtain ⟨d, rfl, h⟩ := h
  refine ⟨_, (pss_consN (ps_set (i := 1) sc_date_of.nd rfl (by first | exact Or.inl rfl | exact Or.inr rfl) (pe_fn D_year_of hr (pa_cons (pv 0) pa_nil)))
      (pss_consN (ps_set (i := 2) sc_date_of.nd rfl (by first | exact Or.inl rfl | exact Or.inr rfl) pe_int)
      (pss_consN (ps_set (i := 3) sc_date_of.nd rfl (by first | exact Or.inl rfl | exact Or.inr rfl) (pe_op op_sub (pv 0) (pe_fn D_new_year hr (pa_cons (pv 1) pa_nil))))
      (pss_consN (ps_while PassesOwn.never (pt_cmpR op_ge (pv 3) (pe_fn D_month_days hr (pa_cons (pv 1) (pa_cons (pv 2) pa_nil))) (nomark _))
      (pss_consN (ps_set (i := 3) sc_date_of.nd rfl (by first | exact Or.inl rfl | exact Or.inr rfl) (pe_op op_sub (pv 3) (pe_fn D_month_days hr (pa_cons (pv 1) (pa_cons (pv 2) pa_nil)))))
      (pss_one (ps_set (i := 2) sc_date_of.nd rfl (by first | exact Or.inl rfl | exact Or.inr rfl) (pe_op op_add (pv 2) pe_int)))))
      (pss_one (ps_ret (pe_tup (pa_cons (pv 1) (pa_cons (pv 2) (pa_cons (pe_op op_add (pv 3) pe_int) pa_nil)))))))))), ?_⟩
  walk_at "rd"
  intro y hy1 hy2
  walk_at "rd"
  have e := Cal.ny_succ y
  refine ⟨fun n σ H' => H = H' ∧ ∃ m r, σ = [some (.int d), some (.int y), some (.int m), some (.int r)] ∧ 1 ≤ m ∧ m ≤ 12 ∧ r = d - Cal.ny y - Cal.cum y m ∧ 0 ≤ r ∧ n = r.toNat, ⟨_, rfl, _, _, rfl, by decide, by decide, (by simp [Cal.cum]), by omega, rfl⟩, ?_⟩
  rintro n σ H' ⟨rfl, m, r, rfl, m1, m2, hr, r0, rfl⟩
  have b := @Cal.mlen_in y m m1 m2
  walk_at "rd"
  · refine ⟨_, fun σ' H' z => z, ?_⟩
    walk_at "rd"
    have c := @Cal.cum_in y m m1 m2
    have c12 := Cal.cum_12 y
    have m3 : m ≤ 11 := by
      by_cases q : m = 12
      · subst q; omega
      · omega
    have cs := @Cal.cum_succ y m m1 m3
    exact ⟨_, by omega, rfl, _, _, rfl, by omega, by omega, by omega, by omega, rfl⟩
  · intro p hp
    exact h _ _ _ p ⟨m1, m2, by omega, by omega⟩ (by unfold Cal.num; omega) hp
--@ _law_date
def sp__law_date (K : PySem.W.Frag) : Sp := fun vs H Q _ => ∃ d, vs = [.int d] ∧ 0 ≤ d ∧ ∀ y m r p, Cal.IsDate y m r → Cal.num y m r = d → H p = none → Q (.ref p) (upd H p (.tup [.int y, .int m, .int r]))
theorem sc__law_date : FnScope ["_law_day_here", "_law_year", "_law_rest", "_law_month"] ["_law_day_here"] (defScope s__law_date) := ⟨rfl, rfl, rfl, by decide +kernel, rfl, by decide +kernel, by decide +kernel⟩
theorem d__law_date (S : Src K mg "_law_date" s__law_date ["_law_day_here"]) (T : Txt K mg) (D__law_leap : Def P w K mg base 1 "_law_leap" ["_law_year"] (sp__law_leap K)) (D__law_month_size : Def P w K mg base 2 "_law_month_size" ["_law_year", "_law_month"] (sp__law_month_size K)) : Def P w K mg base 3 "_law_date" ["_law_day_here"] (sp__law_date K) := by
  refine S.ok sc__law_date (fun vs H Q E h => ?_) (fun f cdv A outer s H vs Q E hr h => ?_)
  · obtain ⟨d, rfl, h0, h⟩ := h
    rfl
  obtain ⟨d, rfl, h0, h⟩ := h
  refine ⟨_, (pss_consN (ps_set (i := 1) sc__law_date.nd rfl (by first | exact Or.inl rfl | exact Or.inr rfl) (pe_op op_add pe_int (pe_op op_mul (pe_op op_fdiv (pv 0) pe_int) pe_int)))
      (pss_consN (ps_set (i := 2) sc__law_date.nd rfl (by first | exact Or.inl rfl | exact Or.inr rfl) (pe_op op_mod (pv 0) pe_int))
      (pss_consN (ps_while PassesOwn.never (pt_cmpR op_ge (pv 2) (pe_op op_add pe_int (pe_callTy call_int1 rfl T.n_int PyProof.Rows.boot_int (pa_cons (pe_fn D__law_leap hr (pa_cons (pv 1) pa_nil)) pa_nil))) (nomark _))
      (pss_consN (ps_set (i := 2) sc__law_date.nd rfl (by first | exact Or.inl rfl | exact Or.inr rfl) (pe_op op_sub (pe_op op_sub (pv 2) pe_int) (pe_callTy call_int1 rfl T.n_int PyProof.Rows.boot_int (pa_cons (pe_fn D__law_leap hr (pa_cons (pv 1) pa_nil)) pa_nil))))
      (pss_one (ps_set (i := 1) sc__law_date.nd rfl (by first | exact Or.inl rfl | exact Or.inr rfl) (pe_op op_add (pv 1) pe_int)))))
      (pss_consN (ps_set (i := 3) sc__law_date.nd rfl (by first | exact Or.inl rfl | exact Or.inr rfl) pe_int)
      (pss_consN (ps_while PassesOwn.never (pt_cmpR op_ge (pv 2) (pe_fn D__law_month_size hr (pa_cons (pv 1) (pa_cons (pv 3) pa_nil))) (nomark _))
      (pss_consN (ps_set (i := 2) sc__law_date.nd rfl (by first | exact Or.inl rfl | exact Or.inr rfl) (pe_op op_sub (pv 2) (pe_fn D__law_month_size hr (pa_cons (pv 1) (pa_cons (pv 3) pa_nil)))))
      (pss_one (ps_set (i := 3) sc__law_date.nd rfl (by first | exact Or.inl rfl | exact Or.inr rfl) (pe_op op_add (pv 3) pe_int)))))
      (pss_one (ps_ret (pe_tup (pa_cons (pv 1) (pa_cons (pv 3) (pa_cons (pe_op op_add (pv 2) pe_int) pa_nil))))))))))), ?_⟩
  have lpd : ∀ y : Int, (if Cal.leap y = true then (1 : Int) else 0) = Cal.lp y := fun y => rfl
  walk_at "rd"
  refine ⟨fun n σ H' => H = H' ∧ ∃ y r : Int, σ = [some (.int d), some (.int y), some (.int r), none] ∧ Cal.ny y + r = d ∧ 0 ≤ r ∧ n = r.toNat, ⟨_, rfl, _, _, rfl, ?_, by omega, rfl⟩, ?_⟩
  · unfold Cal.ny
    omega
  rintro n σ H' ⟨rfl, y, r, rfl, e1, r0, rfl⟩
  have e := Cal.ny_succ y
  have l := Cal.lp_01 y
  walk_at "rd"
  refine .inr ⟨_, rfl, ?_⟩
  rw [lpd]
  walk_at "rd"
  · rename_i q
    refine ⟨_, fun σ' H' z => z, ?_⟩
    walk_at "rd"
    refine .inr ⟨_, rfl, ?_⟩
    rw [lpd]
    walk_at "rd"
    exact ⟨(r - 365 - Cal.lp y).toNat, by omega, rfl, _, _, rfl, by omega, by omega, rfl⟩
  rename_i q
  refine ⟨fun n σ H' => H = H' ∧ ∃ m r : Int, σ = [some (.int d), some (.int y), some (.int r), some (.int m)] ∧ 1 ≤ m ∧ m ≤ 12 ∧ r = d - Cal.ny y - Cal.cum y m ∧ 0 ≤ r ∧ n = r.toNat, ⟨_, rfl, _, _, rfl, by decide, by decide, (by simp [Cal.cum]; omega), by omega, rfl⟩, ?_⟩
  rintro n σ H' ⟨rfl, m, r', rfl, m1, m2, hr, r0', rfl⟩
  have b := @Cal.mlen_in y m m1 m2
  walk_at "rd"
  · refine ⟨_, fun σ' H' z => z, ?_⟩
    walk_at "rd"
    have c := @Cal.cum_in y m m1 m2
    have c12 := Cal.cum_12 y
    have m3 : m ≤ 11 := by
      by_cases q : m = 12
      · subst q; omega
      · omega
    have cs := @Cal.cum_succ y m m1 m3
    exact ⟨(r' - Cal.mlen y m).toNat, by omega, rfl, _, _, rfl, by omega, by omega, by omega, by omega, rfl⟩
  · intro p hp
    exact h _ _ _ p ⟨m1, m2, by omega, by omega⟩ (by unfold Cal.num; omega) hp
--@ _law_day
theorem ny_cyc (c : Int) : Cal.ny (2000 + 400 * c) = c * 146097 := by
  unfold Cal.ny
  omega
def sp__law_day (K : PySem.W.Frag) : Sp := fun vs H Q _ => ∃ y m d, vs = [.int y, .int m, .int d] ∧ (2000 ≤ y ∧ y ≤ 9999) ∧ (1 ≤ m ∧ m ≤ 12) ∧ Q (.int (Cal.num y m d)) H
theorem sc__law_day : FnScope ["_law_year", "_law_month", "_law_at", "_law_cycles", "_law_found", "_law_other", "_law_k"] ["_law_year", "_law_month", "_law_at"] (defScope s__law_day) := ⟨rfl, rfl, rfl, by decide +kernel, rfl, by decide +kernel, by decide +kernel⟩
theorem d__law_day (S : Src K mg "_law_day" s__law_day ["_law_year", "_law_month", "_law_at"]) (T : Txt K mg) (D__law_leap : Def P w K mg base 1 "_law_leap" ["_law_year"] (sp__law_leap K)) (D__law_month_size : Def P w K mg base 2 "_law_month_size" ["_law_year", "_law_month"] (sp__law_month_size K)) : Def P w K mg base 3 "_law_day" ["_law_year", "_law_month", "_law_at"] (sp__law_day K) := by
  refine S.okF sc__law_day (fun vs H Q E h => ?_) (fun f cdv A outer s H vs Q E hr h => ?_)
  · obtain ⟨y, m, d, rfl, ⟨y0, y1⟩, ⟨m0, m1⟩, h⟩ := h
    rfl
  obtain ⟨y, m, d, rfl, ⟨y0, y1⟩, ⟨m0, m1⟩, h⟩ := h
  refine ⟨_, (pss_consN (ps_set (i := 3) sc__law_day.nd rfl (by first | exact Or.inl rfl | exact Or.inr rfl) (pe_op op_fdiv (pe_op op_sub (pv 0) pe_int) pe_int))
      (pss_consN (ps_set (i := 4) sc__law_day.nd rfl (by first | exact Or.inl rfl | exact Or.inr rfl) (pe_op op_mul (pv 3) pe_int))
      (pss_consN (ps_for PassesOwn.never rfl (pi_range2 rfl T.n_range (pa_cons (pe_op op_add pe_int (pe_op op_mul pe_int (pv 3))) (pa_cons (pv 0) pa_nil))) (pg_name (i := 5) sc__law_day.nd rfl (by first | exact Or.inl rfl | exact Or.inr rfl))
      (pss_one (ps_set (i := 4) sc__law_day.nd rfl (by first | exact Or.inl rfl | exact Or.inr rfl) (pe_op op_add (pe_op op_add (pv 4) pe_int) (pe_callTy call_int1 rfl T.n_int PyProof.Rows.boot_int (pa_cons (pe_fn D__law_leap hr (pa_cons (pv 5) pa_nil)) pa_nil))))))
      (pss_consN (ps_for PassesOwn.never rfl (pi_range2 rfl T.n_range (pa_cons pe_int (pa_cons (pv 1) pa_nil))) (pg_name (i := 6) sc__law_day.nd rfl (by first | exact Or.inl rfl | exact Or.inr rfl))
      (pss_one (ps_set (i := 4) sc__law_day.nd rfl (by first | exact Or.inl rfl | exact Or.inr rfl) (pe_op op_add (pv 4) (pe_fn D__law_month_size hr (pa_cons (pv 0) (pa_cons (pv 6) pa_nil)))))))
      (pss_one (ps_ret (pe_op op_sub (pe_op op_add (pv 4) (pv 2)) pe_int))))))), ?_⟩
  have sz := sizeLine_eq
  walk_at "rd"
  refine for_range (fun i σ H' => H' = H ∧ ∃ z5 z6 : Option V, σ = [some (.int y), some (.int m), some (.int d), some (.int ((y - 2000) / 400)), some (.int (Cal.ny (2000 + 400 * ((y - 2000) / 400) + i))), z5, z6]) ⟨rfl, none, none, ?_⟩ ?_ ?_
  · rw [show (2000 + 400 * ((y - 2000) / 400) + ((0 : Nat) : Int)) = 2000 + 400 * ((y - 2000) / 400) by omega, ny_cyc]
    rfl
  · rintro i σ H' hi ⟨eH, z5, z6, rfl⟩
    subst eH
    walk_at "rd"
    refine .inr ⟨_, rfl, ?_⟩
    walk_at "rd"
    have q := Cal.ny_succ (2000 + 400 * ((y - 2000) / 400) + (i : Int))
    rw [show (2000 + 400 * ((y - 2000) / 400) + ((i + 1 : Nat) : Int)) = 2000 + 400 * ((y - 2000) / 400) + (i : Int) + 1 by omega, q]
    exact ⟨_, _, rfl⟩
  · rintro σ H' ⟨eH, z5, z6, rfl⟩
    subst eH
    have ey : (2000 + 400 * ((y - 2000) / 400) + (((y - (2000 + 400 * ((y - 2000) / 400))).toNat : Nat) : Int)) = y := by omega
    rw [ey]
    walk_at "rd"
    refine for_range (fun i σ H2 => H2 = H' ∧ ∃ z5 z6 : Option V, σ = [some (.int y), some (.int m), some (.int d), some (.int ((y - 2000) / 400)), some (.int (Cal.ny y + Cal.cum y (1 + i))), z5, z6]) ⟨rfl, z5, z6, ?_⟩ ?_ ?_
    · rw [show Cal.cum y (1 + ((0 : Nat) : Int)) = 0 from rfl, Int.add_zero]
    · rintro i σ H2 hi ⟨eH, z7, z8, rfl⟩
      subst eH
      have q := @Cal.cum_succ y (1 + (i : Int)) (by omega) (by omega)
      walk_at "rd"
      rw [show (1 + ((i + 1 : Nat) : Int)) = 1 + (i : Int) + 1 by omega, q, ← Int.add_assoc]
      exact ⟨_, _, rfl⟩
    · rintro σ H2 ⟨eH, z7, z8, rfl⟩
      subst eH
      have em : (1 + (((m - 1).toNat : Nat) : Int)) = m := by omega
      rw [em]
      walk_at "rd"
      exact ⟨Same.refl _, h⟩
--@ _law_bent
def sp__law_bent (K : PySem.W.Frag) : Sp := fun vs H Q _ => L2.Ee9 fun a px y m d x0 x1 x2 x3 => L2.Aa6 (vs = [.ref a, .ref px]) (H a = some (.tup [.int y, .int m, .int d])) (((0 ≤ y ∧ y < 10000) ∧ (0 ≤ m ∧ m ≤ 99) ∧ (0 ≤ d ∧ d ≤ 99))) (H px = some (.lst ([x0, x1, x2, x3].map V.int))) ((0 ≤ x0 ∧ 0 ≤ x1 ∧ 0 ≤ x2)) (∀ (z : Str) H', Same H H' → z.length ≤ 1000 → Q (.str z) H')
theorem sc__law_bent : FnScope ["_law_date_here", "_law_xs", "_law_text", "_law_at", "_law_sign", "_law_way"] ["_law_date_here", "_law_xs"] (defScope s__law_bent) := ⟨rfl, rfl, rfl, by decide +kernel, rfl, by decide +kernel, by decide +kernel⟩
theorem d__law_bent (S : Src K mg "_law_bent" s__law_bent ["_law_date_here", "_law_xs"]) (T : Txt K mg) (D__law_shown : Def P w K mg base 2 "_law_shown" ["_law_date_here"] (sp__law_shown K)) (D__law_two : Def P w K mg base 1 "_law_two" ["_law_number"] (sp__law_two K)) : Def P w K mg base 3 "_law_bent" ["_law_date_here", "_law_xs"] (sp__law_bent K) := by
  refine S.ok sc__law_bent (fun vs H Q E h => ?_) (fun f cdv A outer s H vs Q E hr h => ?_)
  · obtain ⟨a, px, y, m, d, x0, x1, x2, x3, rfl, ea, bd, ex, ⟨n0, n1, n2⟩, h⟩ := h
    rfl
  obtain ⟨a, px, y, m, d, x0, x1, x2, x3, rfl, ea, bd, ex, ⟨n0, n1, n2⟩, h⟩ := h
  refine ⟨_, (pss_consN (ps_set (i := 2) sc__law_bent.nd rfl (by first | exact Or.inl rfl | exact Or.inr rfl) (pe_fn D__law_shown hr (pa_cons (pv 0) pa_nil)))
      (pss_consN (ps_set (i := 3) sc__law_bent.nd rfl (by first | exact Or.inl rfl | exact Or.inr rfl) (pe_op op_mod (pe_ix ix_list (pv 1) pe_int (fun _ _ => rfl)) (pe_op op_add (pe_callB call_len rfl T.n_len PySem.boot_len (pa_cons (pv 2) pa_nil)) pe_int)))
      (pss_consN (ps_set (i := 4) sc__law_bent.nd rfl (by first | exact Or.inl rfl | exact Or.inr rfl) (pe_item_str pe_str (pe_op op_mod (pe_ix ix_list (pv 1) pe_int (fun _ _ => rfl)) pe_int) (fun _ _ => rfl)))
      (pss_consN (ps_set (i := 5) sc__law_bent.nd rfl (by first | exact Or.inl rfl | exact Or.inr rfl) (pe_op op_mod (pe_ix ix_list (pv 1) pe_int (fun _ _ => rfl)) pe_int))
      (pss_consN (ps_if (pt_cmpR op_eq (pv 5) pe_int (nomark _))
      (pss_one (ps_ret (pe_op op_add_str (pe_op op_add_str (pe_slice sl_strE (pv 2) po_none (po_some (pv 3))) (pv 4)) (pe_slice sl_strE (pv 2) (po_some (pv 3)) po_none))))
      pss_nil)
      (pss_consN (ps_if (pt_cmpR op_eq (pv 5) pe_int (nomark _))
      (pss_one (ps_ret (pe_op op_add_str (pe_slice sl_strE (pv 2) po_none (po_some (pv 3))) (pe_slice sl_strE (pv 2) (po_some (pe_op op_add (pv 3) pe_int)) po_none))))
      pss_nil)
      (pss_consN (ps_if (pt_cmpR op_eq (pv 5) pe_int (nomark _))
      (pss_one (ps_ret (pe_op op_add_str (pe_op op_add_str (pe_slice sl_strE (pv 2) po_none (po_some (pv 3))) (pv 4)) (pe_slice sl_strE (pv 2) (po_some (pe_op op_add (pv 3) pe_int)) po_none))))
      pss_nil)
      (pss_consN (ps_if (pt_cmpR op_eq (pv 5) pe_int (nomark _))
      (pss_one (ps_ret (pe_fn D__law_shown hr (pa_cons (pe_tup (pa_cons (pe_ix ix_tup (pv 0) pe_int (fun _ _ => rfl)) (pa_cons (pe_op op_mod (pe_ix ix_list (pv 1) pe_int (fun _ _ => rfl)) pe_int) (pa_cons (pe_ix ix_tup (pv 0) pe_int (fun _ _ => rfl)) pa_nil)))) pa_nil))))
      pss_nil)
      (pss_consN (ps_if (pt_cmpR op_eq (pv 5) pe_int (nomark _))
      (pss_one (ps_ret (pe_fn D__law_shown hr (pa_cons (pe_tup (pa_cons (pe_ix ix_tup (pv 0) pe_int (fun _ _ => rfl)) (pa_cons (pe_ix ix_tup (pv 0) pe_int (fun _ _ => rfl)) (pa_cons (pe_op op_mod (pe_ix ix_list (pv 1) pe_int (fun _ _ => rfl)) pe_int) pa_nil)))) pa_nil))))
      pss_nil)
      (pss_consN (ps_if (pt_cmpR op_eq (pv 5) pe_int (nomark _))
      (pss_one (ps_ret (pe_fn D__law_shown hr (pa_cons (pe_tup (pa_cons (pe_ix ix_list (pe_lst (pa_cons pe_int (pa_cons pe_int (pa_cons pe_int (pa_cons pe_int (pa_cons pe_int (pa_cons pe_int (pa_cons pe_int pa_nil)))))))) (pe_op op_mod (pe_ix ix_list (pv 1) pe_int (fun _ _ => rfl)) pe_int) (fun _ _ => rfl)) (pa_cons (pe_ix ix_tup (pv 0) pe_int (fun _ _ => rfl)) (pa_cons (pe_ix ix_tup (pv 0) pe_int (fun _ _ => rfl)) pa_nil)))) pa_nil))))
      pss_nil)
      (pss_consN (ps_if (pt_cmpR op_eq (pv 5) pe_int (nomark _))
      (pss_one (ps_ret (pe_bm PySem.F.plainAttrs_str PySem.F.slot_str_join PySem.F.type_str_join mt_join pe_str (pa_cons (pe_lst (pa_cons (pe_fn D__law_two hr (pa_cons (pe_ix ix_tup (pv 0) pe_int (fun _ _ => rfl)) pa_nil)) (pa_cons (pe_fn D__law_two hr (pa_cons (pe_ix ix_tup (pv 0) pe_int (fun _ _ => rfl)) pa_nil)) (pa_cons (pe_callTy call_str_int rfl T.n_str PyProof.Rows.boot_str (pa_cons (pe_ix ix_tup (pv 0) pe_int (fun _ _ => rfl)) pa_nil)) pa_nil)))) pa_nil))))
      pss_nil)
      (pss_one (ps_ret (pe_op op_add_str (pv 2) (pe_ix ix_list (pe_lst (pa_cons pe_str (pa_cons pe_str (pa_cons pe_str (pa_cons pe_str pa_nil))))) (pe_op op_mod (pe_ix ix_list (pv 1) pe_int (fun _ _ => rfl)) pe_int) (fun _ _ => rfl)))))))))))))))), ?_⟩
  have sz := sizeLine_eq
  obtain ⟨⟨y0, y1⟩, ⟨m0, m1⟩, ⟨d0, d1⟩⟩ := bd
  have ls : ∀ {y m d : Int}, 0 ≤ y → y < 10000 → (shown y m d).length ≤ 11 := fun {y m d} h0 h1 => by
    have := len_y h0 h1
    have l1 : (Str.ofString "-").length = 1 := by decide +kernel
    have lt : ∀ n : Int, (two n).length = 2 := fun n => rfl
    unfold shown
    rw [Str.length_append, Str.length_append, Str.length_append, Str.length_append, lt, lt, l1]
    omega
  have lz := ls (m := m) (d := d) y0 y1
  walk_at "rd"
  refine ⟨a, y, m, d, rfl, SqT.of ea, ⟨⟨y0, y1⟩, ⟨m0, m1⟩, ⟨d0, d1⟩⟩, ?_⟩
  generalize shown y m d = z at lz ⊢
  walk_at "rd"
  refine ⟨px, _, _, _, rfl, rfl, SqL.of ex, rfl, ?_⟩
  walk_at "rd"
  refine ⟨.str z, z.length, rfl, ⟨by omega, rfl⟩, ?_⟩
  walk_at "rd"
  refine ⟨px, _, _, _, rfl, rfl, SqL.of ex, rfl, ?_⟩
  have c0 := Int.emod_nonneg x1 (show (14 : Int) ≠ 0 by decide)
  have c1 := Int.emod_lt_of_pos x1 (show (0 : Int) < 14 by decide)
  obtain ⟨k, hk⟩ := Int.eq_ofNat_of_zero_le c0
  obtain ⟨c, hc⟩ : ∃ c, (Str.ofString "0123456789-/ a").cps[k]? = some c := by
    have : k < 14 := by omega
    have e : (Str.ofString "0123456789-/ a").cps.size = 14 := by decide +kernel
    exact ⟨_, Array.getElem?_eq_getElem (by omega)⟩
  walk_at "rd"
  have sl : ∀ l u, (Txt.slice z l u).length ≤ 11 := fun l u => Nat.le_trans (Txt.slice_le z l u) lz
  have cl : (⟨#[c]⟩ : Str).length = 1 := rfl
  have e14 : (Str.ofString "0123456789-/ a").length = 14 := by decide +kernel
  refine ⟨_, x1 % 14, c, rfl, rfl, c0, by omega, by rw [e14]; exact c1, by rw [hk]; exact hc, ?_⟩
  walk_at "rd"
  refine ⟨px, _, _, _, rfl, rfl, SqL.of ex, rfl, ?_⟩
  walk_at "rd"
  · have s1 := sl none (some (x0 % (z.length + 1)))
    refine ⟨by rw [cl]; omega, ?_⟩
    walk_at "rd"
    have s2 := sl (some (x0 % (z.length + 1))) none
    refine ⟨by rw [Str.length_append, cl]; omega, ?_⟩
    exact h _ _ (Same.refl _) (by rw [Str.length_append, Str.length_append, cl]; omega)
  · have s1 := sl none (some (x0 % (z.length + 1)))
    have s2 := sl (some (x0 % (z.length + 1) + 1)) none
    refine ⟨by omega, ?_⟩
    exact h _ _ (Same.refl _) (by rw [Str.length_append]; omega)
  · have s1 := sl none (some (x0 % (z.length + 1)))
    refine ⟨by rw [cl]; omega, ?_⟩
    walk_at "rd"
    have s2 := sl (some (x0 % (z.length + 1) + 1)) none
    refine ⟨by rw [Str.length_append, cl]; omega, ?_⟩
    exact h _ _ (Same.refl _) (by rw [Str.length_append, Str.length_append, cl]; omega)
  · refine ⟨px, _, _, _, rfl, rfl, SqL.of ex, rfl, ?_⟩
    walk_at "rd"
    have b0 := Int.emod_nonneg x0 (show (14 : Int) ≠ 0 by decide)
    have b1 := Int.emod_lt_of_pos x0 (show (0 : Int) < 14 by decide)
    intro t nt
    have st := same_new nt (.tup [.int y, .int (x0 % 14), .int d])
    have et := at_new (.tup [.int y, .int (x0 % 14), .int d]) nt
    walk_at "rd"
    refine ⟨t, y, x0 % 14, d, rfl, SqT.of et, ⟨⟨y0, y1⟩, ⟨by omega, by omega⟩, ⟨d0, d1⟩⟩, ?_⟩
    have := ls (m := x0 % 14) (d := d) y0 y1
    exact h _ _ st (by omega)
  · refine ⟨px, _, _, _, rfl, rfl, SqL.of ex, rfl, ?_⟩
    walk_at "rd"
    have b0 := Int.emod_nonneg x0 (show (33 : Int) ≠ 0 by decide)
    have b1 := Int.emod_lt_of_pos x0 (show (0 : Int) < 33 by decide)
    intro t nt
    have st := same_new nt (.tup [.int y, .int m, .int (x0 % 33)])
    have et := at_new (.tup [.int y, .int m, .int (x0 % 33)]) nt
    walk_at "rd"
    refine ⟨t, y, m, x0 % 33, rfl, SqT.of et, ⟨⟨y0, y1⟩, ⟨m0, m1⟩, ⟨by omega, by omega⟩⟩, ?_⟩
    have := ls (m := m) (d := x0 % 33) y0 y1
    exact h _ _ st (by omega)
  · intro l nl
    have s1 := same_new nl (.lst [.int 1999, .int 4737, .int 4738, .int 9999, .int 2100, .int 2000, .int 2400])
    have e1 := at_new (.lst [.int 1999, .int 4737, .int 4738, .int 9999, .int 2100, .int 2000, .int 2400]) nl
    have ex1 := s1 _ _ ex
    have ea1 := s1 _ _ ea
    walk_at "rd"
    refine ⟨px, _, _, _, rfl, rfl, SqL.of ex1, rfl, ?_⟩
    have b0 := Int.emod_nonneg x0 (show (7 : Int) ≠ 0 by decide)
    have b1 := Int.emod_lt_of_pos x0 (show (0 : Int) < 7 by decide)
    obtain ⟨v, hv, hm⟩ := at_mem (xs := [.int 1999, .int 4737, .int 4738, .int 9999, .int 2100, .int 2000, .int 2400]) b0 (by simpa using b1)
    obtain ⟨yy, rfl, q0, q1⟩ : ∃ w : Int, v = .int w ∧ 0 ≤ w ∧ w < 10000 := by
      simp only [List.mem_cons, List.not_mem_nil, or_false] at hm
      rcases hm with rfl | rfl | rfl | rfl | rfl | rfl | rfl <;> exact ⟨_, rfl, by decide, by decide⟩
    walk_at "rd"
    refine ⟨l, _, _, _, rfl, rfl, SqL.of e1, hv, ?_⟩
    clear hv hm
    walk_at "rd"
    intro t nt
    have st := same_new nt (.tup [.int yy, .int m, .int d])
    have et := at_new (.tup [.int yy, .int m, .int d]) nt
    walk_at "rd"
    refine ⟨t, yy, m, d, rfl, SqT.of et, ⟨⟨q0, q1⟩, ⟨m0, m1⟩, ⟨d0, d1⟩⟩, ?_⟩
    have := ls (m := m) (d := d) q0 q1
    exact h _ _ (s1.trans st) (by omega)
  · refine ⟨log2_small y0 (by omega), ?_⟩
    walk_at "rd"
    intro l nl
    have s1 := same_new nl (.lst ([two m, two d, Str.ofString (toString y)].map V.str))
    have el := at_new (.lst ([two m, two d, Str.ofString (toString y)].map V.str)) nl
    have ly := len_y y0 y1
    have l1 : (Str.ofString "-").length = 1 := by decide +kernel
    have lt : ∀ n : Int, (two n).length = 2 := fun n => rfl
    walk_at "rd"
    refine ⟨_, l, [two m, two d, Str.ofString (toString y)], rfl, rfl, SqL.of el, ?_, ?_⟩
    · show (two m).length + ((two d).length + ((Str.ofString (toString y)).length + 0)) + 3 * (Str.ofString "-").length ≤ 16777216
      rw [lt, lt, l1]
      omega
    · refine h _ _ s1 ?_
      show (two m ++ Str.ofString "-" ++ two d ++ Str.ofString "-" ++ Str.ofString (toString y)).length ≤ 1000
      rw [Str.length_append, Str.length_append, Str.length_append, Str.length_append, lt, lt, l1]
      omega
  · intro l nl
    have s1 := same_new nl (.lst [.str "-01", .str " ", .str "", .str "T"])
    have e1 := at_new (.lst [.str "-01", .str " ", .str "", .str "T"]) nl
    have ex1 := s1 _ _ ex
    walk_at "rd"
    refine ⟨px, _, _, _, rfl, rfl, SqL.of ex1, rfl, ?_⟩
    have b0 := Int.emod_nonneg x0 (show (4 : Int) ≠ 0 by decide)
    have b1 := Int.emod_lt_of_pos x0 (show (0 : Int) < 4 by decide)
    obtain ⟨v, hv, hm⟩ := at_mem (xs := [.str "-01", .str " ", .str "", .str "T"]) b0 (by simpa using b1)
    obtain ⟨w1, rfl, q0⟩ : ∃ w : Str, v = .str w ∧ w.length ≤ 3 := by
      simp only [List.mem_cons, List.not_mem_nil, or_false] at hm
      rcases hm with rfl | rfl | rfl | rfl <;> exact ⟨_, rfl, by decide +kernel⟩
    walk_at "rd"
    refine ⟨l, _, _, _, rfl, rfl, SqL.of e1, hv, ?_⟩
    clear hv hm
    walk_at "rd"
    exact h _ _ s1 (by rw [Str.length_append]; omega)
--@ day_of
theorem sum_mlen (y : Int) : ∀ n : Nat, n ≤ 11 → ((List.range n).map fun i : Nat => Cal.mlen y (1 + (i : Int))).sum = Cal.cum y ((n : Int) + 1)
  | 0, _ => by simp [Cal.cum]
  | n + 1, h => by
    have ih := sum_mlen y n (by omega)
    rw [List.range_succ, List.map_append, List.sum_append, ih]
    have cs := @Cal.cum_succ y ((n : Int) + 1) (by omega) (by omega)
    rw [show ((n + 1 : Nat) : Int) + 1 = (n : Int) + 1 + 1 by omega, cs]
    simp [Int.add_comm]
theorem xs_ints {xs : List V} {n : Nat} {f : Nat → Int} (hl : xs.length = n) (h : ∀ (j : Nat) (v : V), xs[j]? = some v → v = V.int (f j)) : xs = ((List.range n).map f).map V.int := by
  apply List.ext_getElem?
  intro j
  by_cases hj : j < n
  · have e : xs[j]? = some xs[j] := List.getElem?_eq_getElem (by omega)
    rw [e, h j _ e, List.getElem?_map, List.getElem?_map, List.getElem?_range hj]
    rfl
  · rw [List.getElem?_eq_none (by omega), List.getElem?_eq_none (by simp; omega)]
/-- the day of a date, if it is one -/
def dayV : V → V → V → Option Int
  | .int y, .int m, .int d => if dateV (.int y) (.int m) (.int d) = true ∧ 0 ≤ Cal.num y m d ∧ Cal.num y m d ≤ 999999 then some (Cal.num y m d) else none
  | _, _, _ => none
theorem dayV_no {x y z : V} (h : dateV x y z = false) : dayV x y z = none := by
  cases x <;> first | rfl | (cases y <;> first | rfl | (cases z <;> first | rfl | simp [dayV, h]))
theorem date_ints {x y z : V} (h : dateV x y z = true) : ∃ i j k, x = .int i ∧ y = .int j ∧ z = .int k := by
  cases x <;> first | cases h | (cases y <;> first | cases h | (cases z <;> first | cases h | exact ⟨_, _, _, rfl, rfl, rfl⟩))
theorem dayV_yes {y m d : Int} (h : dateV (.int y) (.int m) (.int d) = true) (n : 0 ≤ Cal.num y m d ∧ Cal.num y m d ≤ 999999) : dayV (.int y) (.int m) (.int d) = some (Cal.num y m d) := if_pos ⟨h, n⟩
theorem dayV_out {y m d : Int} (n : ¬ (0 ≤ Cal.num y m d ∧ Cal.num y m d ≤ 999999)) : dayV (.int y) (.int m) (.int d) = none := if_neg (fun q => n q.2)
def sp_day_of (K : PySem.W.Frag) : Sp := fun vs H Q E => L2.Ee6 fun x y z S T U => L2.Aa6 (vs = [x, y, z]) (IsKind K H x S) (IsKind K H y T) (IsKind K H z U) ((∀ n, dayV x y z = some n → Q (.int n) H)) ((dayV x y z = none → E (.ref (cA K "NoDay")) none H))
theorem sc_day_of : FnScope ["year", "month", "day", "months_ahead", "number"] ["year", "month", "day"] (defScope s_day_of) := ⟨rfl, rfl, rfl, by decide +kernel, rfl, by decide +kernel, by decide +kernel⟩
theorem d_day_of (S : Src K mg "day_of" s_day_of ["year", "month", "day"]) (T : Txt K mg) (D_is_date : Def P w K mg base 3 "is_date" ["year", "month", "day"] (sp_is_date K)) (D_month_days : Def P w K mg base 2 "month_days" ["year", "month"] (sp_month_days K)) (D_new_year : Def P w K mg base 1 "new_year" ["year"] (sp_new_year K)) (D_is_day : Def P w K mg base 2 "is_day" ["thing"] (sp_is_day K)) : DefC P w K mg base 4 "day_of" ["year", "month", "day"] (sp_day_of K) := by
  refine S.okXFc sc_day_of (fun vs H Q E h => ?_) (fun f cdv A outer s H vs Q E hr h => ?_)
  · obtain ⟨x, y, z, S1, S2, S3, rfl, kx, ky, kz, h, hE⟩ := h
    rfl
  obtain ⟨x, y, z, S1, S2, S3, rfl, kx, ky, kz, h, hE⟩ := h
  refine ⟨_, (pss_consN (ps_if (pt_not (pt_val (pe_fn D_is_date hr (pa_cons (pv 0) (pa_cons (pv 1) (pa_cons (pv 2) pa_nil))))))
      (pss_one (ps_raise (E := fun C d H' => Same H H' ∧ E C d H) T.m_NoDay T.x_NoDay (fun _ _ _ _ _ _ _ I hx hE => xe_madeC I hx hE) (pa_cons pe_str pa_nil)))
      pss_nil)
      (pss_consN (ps_setc (i := 3) sc_day_of.nd rfl rfl (ix := [0]) ⟨rfl, by decide +kernel, rfl, by decide +kernel, rfl, (show (["ahead", "year"] : List Str).Nodup by decide +kernel), by walk_at "cap", by walk_at "sub", by walk_at "has"⟩ (pi_range2 rfl T.n_range (pa_cons pe_int (pa_cons (pv 1) pa_nil))) (fun b => (pe_fn D_month_days hr (pa_cons (pv 1) (pa_cons (pv 0) pa_nil)))))
      (pss_consN (ps_set (i := 4) sc_day_of.nd rfl (by first | exact Or.inl rfl | exact Or.inr rfl) (pe_op op_sub (pe_op op_add (pe_op op_add (pe_fn D_new_year hr (pa_cons (pv 0) pa_nil)) (pe_callB (call_sumI rfl) rfl T.n_sum PyProof.Rows.boot_sum (pa_cons (pv 3) pa_nil))) (pv 2)) pe_int))
      (pss_consN (ps_if (pt_not (pt_val (pe_fn D_is_day hr (pa_cons (pv 4) pa_nil))))
      (pss_one (ps_raise (E := fun C d H' => Same H H' ∧ E C d H) T.m_NoDay T.x_NoDay (fun _ _ _ _ _ _ _ I hx hE => xe_madeC I hx hE) (pa_cons pe_str pa_nil)))
      pss_nil)
      (pss_one (ps_ret (pv 4))))))), ?_⟩
  walk_at "rd"
  refine ⟨_, _, _, _, _, _, rfl, kx, ky, kz, ?_⟩
  cases eq : dateV x y z with
  | false =>
    walk_at "rd"
    exact ⟨Same.refl _, hE (dayV_no eq)⟩
  | true =>
    obtain ⟨yy, m, d, rfl, rfl, rfl⟩ := date_ints eq
    have D := dateV_iff.mp eq
    have m1 := D.m1
    have m2 := D.m2
    walk_at "rd"
    intro l hl
    refine comp_range (fun i v => v = .int (Cal.mlen yy (1 + (i : Int)))) hl (by have := sizeLine_eq; omega) ?_ ?_
    · intro i H' Q' hi hs hq
      walk_at "rd"
      exact hq _ rfl
    · intro xs hx hp
      have ex := xs_ints hx hp
      walk_at "rd"
      refine ⟨_, ((List.range (m - 1).toNat).map fun i : Nat => Cal.mlen yy (1 + (i : Int))), rfl, SqL.of (by rw [← ex]; exact upd_same), ?_⟩
      have es := sum_mlen yy (m - 1).toNat (by omega)
      rw [show (((m - 1).toNat : Nat) : Int) + 1 = m by omega] at es
      rw [es]
      walk_at "rd"
      refine ⟨V.int (Cal.num yy m d), "int", rfl, ⟨.int _, by decide⟩, ?_⟩
      by_cases n0 : 0 ≤ Cal.num yy m d ∧ Cal.num yy m d ≤ 999999
      · have eb : dayB (.int (Cal.num yy m d)) = true := by simp [dayB, n0.1, n0.2]
        rw [eb]
        walk_at "rd"
        exact ⟨same_new hl _, h _ (dayV_yes eq n0)⟩
      · have eb : dayB (.int (Cal.num yy m d)) = false := by
          cases q : dayB (.int (Cal.num yy m d)) with
          | false => rfl
          | true => exact absurd (by simpa [dayB] using q) n0
        rw [eb]
        walk_at "rd"
        exact ⟨same_new hl _, hE (dayV_out n0)⟩
--@ show_date
theorem year_in {y m d : Int} (D : Cal.IsDate y m d) (h0 : 0 ≤ Cal.num y m d) (h1 : Cal.num y m d ≤ 999999) : (0 ≤ y ∧ y < 10000) ∧ (0 ≤ m ∧ m ≤ 99) ∧ (0 ≤ d ∧ d ≤ 99) := by
  have a := Cal.year_of_nn D h0
  have b := Cal.ny_mono a
  have m1 := D.m1
  have m2 := D.m2
  have c := Cal.cum_in (y := y) m1 m2
  have e := Cal.mlen_in (y := y) m1 m2
  have n0 := Cal.ny_0
  have d1 := D.d1
  have d2 := D.d2
  unfold Cal.num at h1
  omega
theorem join_shown (y m d : Int) : Txt.join (Str.ofString "-") [Str.ofString (toString y), two m, two d] = shown y m d := by
  unfold shown Txt.join
  rfl
def sp_show_date (K : PySem.W.Frag) : Sp := fun vs H Q _ => ∃ n, vs = [.int n] ∧ (0 ≤ n ∧ n ≤ 999999) ∧ ∀ y m d : Int, Cal.IsDate y m d → Cal.num y m d = n → Q (.str (shown y m d)) H
theorem sc_show_date : FnScope ["day", "date"] ["day"] (defScope s_show_date) := ⟨rfl, rfl, rfl, by decide +kernel, rfl, by decide +kernel, by decide +kernel⟩
theorem d_show_date (S : Src K mg "show_date" s_show_date ["day"]) (T : Txt K mg) (D_date_of : Def P w K mg base 3 "date_of" ["day"] (sp_date_of K)) (D_two_figures : Def P w K mg base 1 "two_figures" ["number"] (sp_two_figures K)) : Def P w K mg base 4 "show_date" ["day"] (sp_show_date K) := by
  refine S.okF sc_show_date (fun vs H Q E h => ?_) (fun f cdv A outer s H vs Q E hr h => ?_)
  · obtain ⟨n, rfl, ⟨n0, n1⟩, h⟩ := h
    rfl
  obtain ⟨n, rfl, ⟨n0, n1⟩, h⟩ := h
  refine ⟨_, (pss_consN (ps_set (i := 1) sc_show_date.nd rfl (by first | exact Or.inl rfl | exact Or.inr rfl) (pe_fn D_date_of hr (pa_cons (pv 0) pa_nil)))
      (pss_one (ps_ret (pe_bm PySem.F.plainAttrs_str PySem.F.slot_str_join PySem.F.type_str_join mt_join pe_str (pa_cons (pe_lst (pa_cons (pe_callTy call_str_int rfl T.n_str PyProof.Rows.boot_str (pa_cons (pe_ix ix_tup (pv 1) pe_int (fun _ _ => rfl)) pa_nil)) (pa_cons (pe_fn D_two_figures hr (pa_cons (pe_ix ix_tup (pv 1) pe_int (fun _ _ => rfl)) pa_nil)) (pa_cons (pe_fn D_two_figures hr (pa_cons (pe_ix ix_tup (pv 1) pe_int (fun _ _ => rfl)) pa_nil)) pa_nil)))) pa_nil))))), ?_⟩
  have sz := sizeLine_eq
  walk_at "rd"
  intro y m d p D e np
  have s1 := same_new np (.tup [.int y, .int m, .int d])
  have ep := at_new (.tup [.int y, .int m, .int d]) np
  generalize upd H p (.tup [.int y, .int m, .int d]) = H1 at s1 ep ⊢
  obtain ⟨⟨y0, y1⟩, ⟨m0, m1⟩, ⟨d0, d1⟩⟩ := year_in D (by omega) (by omega)
  have ly := len_y y0 y1
  have l1 : (Str.ofString "-").length = 1 := by decide +kernel
  have lt : ∀ n : Int, (two n).length = 2 := fun n => rfl
  walk_at "rd"
  refine ⟨log2_small y0 (by omega), ?_⟩
  walk_at "rd"
  intro l nl
  have s2 := same_new nl (.lst ([Str.ofString (toString y), two m, two d].map V.str))
  have el := at_new (.lst ([Str.ofString (toString y), two m, two d].map V.str)) nl
  walk_at "rd"
  refine ⟨_, l, [Str.ofString (toString y), two m, two d], rfl, rfl, SqL.of el, ?_, s1.trans s2, ?_⟩
  · show (Str.ofString (toString y)).length + ((two m).length + ((two d).length + 0)) + 3 * (Str.ofString "-").length ≤ 16777216
    rw [lt, lt, l1]
    omega
  · rw [join_shown]
    exact h y m d D e
--@ _law_due
/-- the day that a text tells, if it is a date -/
def dateT : V → Option Int
  | .str z => if z.cps.toList.length = 10 ∧ z.cps.toList[4]? = some 45 ∧ z.cps.toList[7]? = some 45 ∧ (z.cps.toList.take 4 ++ (z.cps.toList.drop 5).take 2 ++ z.cps.toList.drop 8).all figB = true then dayV (.int (fval (z.cps.toList.take 4))) (.int (fval ((z.cps.toList.drop 5).take 2))) (.int (fval (z.cps.toList.drop 8))) else none
  | _ => none
def dueV (x : V) : V := match dateT x with | some n => .int n | none => .non
/-- parts put together -/
def jn (c : Nat) : List (List Nat) → List Nat
  | [] => []
  | [p] => p
  | p :: q :: r => p ++ c :: jn c (q :: r)
theorem cut1 {c : Nat} : ∀ {p q x y : List Nat}, c ∉ p → c ∉ q → p ++ c :: x = q ++ c :: y → p = q ∧ x = y
  | [], [], x, y, _, _, h => by simpa using h
  | [], b :: q, x, y, _, hq, h => by
    injection h with h1 _
    exact absurd (by rw [h1]; exact List.mem_cons_self) hq
  | a :: p, [], x, y, hp, _, h => by
    injection h with h1 _
    exact absurd (by rw [← h1]; exact List.mem_cons_self) hp
  | a :: p, b :: q, x, y, hp, hq, h => by
    injection h with h1 h2
    obtain ⟨e1, e2⟩ := cut1 (fun z => hp (List.mem_cons_of_mem _ z)) (fun z => hq (List.mem_cons_of_mem _ z)) h2
    exact ⟨by rw [h1, e1], e2⟩
theorem jn_inj {c : Nat} : ∀ {ps qs : List (List Nat)}, ps ≠ [] → qs ≠ [] → (∀ p ∈ ps, c ∉ p) → (∀ q ∈ qs, c ∉ q) → jn c ps = jn c qs → ps = qs
  | [], _, h, _, _, _, _ => absurd rfl h
  | _, [], _, h, _, _, _ => absurd rfl h
  | [p], [q], _, _, _, _, h => by rw [show p = q from h]
  | [p], q :: q2 :: r, _, _, hp, _, h => absurd (by rw [show p = q ++ c :: jn c (q2 :: r) from h]; simp) (hp p List.mem_cons_self)
  | p :: p2 :: r, [q], _, _, _, hq, h => absurd (by rw [show q = p ++ c :: jn c (p2 :: r) from h.symm]; simp) (hq q List.mem_cons_self)
  | p :: p2 :: r, q :: q2 :: t, _, _, hp, hq, h => by
    obtain ⟨e1, e2⟩ := cut1 (hp p List.mem_cons_self) (hq q List.mem_cons_self) (show p ++ c :: jn c (p2 :: r) = q ++ c :: jn c (q2 :: t) from h)
    have z := jn_inj (ps := p2 :: r) (qs := q2 :: t) (by simp) (by simp) (fun x hx => hp x (List.mem_cons_of_mem _ hx)) (fun x hx => hq x (List.mem_cons_of_mem _ hx)) e2
    rw [e1, z]
theorem join_jn (c : Nat) : ∀ ps : List Str, (Str.join ⟨#[c]⟩ ps).cps.toList = jn c (ps.map fun p => p.cps.toList)
  | [] => rfl
  | [p] => rfl
  | p :: q :: r => by
    rw [show Str.join ⟨#[c]⟩ (p :: q :: r) = p ++ ⟨#[c]⟩ ++ Str.join ⟨#[c]⟩ (q :: r) from rfl]
    show ((p.cps ++ #[c]) ++ (Str.join ⟨#[c]⟩ (q :: r)).cps).toList = _
    rw [Array.toList_append, Array.toList_append, join_jn c (q :: r), List.append_assoc]
    rfl
theorem split_jn (c : Nat) (z : Str) : jn c ((Txt.split z ⟨#[c]⟩).map fun p => p.cps.toList) = z.cps.toList := by
  rw [← join_jn, PySem.StrLaws.join_split]
theorem split_ne (c : Nat) (z : Str) : Txt.split z ⟨#[c]⟩ ≠ [] := by
  unfold Txt.split
  split
  · simp
  · split
    · simp
    · intro h
      have := length_partsBetween z (Builtin.Str.occurrences z ⟨#[c]⟩ 0 z.length (z.length + 1)) (⟨#[c]⟩ : Str).length
      rw [h] at this
      simp at this
theorem fig_not {l : List Nat} (h : l.all figB = true) : 45 ∉ l := fun m => by
  have := List.all_eq_true.mp h 45 m
  simp [figB] at this
/-- what a date's text is split into -/
theorem split_date {z : Str} (h : z.cps.toList.length = 10 ∧ z.cps.toList[4]? = some 45 ∧ z.cps.toList[7]? = some 45 ∧ (z.cps.toList.take 4 ++ (z.cps.toList.drop 5).take 2 ++ z.cps.toList.drop 8).all figB = true) :
    (Txt.split z ⟨#[45]⟩).map (fun p => p.cps.toList) = [z.cps.toList.take 4, (z.cps.toList.drop 5).take 2, z.cps.toList.drop 8] := by
  obtain ⟨h0, h4, h7, hf⟩ := h
  rw [List.all_append, List.all_append, Bool.and_eq_true, Bool.and_eq_true] at hf
  obtain ⟨⟨f1, f2⟩, f3⟩ := hf
  refine jn_inj (c := 45) (by simpa using split_ne 45 z) (by simp) ?_ ?_ ?_
  · intro p hp
    obtain ⟨q, hq, rfl⟩ := List.mem_map.mp hp
    exact PySem.StrLaws.split_free z 45 q hq
  · intro p hp
    simp only [List.mem_cons, List.not_mem_nil, or_false] at hp
    rcases hp with rfl | rfl | rfl
    · exact fig_not f1
    · exact fig_not f2
    · exact fig_not f3
  · rw [split_jn]
    generalize z.cps.toList = l at h0 h4 h7 ⊢
    match l, h0 with
    | [a, b, c, d, e, f, g, i, j, k], _ =>
      cases h4
      cases h7
      rfl
theorem date_split {z a b d : Str} (h : Txt.split z ⟨#[45]⟩ = [a, b, d]) (ha : a.cps.toList.length = 4) (hb : b.cps.toList.length = 2) (hd : d.cps.toList.length = 2) (fa : a.cps.toList.all figB = true) (fb : b.cps.toList.all figB = true) (fd : d.cps.toList.all figB = true) :
    dateT (.str z) = dayV (.int (fval a.cps.toList)) (.int (fval b.cps.toList)) (.int (fval d.cps.toList)) := by
  have e := split_jn 45 z
  rw [h] at e
  have e' : z.cps.toList = a.cps.toList ++ 45 :: (b.cps.toList ++ 45 :: d.cps.toList) := e.symm
  unfold dateT
  dsimp only
  rw [e']
  generalize a.cps.toList = x at ha fa ⊢
  generalize b.cps.toList = y at hb fb ⊢
  generalize d.cps.toList = w at hd fd ⊢
  match x, ha, y, hb, w, hd with
  | [x0, x1, x2, x3], _, [y0, y1], _, [w0, w1], _ =>
    refine if_pos ⟨rfl, rfl, rfl, ?_⟩
    show ([x0, x1, x2, x3] ++ [y0, y1] ++ [w0, w1]).all figB = true
    rw [List.all_append, List.all_append, fa, fb, fd]
    rfl
theorem due_non {z : Str} (h : dateT (.str z) = none) : dueV (.str z) = .non := by unfold dueV; rw [h]
theorem date_no {z : Str} (h : ¬ (z.cps.toList.length = 10 ∧ z.cps.toList[4]? = some 45 ∧ z.cps.toList[7]? = some 45 ∧ (z.cps.toList.take 4 ++ (z.cps.toList.drop 5).take 2 ++ z.cps.toList.drop 8).all figB = true)) : dateT (.str z) = none := if_neg h
theorem part_cases (z : Str) (n : Int) : ((z.length : Int) = n ∧ z.cps.toList.all figB = true ∧ partV z n = .int (fval z.cps.toList)) ∨ (¬ ((z.length : Int) = n ∧ z.cps.toList.all figB = true) ∧ partV z n = .non) := by
  unfold partV
  by_cases h : (z.length : Int) = n ∧ z.cps.toList.all figB = true
  · exact .inl ⟨h.1, h.2, if_pos h⟩
  · exact .inr ⟨h, if_neg h⟩
theorem day_no {y m d : Int} (h : ¬ (Cal.IsDate y m d ∧ 0 ≤ Cal.num y m d ∧ Cal.num y m d ≤ 999999)) : dayV (.int y) (.int m) (.int d) = none := if_neg fun q => h ⟨dateV_iff.mp q.1, q.2⟩
theorem fval4 {l : List Nat} (h : l.length = 4) (f : l.all figB = true) : fval l ≤ 9999 := by
  match l, h with
  | [a, b, c, d], _ =>
    simp only [List.all_cons, List.all_nil, figB, Bool.and_eq_true, decide_eq_true_eq, and_true] at f
    simp only [fval, List.foldl_cons, List.foldl_nil]
    omega
def sp__law_due (K : PySem.W.Frag) : Sp := fun vs H Q _ => ∃ (z : Str), vs = [.str z] ∧ z.length ≤ 1000 ∧ Q (dueV (.str z)) H
theorem sc__law_due : FnScope ["_law_text", "_law_parts", "_law_year", "_law_month", "_law_at", "_law_day_here"] ["_law_text"] (defScope s__law_due) := ⟨rfl, rfl, rfl, by decide +kernel, rfl, by decide +kernel, by decide +kernel⟩
theorem d__law_due (S : Src K mg "_law_due" s__law_due ["_law_text"]) (T : Txt K mg) (D__law_part : Def P w K mg base 1 "_law_part" ["_law_text", "_law_size"] (sp__law_part K)) (D__law_month_size : Def P w K mg base 2 "_law_month_size" ["_law_year", "_law_month"] (sp__law_month_size K)) (D__law_day : Def P w K mg base 3 "_law_day" ["_law_year", "_law_month", "_law_at"] (sp__law_day K)) : Def P w K mg base 4 "_law_due" ["_law_text"] (sp__law_due K) := by
  refine S.okF sc__law_due (fun vs H Q E h => ?_) (fun f cdv A outer s H vs Q E hr h => ?_)
  · obtain ⟨z, rfl, hz, h⟩ := h
    rfl
  obtain ⟨z, rfl, hz, h⟩ := h
  refine ⟨_, (pss_consN (ps_set (i := 1) sc__law_due.nd rfl (by first | exact Or.inl rfl | exact Or.inr rfl) (pe_bm PySem.F.plainAttrs_str PySem.F.slot_str_split PySem.F.type_str_split mt_split (pv 0) (pa_cons pe_str pa_nil)))
      (pss_consN (ps_if (pt_cmpR op_ne (pe_callB call_len_seq rfl T.n_len PySem.boot_len (pa_cons (pv 1) pa_nil)) pe_int (nomark _))
      (pss_one (ps_ret pe_non))
      pss_nil)
      (pss_consN (ps_set (i := 2) sc__law_due.nd rfl (by first | exact Or.inl rfl | exact Or.inr rfl) (pe_fn D__law_part hr (pa_cons (pe_ix ix_list (pv 1) pe_int (fun _ _ => rfl)) (pa_cons pe_int pa_nil))))
      (pss_consN (ps_set (i := 3) sc__law_due.nd rfl (by first | exact Or.inl rfl | exact Or.inr rfl) (pe_fn D__law_part hr (pa_cons (pe_ix ix_list (pv 1) pe_int (fun _ _ => rfl)) (pa_cons pe_int pa_nil))))
      (pss_consN (ps_set (i := 4) sc__law_due.nd rfl (by first | exact Or.inl rfl | exact Or.inr rfl) (pe_fn D__law_part hr (pa_cons (pe_ix ix_list (pv 1) pe_int (fun _ _ => rfl)) (pa_cons pe_int pa_nil))))
      (pss_consN (ps_if (PW.pt (pw_or (pt_cmpR op_in_seq pe_non (pe_lst (pa_cons (pv 2) (pa_cons (pv 3) (pa_cons (pv 4) pa_nil)))) (by with_unfolding_all rfl)) (pw_or (pt_cmpR op_lt (pv 2) pe_int (nomark _)) (pw_or (pt_cmpR op_lt (pv 3) pe_int (nomark _)) (pw_or1 (pt_cmpR op_gt (pv 3) pe_int (nomark _)))))))
      (pss_one (ps_ret pe_non))
      pss_nil)
      (pss_consN (ps_if (PW.pt (pw_or (pt_cmpR op_lt (pv 4) pe_int (nomark _)) (pw_or1 (pt_cmpR op_gt (pv 4) (pe_fn D__law_month_size hr (pa_cons (pv 2) (pa_cons (pv 3) pa_nil))) (nomark _)))))
      (pss_one (ps_ret pe_non))
      pss_nil)
      (pss_consN (ps_set (i := 5) sc__law_due.nd rfl (by first | exact Or.inl rfl | exact Or.inr rfl) (pe_fn D__law_day hr (pa_cons (pv 2) (pa_cons (pv 3) (pa_cons (pv 4) pa_nil)))))
      (pss_consN (ps_if (pt_cmpR op_gt (pv 5) pe_int (nomark _))
      (pss_one (ps_ret pe_non))
      pss_nil)
      (pss_one (ps_ret (pv 5)))))))))))), ?_⟩
  have sz := sizeLine_eq
  walk_at "rd"
  intro l nl
  rw [show (Str.ofString "-") = ⟨#[45]⟩ by decide +kernel]
  have sn := same_new nl (.lst ((Txt.split z ⟨#[45]⟩).map V.str))
  have en := at_new (.lst ((Txt.split z ⟨#[45]⟩).map V.str)) nl
  generalize upd H l (.lst ((Txt.split z ⟨#[45]⟩).map V.str)) = H1 at sn en ⊢
  walk_at "rd"
  refine ⟨l, _, rfl, .inl (SqL.of en), ?_⟩
  walk_at "rd"
  · rename_i c
    rw [due_non (date_no fun q => c (by
      have y := congrArg List.length (split_date q)
      rw [List.length_map] at y
      rw [List.length_map, y]
      rfl))] at h
    exact h
  rename_i c
  rw [List.length_map] at c
  obtain ⟨a, b, d, es⟩ : ∃ a b d, Txt.split z ⟨#[45]⟩ = [a, b, d] := by
    match Txt.split z ⟨#[45]⟩, c with
    | [a, b, d], _ => exact ⟨a, b, d, rfl⟩
    | [], q => cases q
    | [_], q => cases q
    | [_, _], q => cases q
    | _ :: _ :: _ :: _ :: _, q => simp at q; omega
  have ez := split_jn 45 z
  rw [es] at ez
  have ez' := congrArg List.length (show z.cps.toList = a.cps.toList ++ 45 :: (b.cps.toList ++ 45 :: d.cps.toList) from ez.symm)
  simp only [List.length_append, List.length_cons, Array.length_toList] at ez'
  have la : a.length ≤ 1000 := by have : a.length = a.cps.size := rfl; have : z.length = z.cps.size := rfl; omega
  have lb : b.length ≤ 1000 := by have : b.length = b.cps.size := rfl; have : z.length = z.cps.size := rfl; omega
  have ld : d.length ≤ 1000 := by have : d.length = d.cps.size := rfl; have : z.length = z.cps.size := rfl; omega
  rw [es] at en
  walk_at "rd"
  refine ⟨l, _, _, _, rfl, rfl, SqL.of en, rfl, ?_⟩
  walk_at "rd"
  refine ⟨l, _, _, _, rfl, rfl, SqL.of en, rfl, ?_⟩
  walk_at "rd"
  refine ⟨l, _, _, _, rfl, rfl, SqL.of en, rfl, ?_⟩
  walk_at "rd"
  intro p np
  have sp_ := same_new np (.lst [partV a 4, partV b 2, partV d 2])
  have ep := at_new (.lst [partV a 4, partV b 2, partV d 2]) np
  generalize upd H1 p (.lst [partV a 4, partV b 2, partV d 2]) = H2 at sp_ ep ⊢
  have s2 := sn.trans sp_
  by_cases g : ((a.length : Int) = 4 ∧ a.cps.toList.all figB = true) ∧ ((b.length : Int) = 2 ∧ b.cps.toList.all figB = true) ∧ ((d.length : Int) = 2 ∧ d.cps.toList.all figB = true)
  rotate_left
  · have nn : dateT (.str z) = none := date_no fun q => g (by
      have y := split_date q
      rw [es] at y
      obtain ⟨q0, _, _, q3⟩ := q
      rw [List.all_append, List.all_append, Bool.and_eq_true, Bool.and_eq_true] at q3
      simp only [List.map_cons, List.map_nil, List.cons.injEq, and_true] at y
      obtain ⟨y1, y2, y3⟩ := y
      have l1 := congrArg List.length y1
      have l2 := congrArg List.length y2
      have l3 := congrArg List.length y3
      simp only [List.length_take, List.length_drop, q0, Array.length_toList] at l1 l2 l3
      rw [y1, y2, y3]
      refine ⟨⟨?_, q3.1.1⟩, ⟨?_, q3.1.2⟩, ⟨?_, q3.2⟩⟩
      · show ((a.cps.size : Nat) : Int) = 4; rw [l1]; rfl
      · show ((b.cps.size : Nat) : Int) = 2; rw [l2]; rfl
      · show ((d.cps.size : Nat) : Int) = 2; rw [l3]; rfl)
    rw [due_non nn] at h
    have iv : flatV (partV a 4) = true ∧ flatV (partV b 2) = true ∧ flatV (partV d 2) = true ∧ inV .non [partV a 4, partV b 2, partV d 2] = true := by
      rcases part_cases a 4 with ⟨a1, a2, ea⟩ | ⟨na, ea⟩
      · rcases part_cases b 2 with ⟨b1, b2, eb⟩ | ⟨nb, eb⟩
        · rcases part_cases d 2 with ⟨d1, d2, ed⟩ | ⟨nd, ed⟩
          · exact absurd ⟨⟨a1, a2⟩, ⟨b1, b2⟩, ⟨d1, d2⟩⟩ g
          · rw [ea, eb, ed]; exact ⟨rfl, rfl, rfl, rfl⟩
        · rcases part_cases d 2 with ⟨d1, d2, ed⟩ | ⟨nd, ed⟩ <;> rw [ea, eb, ed] <;> exact ⟨rfl, rfl, rfl, rfl⟩
      · rcases part_cases b 2 with ⟨b1, b2, eb⟩ | ⟨nb, eb⟩ <;> rcases part_cases d 2 with ⟨d1, d2, ed⟩ | ⟨nd, ed⟩ <;> rw [ea, eb, ed] <;> exact ⟨rfl, rfl, rfl, rfl⟩
    refine ⟨p, _, rfl, .inl (SqL.of ep), rfl, by simp [iv.1, iv.2.1, iv.2.2.1], ?_⟩
    rw [iv.2.2.2]
    walk_at "rd"
    all_goals exact h
  obtain ⟨⟨a1, a2⟩, ⟨b1, b2⟩, ⟨d1, d2⟩⟩ := g
  have ea : partV a 4 = .int (fval a.cps.toList) := if_pos ⟨a1, a2⟩
  have eb : partV b 2 = .int (fval b.cps.toList) := if_pos ⟨b1, b2⟩
  have ed : partV d 2 = .int (fval d.cps.toList) := if_pos ⟨d1, d2⟩
  have dd := date_split es (Int.ofNat.inj a1) (Int.ofNat.inj b1) (Int.ofNat.inj d1) a2 b2 d2
  have y9 := fval4 (Int.ofNat.inj a1) a2
  rw [ea, eb, ed] at ep ⊢
  generalize fval a.cps.toList = Y at ep y9 dd ⊢
  generalize fval b.cps.toList = M at ep dd ⊢
  generalize fval d.cps.toList = D at ep dd ⊢
  have no : ¬ (Cal.IsDate Y M D ∧ 0 ≤ Cal.num Y M D ∧ Cal.num Y M D ≤ 999999) → Q .non H := fun q => by
    rw [due_non (dd.trans (day_no q))] at h
    exact h
  refine ⟨p, _, rfl, .inl (SqL.of ep), rfl, rfl, ?_⟩
  walk_at "rd"
  · rename_i c
    exact no fun q => by have := Cal.year_of_nn q.1 q.2.1; omega
  · rename_i c
    exact no fun q => by have := q.1.m1; omega
  · rename_i c
    exact no fun q => by have := q.1.m2; omega
  · rename_i c
    exact no fun q => by have := q.1.d1; omega
  · rename_i c
    exact no fun q => by have := q.1.d2; omega
  · rename_i c
    exact no fun q => by have := q.2.2; omega
  · rename_i c1 c2 c3 c4 c5 c6
    have ID : Cal.IsDate Y M D := ⟨by omega, by omega, by omega, by omega⟩
    have nn := @Cal.num_nn Y M D (by omega) (by omega) (by omega) (by omega)
    have y := dd.trans (dayV_yes (dateV_iff.mpr ID) ⟨nn, by omega⟩)
    unfold dueV at h
    rw [y] at h
    exact h
--@ read_date
theorem sl_of {z : Str} {l u : Option Int} {n : Nat} {is : List Nat} (hn : z.length = n) (h : Builtin.Str.strSliceIndices l u 1 n = is) (hl : (is.length == n) = false) : Txt.slice z l u = ⟨(is.filterMap (z.cps[·]?)).toArray⟩ := by
  unfold Txt.slice
  rw [hn, h, hl]
  rfl
theorem ten {z : Str} (h : z.cps.toList.length = 10) : ∃ a b c d e f g h i j, z = ⟨#[a, b, c, d, e, f, g, h, i, j]⟩ := by
  obtain ⟨⟨l⟩⟩ := z
  match l, h with
  | [a, b, c, d, e, f, g, h, i, j], _ => exact ⟨a, b, c, d, e, f, g, h, i, j, rfl⟩
theorem dash_of {c : Nat} (h : V.str ⟨#[c]⟩ = V.str (Str.ofString "-")) : c = 45 := by
  have e : (Str.ofString "-") = ⟨#[45]⟩ := by decide +kernel
  rw [e] at h
  injection h with h
  injection h with h
  simpa using h
theorem dash_at : V.str ⟨#[45]⟩ = V.str (Str.ofString "-") := congrArg V.str (by decide +kernel)
theorem figs_all {l : List Nat} (h : l.all figB = true) : PySem.NumText.AllDigits l := fun c hc => by
  have z := List.all_eq_true.mp h c hc
  simpa [figB] using z
theorem figs_val : ∀ (l : List Nat) (v : Nat), l.all figB = true → ((l.foldl (fun acc c => acc * 10 + (c - 48)) v : Nat) : Int) = l.foldl (fun (v : Int) (c : Nat) => 10 * v + ((c : Int) - 48)) (v : Int)
  | [], _, _ => rfl
  | c :: l, v, h => by
    rw [List.all_cons, Bool.and_eq_true] at h
    have c48 : 48 ≤ c := by have := h.1; simp [figB] at this; omega
    rw [List.foldl_cons, List.foldl_cons, figs_val l _ h.2]
    congr 1
    omega
theorem fig_text {z : Str} (h : z.cps.toList.all figB = true) (h1 : z.cps.toList ≠ []) (h2 : z.length ≤ 4300) : PySem.intText? z = some (fval z.cps.toList) := by
  rw [PySem.intText_digits (figs_all h) h1 h2]
  exact congrArg some (figs_val _ 0 h)
def sp_read_date (K : PySem.W.Frag) : Sp := fun vs H Q E => ∃ x T, vs = [x] ∧ IsKind K H x T ∧ (∀ z, x = .str z → z.length ≤ 1000) ∧ (∀ n, dateT x = some n → Q (.int n) H) ∧ (dateT x = none → E (.ref (cA K "NoText")) none H)
theorem sc_read_date : FnScope ["text"] ["text"] (defScope s_read_date) := ⟨rfl, rfl, rfl, by decide +kernel, rfl, by decide +kernel, by decide +kernel⟩
theorem d_read_date (S : Src K mg "read_date" s_read_date ["text"]) (T : Txt K mg) (D_check_text : DefX P w K mg base 1 "check_text" ["thing"] (sp_check_text K)) (D_are_figures : Def P w K mg base 1 "are_figures" ["text"] (sp_are_figures K)) (D_day_of : DefC P w K mg base 4 "day_of" ["year", "month", "day"] (sp_day_of K)) : DefX P w K mg base 5 "read_date" ["text"] (sp_read_date K) := by
  refine S.okXF sc_read_date (fun vs H Q E h => ?_) (fun f cdv A outer s H vs Q E hr h => ?_)
  · obtain ⟨x, Tk, rfl, hk, hl, h, hE⟩ := h
    rfl
  obtain ⟨x, Tk, rfl, hk, hl, h, hE⟩ := h
  refine ⟨_, (pss_consN (ps_expr (pe_fnX (E := fun C d H' => Same H H' ∧ E C d H) D_check_text hr passX (pa_cons (pv 0) pa_nil)))
      (pss_consN (ps_if (PW.pt (pw_or (pt_cmpR op_ne (pe_callB call_len rfl T.n_len PySem.boot_len (pa_cons (pv 0) pa_nil)) pe_int (nomark _)) (pw_or (pt_cmpR op_ne (pe_item_str (pv 0) pe_int (fun _ _ => rfl)) pe_str (nomark _)) (pw_or (pt_cmpR op_ne (pe_item_str (pv 0) pe_int (fun _ _ => rfl)) pe_str (nomark _)) (pw_or1 (pt_not (pt_val (pe_fn D_are_figures hr (pa_cons (pe_op op_add_str (pe_op op_add_str (pe_slice sl_strE (pv 0) po_none (po_some pe_int)) (pe_slice sl_strE (pv 0) (po_some pe_int) (po_some pe_int))) (pe_slice sl_strE (pv 0) (po_some pe_int) po_none)) pa_nil)))))))))
      (pss_one (ps_raise (E := fun C d H' => Same H H' ∧ E C d H) T.m_NoText T.x_NoText (fun _ _ _ _ _ _ _ I hx hE => xe_made I hx hE) (pa_cons pe_str pa_nil)))
      pss_nil)
      (pss_one (ps_tryR (E := fun C d H' => Same H H' ∧ E C d H) D_day_of hr T.m_NoDay T.m_NoText T.x_NoText (pa_cons (pe_callTy call_intT rfl T.n_int PyProof.Rows.boot_int (pa_cons (pe_slice sl_strE (pv 0) po_none (po_some pe_int)) pa_nil)) (pa_cons (pe_callTy call_intT rfl T.n_int PyProof.Rows.boot_int (pa_cons (pe_slice sl_strE (pv 0) (po_some pe_int) (po_some pe_int)) pa_nil)) (pa_cons (pe_callTy call_intT rfl T.n_int PyProof.Rows.boot_int (pa_cons (pe_slice sl_strE (pv 0) (po_some pe_int) po_none) pa_nil)) pa_nil))) (fun e => (pa_cons pe_str pa_nil)) (fun _ _ _ _ _ _ _ I n hd up hE => xe_held I n hd up hE))))), ?_⟩
  have sz := sizeLine_eq
  walk_at "rd"
  refine ⟨x, Tk, rfl, hk, fun e => ?_, fun e => ?_⟩
  rotate_left
  · refine ⟨Same.refl _, hE ?_⟩
    cases x <;> first | rfl | skip
    cases hk.1
    exact absurd rfl e
  obtain ⟨z, rfl⟩ : ∃ z, x = .str z := by
    cases x <;> first | exact ⟨_, rfl⟩ | (cases hk.1 <;> exact absurd e (by decide))
  have zl := hl z rfl
  walk_at "rd"
  refine ⟨.str z, z.length, rfl, ⟨by omega, rfl⟩, ?_⟩
  walk_at "rd"
  · rename_i c
    exact ⟨Same.refl _, hE (if_neg fun q => c (by rw [show z.length = 10 from (Array.length_toList (xs := z.cps)).symm.trans q.1]; rfl))⟩
  rename_i c
  obtain ⟨x0, x1, x2, x3, x4, x5, x6, x7, x8, x9, ez⟩ := ten (z := z) (by
    rw [Array.length_toList]
    exact Int.ofNat.inj c)
  have z10 : z.length = 10 := Int.ofNat.inj c
  clear c
  walk_at "rd"
  refine ⟨_, 4, x4, rfl, rfl, by decide, by decide, by rw [z10]; decide, by rw [ez]; rfl, ?_⟩
  walk_at "rd"
  · rename_i n4
    exact ⟨Same.refl _, hE (if_neg fun q => n4 (by have y := q.2.1; rw [ez] at y; cases y; exact dash_at))⟩
  rename_i n4
  have d4 := dash_of n4
  subst d4
  walk_at "rd"
  refine ⟨_, 7, x7, rfl, rfl, by decide, by decide, by rw [z10]; decide, by rw [ez]; rfl, ?_⟩
  walk_at "rd"
  · rename_i n7
    exact ⟨Same.refl _, hE (if_neg fun q => n7 (by have y := q.2.2.1; rw [ez] at y; cases y; exact dash_at))⟩
  rename_i n7
  have d7 := dash_of n7
  subst d7
  clear n4 n7
  have s1 : Txt.slice z none (some 4) = ⟨#[x0, x1, x2, x3]⟩ := by rw [ez]; exact sl_of (n := 10) (is := [0, 1, 2, 3]) rfl (by decide +kernel) rfl
  have s2 : Txt.slice z (some 5) (some 7) = ⟨#[x5, x6]⟩ := by rw [ez]; exact sl_of (n := 10) (is := [5, 6]) rfl (by decide +kernel) rfl
  have s3 : Txt.slice z (some 8) none = ⟨#[x8, x9]⟩ := by rw [ez]; exact sl_of (n := 10) (is := [8, 9]) rfl (by decide +kernel) rfl
  obtain ⟨w1, e1⟩ : ∃ w1 : Str, w1 = ⟨#[x0, x1, x2, x3]⟩ := ⟨_, rfl⟩
  obtain ⟨w2, e2⟩ : ∃ w2 : Str, w2 = ⟨#[x5, x6]⟩ := ⟨_, rfl⟩
  obtain ⟨w3, e3⟩ : ∃ w3 : Str, w3 = ⟨#[x8, x9]⟩ := ⟨_, rfl⟩
  rw [← e1] at s1
  rw [← e2] at s2
  rw [← e3] at s3
  have l1 : w1.length = 4 := by rw [e1]; rfl
  have l2 : w2.length = 2 := by rw [e2]; rfl
  have l3 : w3.length = 2 := by rw [e3]; rfl
  have l12 : (w1 ++ w2).length = 6 := by rw [e1, e2]; rfl
  have l123 : (w1 ++ w2 ++ w3).length = 8 := by rw [e1, e2, e3]; rfl
  have dt : dateT (.str z) = if (w1 ++ w2 ++ w3).cps.toList.all figB = true then dayV (.int (fval w1.cps.toList)) (.int (fval w2.cps.toList)) (.int (fval w3.cps.toList)) else none := by
    rw [ez, e1, e2, e3]
    by_cases q : ((⟨#[x0, x1, x2, x3]⟩ : Str) ++ ⟨#[x5, x6]⟩ ++ ⟨#[x8, x9]⟩).cps.toList.all figB = true
    · rw [if_pos q]; exact if_pos ⟨rfl, rfl, rfl, q⟩
    · rw [if_neg q]; exact if_neg fun y => q y.2.2.2
  have al : (w1 ++ w2 ++ w3).cps.toList.all figB = (w1.cps.toList.all figB && w2.cps.toList.all figB && w3.cps.toList.all figB) := by
    show ((w1.cps ++ w2.cps) ++ w3.cps).toList.all figB = _
    rw [Array.toList_append, Array.toList_append, List.all_append, List.all_append]
  have m1 : w1.cps.toList ≠ [] := by rw [e1]; simp
  have m2 : w2.cps.toList ≠ [] := by rw [e2]; simp
  have m3 : w3.cps.toList ≠ [] := by rw [e3]; simp
  clear e1 e2 e3 ez
  walk_at "rd"
  rw [s1, s2]
  refine ⟨by omega, ?_⟩
  walk_at "rd"
  rw [s3]
  refine ⟨by omega, ?_⟩
  walk_at "rd"
  cases eq : (w1 ++ w2 ++ w3).cps.toList.all figB with
  | false =>
    walk_at "rd"
    exact ⟨Same.refl _, hE (by rw [dt, eq]; rfl)⟩
  | true =>
    rw [eq, if_pos rfl] at dt
    rw [eq] at al
    have al' := al.symm
    rw [Bool.and_eq_true, Bool.and_eq_true] at al'
    obtain ⟨⟨a1, a2⟩, a3⟩ := al'
    walk_at "rd"
    rw [s1]
    refine ⟨w1, _, rfl, by omega, fig_text a1 m1 (by omega), ?_⟩
    walk_at "rd"
    rw [s2]
    refine ⟨w2, _, rfl, by omega, fig_text a2 m2 (by omega), ?_⟩
    walk_at "rd"
    rw [s3]
    refine ⟨w3, _, rfl, by omega, fig_text a3 m3 (by omega), ?_⟩
    walk_at "rd"
    refine ⟨_, _, _, _, _, _, rfl, ⟨.int _, by decide⟩, ⟨.int _, by decide⟩, ⟨.int _, by decide⟩, fun n hn => ?_, fun hn => ?_⟩
    · exact ⟨Same.refl _, h n (dt.trans hn)⟩
    · refine ⟨_, rfl, T.e_NoDay_NoDay, ?_⟩
      walk_at "rd"
      exact ⟨Same.refl _, hE (dt.trans hn)⟩
--@ _law_read
def readR (x : V) : List V := match dateT x with | some n => [.str "told", .int n, .bl true] | none => [.str "none", .bl true, .bl false]
def sp__law_read (K : PySem.W.Frag) : Sp := fun vs H Q _ => ∃ x T, vs = [x] ∧ IsKind K H x T ∧ (∀ z, x = .str z → z.length ≤ 1000) ∧ ∀ p H', Same H H' → H' p = some (.tup (readR x)) → Q (.ref p) H'
theorem sc__law_read : FnScope ["_law_thing", "_law_found", "e"] ["_law_thing"] (defScope s__law_read) := ⟨rfl, rfl, rfl, by decide +kernel, rfl, by decide +kernel, by decide +kernel⟩
theorem d__law_read (S : Src K mg "_law_read" s__law_read ["_law_thing"]) (T : Txt K mg) (D_read_date : DefX P w K mg base 5 "read_date" ["text"] (sp_read_date K)) : Def P w K mg base 6 "_law_read" ["_law_thing"] (sp__law_read K) := by
  refine S.ok sc__law_read (fun vs H Q E h => ?_) (fun f cdv A outer s H vs Q E hr h => ?_)
  · obtain ⟨x, Tk, rfl, hk, hl, h⟩ := h
    rfl
  obtain ⟨x, Tk, rfl, hk, hl, h⟩ := h
  refine ⟨_, (pss_consN (ps_set (i := 1) sc__law_read.nd rfl (by first | exact Or.inl rfl | exact Or.inr rfl) pe_non)
      (pss_consN (ps_try D_read_date hr sc__law_read.nd (i := 1) rfl rfl (j := 2) rfl rfl T.m_NoText (pa_cons (pv 0) pa_nil) (fun e => (pss_one (ps_ret (pe_tup (pa_cons pe_str (pa_cons (pe_callB (call_isiO K) rfl T.n_isinstance PyProof.Rows.boot_isinstance (pa_cons (pv 2) (pa_cons (pe_glob (v := .ref (cA K "LoanError")) rfl T.m_LoanError rfl) pa_nil))) (pa_cons (pe_callB (call_isiO K) rfl T.n_isinstance PyProof.Rows.boot_isinstance (pa_cons (pv 2) (pa_cons (pe_glob (v := .ref (cA K "NoDay")) rfl T.m_NoDay rfl) pa_nil))) pa_nil))))))))
      (pss_one (ps_ret (pe_tup (pa_cons pe_str (pa_cons (pv 1) (pa_cons (pe_and (pe_callB call_isinst rfl T.n_isinstance PyProof.Rows.boot_isinstance (pa_cons (pv 1) (pa_cons (pe_bltn (v := .ty "int") rfl T.n_int PyProof.Rows.boot_int rfl) pa_nil))) (pe_one (pe_not (pe_callB call_isinst rfl T.n_isinstance PyProof.Rows.boot_isinstance (pa_cons (pv 1) (pa_cons (pe_bltn (v := .ty "bool") rfl T.n_bool PyProof.Rows.boot_bool rfl) pa_nil)))))) pa_nil)))))))), ?_⟩
  walk_at "rd"
  refine ⟨x, Tk, rfl, hk, hl, fun n hn => ?_, fun hn => ?_⟩
  · walk_at "rd"
    refine ⟨_, _, _, _, rfl, .int _, kit_int (T := "int") (by simp [kinds]), ?_⟩
    walk_at "rd"
    refine ⟨_, _, _, _, rfl, .int _, kit_bool (T := "int") (by simp [kinds]), ?_⟩
    walk_at "rd"
    intro p np
    exact h p _ (same_new np _) (by rw [upd_same]; unfold readR; rw [hn]; rfl)
  · refine ⟨_, rfl, T.e_NoText_NoText, ?_⟩
    walk_at "rd"
    intro e ne
    have s1 := same_new ne (ExcO e (.ref (cA K "NoText")))
    have ee := at_new (ExcO e (.ref (cA K "NoText"))) ne
    walk_at "rd"
    refine ⟨e, _, _, _, rfl, ee, T.z_NoText, T.k_NoText_LoanError, ?_⟩
    walk_at "rd"
    refine ⟨e, _, _, _, rfl, ee, T.z_NoText, T.k_NoText_NoDay, ?_⟩
    walk_at "rd"
    intro p np
    exact h p _ (s1.trans (same_new np _)) (by rw [upd_same]; unfold readR; rw [hn])
--@ _law_right
def sp__law_right (K : PySem.W.Frag) : Sp := fun vs H Q _ => ∃ (z : Str), vs = [.str z] ∧ z.length ≤ 1000 ∧ Q (.bl true) H
theorem sc__law_right : FnScope ["_law_text", "_law_due_here"] ["_law_text"] (defScope s__law_right) := ⟨rfl, rfl, rfl, by decide +kernel, rfl, by decide +kernel, by decide +kernel⟩
theorem d__law_right (S : Src K mg "_law_right" s__law_right ["_law_text"]) (T : Txt K mg) (D__law_due : Def P w K mg base 4 "_law_due" ["_law_text"] (sp__law_due K)) (D__law_read : Def P w K mg base 6 "_law_read" ["_law_thing"] (sp__law_read K)) : Def P w K mg base 7 "_law_right" ["_law_text"] (sp__law_right K) := by
  refine S.okF sc__law_right (fun vs H Q E h => ?_) (fun f cdv A outer s H vs Q E hr h => ?_)
  · obtain ⟨z, rfl, hz, h⟩ := h
    rfl
  obtain ⟨z, rfl, hz, h⟩ := h
  refine ⟨_, (pss_consN (ps_set (i := 1) sc__law_right.nd rfl (by first | exact Or.inl rfl | exact Or.inr rfl) (pe_fn D__law_due hr (pa_cons (pv 0) pa_nil)))
      (pss_consN (ps_if (pt_cmp (pc_isN (pv 1)))
      (pss_one (ps_ret (pe_cmpR (op_eqD hr.units) (pe_fn D__law_read hr (pa_cons (pv 0) pa_nil)) (pe_tup (pa_cons pe_str (pa_cons pe_bl (pa_cons pe_bl pa_nil)))) (nomark _))))
      pss_nil)
      (pss_one (ps_ret (pe_cmpR (op_eqD hr.units) (pe_fn D__law_read hr (pa_cons (pv 0) pa_nil)) (pe_tup (pa_cons pe_str (pa_cons (pv 1) (pa_cons pe_bl pa_nil)))) (nomark _)))))), ?_⟩
  have hk : IsKind K H (.str z) "str" := ⟨.str _, by simp [kinds]⟩
  walk_at "rd"
  · rename_i c
    refine ⟨.str z, "str", rfl, hk, (fun z' e => by cases e; exact hz), fun p H' s' ep => ?_⟩
    walk_at "rd"
    intro t nt
    have st := same_new nt (.tup [.str "none", .bl true, .bl false])
    have et := at_new (.tup [.str "none", .bl true, .bl false]) nt
    have er : readR (.str z) = [.str "none", .bl true, .bl false] := by
      unfold dueV at c
      unfold readR
      cases hd : dateT (.str z) with
      | none => rfl
      | some n => rw [hd] at c; cases c
    rw [er] at ep
    refine ⟨_, _, .tup (SqT.of (st _ _ ep)) (.cons (.str _) (.cons (.bl _) (.cons (.bl _) .nil))), .tup (SqT.of et) (.cons (.str _) (.cons (.bl _) (.cons (.bl _) .nil))), ?_, ?_, ?_⟩
    · decide +kernel
    · decide +kernel
    rw [show PyData.eqv (.tuple [.str "none", .bool true, .bool false]) (.tuple [.str "none", .bool true, .bool false]) = true by decide +kernel]
    exact ⟨s'.trans st, h⟩
  · rename_i c
    refine ⟨.str z, "str", rfl, hk, (fun z' e => by cases e; exact hz), fun p H' s' ep => ?_⟩
    walk_at "rd"
    intro t nt
    obtain ⟨n, hd⟩ : ∃ n, dateT (.str z) = some n := by
      cases hd : dateT (.str z) with
      | none => exact absurd (by unfold dueV; rw [hd]) c
      | some n => exact ⟨n, rfl⟩
    have ed : dueV (.str z) = .int n := by unfold dueV; rw [hd]
    have er : readR (.str z) = [.str "told", .int n, .bl true] := by unfold readR; rw [hd]
    rw [ed]
    rw [er] at ep
    have st := same_new nt (.tup [.str "told", .int n, .bl true])
    have et := at_new (.tup [.str "told", .int n, .bl true]) nt
    refine ⟨_, _, .tup (SqT.of (st _ _ ep)) (.cons (.str _) (.cons (.int _) (.cons (.bl _) .nil))), .tup (SqT.of et) (.cons (.str _) (.cons (.int _) (.cons (.bl _) .nil))), ?_, ?_, ?_⟩
    · simp [SeqAt.shaped, PyData.canLay0, PyData.canLayAll0, PyData.depth, PyData.depthAll]; decide +kernel
    · simp [SeqAt.shaped, PyData.canLay0, PyData.canLayAll0, PyData.depth, PyData.depthAll]; decide +kernel
    rw [show PyData.eqv (.tuple [.str "told", .int n, .bool true]) (.tuple [.str "told", .int n, .bool true]) = true by simp [PyData.eqv, PyData.eqvAll]]
    exact ⟨s'.trans st, h⟩
--@ law
def sp_law (K : PySem.W.Frag) : Sp := fun vs H Q _ => ∃ (a : Addr) (ns : List Int), vs = [.ref a] ∧ SqL K H a (ns.map V.int) ∧ ns.length ≤ 63 ∧ ∀ H', Q (.bl true) H'
theorem sixL {js : List Int} (h : js.length = 6) : ∃ a b c d e f, js = [a, b, c, d, e, f] := by
  match js, h with
  | [a, b, c, d, e, f], _ => exact ⟨a, b, c, d, e, f, rfl⟩
theorem dig4 : ∀ k : Fin 2800, (Str.ofString (toString ((k.val : Int) + 2000))).cps.toList = [48 + (k.val + 2000) / 1000, 48 + (k.val + 2000) / 100 % 10, 48 + (k.val + 2000) / 10 % 10, 48 + (k.val + 2000) % 10] := by decide +kernel
theorem cps_app (a b : Str) : (a ++ b).cps.toList = a.cps.toList ++ b.cps.toList := by
  show (a.cps ++ b.cps).toList = _
  rw [Array.toList_append]
theorem year_hi {y m d : Int} (D : Cal.IsDate y m d) (h0 : 0 ≤ Cal.num y m d) (h1 : Cal.num y m d ≤ 999999) : 2000 ≤ y ∧ y < 4800 := by
  have a := Cal.year_of_nn D h0
  have b := Cal.ny_mono a
  have c := Cal.cum_in (y := y) D.m1 D.m2
  have e := Cal.mlen_in (y := y) D.m1 D.m2
  have n0 := Cal.ny_0
  have d1 := D.d1
  unfold Cal.num at h1
  omega
theorem date_shown {y m d : Int} (D : Cal.IsDate y m d) (h0 : 0 ≤ Cal.num y m d) (h1 : Cal.num y m d ≤ 999999) : dateT (.str (shown y m d)) = some (Cal.num y m d) := by
  obtain ⟨_, ⟨m0, m1⟩, ⟨d0, d1⟩⟩ := year_in D h0 h1
  obtain ⟨y0, y1⟩ := year_hi D h0 h1
  obtain ⟨k, rfl⟩ : ∃ k : Fin 2800, y = (k.val : Int) + 2000 := ⟨⟨(y - 2000).toNat, by omega⟩, by show y = ((y - 2000).toNat : Int) + 2000; omega⟩
  have e : (shown ((k.val : Int) + 2000) m d).cps.toList = [48 + (k.val + 2000) / 1000, 48 + (k.val + 2000) / 100 % 10, 48 + (k.val + 2000) / 10 % 10, 48 + (k.val + 2000) % 10, 45, 48 + (m / 10).toNat, 48 + (m % 10).toNat, 45, 48 + (d / 10).toNat, 48 + (d % 10).toNat] := by
    unfold shown
    rw [cps_app, cps_app, cps_app, cps_app, dig4, show (Str.ofString "-").cps.toList = [45] by decide +kernel]
    rfl
  have kl := k.isLt
  unfold dateT
  dsimp only
  rw [e, if_pos]
  · have f1 : fval [48 + (k.val + 2000) / 1000, 48 + (k.val + 2000) / 100 % 10, 48 + (k.val + 2000) / 10 % 10, 48 + (k.val + 2000) % 10] = (k.val : Int) + 2000 := by
      simp only [fval, List.foldl_cons, List.foldl_nil]
      omega
    have f2 : ∀ n : Int, 0 ≤ n → n ≤ 99 → fval [48 + (n / 10).toNat, 48 + (n % 10).toNat] = n := fun n h0 h1 => by
      simp only [fval, List.foldl_cons, List.foldl_nil]
      omega
    show dayV (.int (fval [48 + (k.val + 2000) / 1000, 48 + (k.val + 2000) / 100 % 10, 48 + (k.val + 2000) / 10 % 10, 48 + (k.val + 2000) % 10])) (.int (fval [48 + (m / 10).toNat, 48 + (m % 10).toNat])) (.int (fval [48 + (d / 10).toNat, 48 + (d % 10).toNat])) = _
    rw [f1, f2 m m0 m1, f2 d d0 d1]
    exact dayV_yes (dateV_iff.mpr D) ⟨h0, h1⟩
  · refine ⟨rfl, rfl, rfl, ?_⟩
    show ([48 + (k.val + 2000) / 1000, 48 + (k.val + 2000) / 100 % 10, 48 + (k.val + 2000) / 10 % 10, 48 + (k.val + 2000) % 10, 48 + (m / 10).toNat, 48 + (m % 10).toNat, 48 + (d / 10).toNat, 48 + (d % 10).toNat] : List Nat).all figB = true
    simp only [List.all_cons, List.all_nil, figB, Bool.and_eq_true, decide_eq_true_eq, and_true]
    omega
theorem sc_law : FnScope ["_law_script", "_law_k", "_law_xs", "_law_ends", "_law_day_here", "_law_date_here", "_law_found", "_law_thing"] ["_law_script"] (defScope s_law) := ⟨rfl, rfl, rfl, by decide +kernel, rfl, by decide +kernel, by decide +kernel⟩
theorem d_law (S : Src K mg "law" s_law ["_law_script"]) (T : Txt K mg) (D__law_draws : Def P w K mg base 1 "_law_draws" ["_law_cell", "_law_many"] (sp__law_draws K)) (D__law_cell_at : Def P w K mg base 1 "_law_cell_at" ["_law_script", "_law_k"] (sp__law_cell_at K)) (D__law_date : Def P w K mg base 3 "_law_date" ["_law_day_here"] (sp__law_date K)) (D_show_date : Def P w K mg base 4 "show_date" ["day"] (sp_show_date K)) (D__law_read : Def P w K mg base 6 "_law_read" ["_law_thing"] (sp__law_read K)) (D__law_shown : Def P w K mg base 2 "_law_shown" ["_law_date_here"] (sp__law_shown K)) (D__law_right : Def P w K mg base 7 "_law_right" ["_law_text"] (sp__law_right K)) (D__law_bent : Def P w K mg base 3 "_law_bent" ["_law_date_here", "_law_xs"] (sp__law_bent K)) : Def P w K mg base 8 "law" ["_law_script"] (sp_law K) := by
  refine S.ok sc_law (fun vs H Q E h => ?_) (fun f cdv A outer s H vs Q E hr h => ?_)
  · obtain ⟨a, ns, rfl, hS, hl, h⟩ := h
    rfl
  obtain ⟨a, ns, rfl, hS, hl, h⟩ := h
  refine ⟨_, (pss_consN (ps_for PassesOwn.never rfl (pi_range1 rfl T.n_range (pa_cons pe_int pa_nil)) (pg_name (i := 1) sc_law.nd rfl (by first | exact Or.inl rfl | exact Or.inr rfl))
      (pss_consN (ps_set (i := 2) sc_law.nd rfl (by first | exact Or.inl rfl | exact Or.inr rfl) (pe_fn D__law_draws hr (pa_cons (pe_fn D__law_cell_at hr (pa_cons (pv 0) (pa_cons (pv 1) pa_nil))) (pa_cons pe_int pa_nil))))
      (pss_consN (ps_set (i := 3) sc_law.nd rfl (by first | exact Or.inl rfl | exact Or.inr rfl) (pe_op op_add (pe_op op_add pe_int (pe_op op_mod (pe_ix ix_list (pv 2) pe_int (fun _ _ => rfl)) pe_int)) (pe_op op_mul pe_int (pe_op op_mod (pe_op op_fdiv (pe_ix ix_list (pv 2) pe_int (fun _ _ => rfl)) pe_int) pe_int))))
      (pss_consN (ps_set (i := 4) sc_law.nd rfl (by first | exact Or.inl rfl | exact Or.inr rfl) (pe_ix ix_list (pe_lst (pa_cons (pe_op op_mod (pe_ix ix_list (pv 2) pe_int (fun _ _ => rfl)) (pe_powc (v := 1000000) (by decide +kernel) ⟨by decide, by decide, by decide⟩)) (pa_cons pe_int (pa_cons pe_int (pa_cons (pv 3) (pa_cons (pe_op op_mod (pe_ix ix_list (pv 2) pe_int (fun _ _ => rfl)) (pe_powc (v := 1000000) (by decide +kernel) ⟨by decide, by decide, by decide⟩)) pa_nil)))))) (pe_op op_mod (pe_ix ix_list (pv 2) pe_int (fun _ _ => rfl)) pe_int) (fun _ _ => rfl)))
      (pss_consN (ps_set (i := 5) sc_law.nd rfl (by first | exact Or.inl rfl | exact Or.inr rfl) (pe_fn D__law_date hr (pa_cons (pv 4) pa_nil)))
      (pss_consN (ps_set (i := 6) sc_law.nd rfl (by first | exact Or.inl rfl | exact Or.inr rfl) (pe_fn D_show_date hr (pa_cons (pv 4) pa_nil)))
      (pss_consN (ps_if (PW.pt (pw_or (pt_cmpR op_ne (pv 6) (pe_fn D__law_shown hr (pa_cons (pv 5) pa_nil)) (nomark _)) (pw_or1 (pt_cmpR (op_neD hr.units) (pe_fn D__law_read hr (pa_cons (pv 6) pa_nil)) (pe_tup (pa_cons pe_str (pa_cons (pv 4) (pa_cons pe_bl pa_nil)))) (nomark _)))))
      (pss_one (ps_ret pe_bl))
      pss_nil)
      (pss_consN (ps_if (pt_not (pt_val (pe_fn D__law_right hr (pa_cons (pe_fn D__law_bent hr (pa_cons (pv 5) (pa_cons (pe_slice sl_list (pv 2) (po_some pe_int) po_none) pa_nil))) pa_nil))))
      (pss_one (ps_ret pe_bl))
      pss_nil)
      (pss_consN (ps_set (i := 7) sc_law.nd rfl (by first | exact Or.inl rfl | exact Or.inr rfl) (pe_ix ix_list (pe_lst (pa_cons pe_non (pa_cons pe_int (pa_cons pe_bl (pa_cons (pe_tup (pa_cons pe_int (pa_cons pe_int (pa_cons pe_int pa_nil)))) (pa_cons (pe_lst (pa_cons pe_str pa_nil)) pa_nil)))))) (pe_op op_mod (pe_ix ix_list (pv 2) pe_int (fun _ _ => rfl)) pe_int) (fun _ _ => rfl)))
      (pss_one (ps_if (pt_cmpR (op_neD hr.units) (pe_fn D__law_read hr (pa_cons (pv 7) pa_nil)) (pe_tup (pa_cons pe_str (pa_cons pe_bl (pa_cons pe_bl pa_nil)))) (nomark _))
      (pss_one (ps_ret pe_bl))
      pss_nil)))))))))))
      (pss_one (ps_ret pe_bl))), ?_⟩
  have sz := sizeLine_eq
  walk_at "rd"
  refine for_range (fun i σ H' => Same H H' ∧ ∃ z1 z2 z3 z4 z5 z6 z7 : Option V, σ = [some (.ref a), z1, z2, z3, z4, z5, z6, z7]) ⟨Same.refl _, _, _, _, _, _, _, _, rfl⟩ ?_ ?_
  · rintro i σ H' hi ⟨sH, z1, z2, z3, z4, z5, z6, z7, rfl⟩
    walk_at "rd"
    refine ⟨a, ns, i, by rw [Int.zero_add]; rfl, sH.seq hS, ?_⟩
    walk_at "rd"
    intro px xs H1 s1 npx ep nl nn
    obtain ⟨x0, x1, x2, x3, x4, x5, rfl⟩ := sixL (show xs.length = 6 by omega)
    have n0 := (nn x0 (by simp)).1
    have n1 := (nn x1 (by simp)).1
    have n2 := (nn x2 (by simp)).1
    have n3 := (nn x3 (by simp)).1
    have n4 := (nn x4 (by simp)).1
    walk_at "rd"
    refine ⟨px, _, _, _, rfl, rfl, SqL.of ep, rfl, ?_⟩
    walk_at "rd"
    refine ⟨px, _, _, _, rfl, rfl, SqL.of ep, rfl, ?_⟩
    walk_at "rd"
    refine ⟨px, _, _, _, rfl, rfl, SqL.of ep, rfl, ?_⟩
    walk_at "rd"
    refine ⟨px, _, _, _, rfl, rfl, SqL.of ep, rfl, ?_⟩
    walk_at "rd"
    intro l nl
    have s2 := same_new nl (.lst [.int (x0 % 1000000), .int 0, .int 999999, .int (58 + x0 % 4 + 365 * (x0 / 4 % 9)), .int (x0 % 1000000)])
    have e2 := at_new (.lst [.int (x0 % 1000000), .int 0, .int 999999, .int (58 + x0 % 4 + 365 * (x0 / 4 % 9)), .int (x0 % 1000000)]) nl
    have ep2 := s2 _ _ ep
    walk_at "rd"
    refine ⟨px, _, _, _, rfl, rfl, SqL.of ep2, rfl, ?_⟩
    have b0 := Int.emod_nonneg x1 (show (5 : Int) ≠ 0 by decide)
    have b1 := Int.emod_lt_of_pos x1 (show (0 : Int) < 5 by decide)
    obtain ⟨v, hv, hm⟩ := at_mem (xs := [.int (x0 % 1000000), .int 0, .int 999999, .int (58 + x0 % 4 + 365 * (x0 / 4 % 9)), .int (x0 % 1000000)]) b0 (by simpa using b1)
    obtain ⟨n, rfl, q0, q1⟩ : ∃ w : Int, v = .int w ∧ 0 ≤ w ∧ w ≤ 999999 := by
      simp only [List.mem_cons, List.not_mem_nil, or_false] at hm
      rcases hm with rfl | rfl | rfl | rfl | rfl <;> exact ⟨_, rfl, by omega, by omega⟩
    walk_at "rd"
    refine ⟨l, _, _, _, rfl, rfl, SqL.of e2, hv, ?_⟩
    clear hv hm
    walk_at "rd"
    intro y m r pd D ed npd
    have s3 := same_new npd (.tup [.int y, .int m, .int r])
    have ed3 := at_new (.tup [.int y, .int m, .int r]) npd
    generalize hH3 : upd (upd H1 l (.lst [.int (x0 % 1000000), .int 0, .int 999999, .int (58 + x0 % 4 + 365 * (x0 / 4 % 9)), .int (x0 % 1000000)])) pd (.tup [.int y, .int m, .int r]) = H3 at s3 ed3
    have hH3' := hH3
    have bd := year_in D (by omega) (by omega)
    have ep3 := s3 _ _ ep2
    walk_at "rd"
    intro y' m' r' D' e'
    obtain ⟨rfl, rfl, rfl⟩ := Cal.date_inj D' D (e'.trans ed.symm)
    walk_at "rd"
    refine ⟨pd, y', m', r', rfl, SqT.of (by first | exact ed3 | (rw [hH3']; exact ed3)), bd, ?_⟩
    have lsh : (shown y' m' r').length ≤ 11 := by
      have := len_y bd.1.1 bd.1.2
      have l1 : (Str.ofString "-").length = 1 := by decide +kernel
      have lt : ∀ n : Int, (two n).length = 2 := fun n => rfl
      unfold shown
      rw [Str.length_append, Str.length_append, Str.length_append, Str.length_append, lt, lt, l1]
      omega
    have dsh : dateT (.str (shown y' m' r')) = some n := by rw [date_shown D (by omega) (by omega), ed]
    walk_at "rd"
    generalize shown y' m' r' = z at lsh dsh ⊢
    refine ⟨.str z, "str", rfl, ⟨.str _, by simp [kinds]⟩, (fun z' e => by cases e; omega), fun p H4 s4 e4 => ?_⟩
    rw [show readR (.str z) = [.str "told", .int n, .bl true] by unfold readR; rw [dsh]] at e4
    walk_at "rd"
    intro t nt
    have s5 := same_new nt (.tup [.str "told", .int n, .bl true])
    have e5 := at_new (.tup [.str "told", .int n, .bl true]) nt
    generalize upd H4 t (.tup [.str "told", .int n, .bl true]) = H5 at s5 e5 ⊢
    refine ⟨_, _, .tup (SqT.of (s5 _ _ e4)) (.cons (.str _) (.cons (.int _) (.cons (.bl _) .nil))), .tup (SqT.of e5) (.cons (.str _) (.cons (.int _) (.cons (.bl _) .nil))), ?_, ?_, ?_⟩
    · simp [SeqAt.shaped, PyData.canLay0, PyData.canLayAll0, PyData.depth, PyData.depthAll]; decide +kernel
    · simp [SeqAt.shaped, PyData.canLay0, PyData.canLayAll0, PyData.depth, PyData.depthAll]; decide +kernel
    rw [show PyData.eqv (.tuple [.str "told", .int n, .bool true]) (.tuple [.str "told", .int n, .bool true]) = true by simp [PyData.eqv, PyData.eqvAll]]
    have s35 := s4.trans s5
    have ep5 := s35 _ _ ep3
    have ed5 := s35 _ _ ed3
    walk_at "rd"
    refine ⟨px, _, rfl, SqL.of ep5, fun cq ncq => ?_⟩
    rw [show cutV (([x0, x1, x2, x3, x4, x5] : List Int).map V.int) (some 2) none = ([x2, x3, x4, x5] : List Int).map V.int from cutV_lo _ 2]
    have s6 := same_new ncq (.lst (([x2, x3, x4, x5] : List Int).map V.int))
    have e6 := at_new (.lst (([x2, x3, x4, x5] : List Int).map V.int)) ncq
    generalize upd H5 cq (.lst (([x2, x3, x4, x5] : List Int).map V.int)) = H6 at s6 e6 ⊢
    walk_at "rd"
    refine ⟨pd, cq, y', m', r', x2, x3, x4, x5, rfl, s6 _ _ ed5, bd, e6, ⟨n2, n3, n4⟩, fun z6 H7 s7 l7 => ?_⟩
    walk_at "rd"
    have s37 := s35.trans (s6.trans s7)
    have ep7 := s37 _ _ ep3
    intro t1 nt1
    have s8 := same_new nt1 (.tup [.int 2024, .int 2, .int 29])
    have e8 := at_new (.tup [.int 2024, .int 2, .int 29]) nt1
    generalize upd H7 t1 (.tup [.int 2024, .int 2, .int 29]) = H8 at s8 e8 ⊢
    walk_at "rd"
    intro l1 nl1
    have s9 := same_new nl1 (.lst [.str "2024-02-29"])
    have e9 := at_new (.lst [.str "2024-02-29"]) nl1
    generalize upd H8 l1 (.lst [.str "2024-02-29"]) = H9 at s9 e9 ⊢
    walk_at "rd"
    intro l2 nl2
    have s10 := same_new nl2 (.lst [.non, .int 5, .bl true, .ref t1, .ref l1])
    have e10 := at_new (.lst [.non, .int 5, .bl true, .ref t1, .ref l1]) nl2
    generalize upd H9 l2 (.lst [.non, .int 5, .bl true, .ref t1, .ref l1]) = H10 at s10 e10 ⊢
    walk_at "rd"
    refine ⟨px, _, _, _, rfl, rfl, SqL.of (s10 _ _ (s9 _ _ (s8 _ _ ep7))), rfl, ?_⟩
    have g0 := Int.emod_nonneg x0 (show (5 : Int) ≠ 0 by decide)
    have g1 := Int.emod_lt_of_pos x0 (show (0 : Int) < 5 by decide)
    obtain ⟨v, hv, hm⟩ := at_mem (xs := [.non, .int 5, .bl true, .ref t1, .ref l1]) g0 (by simpa using g1)
    obtain ⟨Tk, ku, nu, du⟩ := (mem1 ⟨"NoneType", ⟨.non, by simp [kinds]⟩, (fun z e => by cases e), rfl⟩ (mem1 ⟨"int", ⟨.int _, by simp [kinds]⟩, (fun z e => by cases e), rfl⟩ (mem1 ⟨"bool", ⟨.bl _, by simp [kinds]⟩, (fun z e => by cases e), rfl⟩ (mem1 ⟨"tuple", ⟨.tup (s10 _ _ (s9 _ _ e8)), by simp [kinds]⟩, (fun z e => by cases e), rfl⟩ (mem1 ⟨"list", ⟨.lst (s10 _ _ e9), by simp [kinds]⟩, (fun z e => by cases e), rfl⟩ mem0)))) : ∀ v ∈ ([.non, .int 5, .bl true, .ref t1, .ref l1] : List V), ∃ Tk, IsKind K H10 v Tk ∧ (∀ z, v = .str z → z.length ≤ 1000) ∧ dateT v = none) v hm
    walk_at "rd"
    refine ⟨l2, _, _, _, rfl, rfl, SqL.of e10, hv, ?_⟩
    clear hv hm
    walk_at "rd"
    refine ⟨v, Tk, rfl, ku, nu, fun p2 H11 s11 e11 => ?_⟩
    rw [show readR v = [.str "none", .bl true, .bl false] by unfold readR; rw [du]] at e11
    walk_at "rd"
    intro t2 nt2
    have s12 := same_new nt2 (.tup [.str "none", .bl true, .bl false])
    have e12 := at_new (.tup [.str "none", .bl true, .bl false]) nt2
    generalize upd H11 t2 (.tup [.str "none", .bl true, .bl false]) = H12 at s12 e12 ⊢
    refine ⟨_, _, .tup (SqT.of (s12 _ _ e11)) (.cons (.str _) (.cons (.bl _) (.cons (.bl _) .nil))), .tup (SqT.of e12) (.cons (.str _) (.cons (.bl _) (.cons (.bl _) .nil))), by decide +kernel, by decide +kernel, ?_⟩
    rw [show PyData.eqv (.tuple [.str "none", .bool true, .bool false]) (.tuple [.str "none", .bool true, .bool false]) = true by decide +kernel]
    walk_at "rd"
    exact ⟨sH.trans (s1.trans (s2.trans (s3.trans (s37.trans (s8.trans (s9.trans (s10.trans (s11.trans s12)))))))), _, _, _, _, _, _, _, rfl⟩
  · rintro σ H' ⟨sH, z1, z2, z3, z4, z5, z6, z7, rfl⟩
    walk_at "rd"
    exact h _
end
theorem all_ok {K : PySem.W.Frag} {mg : Str → Option Value} (T : Txt K mg) (S_is_whole : Src K mg "is_whole" s_is_whole ["thing"]) (S_is_leap : Src K mg "is_leap" s_is_leap ["year"]) (S_new_year : Src K mg "new_year" s_new_year ["year"]) (S_check_text : Src K mg "check_text" s_check_text ["thing"]) (S_are_figures : Src K mg "are_figures" s_are_figures ["text"]) (S_two_figures : Src K mg "two_figures" s_two_figures ["number"]) (S__law_cell_at : Src K mg "_law_cell_at" s__law_cell_at ["_law_script", "_law_k"]) (S__law_draws : Src K mg "_law_draws" s__law_draws ["_law_cell", "_law_many"]) (S__law_leap : Src K mg "_law_leap" s__law_leap ["_law_year"]) (S__law_two : Src K mg "_law_two" s__law_two ["_law_number"]) (S__law_part : Src K mg "_law_part" s__law_part ["_law_text", "_law_size"]) (S_is_day : Src K mg "is_day" s_is_day ["thing"]) (S_month_days : Src K mg "month_days" s_month_days ["year", "month"]) (S_year_of : Src K mg "year_of" s_year_of ["day"]) (S__law_month_size : Src K mg "_law_month_size" s__law_month_size ["_law_year", "_law_month"]) (S__law_shown : Src K mg "_law_shown" s__law_shown ["_law_date_here"]) (S_is_date : Src K mg "is_date" s_is_date ["year", "month", "day"]) (S_date_of : Src K mg "date_of" s_date_of ["day"]) (S__law_date : Src K mg "_law_date" s__law_date ["_law_day_here"]) (S__law_day : Src K mg "_law_day" s__law_day ["_law_year", "_law_month", "_law_at"]) (S__law_bent : Src K mg "_law_bent" s__law_bent ["_law_date_here", "_law_xs"]) (S_day_of : Src K mg "day_of" s_day_of ["year", "month", "day"]) (S_show_date : Src K mg "show_date" s_show_date ["day"]) (S__law_due : Src K mg "_law_due" s__law_due ["_law_text"]) (S_read_date : Src K mg "read_date" s_read_date ["text"]) (S__law_read : Src K mg "_law_read" s__law_read ["_law_thing"]) (S__law_right : Src K mg "_law_right" s__law_right ["_law_text"]) (S_law : Src K mg "law" s_law ["_law_script"]) {P : Program} {w : World} {base : Heap} : Def P w K mg base 8 "law" ["_law_script"] (sp_law K) := by
  have D_is_whole := d_is_whole (P := P) (w := w) (base := base) S_is_whole T 
  have D_is_leap := d_is_leap (P := P) (w := w) (base := base) S_is_leap T 
  have D_new_year := d_new_year (P := P) (w := w) (base := base) S_new_year T 
  have D_check_text := d_check_text (P := P) (w := w) (base := base) S_check_text T 
  have D_are_figures := d_are_figures (P := P) (w := w) (base := base) S_are_figures T 
  have D_two_figures := d_two_figures (P := P) (w := w) (base := base) S_two_figures T 
  have D__law_cell_at := d__law_cell_at (P := P) (w := w) (base := base) S__law_cell_at T 
  have D__law_draws := d__law_draws (P := P) (w := w) (base := base) S__law_draws T 
  have D__law_leap := d__law_leap (P := P) (w := w) (base := base) S__law_leap T 
  have D__law_two := d__law_two (P := P) (w := w) (base := base) S__law_two T 
  have D__law_part := d__law_part (P := P) (w := w) (base := base) S__law_part T 
  have D_is_day := d_is_day (P := P) (w := w) (base := base) S_is_day T D_is_whole
  have D_month_days := d_month_days (P := P) (w := w) (base := base) S_month_days T D_is_leap
  have D_year_of := d_year_of (P := P) (w := w) (base := base) S_year_of T D_new_year
  have D__law_month_size := d__law_month_size (P := P) (w := w) (base := base) S__law_month_size T D__law_leap
  have D__law_shown := d__law_shown (P := P) (w := w) (base := base) S__law_shown T D__law_two
  have D_is_date := d_is_date (P := P) (w := w) (base := base) S_is_date T D_is_whole D_month_days
  have D_date_of := d_date_of (P := P) (w := w) (base := base) S_date_of T D_year_of D_new_year D_month_days
  have D__law_date := d__law_date (P := P) (w := w) (base := base) S__law_date T D__law_leap D__law_month_size
  have D__law_day := d__law_day (P := P) (w := w) (base := base) S__law_day T D__law_leap D__law_month_size
  have D__law_bent := d__law_bent (P := P) (w := w) (base := base) S__law_bent T D__law_shown D__law_two
  have D_day_of := d_day_of (P := P) (w := w) (base := base) S_day_of T D_is_date D_month_days D_new_year D_is_day
  have D_show_date := d_show_date (P := P) (w := w) (base := base) S_show_date T D_date_of D_two_figures
  have D__law_due := d__law_due (P := P) (w := w) (base := base) S__law_due T D__law_part D__law_month_size D__law_day
  have D_read_date := d_read_date (P := P) (w := w) (base := base) S_read_date T D_check_text D_are_figures D_day_of
  have D__law_read := d__law_read (P := P) (w := w) (base := base) S__law_read T D_read_date
  have D__law_right := d__law_right (P := P) (w := w) (base := base) S__law_right T D__law_due D__law_read
  have D_law := d_law (P := P) (w := w) (base := base) S_law T D__law_draws D__law_cell_at D__law_date D_show_date D__law_read D__law_shown D__law_right D__law_bent
  exact D_law
end My
open PySem PySem.W PyProof.Rows
set_option maxRecDepth 100000 in
set_option maxHeartbeats 0 in
theorem PySem.Challenge.cw_loanroll_k92_dates_written_holds : PySem.Challenge.rw_loanroll_k92_dates_written.Holds := by
  w_on; o_law; k_head; (case hw => w_witness2)
  k_fill
  refine L2.walk_def (l := PySem.Challenge.rw_loanroll_k92_dates_written) (lv := 8) (sp := My.sp_law) (x := "_law_script") (st := My.s_law) rfl rfl rfl ⟨rfl, by decide, by decide⟩ (fun w h Y => PySem.W.kIn_of Y) ?F (fun K H a ns hl hS => ⟨a, ns, rfl, hS, hl, fun _ => rfl⟩)
  case F =>
    intro w mg h KX G
    have n_all : mg "all" = none := PySem.W.mg_none_of KX G (by k_is)
    have n_bool : mg "bool" = none := PySem.W.mg_none_of KX G (by k_is)
    have n_int : mg "int" = none := PySem.W.mg_none_of KX G (by k_is)
    have n_isinstance : mg "isinstance" = none := PySem.W.mg_none_of KX G (by k_is)
    have n_len : mg "len" = none := PySem.W.mg_none_of KX G (by k_is)
    have n_range : mg "range" = none := PySem.W.mg_none_of KX G (by k_is)
    have n_str : mg "str" = none := PySem.W.mg_none_of KX G (by k_is)
    have n_sum : mg "sum" = none := PySem.W.mg_none_of KX G (by k_is)
    have a_LoanError := by
      refine' L2.nsHave (x := "LoanError") KX ?a
      (case a => k_is)
    have a_NoDay := by
      refine' L2.nsHave (x := "NoDay") KX ?a
      (case a => k_is)
    have a_NoText := by
      refine' L2.nsHave (x := "NoText") KX ?a
      (case a => k_is)
    have m_LoanError := L2.m_mk KX G a_LoanError
    have m_NoDay := L2.m_mk KX G a_NoDay
    have m_NoText := L2.m_mk KX G a_NoText
    have x_NoDay := by
      refine' L2.x2_mk a_NoDay ?_
      k_exc
    have x_NoText := by
      refine' L2.x2_mk a_NoText ?_
      k_exc
    have e_NoDay_NoDay := by
      refine' L2.exm_mk a_NoDay a_NoDay ?_ ?_ ?_ ?_
      all_goals k_is
    have e_NoText_NoText := by
      refine' L2.exm_mk a_NoText a_NoText ?_ ?_ ?_ ?_
      all_goals k_is
    have z_NoText := by
      refine' L2.x1_mk a_NoText ?_ ?_ ?_ ?_ ?_ ?_ ?_
      all_goals k_is
    have k_NoText_LoanError := by
      refine' L2.kit_mk (v := true) a_NoText a_LoanError ?_
      kit_is
    have k_NoText_NoDay := by
      refine' L2.kit_mk (v := false) a_NoText a_NoDay ?_
      kit_is
    have g_FIGURES := by
      refine' L2.gstr_mk (mg := mg) (x := "FIGURES") (i := "0123456789") KX G ?a
      (case a => k_is)
    have g_FIRST_YEAR := by
      refine' L2.gint_mk (mg := mg) (x := "FIRST_YEAR") (i := 2000) KX G ?a
      (case a => k_is)
    have g_LAST_DAY := by
      refine' L2.gint_mk (mg := mg) (x := "LAST_DAY") (i := 999999) KX G ?a
      (case a => k_is)
    have g_LENGTHS := by
      refine' L2.gtup_mk (mg := mg) (x := "LENGTHS") (xs := [.int 31, .int 28, .int 31, .int 30, .int 31, .int 30, .int 31, .int 31, .int 30, .int 31, .int 30, .int 31]) KX G ?a ?l ?r ?z
      (case a => k_is); (case l => k_is)
      (case r => repeat (first | exact .nil | refine .cons ⟨_, rfl⟩ ?_))
      (case z => decide)
    have g_ROUND_DAYS := by
      refine' L2.gint_mk (mg := mg) (x := "ROUND_DAYS") (i := 146097) KX G ?a
      (case a => k_is)
    have g_ROUND_YEARS := by
      refine' L2.gint_mk (mg := mg) (x := "ROUND_YEARS") (i := 400) KX G ?a
      (case a => k_is)
    have S_is_whole := by
      refine' L2.src_mk (mg := mg) (x := "is_whole") (st := My.s_is_whole) (ps := ["thing"]) KX G ?a ?l ?c ?k ?b
      (case a => k_is); (case l => k_is); (case c => k_is); (case k => k_is)
      (case b => exact L2.us1 (fun _ => rfl))
    have S_is_leap := by
      refine' L2.src_mk (mg := mg) (x := "is_leap") (st := My.s_is_leap) (ps := ["year"]) KX G ?a ?l ?c ?k ?b
      (case a => k_is); (case l => k_is); (case c => k_is); (case k => k_is)
      (case b => exact L2.us1 (fun _ => rfl))
    have S_new_year := by
      refine' L2.src_mk (mg := mg) (x := "new_year") (st := My.s_new_year) (ps := ["year"]) KX G ?a ?l ?c ?k ?b
      (case a => k_is); (case l => k_is); (case c => k_is); (case k => k_is)
      (case b => exact L2.us1 (fun _ => rfl))
    have S_check_text := by
      refine' L2.src_mk (mg := mg) (x := "check_text") (st := My.s_check_text) (ps := ["thing"]) KX G ?a ?l ?c ?k ?b
      (case a => k_is); (case l => k_is); (case c => k_is); (case k => k_is)
      (case b => exact L2.us1 (fun _ => rfl))
    have S_are_figures := by
      refine' L2.src_mk (mg := mg) (x := "are_figures") (st := My.s_are_figures) (ps := ["text"]) KX G ?a ?l ?c ?k ?b
      (case a => k_is); (case l => k_is); (case c => k_is); (case k => k_is)
      (case b => exact L2.us1 (fun _ => rfl))
    have S_two_figures := by
      refine' L2.src_mk (mg := mg) (x := "two_figures") (st := My.s_two_figures) (ps := ["number"]) KX G ?a ?l ?c ?k ?b
      (case a => k_is); (case l => k_is); (case c => k_is); (case k => k_is)
      (case b => exact L2.us1 (fun _ => rfl))
    have S__law_cell_at := by
      refine' L2.src_mk (mg := mg) (x := "_law_cell_at") (st := My.s__law_cell_at) (ps := ["_law_script", "_law_k"]) KX G ?a ?l ?c ?k ?b
      (case a => k_is); (case l => k_is); (case c => k_is); (case k => k_is)
      (case b => exact L2.us2 (fun _ _ => rfl))
    have S__law_draws := by
      refine' L2.src_mk (mg := mg) (x := "_law_draws") (st := My.s__law_draws) (ps := ["_law_cell", "_law_many"]) KX G ?a ?l ?c ?k ?b
      (case a => k_is); (case l => k_is); (case c => k_is); (case k => k_is)
      (case b => exact L2.us2 (fun _ _ => rfl))
    have S__law_leap := by
      refine' L2.src_mk (mg := mg) (x := "_law_leap") (st := My.s__law_leap) (ps := ["_law_year"]) KX G ?a ?l ?c ?k ?b
      (case a => k_is); (case l => k_is); (case c => k_is); (case k => k_is)
      (case b => exact L2.us1 (fun _ => rfl))
    have S__law_two := by
      refine' L2.src_mk (mg := mg) (x := "_law_two") (st := My.s__law_two) (ps := ["_law_number"]) KX G ?a ?l ?c ?k ?b
      (case a => k_is); (case l => k_is); (case c => k_is); (case k => k_is)
      (case b => exact L2.us1 (fun _ => rfl))
    have S__law_part := by
      refine' L2.src_mk (mg := mg) (x := "_law_part") (st := My.s__law_part) (ps := ["_law_text", "_law_size"]) KX G ?a ?l ?c ?k ?b
      (case a => k_is); (case l => k_is); (case c => k_is); (case k => k_is)
      (case b => exact L2.us2 (fun _ _ => rfl))
    have S_is_day := by
      refine' L2.src_mk (mg := mg) (x := "is_day") (st := My.s_is_day) (ps := ["thing"]) KX G ?a ?l ?c ?k ?b
      (case a => k_is); (case l => k_is); (case c => k_is); (case k => k_is)
      (case b => exact L2.us1 (fun _ => rfl))
    have S_month_days := by
      refine' L2.src_mk (mg := mg) (x := "month_days") (st := My.s_month_days) (ps := ["year", "month"]) KX G ?a ?l ?c ?k ?b
      (case a => k_is); (case l => k_is); (case c => k_is); (case k => k_is)
      (case b => exact L2.us2 (fun _ _ => rfl))
    have S_year_of := by
      refine' L2.src_mk (mg := mg) (x := "year_of") (st := My.s_year_of) (ps := ["day"]) KX G ?a ?l ?c ?k ?b
      (case a => k_is); (case l => k_is); (case c => k_is); (case k => k_is)
      (case b => exact L2.us1 (fun _ => rfl))
    have S__law_month_size := by
      refine' L2.src_mk (mg := mg) (x := "_law_month_size") (st := My.s__law_month_size) (ps := ["_law_year", "_law_month"]) KX G ?a ?l ?c ?k ?b
      (case a => k_is); (case l => k_is); (case c => k_is); (case k => k_is)
      (case b => exact L2.us2 (fun _ _ => rfl))
    have S__law_shown := by
      refine' L2.src_mk (mg := mg) (x := "_law_shown") (st := My.s__law_shown) (ps := ["_law_date_here"]) KX G ?a ?l ?c ?k ?b
      (case a => k_is); (case l => k_is); (case c => k_is); (case k => k_is)
      (case b => exact L2.us1 (fun _ => rfl))
    have S_is_date := by
      refine' L2.src_mk (mg := mg) (x := "is_date") (st := My.s_is_date) (ps := ["year", "month", "day"]) KX G ?a ?l ?c ?k ?b
      (case a => k_is); (case l => k_is); (case c => k_is); (case k => k_is)
      (case b => exact L2.us3 (fun _ _ _ => rfl))
    have S_date_of := by
      refine' L2.src_mk (mg := mg) (x := "date_of") (st := My.s_date_of) (ps := ["day"]) KX G ?a ?l ?c ?k ?b
      (case a => k_is); (case l => k_is); (case c => k_is); (case k => k_is)
      (case b => exact L2.us1 (fun _ => rfl))
    have S__law_date := by
      refine' L2.src_mk (mg := mg) (x := "_law_date") (st := My.s__law_date) (ps := ["_law_day_here"]) KX G ?a ?l ?c ?k ?b
      (case a => k_is); (case l => k_is); (case c => k_is); (case k => k_is)
      (case b => exact L2.us1 (fun _ => rfl))
    have S__law_day := by
      refine' L2.src_mk (mg := mg) (x := "_law_day") (st := My.s__law_day) (ps := ["_law_year", "_law_month", "_law_at"]) KX G ?a ?l ?c ?k ?b
      (case a => k_is); (case l => k_is); (case c => k_is); (case k => k_is)
      (case b => exact L2.us3 (fun _ _ _ => rfl))
    have S__law_bent := by
      refine' L2.src_mk (mg := mg) (x := "_law_bent") (st := My.s__law_bent) (ps := ["_law_date_here", "_law_xs"]) KX G ?a ?l ?c ?k ?b
      (case a => k_is); (case l => k_is); (case c => k_is); (case k => k_is)
      (case b => exact L2.us2 (fun _ _ => rfl))
    have S_day_of := by
      refine' L2.src_mk (mg := mg) (x := "day_of") (st := My.s_day_of) (ps := ["year", "month", "day"]) KX G ?a ?l ?c ?k ?b
      (case a => k_is); (case l => k_is); (case c => k_is); (case k => k_is)
      (case b => exact L2.us3 (fun _ _ _ => rfl))
    have S_show_date := by
      refine' L2.src_mk (mg := mg) (x := "show_date") (st := My.s_show_date) (ps := ["day"]) KX G ?a ?l ?c ?k ?b
      (case a => k_is); (case l => k_is); (case c => k_is); (case k => k_is)
      (case b => exact L2.us1 (fun _ => rfl))
    have S__law_due := by
      refine' L2.src_mk (mg := mg) (x := "_law_due") (st := My.s__law_due) (ps := ["_law_text"]) KX G ?a ?l ?c ?k ?b
      (case a => k_is); (case l => k_is); (case c => k_is); (case k => k_is)
      (case b => exact L2.us1 (fun _ => rfl))
    have S_read_date := by
      refine' L2.src_mk (mg := mg) (x := "read_date") (st := My.s_read_date) (ps := ["text"]) KX G ?a ?l ?c ?k ?b
      (case a => k_is); (case l => k_is); (case c => k_is); (case k => k_is)
      (case b => exact L2.us1 (fun _ => rfl))
    have S__law_read := by
      refine' L2.src_mk (mg := mg) (x := "_law_read") (st := My.s__law_read) (ps := ["_law_thing"]) KX G ?a ?l ?c ?k ?b
      (case a => k_is); (case l => k_is); (case c => k_is); (case k => k_is)
      (case b => exact L2.us1 (fun _ => rfl))
    have S__law_right := by
      refine' L2.src_mk (mg := mg) (x := "_law_right") (st := My.s__law_right) (ps := ["_law_text"]) KX G ?a ?l ?c ?k ?b
      (case a => k_is); (case l => k_is); (case c => k_is); (case k => k_is)
      (case b => exact L2.us1 (fun _ => rfl))
    have S_law := by
      refine' L2.src_mk (mg := mg) (x := "law") (st := My.s_law) (ps := ["_law_script"]) KX G ?a ?l ?c ?k ?b
      (case a => k_is); (case l => k_is); (case c => k_is); (case k => k_is)
      (case b => exact L2.us1 (fun _ => rfl))
    exact ⟨S_law, fun base => My.all_ok (⟨n_all, n_bool, n_int, n_isinstance, n_len, n_range, n_str, n_sum, m_LoanError, m_NoDay, m_NoText, x_NoDay, x_NoText, e_NoDay_NoDay, e_NoText_NoText, z_NoText, k_NoText_LoanError, k_NoText_NoDay, g_FIGURES, g_FIRST_YEAR, g_LAST_DAY, g_LENGTHS, g_ROUND_DAYS, g_ROUND_YEARS⟩ : My.Txt _ mg) S_is_whole S_is_leap S_new_year S_check_text S_are_figures S_two_figures S__law_cell_at S__law_draws S__law_leap S__law_two S__law_part S_is_day S_month_days S_year_of S__law_month_size S__law_shown S_is_date S_date_of S__law_date S__law_day S__law_bent S_day_of S_show_date S__law_due S_read_date S__law_read S__law_right S_law⟩

