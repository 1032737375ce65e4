import PyProof.Rows.All
import Wide.All
import OpenK.KSplit
import OpenK.KNot
import OpenK.KApp
import KE.KIsAll
import KE.RegKIsAll
import KE.LcSums
import KE.KItem
import KE.KSortTup
import KE.KSortAsk
import KE.KDictOf
import KE.KItemsList
import Wide.FinOn
import Lean
import PyProof.EqAt
import PyProof.EqKinds
import PyProof.TupleCall
import PySem.Challenge.RW_loanroll_k86_what_is_changed
set_option Elab.async false
set_option linter.all false
set_option maxRecDepth 100000
set_option maxHeartbeats 20000000
/-! THE HAND LAYER, for ints, bools, texts, own classes, LISTS and tuples (index, slices, in, append, pop ..), calls, loops. Paste it whole ahead of your own text; what your proof does not reach may be deleted. -/
namespace L2
open PySem PySem.Spec PyProof.Rows

/-- a key: an int or a str -/
abbrev Key := Sum Int Str
def keyIs : Key → Value → Bool
  | .inl k, v => Value.isInt k v
  | .inr x, v => Value.isStrOf x v
def keyH (w : World) : Key → Int
  | .inl k => hashInt k
  | .inr x => hashStr w x
theorem keyIs_shape : ∀ {k : Key} {v : Value}, keyIs k v = true → (∃ i t, k = Sum.inl i ∧ v = Value.int i t) ∨ (∃ x t, k = Sum.inr x ∧ v = Value.str x t)
  | .inl i, v, h => by
    obtain ⟨t, e⟩ := Value.isInt_shape (k := i) (v := v) h
    exact .inl ⟨i, t, rfl, e⟩
  | .inr x, v, h => by
    obtain ⟨t, e⟩ := Value.isStrOf_shape (x := x) (v := v) h
    exact .inr ⟨x, t, rfl, e⟩
theorem key_ll (a b : Int) : decide ((Sum.inl a : Key) = Sum.inl b) = (a == b) := by
  by_cases e : a = b
  · subst e; simp
  · have h : ¬ (Sum.inl a : Key) = Sum.inl b := fun q => e (Sum.inl.inj q)
    rw [decide_eq_false h]
    exact (beq_eq_false_iff_ne.mpr e).symm
theorem key_rr (a b : Str) : decide ((Sum.inr a : Key) = Sum.inr b) = decide (a = b) := by
  by_cases e : a = b
  · subst e; simp
  · have h : ¬ (Sum.inr a : Key) = Sum.inr b := fun q => e (Sum.inr.inj q)
    rw [decide_eq_false h, decide_eq_false e]
theorem key_lr (a : Int) (b : Str) : decide ((Sum.inl a : Key) = Sum.inr b) = false := decide_eq_false (fun q => nomatch q)
theorem key_rl (a : Str) (b : Int) : decide ((Sum.inr a : Key) = Sum.inl b) = false := decide_eq_false (fun q => nomatch q)

def mixKind (prog : Program) (w : World) : PySem.KeyKind prog w Key where
  is := keyIs
  hash := keyH w
  inj := fun v a b ha hb => by
    rcases keyIs_shape ha with ⟨i, t, rfl, rfl⟩ | ⟨x, t, rfl, rfl⟩
    · rcases keyIs_shape hb with ⟨j, u, rfl, e⟩ | ⟨y, u, rfl, e⟩
      · injection e with e1 _; rw [e1]
      · exact nomatch e
    · rcases keyIs_shape hb with ⟨j, u, rfl, e⟩ | ⟨y, u, rfl, e⟩
      · exact nomatch e
      · injection e with e1 _; rw [e1]
  byValue := fun k v h => by
    rcases keyIs_shape h with ⟨i, t, rfl, rfl⟩ | ⟨x, t, rfl, rfl⟩ <;> rfl
  pyHash := fun hv h => by
    rcases keyIs_shape hv with ⟨i, t, rfl, rfl⟩ | ⟨x, t, rfl, rfl⟩
    · exact wpAny_pyHash_int h
    · exact wpAny_pyHash_str h
  eqBool := fun hu hv h => by
    rcases keyIs_shape hu with ⟨i, t, rfl, rfl⟩ | ⟨x, t, rfl, rfl⟩
    · rcases keyIs_shape hv with ⟨j, u, rfl, rfl⟩ | ⟨y, u, rfl, rfl⟩
      · rw [key_ll] at h; exact wpAny_eqBool_int h
      · rw [key_lr] at h; exact SeqAt.EqAt.int_str i t y u _ _ _ _ h
    · rcases keyIs_shape hv with ⟨j, u, rfl, rfl⟩ | ⟨y, u, rfl, rfl⟩
      · rw [key_rl] at h; exact SeqAt.EqAt.str_int x t j u _ _ _ _ h
      · rw [key_rr] at h; exact wpAny_eqBool_str h
  «strs» := fun k x t v h => by
    rcases keyIs_shape h with ⟨i, u, rfl, e⟩ | ⟨y, u, rfl, e⟩
    · exact nomatch e
    · injection e with e1 _
      subst e1
      cases v <;> rfl

end L2

namespace L2
open PySem PySem.Spec PyProof.Rows

/-- a value, without the heap -/
inductive V where
  | non | bl (b : Bool) | int (i : Int) | str (x : Str) | byt (b : Array UInt8) | flt (b : UInt64) | ref (a : Addr) | ty (n : String)
  deriving DecidableEq

def RelV : V → Value → Prop
  | .non, u => u = Value.none
  | .bl b, u => u = Value.bool b
  | .int i, u => ∃ t, u = Value.int i t
  | .str x, u => ∃ t, u = Value.str x t
  | .byt b, u => ∃ t, u = Value.bytes b t
  | .flt b, u => ∃ t, u = Value.float b t
  | .ref a, u => u = Value.ref a
  | .ty n, u => u = Value.type n

abbrev Vals : List V → List Value → Prop := Paired RelV
theorem Vals.length {xs : List V} {us : List Value} (r : Vals xs us) : xs.length = us.length := Paired.length r
theorem Vals.get : ∀ {xs : List V} {us : List Value} {i : Nat} {x : V}, Vals xs us → xs[i]? = some x → ∃ u, us[i]? = some u ∧ RelV x u
  | _, _, _, _, .nil, e => by simp at e
  | _, _, 0, _, .cons r _, e => by simp at e; subst e; exact ⟨_, rfl, r⟩
  | _, _, i + 1, x, .cons _ t, e => by
    obtain ⟨u, h1, h2⟩ := Vals.get (i := i) (x := x) t (by simpa using e)
    exact ⟨u, by simpa using h1, h2⟩
theorem Vals.append : ∀ {xs ys : List V} {us ws : List Value}, Vals xs us → Vals ys ws → Vals (xs ++ ys) (us ++ ws)
  | _, _, _, _, .nil, s => s
  | _, _, _, _, .cons r t, s => .cons r (Vals.append t s)
theorem Vals.take : ∀ {xs : List V} {us : List Value} (n : Nat), Vals xs us → Vals (xs.take n) (us.take n)
  | _, _, 0, _ => .nil
  | _, _, _ + 1, .nil => .nil
  | _, _, n + 1, .cons r t => .cons r (Vals.take n t)
theorem Vals.drop : ∀ {xs : List V} {us : List Value} (n : Nat), Vals xs us → Vals (xs.drop n) (us.drop n)
  | _, _, 0, r => r
  | _, _, _ + 1, .nil => .nil
  | _, _, n + 1, .cons _ t => Vals.drop n t
def RelO : Option V → Option Value → Prop
  | some v, some u => RelV v u
  | none, none => True
  | _, _ => False
def KV {κ : Type} : List (κ × V) → List (κ × Value) → Prop := Paired fun (p : κ × V) (q : κ × Value) => p.1 = q.1 ∧ RelV p.2 q.2

/-- what stands at a tracked address -/
inductive HO where
  /-- a list -/
  | lst (xs : List V)
  /-- a tuple (never changes) -/
  | tup (xs : List V)
  /-- a dict whose keys are ints and texts; one whose keys are tuples of ints and texts (the empty one is both) -/
  | dK (kvs : List (Key × V))
  /-- a set of ints: its members, its size -/
  | set (S : Int → Bool) (n : Nat)
  /-- an instance of the class at C, its dict at dx, its attributes -/
  | ins (C dx : Addr) (fs : List (Str × V))
  /-- the dict of the instance at x -/
  | own (x : Addr)
  /-- the dict of an exception -/
  | xd (fs : List (Str × V))
  /-- a bound method, f of x -/
  | met (f x : Addr)
  /-- a range object lo, lo + 1, .. below hi -/
  | rng (lo hi : Int)
  /-- a thing that is known to the object (the script; a dict while a loop walks it): read, never written while it is so -/
  | frz (o : Obj) (u : HO)
  /-- a code object's table -/
  | tbl (ps : Array Value)
  /-- any other thing, by what is true of its one object (a def of one's own: SetO a S n := HO.ext fun h => ..) -/
  | ext (φ : Heap → Prop)

abbrev Hp := Addr → Option HO
def upd (H : Hp) (a : Addr) (o : HO) : Hp := fun b => if b = a then some o else H b
theorem upd_same {H : Hp} {a : Addr} {o : HO} : upd H a o a = some o := by unfold upd; rw [if_pos rfl]
theorem upd_ne {H : Hp} {a b : Addr} {o : HO} (h : b ≠ a) : upd H a o b = H b := by unfold upd; rw [if_neg h]
theorem upd_upd {H : Hp} {a : Addr} {o u : HO} : upd (upd H a o) a u = upd H a u := by
  funext b; unfold upd; split <;> rfl
/-- two objects of different content stand apart -/
theorem ne_of {H : Hp} {a b : Addr} {o u : HO} (h : H a = some o) (h' : H b = some u) (d : o ≠ u) : a ≠ b := by
  intro e; subst e; rw [h] at h'; exact d (Option.some.inj h')
theorem ne_of_none {H : Hp} {a b : Addr} {o : HO} (h : H a = some o) (h' : H b = none) : a ≠ b := by
  intro e; subst e; rw [h] at h'; cases h'

section
variable (P : Program) (w : World)
def ObjOk (H : Hp) (h : Heap) (a : Addr) : HO → Prop
  | .lst xs => xs.length ≤ sizeLine ∧ ∃ (its : List Value) (n : Nat), Vals xs its ∧ h.get? a = some { cls := .type "list", data := .seq its.toArray n }
  | .tup xs => xs.length ≤ sizeLine ∧ ∃ its : List Value, Vals xs its ∧ IsTup h a its.toArray
  | .dK kvs => kvs.length ≤ sizeLine ∧ (a == sysModules) = false ∧ ∃ vs, KV kvs vs ∧ h.DictOf (mixKind P w) a vs
  | .set S n => h.SetOf (intKind P w) a S n
  | .ins C dx fs => H dx = some (.own a) ∧ fs.length ≤ 1000 ∧ dx ≠ a ∧ h.get? a = some (PySem.W.instObj C dx) ∧
      ∃ mA, h.Ns1 dx mA ∧ (∀ f, RelO (fs.lookup f) (mA f)) ∧ PySem.Within mA (fs.map (·.1))
  | .own _ => ∃ o, h.get? a = some o
  | .xd fs => ∃ mA, h.Ns1 a mA ∧ ∀ f, RelO (fs.lookup f) (mA f)
  | .rng lo hi => ∃ t u v, h.get? a = some { cls := .type "range", data := .fields #[.int lo t, .int hi u, .int 1 v] }
  | .frz o u => h.get? a = some o ∧ ObjOk H h a u
  | .tbl ps => h.get? a = some { cls := .none, data := .fields ps }
  | .met f x => h.get? a = some (PySem.W.methodObj (.ref f) (.ref x))
  | .ext φ => φ h ∧ (∃ o, h.get? a = some o) ∧ ∀ h1 h2 : Heap, φ h1 → (∀ o, h1.get? a = some o → h2.get? a = some o) → φ h2
/-- the abstract heap is held -/
def HOk (H : Hp) (h : Heap) : Prop := ∀ a o, H a = some o → ObjOk P w H h a o
end

section
variable {P : Program} {w : World} {H H' : Hp} {h h' : Heap} {a : Addr} {o : HO}
theorem ObjOk.lt (x : ObjOk P w H h a o) : a < h.objs.size := by
  cases o with
  | lst xs => obtain ⟨_, _, _, _, e⟩ := x; exact Heap.lt_size e
  | tup xs => obtain ⟨_, _, _, p⟩ := x; exact p.lt
  | dK kvs => obtain ⟨_, _, _, _, o, _, _, e, _⟩ := x; exact Heap.lt_size e
  | set S n => obtain ⟨o, _, _, _, e, _⟩ := x; exact Heap.lt_size e
  | ins C dx fs => obtain ⟨_, _, _, e, _⟩ := x; exact Heap.lt_size e
  | own y => obtain ⟨_, e⟩ := x; exact Heap.lt_size e
  | xd fs => obtain ⟨_, ⟨_, _, _, e, _⟩, _⟩ := x; exact Heap.lt_size e
  | rng lo hi => obtain ⟨_, _, _, e⟩ := x; exact Heap.lt_size e
  | frz ob u => obtain ⟨e, _⟩ := x; exact Heap.lt_size e
  | tbl ps => exact Heap.lt_size (show h.get? a = some _ from x)
  | met f y => exact Heap.lt_size (show h.get? a = some _ from x)
  | ext φ => obtain ⟨_, ⟨_, e⟩, _⟩ := x; exact Heap.lt_size e
/-- what an object's description leans on: its own object, its own dict, the tuples -/
theorem ObjOk.stay (x : ObjOk P w H h a o) (k : ∀ b u, (b = a ∨ H b = some (.own a)) → h.get? b = some u → h'.get? b = some u)
    (ho : ∀ b, H b = some (.own a) → H' b = some (.own a)) (ht : ∀ b xs, H b = some (.tup xs) → H' b = some (.tup xs)) : ObjOk P w H' h' a o := by
  induction o with
  | lst xs => obtain ⟨z, its, n, r, e⟩ := x; exact ⟨z, its, n, r, k _ _ (.inl rfl) e⟩
  | tup xs => obtain ⟨z, its, r, ob, e, c⟩ := x; exact ⟨z, its, r, ob, k _ _ (.inl rfl) e, c⟩
  | dK kvs => obtain ⟨z, y, vs, r, ob, es, ep, e, c⟩ := x; exact ⟨z, y, vs, r, ob, es, ep, k _ _ (.inl rfl) e, c⟩
  | set S n => obtain ⟨ob, es, ep, t, e, c⟩ := x; exact ⟨ob, es, ep, t, k _ _ (.inl rfl) e, c⟩
  | ins C dx fs =>
    obtain ⟨d, z, ne, e, mA, ⟨od, es, ep, e2, c⟩, r⟩ := x
    exact ⟨ho _ d, z, ne, k _ _ (.inl rfl) e, mA, ⟨od, es, ep, k _ _ (.inr d) e2, c⟩, r⟩
  | own y => obtain ⟨ob, e⟩ := x; exact ⟨ob, k _ _ (.inl rfl) e⟩
  | xd fs => obtain ⟨mA, ⟨od, es, ep, e, c⟩, r⟩ := x; exact ⟨mA, ⟨od, es, ep, k _ _ (.inl rfl) e, c⟩, r⟩
  | rng lo hi => obtain ⟨t, u, v, e⟩ := x; exact ⟨t, u, v, k _ _ (.inl rfl) e⟩
  | frz ob u ih => obtain ⟨e, q⟩ := x; exact ⟨k _ _ (.inl rfl) e, ih q⟩
  | tbl ps =>
    have e : h.get? a = some { cls := .none, data := .fields ps } := x
    show h'.get? a = some { cls := .none, data := .fields ps }
    exact k a _ (.inl rfl) e
  | met f y =>
    have e : h.get? a = some (PySem.W.methodObj (.ref f) (.ref y)) := x
    show h'.get? a = some (PySem.W.methodObj (.ref f) (.ref y))
    exact k a _ (.inl rfl) e
  | ext φ => obtain ⟨p, ⟨o, e⟩, st⟩ := x; exact ⟨st _ _ p fun o q => k _ _ (.inl rfl) q, ⟨o, k _ _ (.inl rfl) e⟩, st⟩
theorem HOk.lt (x : HOk P w H h) (e : H a = some o) : a < h.objs.size := (x a o e).lt
theorem HOk.fresh (x : HOk P w H h) (e : h.objs.size ≤ a) : H a = none := by
  cases q : H a with
  | none => rfl
  | some u => exact absurd (Nat.lt_of_lt_of_le (x.lt q) e) (Nat.lt_irrefl _)
/-- every object of the heap is kept -/
theorem HOk.kept (x : HOk P w H h) (k : ∀ b u, h.get? b = some u → h'.get? b = some u) : HOk P w H h' := fun a o e =>
  (x a o e).stay (fun b u _ q => k b u q) (fun _ q => q) fun _ _ q => q
/-- a new object is laid and tracked -/
theorem HOk.laid (x : HOk P w H h) (k : ∀ b u, h.get? b = some u → h'.get? b = some u) (hp : h.objs.size ≤ a) (new : ObjOk P w (upd H a o) h' a o) : HOk P w (upd H a o) h' := fun b u e => by
  have hn := x.fresh hp
  by_cases hb : b = a
  · subst hb; rw [upd_same] at e; cases e; exact new
  · rw [upd_ne hb] at e
    exact (x b u e).stay (fun c v _ q => k c v q) (fun c q => by rw [upd_ne (ne_of_none q hn)]; exact q) fun c xs q => by rw [upd_ne (ne_of_none q hn)]; exact q
end

/-- what may be read as u: it is u, or a known u -/
def Rd (H : Hp) (a : Addr) (u : HO) : Prop := H a = some u ∨ ∃ o, H a = some (.frz o u)
theorem Rd.ok {P : Program} {w : World} {H : Hp} {h : Heap} {a : Addr} {u : HO} (r : Rd H a u) (x : HOk P w H h) : ObjOk P w H h a u := by
  rcases r with r | ⟨o, r⟩
  · exact x a u r
  · obtain ⟨_, q⟩ := x a _ r
    exact q
/-- what may be written -/
def Mut : Option HO → Prop
  | some (.lst _) => True
  | some (.dK _) => True
  | some (.set _ _) => True
  | some (.ins _ _ _) => True
  | some (.ext _) => True
  | _ => False
section
variable {P : Program} {w : World} {H : Hp} {h h' : Heap} {x e : Addr} {o' : HO}
/-- the object at e is changed: x itself, or the dict of the instance x -/
theorem HOk.write (ok : HOk P w H h) (mu : Mut (H x)) (he : e = x ∨ H e = some (.own x)) (k : ∀ b u, b ≠ e → h.get? b = some u → h'.get? b = some u) (heo : ∃ u, h'.get? e = some u)
    (new : ObjOk P w (upd H x o') h' x o') : HOk P w (upd H x o') h' := fun b u q => by
  have nown : ∀ c y, H c = some (.own y) → c ≠ x := fun c y r z => by subst z; rw [r] at mu; exact mu
  have ntup : ∀ c xs, H c = some (.tup xs) → c ≠ x := fun c xs r z => by subst z; rw [r] at mu; exact mu
  by_cases hb : b = x
  · subst hb; rw [upd_same] at q; cases q; exact new
  · rw [upd_ne hb] at q
    by_cases hbe : b = e
    · have q' : H b = some (.own x) := by
        rcases he with z | z
        · exact absurd (hbe.trans z) hb
        · rw [hbe]; exact z
      rw [q] at q'; cases q'
      obtain ⟨v, hv⟩ := heo
      exact ⟨v, by rw [hbe]; exact hv⟩
    · refine (ok b u q).stay (fun c v hc r => k c v ?_ r) (fun c r => by rw [upd_ne (nown c b r)]; exact r) fun c xs r => by rw [upd_ne (ntup c xs r)]; exact r
      rcases hc with rfl | hc
      · exact hbe
      · rintro rfl
        rcases he with z | z
        · exact nown c b hc z
        · rw [hc] at z; cases z; exact hb rfl
end

/-! ### kept unless tracked; of the frames at fs (the callers') the slots may change (an exception that passes writes there); of the records at ex (iterators) nothing is said -/
structure Un (fs ex : List Addr) (H H' : Hp) (h h' : Heap) : Prop where
  keep : ∀ b o, h.get? b = some o → H b = none → b ∉ fs → b ∉ ex → h'.get? b = some o
  slot : ∀ b o, h.get? b = some o → H b = none → b ∈ fs → b ∉ ex → ∃ sl, h'.get? b = some { o with slots := sl }
  free : ∀ b o, h.get? b = some o → H b = none → b ∉ ex → H' b = none
  there : ∀ b o, h.get? b = some o → b ∉ ex → ∃ o', h'.get? b = some o'
  tups : ∀ b xs, H b = some (.tup xs) → H' b = some (.tup xs)
  frzs : ∀ b o u, H b = some (.frz o u) → H' b = some (.frz o u)
  tbls : ∀ b ps, H b = some (.tbl ps) → ∃ more, H' b = some (.tbl (ps ++ more))
section
variable {fs fs' ex ex' : List Addr} {H H1 H2 : Hp} {h h1 h2 h' : Heap} {a x e : Addr} {o : HO}
theorem Un.any (u : Un fs ex H H1 h h1) {b : Addr} {ob : Obj} (q : h.get? b = some ob) (n : H b = none) (hx : b ∉ ex) : ∃ sl, h1.get? b = some { ob with slots := sl } := by
  by_cases hb : b ∈ fs
  · exact u.slot b ob q n hb hx
  · exact ⟨ob.slots, u.keep b ob q n hb hx⟩
theorem Un.kept (k : ∀ b u, h.get? b = some u → h'.get? b = some u) : Un fs ex H H h h' :=
  ⟨fun b ob q _ _ _ => k b ob q, fun b ob q _ _ _ => ⟨ob.slots, k b ob q⟩, fun _ _ _ n _ => n, fun b ob q _ => ⟨ob, k b ob q⟩, fun _ _ q => q, fun _ _ _ q => q, fun _ ps q => ⟨#[], by rw [q]; simp⟩⟩
theorem Un.refl : Un fs ex H H h h := Un.kept fun _ _ q => q
theorem Un.laid (k : ∀ b u, h.get? b = some u → h'.get? b = some u) (hp : h.objs.size ≤ a) (hn : H a = none) : Un fs ex H (upd H a o) h h' where
  keep := fun b u q _ _ _ => k b u q
  slot := fun b u q _ _ _ => ⟨u.slots, k b u q⟩
  free := fun b u q n _ => by rw [upd_ne (Nat.ne_of_lt (Nat.lt_of_lt_of_le (Heap.lt_size q) hp))]; exact n
  there := fun b u q _ => ⟨u, k b u q⟩
  tups := fun b xs q => by rw [upd_ne (ne_of_none q hn)]; exact q
  frzs := fun b u xs q => by rw [upd_ne (ne_of_none q hn)]; exact q
  tbls := fun b ps q => ⟨#[], by rw [upd_ne (ne_of_none q hn), q]; simp⟩
theorem Un.write (mu : Mut (H x)) (he : e = x ∨ H e = some (.own x)) (k : ∀ b u, b ≠ e → h.get? b = some u → h'.get? b = some u) (heo : ∃ u, h'.get? e = some u) : Un fs ex H (upd H x o) h h' := by
  have hx : ∀ b, H b = none → b ≠ x := fun b n z => by subst z; rw [n] at mu; exact mu
  have hb : ∀ b, H b = none → b ≠ e := fun b n z => by
    subst z
    rcases he with r | r
    · exact hx b n r
    · rw [n] at r; cases r
  have hm : ∀ b u, H b = some u → ¬ Mut (some u) → b ≠ x := fun b u q nm z => by subst z; rw [q] at mu; exact nm mu
  refine ⟨fun b u q n _ _ => k b u (hb b n) q, fun b u q n _ _ => ⟨u.slots, k b u (hb b n) q⟩, fun b u q n _ => by rw [upd_ne (hx b n)]; exact n, fun b u q _ => ?_,
    fun b xs q => by rw [upd_ne (hm b _ q fun z => z)]; exact q, fun b u xs q => by rw [upd_ne (hm b _ q fun z => z)]; exact q, fun b ps q => ⟨#[], by rw [upd_ne (hm b _ q fun z => z), q]; simp⟩⟩
  by_cases hbe : b = e
  · subst hbe; exact heo
  · exact ⟨u, k b u hbe q⟩
end

/-! ### the heap without what is tracked -/
def trk (h : Heap) (H : Hp) : List Addr := (List.range h.objs.size).filter fun a => (H a).isSome
def hidT (h : Heap) (H : Hp) : Heap := PySem.W.hideAll h (trk h H)
theorem hidT_size (h : Heap) (H : Hp) : (hidT h H).objs.size = h.objs.size := PySem.W.hideAll_size _ _
theorem hidT_get {h : Heap} {H : Hp} {b : Addr} {o : Obj} (e : h.get? b = some o) (n : H b = none) : (hidT h H).get? b = some o :=
  PySem.W.hideAll_get _ e fun hm => by
    have q : (H b).isSome = true := (List.mem_filter.mp hm).2
    rw [n] at q; simp at q
theorem of_hidT {h : Heap} {H : Hp} {b : Addr} {o : Obj} (e : (hidT h H).get? b = some o) : h.get? b = some o ∧ H b = none := by
  have e' : h.get? b = some o := PySem.W.of_hideAll (trk h H) e
  refine ⟨e', ?_⟩
  cases q : H b with
  | none => rfl
  | some x =>
    have hm : b ∈ trk h H := List.mem_filter.mpr ⟨List.mem_range.mpr (Heap.lt_size e'), by simp [q]⟩
    have z : (hidT h H).get? b = none := PySem.W.hideAll_none (trk h H) hm
    rw [z] at e; cases e

/-! ### OpenK's ledger, filled with every new object but one -/
def allNews (g h : Heap) (L : Addr) : List (Addr × Obj) := (List.range h.objs.size).filterMap fun a => if a = L ∨ (g.get? a).isSome = true then none else (h.get? a).map fun o => (a, o)
def rest (g h : Heap) (L d : Addr) : List (Addr × Obj) := (allNews g h L).filter fun p => decide (p.1 ≠ d)
end L2

namespace L2
open PySem PySem.Spec PyProof.Rows

/-- the module's facts, over the base: the heap at the law's entry without what is tracked there -/
structure Mod (K : PySem.W.Frag) (mg : Str → Option Value) (base : Heap) : Prop where
  kin : K.In base
  glob : base.Ns mainGlobals mg
  blt : ∃ mb, base.Ns builtinsNs mb ∧ ∀ x : Str, x ≠ "__name__" → mb x = bootBuiltins x
  nolimit : base.NoLimit

/-- the context: a def's body (or a comprehension's block) running. base: fixed through the whole law; s₀, H₀: the entry; outer: the frames whose slots others may change (a def's callers); stack: all frames that run;
   ex: iterators that were made ahead of the entry and are walked here (a comprehension's); fn: the names whose cells were made at the entry (a def: all; a comprehension's block: its own); calm: not within an except suite; pn: pins that every state bears; xe: what is wanted of an exception that leaves the code -/
structure Cx where
  prog : Program
  w : World
  K : PySem.W.Frag
  mg : Str → Option Value
  base : Heap
  A : Around
  N : List Str
  s₀ : Shared
  H₀ : Hp
  env : Env
  outer : List Env
  stack : List Env
  ex : List Addr
  fn : Str → Bool
  calm : Bool
  pn : List (Addr × Obj)
  xe : Value → Shared → Prop
/-- the callers' frames -/
def frs (l : List Env) : List Addr := l.filterMap (·.frame)
abbrev Cx.fs (X : Cx) : List Addr := frs X.outer

def Vis (sc : Scope) (x : Str) : Prop := sc.names.lookup x = some .local ∨ sc.names.lookup x = some .cell ∨ sc.names.lookup x = some .free
def Loc (sc : Scope) (x : Str) : Prop := sc.names.lookup x = some .local ∨ sc.names.lookup x = some .cell
def Look (env : Env) (h : Heap) (m : Str → Option Value) (x : Str) (u : Value) : Prop :=
  (env.kindOf x = some .local ∧ m x = some u) ∨ ((env.kindOf x = some .cell ∨ env.kindOf x = some .free) ∧ ∃ c, env.cells.lookup x = some c ∧ h.IsCell c (some u))

structure Cx.Ok (X : Cx) : Prop where
  mod : Mod X.K X.mg X.base
  kind : X.env.scope.kind = .function
  glob : X.env.globals = mainGlobals
  blt : X.env.builtins = builtinsNs
  above : X.s₀.heap.objs.size ≤ X.env.locals
  inj : ∀ x y c, X.env.cells.lookup x = some c → X.env.cells.lookup y = some c → x = y
  has : ∀ x, (X.env.kindOf x = some .cell ∨ X.env.kindOf x = some .free) → ∃ c, X.env.cells.lookup x = some c
  cab : ∀ x c, X.fn x = true → X.env.cells.lookup x = some c → X.s₀.heap.objs.size ≤ c
  hd : X.calm = true → X.A.handled = none
  frames : X.A.frames = some X.stack
  stk : X.stack = X.outer ∨ (X.stack = X.env :: X.outer ∧ X.env.frame = some X.env.locals)
  exf : ∀ b ∈ X.ex, b ≠ X.env.locals ∧ ∀ x c, X.env.cells.lookup x = some c → c ≠ b
  bs : ∀ b o, X.base.get? b = some o → X.s₀.heap.get? b = some o ∧ X.H₀ b = none
  bsz : X.base.objs.size ≤ X.s₀.heap.objs.size
  noex : ∀ b o, X.base.get? b = some o → b ∉ X.ex
  exfs : ∀ b ∈ X.ex, b ∉ X.fs
  funs : X.s₀.heap.FunFrames X.base X.outer
  frf : ∀ b ∈ X.fs, X.H₀ b = none

structure Inv (X : Cx) (pins : List (Addr × Obj)) (σ : List (Option V)) (H : Hp) (s : Shared) : Prop where
  ok : X.Ok
  os : s.os = X.s₀.os
  bare : AllBare s.gens
  base : Un X.fs X.ex X.H₀ H X.s₀.heap s.heap
  loc : ∃ m, s.heap.Ns X.env.locals m ∧ ∀ (i : Nat) (x : Str) (v : V), X.N[i]? = some x → σ[i]? = some (some v) → Vis X.env.scope x → ∃ u, RelV v u ∧ Look X.env s.heap m x u
  cell : ∀ x c, X.env.cells.lookup x = some c → ∃ v, s.heap.IsCell c v
  free : H X.env.locals = none
  freeC : ∀ x c, X.env.cells.lookup x = some c → H c = none
  pin : ∀ p ∈ X.pn ++ pins, s.heap.get? p.1 = some p.2 ∧ H p.1 = none ∧ p.1 ≠ X.env.locals ∧ p.1 ∉ X.fs ∧ ∀ v, p.2.data ≠ .cell v
  hok : HOk X.prog X.w H s.heap
  len : σ.length = X.N.length

section
variable {X : Cx} {pins : List (Addr × Obj)} {σ : List (Option V)} {H H' : Hp} {s : Shared} {h' : Heap}

theorem Cx.Ok.nofr (ok : X.Ok) {b : Addr} {o : Obj} (e : X.base.get? b = some o) : b ∉ X.fs := fun hb => by
  have := (ok.funs.mem hb).1
  rw [e] at this; cases this
theorem Inv.bs (I : Inv X pins σ H s) : ∀ b o, X.base.get? b = some o → s.heap.get? b = some o ∧ H b = none := fun b o e =>
  ⟨I.base.keep b o (I.ok.bs b o e).1 (I.ok.bs b o e).2 (I.ok.nofr e) (I.ok.noex b o e), I.base.free b o (I.ok.bs b o e).1 (I.ok.bs b o e).2 (I.ok.noex b o e)⟩
theorem Inv.bk (I : Inv X pins σ H s) : ∀ b o, X.base.get? b = some o → s.heap.get? b = some o := fun b o e => (I.bs b o e).1
theorem Inv.mod (I : Inv X pins σ H s) : Mod X.K X.mg X.base := I.ok.mod
theorem Inv.kIn (I : Inv X pins σ H s) : X.K.In s.heap := I.ok.mod.kin.keeps I.bk
theorem Inv.lt (I : Inv X pins σ H s) : X.env.locals < s.heap.objs.size := let ⟨_, hn, _⟩ := I.loc; hn.lt
theorem Inv.sz (I : Inv X pins σ H s) : X.s₀.heap.objs.size ≤ s.heap.objs.size := Nat.le_trans I.ok.above (Nat.le_of_lt I.lt)
theorem Inv.nofs (I : Inv X pins σ H s) {a : Addr} (h : s.heap.objs.size ≤ a) : a ∉ X.fs := fun hb => by
  obtain ⟨_, o, ho, _⟩ := I.ok.funs.mem hb
  exact absurd (Nat.lt_of_lt_of_le (Heap.lt_size ho) (Nat.le_trans I.sz h)) (Nat.lt_irrefl _)
theorem Inv.cne (I : Inv X pins σ H s) : ∀ x c, X.env.cells.lookup x = some c → c ≠ X.env.locals := fun x c e z => by
  obtain ⟨v, o, ho, hd⟩ := I.cell x c e
  obtain ⟨m, ⟨o', es, ep, ho', hd', _⟩, _⟩ := I.loc
  rw [z, ho'] at ho; cases ho; rw [hd'] at hd; cases hd
theorem Inv.funs (I : Inv X pins σ H s) : s.heap.FunFrames X.base X.outer := by
  have all : ∀ (l : List Env), (∀ b ∈ frs l, b ∈ X.fs) → X.s₀.heap.FunFrames X.base l → s.heap.FunFrames X.base l := by
    intro l
    induction l with
    | nil => intro _ _; trivial
    | cons env r ih =>
      intro hs hl
      obtain ⟨hk, ⟨L, o, hf, hn, ho, hd⟩, hr⟩ := hl
      have hL : L ∈ X.fs := hs L (by unfold frs; rw [List.filterMap_cons, hf]; exact List.mem_cons_self)
      obtain ⟨sl, e⟩ := I.base.slot L o ho (I.ok.frf L hL) hL fun z => I.ok.exfs L z hL
      exact ⟨hk, ⟨L, _, hf, hn, e, hd⟩, ih (fun b hb => hs b (by unfold frs; rw [List.filterMap_cons, hf]; exact List.mem_cons_of_mem _ hb)) hr⟩
  exact all X.outer (fun _ hb => hb) I.ok.funs

/-- the frames that run, for a call -/
theorem Inv.stack (I : Inv X pins σ H s) : s.heap.FunFrames X.base X.stack := by
  rcases I.ok.stk with e | ⟨e, hf⟩
  · rw [e]; exact I.funs
  · rw [e]
    obtain ⟨m, hn, _⟩ := I.loc
    refine .cons (by rw [I.ok.kind]; decide) hf hn ?_ I.funs
    exact Heap.get?_none_of_le (Nat.le_trans I.ok.bsz I.ok.above)
theorem Inv.stkSub (I : Inv X pins σ H s) : ∀ b ∈ frs X.stack, b ∈ X.env.locals :: X.fs := fun b hb => by
  rcases I.ok.stk with e | ⟨e, hf⟩
  · rw [e] at hb; exact List.mem_cons_of_mem _ hb
  · rw [e] at hb
    unfold frs at hb
    rw [List.filterMap_cons, hf] at hb
    exact hb
theorem Inv.stkFree (I : Inv X pins σ H s) : ∀ b ∈ frs X.stack, H b = none := fun b hb => by
  rcases List.mem_cons.mp (I.stkSub b hb) with e | hb
  · rw [e]; exact I.free
  · obtain ⟨_, o, ho, _⟩ := I.ok.funs.mem hb
    exact I.base.free b o ho (I.ok.frf b hb) fun z => I.ok.exfs b z hb

/-- THE STEP: the untracked objects but the frame and the records at ch are kept (the callers' frames up to slots), the frame's map is kept, the new abstract heap is held -/
theorem Inv.step {g' : Array GenState} {t' : Nat} {d' : Drawn} {ch : List Addr} (I : Inv X pins σ H s)
    (hch : ∀ b ∈ ch, (b ∈ X.ex ∨ X.s₀.heap.objs.size ≤ b) ∧ b ≠ X.env.locals ∧ (∀ x c, X.env.cells.lookup x = some c → c ≠ b) ∧ ∀ p ∈ X.pn ++ pins, p.1 ≠ b)
    (keep : ∀ b o, b ≠ X.env.locals → b ∉ X.fs → b ∉ ch → s.heap.get? b = some o → H b = none → h'.get? b = some o)
    (slot : ∀ b o, b ≠ X.env.locals → b ∈ X.fs → b ∉ ch → s.heap.get? b = some o → H b = none → ∃ sl, h'.get? b = some { o with slots := sl }) (free : ∀ b o, b ∉ ch → s.heap.get? b = some o → H b = none → H' b = none)
    (there : ∀ b o, b ∉ ch → s.heap.get? b = some o → ∃ o', h'.get? b = some o')
    (tups : ∀ b xs, H b = some (.tup xs) → H' b = some (.tup xs)) (frzs : ∀ b o u, H b = some (.frz o u) → H' b = some (.frz o u)) (tbls : ∀ b ps, H b = some (.tbl ps) → ∃ more, H' b = some (.tbl (ps ++ more)))
    (ns : ∀ m, s.heap.Ns X.env.locals m → h'.Ns X.env.locals m) (hok : HOk X.prog X.w H' h') (hg : AllBare g') :
    Inv X pins σ H' { s with heap := h', gens := g', drawn := d', toks := t' } := by
  have neL : ∀ b o, X.s₀.heap.get? b = some o → b ≠ X.env.locals := fun b o e => Nat.ne_of_lt (Nat.lt_of_lt_of_le (Heap.lt_size e) I.ok.above)
  have neC : ∀ b o, X.s₀.heap.get? b = some o → b ∉ X.ex → b ∉ ch := fun b o e hx hb => by
    rcases (hch b hb).1 with z | z
    · exact hx z
    · exact absurd (Nat.lt_of_lt_of_le (Heap.lt_size e) z) (Nat.lt_irrefl _)
  have cellK : ∀ x c, X.env.cells.lookup x = some c → ∀ v, s.heap.IsCell c v → h'.IsCell c v := fun x c e v ⟨o, ho, hd⟩ => by
    have nch : c ∉ ch := fun z => (hch c z).2.2.1 x c e rfl
    by_cases hc : c ∈ X.fs
    · obtain ⟨sl, q⟩ := slot c o (I.cne x c e) hc nch ho (I.freeC x c e)
      exact ⟨_, q, hd⟩
    · exact ⟨o, keep c o (I.cne x c e) hc nch ho (I.freeC x c e), hd⟩
  refine ⟨I.ok, I.os, hg, ⟨fun b o e n hb hx => ?_, fun b o e n hb hx => ?_, fun b o e n hx => ?_, fun b o e hx => ?_, fun b xs e => tups b xs (I.base.tups b xs e), fun b o xs e => frzs b o xs (I.base.frzs b o xs e), fun b ps e => ?_⟩, ?_, fun x c e => ?_, ?_, fun x c e => ?_, fun p hp => ?_, hok, I.len⟩
  · exact keep b o (neL b o e) hb (neC b o e hx) (I.base.keep b o e n hb hx) (I.base.free b o e n hx)
  · obtain ⟨sl, e1⟩ := I.base.slot b o e n hb hx
    obtain ⟨sl', e2⟩ := slot b _ (neL b o e) hb (neC b o e hx) e1 (I.base.free b o e n hx)
    exact ⟨sl', e2⟩
  · obtain ⟨o', e1⟩ := I.base.there b o e hx
    exact free b o' (neC b o e hx) e1 (I.base.free b o e n hx)
  · obtain ⟨o', e1⟩ := I.base.there b o e hx
    exact there b o' (neC b o e hx) e1
  · obtain ⟨m1, e1⟩ := I.base.tbls b ps e
    obtain ⟨m2, e2⟩ := tbls b _ e1
    exact ⟨m1 ++ m2, by rw [e2, Array.append_assoc]⟩
  · obtain ⟨m, hn, hl⟩ := I.loc
    refine ⟨m, ns m hn, fun i x v e1 e2 e3 => ?_⟩
    obtain ⟨u, r, l⟩ := hl i x v e1 e2 e3
    refine ⟨u, r, ?_⟩
    rcases l with l | ⟨k, c, e, z⟩
    · exact .inl l
    · exact .inr ⟨k, c, e, cellK x c e _ z⟩
  · obtain ⟨v, z⟩ := I.cell x c e
    exact ⟨v, cellK x c e v z⟩
  · obtain ⟨m, ⟨o, _, _, ho, _⟩, _⟩ := I.loc
    exact free _ o (fun z => (hch _ z).2.1 rfl) ho I.free
  · obtain ⟨v, o, ho, hd⟩ := I.cell x c e
    exact free c o (fun z => (hch c z).2.2.1 x c e rfl) ho (I.freeC x c e)
  · obtain ⟨e, n, ne, nf, d⟩ := I.pin p hp
    have nch : p.1 ∉ ch := fun z => (hch p.1 z).2.2.2 p hp rfl
    exact ⟨keep p.1 p.2 ne nf nch e n, free p.1 p.2 nch e n, ne, nf, d⟩
/-- .. where the frame's own object is kept too -/
theorem Inv.un {t' : Nat} (I : Inv X pins σ H s) (u : Un X.fs [] H H' s.heap h') (hok : HOk X.prog X.w H' h') : Inv X pins σ H' { s with heap := h', toks := t' } := by
  obtain ⟨m, ⟨o, es, ep, ho, r⟩, _⟩ := id I.loc
  obtain ⟨sl, hL⟩ := u.any ho I.free (by simp)
  exact I.step (g' := s.gens) (d' := s.drawn) (ch := []) (fun _ z => nomatch z) (fun b o _ hb _ e n => u.keep b o e n hb (by simp)) (fun b o _ hb _ e n => u.slot b o e n hb (by simp)) (fun b o _ e n => u.free b o e n (by simp)) (fun b o _ e => u.there b o e (by simp)) u.tups u.frzs u.tbls (fun m' hm => by
    obtain ⟨o', es', ep', ho', r'⟩ := hm
    rw [ho] at ho'; cases ho'
    exact ⟨_, es', ep', hL, r'⟩) hok I.bare
/-- behind a call (or a comprehension's block): the slots of this frame may have changed too, the records at ch may have turned -/
theorem Inv.call {g' : Array GenState} {t' : Nat} {d' : Drawn} {ch : List Addr} (I : Inv X pins σ H s) (u : Un (frs X.stack) ch H H' s.heap h') (hok : HOk X.prog X.w H' h') (hg : AllBare g')
    (hch : ∀ b ∈ ch, (b ∈ X.ex ∨ X.s₀.heap.objs.size ≤ b) ∧ b ≠ X.env.locals ∧ (∀ x c, X.env.cells.lookup x = some c → c ≠ b) ∧ ∀ p ∈ X.pn ++ pins, p.1 ≠ b) :
    Inv X pins σ H' { s with heap := h', gens := g', drawn := d', toks := t' } := by
  obtain ⟨m, ⟨o, es, ep, ho, r⟩, _⟩ := id I.loc
  obtain ⟨sl, hL⟩ := u.any ho I.free fun z => (hch _ z).2.1 rfl
  exact I.step (ch := ch) hch (fun b o hL hb hc e n => u.keep b o e n (fun z => (List.mem_cons.mp (I.stkSub b z)).elim hL hb) hc) (fun b o _ _ hc e n => u.any e n hc) (fun b o hc e n => u.free b o e n hc) (fun b o hc e => u.there b o e hc) u.tups u.frzs u.tbls (fun m' hm => by
    obtain ⟨o', es', ep', ho', r'⟩ := hm
    rw [ho] at ho'; cases ho'
    exact ⟨_, es', ep', hL, r'⟩) hok hg
/-- an untracked record of ours (an iterator) has turned -/
theorem Inv.turned {t' : Nat} {it : Addr} (I : Inv X pins σ H s) (k : ∀ b o, b ≠ it → s.heap.get? b = some o → h'.get? b = some o) (hn : H it = none) (hL : it ≠ X.env.locals)
    (h1 : it ∈ X.ex ∨ X.s₀.heap.objs.size ≤ it) (h2 : ∀ x c, X.env.cells.lookup x = some c → c ≠ it) (h3 : ∀ p ∈ X.pn ++ pins, p.1 ≠ it) : Inv X pins σ H { s with heap := h', toks := t' } := by
  have nit : ∀ b u, H b = some u → b ≠ it := fun b u e z => by rw [z, hn] at e; cases e
  refine I.step (g' := s.gens) (d' := s.drawn) (ch := [it]) (fun b hb => ?_) (fun b o _ _ hc e _ => k b o (fun z => hc (by simp [z])) e) (fun b o _ _ hc e _ => ⟨o.slots, k b o (fun z => hc (by simp [z])) e⟩) (fun _ _ _ _ n => n)
    (fun b o hc e => ⟨o, k b o (fun z => hc (by simp [z])) e⟩) (fun _ _ e => e) (fun _ _ _ e => e) (fun b ps e => ⟨#[], by rw [e]; simp⟩) (fun m hm => ?_) (fun b u e => ?_) I.bare
  · have e : b = it := by simpa using hb
    subst e
    exact ⟨h1, hL, h2, h3⟩
  · obtain ⟨o, es, ep, ho, r⟩ := hm
    exact ⟨o, es, ep, k _ o (Ne.symm hL) ho, r⟩
  · refine (I.hok b u e).stay (fun c v hc q => k c v ?_ q) (fun _ q => q) fun _ _ q => q
    rcases hc with z | z
    · rw [z]; exact nit b u e
    · exact nit c _ z
theorem Inv.tok (I : Inv X pins σ H s) (t : Nat) : Inv X pins σ H { s with toks := t } := I.un (h' := s.heap) (t' := t) Un.refl I.hok
/-- all objects kept -/
theorem Inv.kept {t' : Nat} (I : Inv X pins σ H s) (k : ∀ b u, s.heap.get? b = some u → h'.get? b = some u) : Inv X pins σ H { s with heap := h', toks := t' } := I.un (Un.kept k) (I.hok.kept k)
/-- a new object laid and tracked -/
theorem Inv.laid {a : Addr} {o : HO} {t' : Nat} (I : Inv X pins σ H s) (k : ∀ b u, s.heap.get? b = some u → h'.get? b = some u) (hp : s.heap.objs.size ≤ a) (new : ObjOk X.prog X.w (upd H a o) h' a o) :
    Inv X pins σ (upd H a o) { s with heap := h', toks := t' } := I.un (Un.laid k hp (I.hok.fresh hp)) (I.hok.laid k hp new)
/-- an object written -/
theorem Inv.write {x e : Addr} {o : HO} {t' : Nat} (I : Inv X pins σ H s) (mu : Mut (H x)) (he : e = x ∨ H e = some (.own x)) (k : ∀ b u, b ≠ e → s.heap.get? b = some u → h'.get? b = some u) (heo : ∃ u, h'.get? e = some u)
    (new : ObjOk X.prog X.w (upd H x o) h' x o) : Inv X pins σ (upd H x o) { s with heap := h', toks := t' } := I.un (Un.write mu he k heo) (I.hok.write mu he k heo new)
theorem Inv.pins_of {pins' : List (Addr × Obj)} (I : Inv X pins σ H s) (h : ∀ p ∈ pins', s.heap.get? p.1 = some p.2 ∧ H p.1 = none ∧ p.1 ≠ X.env.locals ∧ p.1 ∉ X.fs ∧ ∀ v, p.2.data ≠ .cell v) : Inv X pins' σ H s :=
  ⟨I.ok, I.os, I.bare, I.base, I.loc, I.cell, I.free, I.freeC, fun p hp => (List.mem_append.mp hp).elim (fun z => I.pin p (List.mem_append_left _ z)) (h p), I.hok, I.len⟩

theorem nodup_ix {N : List Str} (hN : N.Nodup) {i j : Nat} {x : Str} (a : N[i]? = some x) (b : N[j]? = some x) : i = j := by
  obtain ⟨h1, e1⟩ := List.getElem?_eq_some_iff.mp a
  obtain ⟨h2, e2⟩ := List.getElem?_eq_some_iff.mp b
  exact (List.getElem_inj hN).mp (e1.trans e2.symm)

/-- a name is stored; what changed -/
theorem store_ok2 {M : Model} {A : Around} {E : Value → Shared → Prop} {i : Nat} {x : Str} {v : V} {u : Value} {Q : Unit → Shared → Prop} (I : Inv X pins σ H s) (hN : X.N.Nodup) (hi : X.N[i]? = some x) (hx : Loc X.env.scope x) (r : RelV v u)
    (h : ∀ s', Inv X pins (σ.set i (some v)) H s' → (∃ a, Heap.SameBut a s.heap s'.heap ∧ (a = X.env.locals ∨ X.env.cells.lookup x = some a)) → Q () s') (hf : X.fn x = true ∨ X.env.scope.names.lookup x = some .local := by first | exact .inl rfl | exact .inr rfl | assumption) : wpAny M A (storeName X.env x u) Q E s := by
  obtain ⟨m, hn, hl⟩ := id I.loc
  have hcls : (X.env.scope.kind == .class || (X.env.scope.kind == .module && X.env.locals != X.env.globals)) = false := by rw [I.ok.kind]; rfl
  have hiσ : i < σ.length := by rw [I.len]; exact (List.getElem?_eq_some_iff.mp hi).1
  have cne := I.cne
  have tracked : ∀ {a : Addr} {h' : Heap}, (∃ o, s.heap.get? a = some o ∧ H a = none) → Heap.SameBut a s.heap h' → HOk X.prog X.w H h' := fun {a h'} ha hs b ob e => by
    obtain ⟨_, _, hfree⟩ := ha
    refine (I.hok b ob e).stay (fun c w' hc q => (hs.2 c ?_).trans q) (fun _ q => q) fun _ _ q => q
    rintro rfl
    rcases hc with rfl | hc
    · rw [hfree] at e; cases e
    · rw [hfree] at hc; cases hc
  rcases hx with hk | hk
  · refine wpAny_storeName_local hk hn (fun h' hn' hs => ?_) hcls
    obtain ⟨oL, _, _, hoL, _⟩ := id hn
    refine h _ ⟨I.ok, I.os, I.bare, ⟨fun b o e n hb hx => ?_, fun b o e n hb hx => ?_, I.base.free, fun b o e hx => ?_, I.base.tups, I.base.frzs, I.base.tbls⟩, ⟨_, hn', fun j y v' e1 e2 e3 => ?_⟩, fun y c e => ?_, I.free, I.freeC, fun p hp => ?_, tracked ⟨oL, hoL, I.free⟩ hs, by simpa using I.len⟩ ⟨_, hs, .inl rfl⟩
    · exact (hs.2 b (Nat.ne_of_lt (Nat.lt_of_lt_of_le (Heap.lt_size e) I.ok.above))).trans (I.base.keep b o e n hb hx)
    · obtain ⟨sl, e1⟩ := I.base.slot b o e n hb hx
      exact ⟨sl, (hs.2 b (Nat.ne_of_lt (Nat.lt_of_lt_of_le (Heap.lt_size e) I.ok.above))).trans e1⟩
    · obtain ⟨o', e1⟩ := I.base.there b o e hx
      exact ⟨o', (hs.2 b (Nat.ne_of_lt (Nat.lt_of_lt_of_le (Heap.lt_size e) I.ok.above))).trans e1⟩
    · by_cases hj : j = i
      · subst hj
        rw [hi] at e1; cases e1
        rw [List.getElem?_set_self hiσ] at e2
        cases e2
        exact ⟨u, r, .inl ⟨hk, by simp⟩⟩
      · rw [List.getElem?_set_ne (Ne.symm hj)] at e2
        obtain ⟨u', r', q⟩ := hl j y v' e1 e2 e3
        refine ⟨u', r', ?_⟩
        rcases q with ⟨k, e⟩ | ⟨k, c, e, z⟩
        · refine .inl ⟨k, ?_⟩
          have : y ≠ x := fun e => hj (nodup_ix hN e1 (e ▸ hi))
          simp [this, e]
        · exact .inr ⟨k, c, e, z.sameBut hs (cne y c e)⟩
    · obtain ⟨w', z⟩ := I.cell y c e
      exact ⟨w', z.sameBut hs (cne y c e)⟩
    · obtain ⟨e, n, ne, nf, d⟩ := I.pin p hp
      exact ⟨(hs.2 p.1 ne).trans e, n, ne, nf, d⟩
  · have hfn : X.fn x = true := by
      rcases hf with z | z
      · exact z
      · rw [z] at hk; cases hk
    obtain ⟨c, hc⟩ := I.ok.has x (.inl hk)
    obtain ⟨w', z⟩ := I.cell x c hc
    refine wpAny_storeName_cell I.ok.kind hk hc z (fun h' hc' hs => ?_)
    obtain ⟨oc, hoc, hocd⟩ := id z
    refine h { s with heap := h' } ⟨I.ok, I.os, I.bare, ⟨fun b o e n hb hx => ?_, fun b o e n hb hx => ?_, I.base.free, fun b o e hx => ?_, I.base.tups, I.base.frzs, I.base.tbls⟩, ⟨m, hn.sameBut hs (Ne.symm (cne x c hc)), fun j y v' e1 e2 e3 => ?_⟩, fun y c' e => ?_, I.free, I.freeC, fun p hp => ?_, tracked ⟨oc, hoc, I.freeC x c hc⟩ hs, by simpa using I.len⟩ ⟨c, hs, .inr hc⟩
    · exact (hs.2 b (Nat.ne_of_lt (Nat.lt_of_lt_of_le (Heap.lt_size e) (I.ok.cab x c hfn hc)))).trans (I.base.keep b o e n hb hx)
    · obtain ⟨sl, e1⟩ := I.base.slot b o e n hb hx
      exact ⟨sl, (hs.2 b (Nat.ne_of_lt (Nat.lt_of_lt_of_le (Heap.lt_size e) (I.ok.cab x c hfn hc)))).trans e1⟩
    · obtain ⟨o', e1⟩ := I.base.there b o e hx
      exact ⟨o', (hs.2 b (Nat.ne_of_lt (Nat.lt_of_lt_of_le (Heap.lt_size e) (I.ok.cab x c hfn hc)))).trans e1⟩
    · by_cases hj : j = i
      · subst hj
        rw [hi] at e1; cases e1
        rw [List.getElem?_set_self hiσ] at e2
        cases e2
        exact ⟨u, r, .inr ⟨.inl hk, c, hc, hc'⟩⟩
      · rw [List.getElem?_set_ne (Ne.symm hj)] at e2
        obtain ⟨u', r', q⟩ := hl j y v' e1 e2 e3
        refine ⟨u', r', ?_⟩
        rcases q with q | ⟨k, c', e, z'⟩
        · exact .inl q
        · refine .inr ⟨k, c', e, z'.sameBut hs ?_⟩
          rintro rfl
          exact hj (nodup_ix hN e1 (I.ok.inj _ _ _ e hc ▸ hi))
    · by_cases hcc : c' = c
      · subst hcc; exact ⟨_, hc'⟩
      · obtain ⟨w2, z2⟩ := I.cell y c' e
        exact ⟨w2, z2.sameBut hs hcc⟩
    · obtain ⟨e, n, ne, nf, d⟩ := I.pin p hp
      refine ⟨(hs.2 p.1 ?_).trans e, n, ne, nf, d⟩
      intro q
      rw [q, hoc] at e
      have q' : oc = p.2 := Option.some.inj e
      exact d w' (by rw [← q']; exact hocd)
theorem store_ok {M : Model} {A : Around} {E : Value → Shared → Prop} {i : Nat} {x : Str} {v : V} {u : Value} {Q : Unit → Shared → Prop} (I : Inv X pins σ H s) (hN : X.N.Nodup) (hi : X.N[i]? = some x) (hx : Loc X.env.scope x) (r : RelV v u)
    (h : ∀ s', Inv X pins (σ.set i (some v)) H s' → Q () s') (hf : X.fn x = true ∨ X.env.scope.names.lookup x = some .local := by first | exact .inl rfl | exact .inr rfl | assumption) : wpAny M A (storeName X.env x u) Q E s :=
  store_ok2 I hN hi hx r (fun s' I' _ => h s' I') hf
/-- behind a call or a block, the state as it is -/
theorem Inv.call' {s' : Shared} {ch : List Addr} (I : Inv X pins σ H s) (ho : s'.os = s.os) (u : Un (frs X.stack) ch H H' s.heap s'.heap) (hok : HOk X.prog X.w H' s'.heap) (hg : AllBare s'.gens)
    (hch : ∀ b ∈ ch, (b ∈ X.ex ∨ X.s₀.heap.objs.size ≤ b) ∧ b ≠ X.env.locals ∧ (∀ x c, X.env.cells.lookup x = some c → c ≠ b) ∧ ∀ p ∈ X.pn ++ pins, p.1 ≠ b) : Inv X pins σ H' s' := by
  obtain ⟨h', g', d', t', o'⟩ := s'
  have e : o' = s.os := ho
  subst e
  exact I.call (g' := g') (t' := t') (d' := d') u hok hg hch
end

/-! ### the judgements -/
/-- an exception: its class, its own dict's address (where it has one), the abstract heap behind it -/
abbrev XK := Value → Option Addr → Hp → Prop
abbrev St := List (Option V)
abbrev VK := V → Hp → Prop
/-- an expression's reading; a test's; an argument list's -/
abbrev TE := St → Hp → VK → Prop
abbrev TT := St → Hp → (Bool → Hp → Prop) → Prop
abbrev TA := St → Hp → (List V → Hp → Prop) → Prop
/-- what is wanted behind a statement -/
structure Ends where
  nx : St → Hp → Prop
  rt : VK
  bk : St → Hp → Prop := fun _ _ => False
  ct : St → Hp → Prop := fun _ _ => False
abbrev TS := Ends → St → Hp → Prop

def EP (X : Cx) (pins : List (Addr × Obj)) (σ : St) (Q : VK) (u : Value) (s' : Shared) : Prop := ∃ v H', Inv X pins σ H' s' ∧ RelV v u ∧ Q v H'
def TP (X : Cx) (pins : List (Addr × Obj)) (σ : St) (Q : Bool → Hp → Prop) (b : Bool) (s' : Shared) : Prop := ∃ H', Inv X pins σ H' s' ∧ Q b H'
def AP (X : Cx) (pins : List (Addr × Obj)) (σ : St) (Q : List V → Hp → Prop) (us : List Value) (s' : Shared) : Prop := ∃ vs H', Inv X pins σ H' s' ∧ Vals vs us ∧ Q vs H'
def SP (X : Cx) (pins : List (Addr × Obj)) (D : Ends) (f : Flow) (s' : Shared) : Prop :=
  match f with
  | .next => ∃ σ' H', Inv X pins σ' H' s' ∧ D.nx σ' H'
  | .brk => ∃ σ' H', Inv X pins σ' H' s' ∧ D.bk σ' H'
  | .cont => ∃ σ' H', Inv X pins σ' H' s' ∧ D.ct σ' H'
  | .ret u => ∃ v σ' H', Inv X pins σ' H' s' ∧ RelV v u ∧ D.rt v H'

def PE (X : Cx) (e : Expr) (t : TE) : Prop :=
  ∀ (pins : List (Addr × Obj)) (s : Shared) (σ : St) (H : Hp) (Q : VK), Inv X pins σ H s → t σ H Q → wpAny (model X.prog X.w) X.A (eval e X.env) (EP X pins σ Q) X.xe s
def PT (X : Cx) (e : Expr) (t : TT) : Prop :=
  ∀ (pins : List (Addr × Obj)) (s : Shared) (σ : St) (H : Hp) (Q : Bool → Hp → Prop), Inv X pins σ H s → t σ H Q → wpAny (model X.prog X.w) X.A (isTrue e X.env (eval e X.env)) (TP X pins σ Q) X.xe s
/-- a test whatever its 'whole' is (and, or) -/
def PW (X : Cx) (e : Expr) (t : TT) : Prop :=
  ∀ (whole : Sem Value) (pins : List (Addr × Obj)) (s : Shared) (σ : St) (H : Hp) (Q : Bool → Hp → Prop), Inv X pins σ H s → t σ H Q → wpAny (model X.prog X.w) X.A (isTrue e X.env whole) (TP X pins σ Q) X.xe s
theorem PW.pt {X : Cx} {e : Expr} {t : TT} (h : PW X e t) : PT X e t := h _
/-- an argument list (no star), from the left -/
def PA (X : Cx) (es : List Expr) (t : TA) : Prop :=
  ∀ (pos : Pos) (pins : List (Addr × Obj)) (s : Shared) (σ : St) (H : Hp) (Q : List V → Hp → Prop), Inv X pins σ H s → t σ H Q → wpAny (model X.prog X.w) X.A (spliced (backTo pos (starEach es X.env))) (AP X pins σ Q) X.xe s
def PS (X : Cx) (st : Stmt) (t : TS) : Prop :=
  ∀ (pins : List (Addr × Obj)) (s : Shared) (σ : St) (H : Hp) (D : Ends), Inv X pins σ H s → t D σ H → wpAny (model X.prog X.w) X.A (exec st X.env) (SP X pins D) X.xe s
def PSs (X : Cx) (st : List Stmt) (t : TS) : Prop :=
  ∀ (pins : List (Addr × Obj)) (s : Shared) (σ : St) (H : Hp) (D : Ends), Inv X pins σ H s → t D σ H → wpAny (model X.prog X.w) X.A (execs st X.env) (SP X pins D) X.xe s
/-- weaken the end -/
theorem thn {α : Type} {t : Sem α} {Q Q' : α → Shared → Prop} {M : Model} {A : Around} {E : Value → Shared → Prop} {s : Shared} (h : wpAny M A t Q E s) (hQ : ∀ a s, Q a s → Q' a s) : wpAny M A t Q' E s := wpAny_mono h hQ fun _ _ x => x
end L2

namespace L2
open PySem PySem.Spec PyProof.Rows
section
variable {X : Cx}

/-! ### names and constants -/
def tVar (i : Nat) : TE := fun σ H Q => ∃ v, σ[i]? = some (some v) ∧ Q v H
def tC (v : V) : TE := fun _ H Q => Q v H
theorem pe_var {i : Nat} {x : Str} {pos : Pos} (hN : X.N[i]? = some x) (hv : Vis X.env.scope x) (hd : (x == ("__debug__" : Str)) = false := by decide) (hcd : (x == ("__classdict__" : Str)) = false := by decide) : PE X (.Name x pos) (tVar i) := by
  intro pins s σ H Q I h
  obtain ⟨v, e, h⟩ := h
  obtain ⟨m, hn, hl⟩ := I.loc
  obtain ⟨u, r, l⟩ := hl i x v hN e hv
  have fin : EP X pins σ Q u s := ⟨v, H, I, r, h⟩
  rcases l with ⟨hk, hm⟩ | ⟨hk, c, hc, hcell⟩
  · exact wpAny_Name (wpAny_loadName_local I.ok.kind hk hn hm fin) hd
  · rcases hk with hk | hk
    · exact wpAny_Name (wpAny_loadName_cell I.ok.kind hk hc hcell fin) hd
    · exact wpAny_Name (wpAny_loadName_free I.ok.kind hk hc hcell fin hcd) hd
theorem pe_int {i j pos} : PE X (.Constant (.int i) j pos) (tC (.int i)) := fun _ _ _ H _ I h => wpAny_Constant_int ⟨.int i, H, I.tok _, ⟨_, rfl⟩, h⟩
theorem pe_bl {b j pos} : PE X (.Constant (.bool b) j pos) (tC (.bl b)) := fun _ _ _ H _ I h => Constant_bool ⟨.bl b, H, I, rfl, h⟩
theorem pe_non {j pos} : PE X (.Constant .none j pos) (tC .non) := fun _ _ _ H _ I h => Constant_none ⟨.non, H, I, rfl, h⟩
theorem pe_str {x j pos} : PE X (.Constant (.str x) j pos) (tC (.str x)) := fun _ _ _ H _ I h => Calls.Constant_str ⟨.str x, H, I.tok _, ⟨_, rfl⟩, h⟩

/-- a global name of the def -/
def Gl (X : Cx) (x : Str) : Prop := X.env.kindOf x = some .globalImplicit
theorem ld_glob {E : Value → Shared → Prop} {pins : List (Addr × Obj)} {s : Shared} {σ : St} {H : Hp} {x : Str} {u : Value} {pos : Pos} {Q : Value → Shared → Prop} (I : Inv X pins σ H s) (hg : Gl X x) (hm : X.mg x = some u) (h : Q u s)
    (hd : (x == ("__debug__" : Str)) = false := by decide) : wpAny (model X.prog X.w) X.A (eval (.Name x pos) X.env) Q E s :=
  Calls.Name_function_global I.ok.kind hg (Calls.loadGlobal_global (by rw [I.ok.glob]; exact I.mod.glob.keeps I.bk) hm h) hd
theorem ld_blt {E : Value → Shared → Prop} {pins : List (Addr × Obj)} {s : Shared} {σ : St} {H : Hp} {x : Str} {u : Value} {pos : Pos} {Q : Value → Shared → Prop} (I : Inv X pins σ H s) (hg : Gl X x) (hm : X.mg x = none) (hv : bootBuiltins x = some u) (h : Q u s)
    (hn : x ≠ "__name__" := by decide) (hd : (x == ("__debug__" : Str)) = false := by decide) : wpAny (model X.prog X.w) X.A (eval (.Name x pos) X.env) Q E s := by
  obtain ⟨mb, h1, h2⟩ := I.mod.blt
  exact Calls.Name_function_global I.ok.kind hg (Calls.loadGlobal_builtin (by rw [I.ok.glob]; exact I.mod.glob.keeps I.bk) hm (by rw [I.ok.blt]; exact h1.keeps I.bk) ((h2 x hn).trans hv) h) hd
/-- a module's constant, a class, a function, as a value -/
theorem pe_glob {x : Str} {v : V} {u : Value} {pos : Pos} (hg : Gl X x) (hm : X.mg x = some u) (r : RelV v u) (hd : (x == ("__debug__" : Str)) = false := by decide) : PE X (.Name x pos) (tC v) :=
  fun _ _ _ H _ I h => ld_glob I hg hm ⟨v, H, I, r, h⟩ hd
theorem pe_bltn {x : Str} {v : V} {u : Value} {pos : Pos} (hg : Gl X x) (hm : X.mg x = none) (hv : bootBuiltins x = some u) (r : RelV v u) (hn : x ≠ "__name__" := by decide) (hd : (x == ("__debug__" : Str)) = false := by decide) : PE X (.Name x pos) (tC v) :=
  fun _ _ _ H _ I h => ld_blt I hg hm hv ⟨v, H, I, r, h⟩ hn hd

variable {a b : Expr} {ta tb : TE} {pos : Pos}
/-! ### comparisons -/
def PC (X : Cx) (op : CmpOp) (a b : Expr) (t : TE) : Prop :=
  ∀ (pins : List (Addr × Obj)) (s : Shared) (σ : St) (H : Hp) (Q : VK), Inv X pins σ H s → t σ H Q →
    wpAny (model X.prog X.w) X.A (eval a X.env) (fun v s₁ => wpAny (model X.prog X.w) X.A (eval b X.env) (fun u s₂ => wpAny (model X.prog X.w) X.A (compareOp op v u) (EP X pins σ Q) X.xe s₂) X.xe s₁) X.xe s
theorem nobehind (b : Expr) {op : CmpOp} (h : op ≠ .In) (h2 : op ≠ .NotIn) : behindInMarks op b = false := by
  have e1 : (op == CmpOp.In) = false := by cases op <;> first | rfl | exact absurd rfl h
  have e2 : (op == CmpOp.NotIn) = false := by cases op <;> first | rfl | exact absurd rfl h2
  cases b <;> simp [behindInMarks, e1, e2]
/-- is None -/
def tIsN (ta : TE) : TE := fun σ H Q => ta σ H fun x H1 => Q (.bl (decide (x = .non))) H1
def tNotN (ta : TE) : TE := fun σ H Q => ta σ H fun x H1 => Q (.bl (!decide (x = .non))) H1
theorem RelV.none_iff {x : V} {v : Value} (r : RelV x v) : (v == Value.none) = decide (x = .non) := by
  cases x with
  | non => cases r; rfl
  | bl _ => cases r; rfl
  | int _ => obtain ⟨t, rfl⟩ := r; rfl
  | str _ => obtain ⟨t, rfl⟩ := r; rfl
  | byt _ => obtain ⟨t, rfl⟩ := r; rfl
  | flt _ => obtain ⟨t, rfl⟩ := r; rfl
  | ref _ => cases r; rfl
  | ty _ => cases r; rfl
theorem pc_isN {j pos'} (ha : PE X a ta) : PC X .Is a (.Constant .none j pos') (tIsN ta) := by
  intro pins s σ H Q I h
  refine thn (ha pins s σ H _ I h) fun v s1 ⟨x, H1, I1, r1, q1⟩ => ?_
  exact Constant_none (is_none_gen ⟨.bl _, H1, I1, by rw [r1.none_iff]; rfl, q1⟩)
theorem pc_notN {j pos'} (ha : PE X a ta) : PC X .IsNot a (.Constant .none j pos') (tNotN ta) := by
  intro pins s σ H Q I h
  refine thn (ha pins s σ H _ I h) fun v s1 ⟨x, H1, I1, r1, q1⟩ => ?_
  exact Constant_none (isnot_none_gen ⟨.bl _, H1, I1, by rw [r1.none_iff]; rfl, q1⟩)
/-- a comparison as a value, as a test -/
def tB (t : TE) : TT := fun σ H Q => t σ H fun x H1 => ∃ c, x = .bl c ∧ Q c H1
theorem pe_cmp {op : CmpOp} {t : TE} (h : PC X op a b t) (h1 : behindInMarks op b = false := by first | exact nobehind _ (by decide) (by decide) | rfl) : PE X (.Compare a [op] [b] pos) t := fun pins s σ H Q I hw => wpAny_Compare1 (h pins s σ H Q I hw) h1
theorem pt_cmp {op : CmpOp} {t : TE} (h : PC X op a b t) (h1 : behindInMarks op b = false := by first | exact nobehind _ (by decide) (by decide) | rfl) : PT X (.Compare a [op] [b] pos) (tB t) := by
  intro pins s σ H Q I hw
  refine wpAny_isTrue_Compare1 (thn (h pins s σ H _ I hw) fun v s1 h1 => thn h1 fun u s2 h2 => thn h2 fun c s3 ⟨x, H1, I1, r1, q1⟩ => ?_) h1
  obtain ⟨d, rfl, q⟩ := q1
  cases r1
  exact wpAny_truthy_bool ⟨H1, I1, q⟩
/-- an expression whose value is a bool, as a test -/
theorem pt_val {e : Expr} {t : TE} (h : PE X e t) (he : ∀ whole, isTrue e X.env whole = (do let v ← whole; standAt e.pos; holding [v] (truthy v)) := by intro _; rfl) : PT X e (tB t) := by
  intro pins s σ H Q I hw
  refine isTrue_plain (thn (h pins s σ H _ I hw) fun v s1 ⟨x, H1, I1, r1, q1⟩ => ?_) (he _)
  obtain ⟨d, rfl, q⟩ := q1
  cases r1
  exact wpAny_truthy_bool ⟨H1, I1, q⟩

/-! ### and, or, not -/
variable {tA tB' : TT} {rest : List Expr}
def tAnd (t u : TT) : TT := fun σ H Q => t σ H fun c H1 => if c = true then u σ H1 Q else Q false H1
def tOr (t u : TT) : TT := fun σ H Q => t σ H fun c H1 => if c = true then Q true H1 else u σ H1 Q
def tNot (t : TT) : TT := fun σ H Q => t σ H fun c H1 => Q (!c) H1
theorem pw_and1 (ha : PT X a tA) : PW X (.BoolOp .And [a] pos) tA := by
  intro wh pins s σ H Q I h
  refine isTrue_and (thn (ha pins s σ H Q I h) fun c s1 e => ?_)
  cases c with
  | true => exact isTrue_and_nil e
  | false => exact e
theorem pw_or1 (ha : PT X a tA) : PW X (.BoolOp .Or [a] pos) tA := by
  intro wh pins s σ H Q I h
  refine isTrue_or (thn (ha pins s σ H Q I h) fun c s1 e => ?_)
  cases c with
  | false => exact isTrue_or_nil e
  | true => exact e
theorem pw_and (ha : PT X a tA) (hb : PW X (.BoolOp .And (b :: rest) pos) tB') : PW X (.BoolOp .And (a :: b :: rest) pos) (tAnd tA tB') := by
  intro wh pins s σ H Q I h
  refine isTrue_and (thn (ha pins s σ H _ I h) fun c s1 ⟨H1, I1, q1⟩ => ?_)
  cases c with
  | true => exact hb wh pins s1 σ H1 Q I1 q1
  | false => exact ⟨H1, I1, q1⟩
theorem pw_or (ha : PT X a tA) (hb : PW X (.BoolOp .Or (b :: rest) pos) tB') : PW X (.BoolOp .Or (a :: b :: rest) pos) (tOr tA tB') := by
  intro wh pins s σ H Q I h
  refine isTrue_or (thn (ha pins s σ H _ I h) fun c s1 ⟨H1, I1, q1⟩ => ?_)
  cases c with
  | true => exact ⟨H1, I1, q1⟩
  | false => exact hb wh pins s1 σ H1 Q I1 q1
theorem pt_not (ha : PT X a tA) : PT X (.UnaryOp .Not a pos) (tNot tA) := by
  intro pins s σ H Q I h
  exact isTrue_not (ha pins s σ H (fun c H1 => Q (!c) H1) I h)
/-- .. as values (bools) -/
def tAndV (ta tb : TE) : TE := fun σ H Q => ta σ H fun x H1 => ∃ c, x = .bl c ∧ if c = true then tb σ H1 Q else Q (.bl false) H1
def tNotV (ta : TE) : TE := fun σ H Q => ta σ H fun x H1 => ∃ c, x = .bl c ∧ Q (.bl (!c)) H1
theorem pe_one {op} {t : TE} (h : PE X a t) : PE X (.BoolOp op [a] pos) t := fun pins s σ H Q I hw => BoolOp_one (h pins s σ H Q I hw)
theorem pe_and (ha : PE X a ta) (hb : PE X (.BoolOp .And (b :: rest) pos) tb) : PE X (.BoolOp .And (a :: b :: rest) pos) (tAndV ta tb) := by
  intro pins s σ H Q I h
  refine BoolOp_and (thn (ha pins s σ H _ I h) fun v s1 ⟨x, H1, I1, r1, q1⟩ => ?_)
  obtain ⟨c, rfl, q1⟩ := q1
  cases r1
  refine wpAny_truthy_bool ?_
  cases c with
  | true => exact hb pins s1 σ H1 Q I1 q1
  | false => exact ⟨.bl false, H1, I1, rfl, q1⟩
theorem pe_not (ha : PE X a ta) : PE X (.UnaryOp .Not a pos) (tNotV ta) := by
  intro pins s σ H Q I h
  refine UnaryOp_ (thn (ha pins s σ H _ I h) fun v s1 ⟨x, H1, I1, r1, q1⟩ => ?_)
  obtain ⟨c, rfl, q1⟩ := q1
  cases r1
  exact not_of (wpAny_truthy_bool ⟨.bl (!c), H1, I1, rfl, q1⟩)
/-- a if t else b -/
def tIf (t : TT) (ta tb : TE) : TE := fun σ H Q => t σ H fun c H1 => if c = true then ta σ H1 Q else tb σ H1 Q
theorem pe_ifExp {c : Expr} (hc : PT X c tA) (ha : PE X a ta) (hb : PE X b tb) : PE X (.IfExp c a b pos) (tIf tA ta tb) := by
  intro pins s σ H Q I h
  refine wpAny_IfExp (thn (hc pins s σ H _ I h) fun d s1 ⟨H1, I1, q1⟩ => ?_)
  cases d with
  | true => exact ha pins s1 σ H1 Q I1 q1
  | false => exact hb pins s1 σ H1 Q I1 q1
end
end L2

namespace L2
open PySem PySem.Spec PyProof.Rows

/-! ### a list, a tuple that is read: tracked, frozen, or an object of the module -/
def SqL (K : PySem.W.Frag) (H : Hp) (a : Addr) (xs : List V) : Prop :=
  Rd H a (.lst xs) ∨
    ∃ (o : Obj) (its : Array Value) (n : Nat), K.lookup a = some o ∧ o.cls = .type "list" ∧ o.dict = none ∧ o.data = .seq its n ∧ its.size ≤ sizeLine ∧ Vals xs its.toList
def SqT (K : PySem.W.Frag) (H : Hp) (a : Addr) (xs : List V) : Prop :=
  Rd H a (.tup xs) ∨
    ∃ (o : Obj) (its : Array Value) (n : Nat), K.lookup a = some o ∧ o.cls = .type "tuple" ∧ o.data = .seq its n ∧ its.size ≤ sizeLine ∧ Vals xs its.toList
def absV : Value → Option V
  | .none => some .non
  | .bool b => some (.bl b)
  | .int i _ => some (.int i)
  | .str x _ => some (.str x)
  | .bytes b _ => some (.byt b)
  | .float b _ => some (.flt b)
  | .ref a => some (.ref a)
  | .type n => some (.ty n)
  | _ => none
theorem RelV.abs {x : V} {u : Value} (r : RelV x u) : absV u = some x := by
  cases x with
  | non => cases r; rfl
  | bl _ => cases r; rfl
  | int _ => obtain ⟨t, rfl⟩ := r; rfl
  | str _ => obtain ⟨t, rfl⟩ := r; rfl
  | byt _ => obtain ⟨t, rfl⟩ := r; rfl
  | flt _ => obtain ⟨t, rfl⟩ := r; rfl
  | ref _ => cases r; rfl
  | ty _ => cases r; rfl
theorem RelV.inj {x y : V} {u : Value} (r : RelV x u) (q : RelV y u) : x = y := Option.some.inj (r.abs.symm.trans q.abs)
theorem Vals.inj : ∀ {xs ys : List V} {us : List Value}, Vals xs us → Vals ys us → xs = ys
  | _, _, _, .nil, .nil => rfl
  | _, _, _, .cons r t, .cons r' t' => by rw [r.inj r', Vals.inj t t']
section
variable {X : Cx} {pins : List (Addr × Obj)} {σ : St} {H : Hp} {s : Shared} {a : Addr} {xs ys : List V}
theorem SqL.of {K : PySem.W.Frag} (h : H a = some (.lst xs)) : SqL K H a xs := .inl (.inl h)
theorem SqT.of {K : PySem.W.Frag} (h : H a = some (.tup xs)) : SqT K H a xs := .inl (.inl h)
theorem Inv.list (I : Inv X pins σ H s) (h : SqL X.K H a xs) : ∃ its : List Value, Vals xs its ∧ PlainL s.heap a its.toArray ∧ xs.length ≤ sizeLine := by
  rcases h with h | ⟨o, its, n, hk, hc, hd, hs, hz, r⟩
  · obtain ⟨z, its, n, r, e⟩ := h.ok I.hok
    exact ⟨its, r, ⟨_, n, e, rfl, rfl, rfl⟩, z⟩
  · refine ⟨its.toList, r, ⟨o, n, I.kIn a o hk, hc, hd, by simpa using hs⟩, ?_⟩
    have e := r.length
    simp only [Array.length_toList] at e
    omega
theorem Inv.tuple (I : Inv X pins σ H s) (h : SqT X.K H a xs) : ∃ its : List Value, Vals xs its ∧ IsTup s.heap a its.toArray ∧ xs.length ≤ sizeLine := by
  rcases h with h | ⟨o, its, n, hk, hc, hs, hz, r⟩
  · obtain ⟨z, its, r, p⟩ := h.ok I.hok
    exact ⟨its, r, p, z⟩
  · refine ⟨its.toList, r, ⟨o, I.kIn a o hk, hc, n, by simpa using hs⟩, ?_⟩
    have e := r.length
    simp only [Array.length_toList] at e
    omega
theorem Inv.list_inj (I : Inv X pins σ H s) (h : SqL X.K H a xs) (h' : SqL X.K H a ys) : xs = ys := by
  obtain ⟨its, r, ⟨o, n, e, _, _, d⟩, _⟩ := I.list h
  obtain ⟨its', r', ⟨o', n', e', _, _, d'⟩, _⟩ := I.list h'
  rw [e] at e'; cases e'
  rw [d] at d'
  injection d' with d1 _
  have : its = its' := by simpa using congrArg Array.toList d1
  subst this
  exact r.inj r'
theorem Inv.tuple_inj (I : Inv X pins σ H s) (h : SqT X.K H a xs) (h' : SqT X.K H a ys) : xs = ys := by
  obtain ⟨its, r, ⟨o, e, _, n, d⟩, _⟩ := I.tuple h
  obtain ⟨its', r', ⟨o', e', _, n', d'⟩, _⟩ := I.tuple h'
  rw [e] at e'; cases e'
  rw [d] at d'
  injection d' with d1 _
  have : its = its' := by simpa using congrArg Array.toList d1
  subst this
  exact r.inj r'
end

/-! ### another wish about exceptions -/
abbrev Cx.wish (X : Cx) (E : Value → Shared → Prop) : Cx := { X with xe := E }
/-- no exception leaves -/
abbrev Cx.nox (X : Cx) : Cx := X.wish fun _ _ => False
theorem Cx.Ok.wish {X : Cx} (ok : X.Ok) (E : Value → Shared → Prop) : (X.wish E).Ok :=
  ⟨ok.mod, ok.kind, ok.glob, ok.blt, ok.above, ok.inj, ok.has, ok.cab, ok.hd, ok.frames, ok.stk, ok.exf, ok.bs, ok.bsz, ok.noex, ok.exfs, ok.funs, ok.frf⟩
theorem Cx.Ok.unwish {X : Cx} {E : Value → Shared → Prop} (ok : (X.wish E).Ok) : X.Ok :=
  ⟨ok.mod, ok.kind, ok.glob, ok.blt, ok.above, ok.inj, ok.has, ok.cab, ok.hd, ok.frames, ok.stk, ok.exf, ok.bs, ok.bsz, ok.noex, ok.exfs, ok.funs, ok.frf⟩
section
variable {X : Cx} {pins : List (Addr × Obj)} {σ : St} {H : Hp} {s : Shared} {E : Value → Shared → Prop}
theorem Inv.wish (I : Inv X pins σ H s) (E : Value → Shared → Prop) : Inv (X.wish E) pins σ H s := ⟨I.ok.wish E, I.os, I.bare, I.base, I.loc, I.cell, I.free, I.freeC, I.pin, I.hok, I.len⟩
theorem Inv.unwish (I : Inv (X.wish E) pins σ H s) : Inv X pins σ H s := ⟨I.ok.unwish, I.os, I.bare, I.base, I.loc, I.cell, I.free, I.freeC, I.pin, I.hok, I.len⟩
theorem SP.unwish {D : Ends} {f : Flow} {s' : Shared} (h : SP (X.wish E) pins D f s') : SP X pins D f s' := by
  cases f with
  | next => obtain ⟨σ', H', I, q⟩ := h; exact ⟨σ', H', I.unwish, q⟩
  | brk => obtain ⟨σ', H', I, q⟩ := h; exact ⟨σ', H', I.unwish, q⟩
  | cont => obtain ⟨σ', H', I, q⟩ := h; exact ⟨σ', H', I.unwish, q⟩
  | ret u => obtain ⟨v, σ', H', I, r, q⟩ := h; exact ⟨v, σ', H', I.unwish, r, q⟩
theorem PSs.nox {st : List Stmt} {t : TS} (h : PSs X.nox st t) : PSs X st t := fun pins s σ H D I hw =>
  wpAny_mono (h pins s σ H D (I.wish _) hw) (fun _ _ q => q.unwish) fun _ _ z => False.elim z
end

/-! ### blocks and small statements -/
section
variable {X : Cx} {st : Stmt} {rest : List Stmt} {t u : TS} {e : Expr} {te : TE} {pos : Pos}
def tNext : TS := fun D σ H => D.nx σ H
def tSeq (t u : TS) : TS := fun D σ H => t { D with nx := u D } σ H
theorem pss_nil : PSs X [] tNext := fun _ _ σ H _ I h => wpAny_execs_nil ⟨σ, H, I, h⟩
theorem pss_cons (h1 : PS X st t) (h2 : PSs X rest u) : PSs X (st :: rest) (tSeq t u) := by
  intro pins s σ H D I h
  refine wpAny_execs_cons (thn (h1 pins s σ H { D with nx := u D } I h) fun f s1 q => ?_)
  cases f with
  | next =>
    obtain ⟨σ', H', I', q⟩ := q
    exact h2 pins s1 σ' H' D I' q
  | ret v => exact q
  | brk => exact q
  | cont => exact q
theorem pss_one (h1 : PS X st t) : PSs X [st] t := by
  intro pins s σ H D I h
  refine wpAny_execs_cons (thn (h1 pins s σ H D I h) fun f s1 q => ?_)
  cases f with
  | next => exact wpAny_execs_nil q
  | ret v => exact q
  | brk => exact q
  | cont => exact q
/-- in a def's body nothing is shown -/
theorem Inv.quiet {pins : List (Addr × Obj)} {σ : St} {H : Hp} {s : Shared} (I : Inv X pins σ H s) : interactive X.env = false := by simp [interactive, I.ok.kind]
/-- an expression whose value is dropped -/
def tDrop (te : TE) : TS := fun D σ H => te σ H fun _ H1 => D.nx σ H1
theorem ps_expr (he : PE X e te) (hs : swapsWith e none pos.line X.env = pure false := by rfl) : PS X (.Expr e pos) (tDrop te) := by
  intro pins s σ H D I h
  exact wpAny_Expr_any (thn (he pins s σ H _ I h) fun v s1 ⟨x, H1, I1, r1, q1⟩ => ⟨σ, H1, I1, q1⟩) I.quiet hs
def tRet (te : TE) : TS := fun D σ H => te σ H D.rt
theorem ps_ret (he : PE X e te) : PS X (.Return (some e) pos) (tRet te) := by
  intro pins s σ H D I h
  exact wpAny_Return_some (thn (he pins s σ H _ I h) fun v s1 ⟨x, H1, I1, r1, q1⟩ => ⟨x, σ, H1, I1, r1, q1⟩)
def tIfS (c : TT) (t u : TS) : TS := fun D σ H => c σ H fun b H1 => if b = true then t D σ H1 else u D σ H1
theorem ps_if {c : Expr} {a b : List Stmt} {tc : TT} (hc : PT X c tc) (ha : PSs X a t) (hb : PSs X b u) : PS X (.If c a b pos) (tIfS tc t u) := by
  intro pins s σ H D I h
  refine wpAny_If (thn (hc pins s σ H _ I h) fun d s1 ⟨H1, I1, q1⟩ => ?_)
  cases d with
  | true => exact ha pins s1 σ H1 D I1 q1
  | false => exact hb pins s1 σ H1 D I1 q1
/-- code that the proof never comes to -/
def tNever : TS := fun _ _ _ => False
theorem pss_never {sts : List Stmt} : PSs X sts tNever := fun _ _ _ _ _ _ h => h.elim
end

/-! ### targets -/
abbrev TG := V → St → Hp → (St → Hp → Prop) → Prop
abbrev TGs := List V → St → Hp → (St → Hp → Prop) → Prop
def PG (X : Cx) (target : Expr) (t : TG) : Prop :=
  ∀ (pins : List (Addr × Obj)) (s : Shared) (σ : St) (H : Hp) (v : V) (u : Value) (Q : St → Hp → Prop), Inv X pins σ H s → RelV v u → t v σ H Q →
    wpAny (model X.prog X.w) X.A (assign target X.env u) (fun _ s' => ∃ σ' H', Inv X pins σ' H' s' ∧ Q σ' H') X.xe s
/-- several targets, one after another -/
def PGs (X : Cx) (ts : List Expr) (t : TGs) : Prop :=
  ∀ (pins : List (Addr × Obj)) (s : Shared) (σ : St) (H : Hp) (vs : List V) (us : List Value) (Q : St → Hp → Prop), Inv X pins σ H s → Vals vs us → t vs σ H Q →
    wpAny (model X.prog X.w) X.A (assignInOrder ((assignEach ts X.env).map (·.2)) us) (fun _ s' => ∃ σ' H', Inv X pins σ' H' s' ∧ Q σ' H') X.xe s
section
variable {X : Cx} {pos : Pos}
def gName (i : Nat) : TG := fun v σ H Q => Q (σ.set i (some v)) H
theorem pg_name {i : Nat} {x : Str} (hN : X.N.Nodup) (hi : X.N[i]? = some x) (hx : Loc X.env.scope x) (hf : X.fn x = true ∨ X.env.scope.names.lookup x = some .local := by first | exact .inl rfl | exact .inr rfl | assumption) : PG X (.Name x pos) (gName i) := by
  intro pins s σ H v u Q I r h
  exact wpAny_assign_Name (store_ok I hN hi hx r (fun s' I' => ⟨_, H, I', h⟩) hf)
def gNil : TGs := fun vs σ H Q => vs = [] ∧ Q σ H
def gCons (t : TG) (u : TGs) : TGs := fun vs σ H Q => ∃ v r, vs = v :: r ∧ t v σ H fun σ' H' => u r σ' H' Q
theorem pgs_nil : PGs X [] gNil := by
  intro pins s σ H vs us Q I r h
  obtain ⟨e, h⟩ := h
  subst e
  cases r
  exact assignInOrder_nil ⟨σ, H, I, h⟩
theorem pgs_cons {e : Expr} {es : List Expr} {t : TG} {u : TGs} (h1 : PG X e t) (h2 : PGs X es u)
    (hs : (assignEach (e :: es) X.env).map (·.2) = assign e X.env :: (assignEach es X.env).map (·.2) := by rfl) : PGs X (e :: es) (gCons t u) := by
  intro pins s σ H vs us Q I r h
  obtain ⟨v, vr, e1, h⟩ := h
  subst e1
  cases r with
  | cons r rr =>
    rw [hs]
    refine assignInOrder_cons (thn (h1 pins s σ H _ _ _ I r h) fun _ s1 ⟨σ1, H1, I1, q1⟩ => ?_)
    exact h2 pins s1 σ1 H1 _ _ Q I1 rr q1
/-- (a, b, ..) = a tuple of that length -/
def gTup (K : PySem.W.Frag) (n : Nat) (t : TGs) : TG := fun v σ H Q => ∃ a xs, v = .ref a ∧ SqT K H a xs ∧ xs.length = n ∧ t xs σ H Q
theorem pg_tup {es : List Expr} {k : Nat} {t : TGs} {n : Nat} (hc : X.calm = true) (h : PGs X es t)
    (hn : (assignEach es X.env).length = n := by rfl) (hst : (assignEach es X.env).findIdx? (·.1) = none := by rfl) : PG X (.Tuple es k pos) (gTup X.K n t) := by
  intro pins s σ H v u Q I r hw
  obtain ⟨a, xs, e1, hq, hl, hw⟩ := hw
  subst e1
  cases r
  obtain ⟨its, rv, ht, hz⟩ := I.tuple hq
  refine assign_Tuple_tuple (I.ok.hd hc) ht (by simp [hn, ← hl, rv.length]) hst fun h' hx => ?_
  have I1 : Inv X pins σ H { s with heap := h' } := I.kept (t' := s.toks) fun b o e => hx b o (Nat.ne_of_lt (Heap.lt_size e)) e
  exact h pins _ σ H xs _ Q I1 (by simpa using rv) hw
/-- target = value -/
def tAsg (te : TE) (g : TG) : TS := fun D σ H => te σ H fun x H1 => g x σ H1 D.nx
theorem ps_asg {tg e : Expr} {te : TE} {g : TG} (he : PE X e te) (hg : PG X tg g) (hs : swapsWithSole [tg] e pos.line X.env = pure false := by rfl) (hw : swappedStores [tg] e X.env = pure none := by rfl)
    (h1 : (assignEach [tg] X.env).map (·.2) = [assign tg X.env] := by rfl) : PS X (.Assign [tg] e pos) (tAsg te g) := by
  intro pins s σ H D I h
  refine wpAny_Assign_stores (thn (he pins s σ H _ I h) fun v s1 ⟨x, H1, I1, r1, q1⟩ => ?_) hs hw
  rw [h1]
  exact thn (hg pins s1 σ H1 x v _ I1 r1 q1) fun _ s2 q => q
/-- name = value -/
theorem ps_set {i : Nat} {x : Str} {e : Expr} {te : TE} {pos' : Pos} (hN : X.N.Nodup) (hi : X.N[i]? = some x) (hx : Loc X.env.scope x) (he : PE X e te) (hs : swapsWith e (some (.Name x pos')) pos.line X.env = pure false := by rfl) (hf : X.fn x = true ∨ X.env.scope.names.lookup x = some .local := by first | exact .inl rfl | exact .inr rfl | assumption) :
    PS X (.Assign [.Name x pos'] e pos) (tAsg te (gName i)) := by
  intro pins s σ H D I h
  refine wpAny_Assign_Name (thn (he pins s σ H _ I h) fun v s1 ⟨y, H1, I1, r1, q1⟩ => ?_) hs
  exact store_ok I1 hN hi hx r1 (fun s2 I2 => ⟨_, H1, I2, q1⟩) hf
end

/-! ### while -/
section
variable {X : Cx} {pos : Pos}
end

/-! ### what a loop or a comprehension walks -/
/-- at turn i: it yields x (the heap may grow), or it stops -/
structure It where
  go : Nat → Hp → Prop
  yld : Nat → Hp → V → Hp → Prop
  stop : Nat → Hp → Prop
/-- the iterator's own objects may turn: they are not the frame's, not pinned, younger than the entry (or a comprehension's own) -/
def FpOk (X : Cx) (pins : List (Addr × Obj)) (H : Hp) (b : Addr) : Prop :=
  H b = none ∧ b ≠ X.env.locals ∧ b ∉ X.fs ∧ (b ∈ X.ex ∨ X.s₀.heap.objs.size ≤ b) ∧ (∀ x c, X.env.cells.lookup x = some c → c ≠ b) ∧ ∀ p ∈ X.pn ++ pins, p.1 ≠ b
theorem Inv.fpOk {X : Cx} {pins : List (Addr × Obj)} {σ : St} {H H' : Hp} {s : Shared} {b : Addr} (I : Inv X pins σ H s) (hb : s.heap.objs.size ≤ b) (hn : H' b = none) : FpOk X pins H' b := by
  refine ⟨hn, Nat.ne_of_gt (Nat.lt_of_lt_of_le I.lt hb), I.nofs hb, .inr (Nat.le_trans I.sz hb), fun x c e z => ?_, fun p hp z => ?_⟩
  · obtain ⟨v, q⟩ := I.cell x c e
    exact absurd (Nat.lt_of_lt_of_le q.lt (by rw [z]; exact hb)) (Nat.lt_irrefl _)
  · exact absurd (Nat.lt_of_lt_of_le (Heap.lt_size (I.pin p hp).1) (by rw [z]; exact hb)) (Nat.lt_irrefl _)
structure Turn (P : Program) (w : World) (K : PySem.W.Frag) (tg : Expr) (J : It) (fp : List Addr) (it : Addr) (tn : Nat → Heap → Prop) : Prop where
  mem : it ∈ fp
  obj : ∀ i h, tn i h → ∀ b ∈ fp, ∃ o, h.get? b = some o ∧ ∀ v, o.data ≠ .cell v
  keep : ∀ i h h', tn i h → (∀ b ∈ fp, ∀ o, h.get? b = some o → h'.get? b = some o) → tn i h'
  item : ∀ (X : Cx), X.prog = P → X.w = w → X.K = K → X.calm = true → ∀ (i : Nat) (pins : List (Addr × Obj)) (s : Shared) (σ : St) (H : Hp) (E : Value → Shared → Prop), Inv X pins σ H s → (∀ b ∈ fp, FpOk X pins H b) → tn i s.heap → J.go i H →
    wpAny (model P w) X.A (pyNext (.ref it)) (fun r s1 => ∃ u, r = some u ∧
      wpAny (model P w) X.A (letOwnedTupleGo tg (.ref it) u) (fun _ s2 => ∃ x H', Inv X pins σ H' s2 ∧ RelV x u ∧ J.yld i H x H' ∧ tn (i + 1) s2.heap ∧ ∀ b ∈ fp, H' b = none) E s1) E s
  done : ∀ (X : Cx), X.prog = P → X.w = w → X.K = K → X.calm = true → ∀ (i : Nat) (pins : List (Addr × Obj)) (s : Shared) (σ : St) (H : Hp) (E : Value → Shared → Prop), Inv X pins σ H s → (∀ b ∈ fp, FpOk X pins H b) → tn i s.heap → J.stop i H →
    wpAny (model P w) X.A (pyNext (.ref it)) (fun r s1 => r = none ∧ Inv X pins σ H s1) E s
  self : ∀ (A : Around) (i : Nat) (s : Shared) (Q : Value → Shared → Prop) (E : Value → Shared → Prop), tn i s.heap → Q (.ref it) s → wpAny (model P w) A (pyIter (.ref it)) Q E s
abbrev TI := St → Hp → (It → Hp → Prop) → Prop
/-- an iterator has come -/
def PIE (X : Cx) (pins : List (Addr × Obj)) (σ : St) (tg : Expr) (R : It → Hp → Prop) (itv : Value) (s2 : Shared) : Prop :=
  ∃ (it : Addr) (fp : List Addr) (tn : Nat → Heap → Prop) (J : It) (H' : Hp), itv = .ref it ∧ Inv X pins σ H' s2 ∧ Turn X.prog X.w X.K tg J fp it tn ∧ tn 0 s2.heap ∧ (∀ b ∈ fp, FpOk X pins H' b) ∧ R J H'
def PI (X : Cx) (tg iter : Expr) (wi : TI) : Prop :=
  ∀ (pins : List (Addr × Obj)) (s : Shared) (σ : St) (H : Hp) (R : It → Hp → Prop), Inv X pins σ H s → wi σ H R →
    wpAny (model X.prog X.w) X.A (eval iter X.env) (fun v s1 => wpAny (model X.prog X.w) X.A (pyIter v) (PIE X pins σ tg R) X.xe s1) X.xe s

/-- the step ahead of the store is nothing for an iterator that keeps no tuple -/
theorem go_of {M : Model} {A : Around} {E : Value → Shared → Prop} {s : Shared} {tg : Expr} {it : Addr} {u : Value} {o : Obj} {n : String} {vs : Array Value} {Q : Unit → Shared → Prop} (ho : s.heap.get? it = some o) (hc : o.cls = .type n) (hd : o.data = .fields vs)
    (hn : ["enumerate", "zip", "dict_itemiterator", "dict_reverseitemiterator", "odict_iterator", "itertools.zip_longest", "itertools.pairwise"].contains n = false) (hQ : Q () s) : wpAny M A (letOwnedTupleGo tg (.ref it) u) Q E s := by
  unfold letOwnedTupleGo
  cases tg <;> first
    | exact wpAny_pure hQ
    | (cases u <;> first
        | exact wpAny_pure hQ
        | (refine wpAny_bind (wpAny_load ho ?_)
           rw [hc, hd]
           show wpAny M A (if (["enumerate", "zip", "dict_itemiterator", "dict_reverseitemiterator", "odict_iterator", "itertools.zip_longest", "itertools.pairwise"].contains n && vs[0]? == some (rawInt _)) = true then _ else _) Q E s
           rw [if_neg (by intro h; rw [hn, Bool.false_and] at h; cases h)]
           exact wpAny_pure hQ))

/-- the list at a, as it stands at each turn (a loop may append to it) -/
def Itl (K : PySem.W.Frag) (a : Addr) : It :=
  ⟨fun i H => ∃ xs x, SqL K H a xs ∧ xs[i]? = some x, fun i H x H' => H' = H ∧ ∀ xs, SqL K H a xs → xs[i]? = some x, fun i H => ∃ xs, SqL K H a xs ∧ xs.length ≤ i⟩
def Itt (K : PySem.W.Frag) (a : Addr) : It :=
  ⟨fun i H => ∃ xs x, SqT K H a xs ∧ xs[i]? = some x, fun i H x H' => H' = H ∧ ∀ xs, SqT K H a xs → xs[i]? = some x, fun i H => ∃ xs, SqT K H a xs ∧ xs.length ≤ i⟩
/-- lo, lo + 1, .. (n of them) -/
def Itr (lo : Int) (n : Nat) : It := ⟨fun i _ => i < n, fun i H x H' => H' = H ∧ x = .int (lo + i), fun i _ => n ≤ i⟩
theorem turn_list {P : Program} {w : World} {K : PySem.W.Frag} {tg : Expr} (a it : Addr) : Turn P w K tg (Itl K a) [it] it (fun i h => h.IsListIter it a i) where
  mem := by simp
  obj := fun i h st b hb => by
    have e : b = it := by simpa using hb
    subst e
    obtain ⟨o, e, c, d⟩ := st
    exact ⟨o, e, fun v z => by rw [d] at z; cases z⟩
  keep := fun i h h' st k => st.at fun o e => k it (by simp) o e
  item := by
    intro X hP hw hK hc i pins s σ H E I hf st hg
    subst hP hw hK
    obtain ⟨xs, x, hq, hx⟩ := hg
    obtain ⟨its, rv, p, hz⟩ := I.list hq
    obtain ⟨u, hu, ru⟩ := rv.get hx
    obtain ⟨f0, f1, f2, f3, f4, f5⟩ := hf it (by simp)
    refine wpAny_pyNext_list_item st p.isList (x := u) (by simpa using hu) fun h' st' sb => ?_
    have I1 : Inv X pins σ H { s with heap := h' } := I.turned (t' := s.toks) (fun b o hb e => (sb.2 b hb).trans e) f0 f1 f3 f4 f5
    obtain ⟨o, e, c, d⟩ := id st'
    exact ⟨u, rfl, go_of (s := { s with heap := h' }) e c d (by decide) ⟨x, H, I1, ru, ⟨rfl, fun ys hy => by rw [I.list_inj hy hq]; exact hx⟩, st', fun b hb => (hf b hb).1⟩⟩
  done := by
    intro X hP hw hK hc i pins s σ H E I hf st hg
    subst hP hw hK
    obtain ⟨xs, hq, hx⟩ := hg
    obtain ⟨its, rv, p, hz⟩ := I.list hq
    obtain ⟨f0, f1, f2, f3, f4, f5⟩ := hf it (by simp)
    have hl := rv.length
    exact wpAny_pyNext_list_end (I.ok.hd hc) st p.isList (by simp; omega) fun h' eb => ⟨rfl, I.turned (t' := s.toks) (fun b o hb e => eb b o hb e) f0 f1 f3 f4 f5⟩
  self := fun _ _ _ _ _ st h => wpAny_pyIter_listiter st h
theorem turn_tuple {P : Program} {w : World} {K : PySem.W.Frag} {tg : Expr} (a it : Addr) : Turn P w K tg (Itt K a) [it] it (fun i h => h.IsTupleIter it a i) where
  mem := by simp
  obj := fun i h st b hb => by
    have e : b = it := by simpa using hb
    subst e
    obtain ⟨o, e, c, d⟩ := st
    exact ⟨o, e, fun v z => by rw [d] at z; cases z⟩
  keep := fun i h h' st k => st.at fun o e => k it (by simp) o e
  item := by
    intro X hP hw hK hc i pins s σ H E I hf st hg
    subst hP hw hK
    obtain ⟨xs, x, hq, hx⟩ := hg
    obtain ⟨its, rv, p, hz⟩ := I.tuple hq
    obtain ⟨u, hu, ru⟩ := rv.get hx
    obtain ⟨f0, f1, f2, f3, f4, f5⟩ := hf it (by simp)
    refine wpAny_pyNext_tuple_item st (show s.heap.IsTuple a its.toArray from p) (x := u) (by simpa using hu) fun h' st' sb => ?_
    have I1 : Inv X pins σ H { s with heap := h' } := I.turned (t' := s.toks) (fun b o hb e => (sb.2 b hb).trans e) f0 f1 f3 f4 f5
    obtain ⟨o, e, c, d⟩ := id st'
    exact ⟨u, rfl, go_of (s := { s with heap := h' }) e c d (by decide) ⟨x, H, I1, ru, ⟨rfl, fun ys hy => by rw [I.tuple_inj hy hq]; exact hx⟩, st', fun b hb => (hf b hb).1⟩⟩
  done := by
    intro X hP hw hK hc i pins s σ H E I hf st hg
    subst hP hw hK
    obtain ⟨xs, hq, hx⟩ := hg
    obtain ⟨its, rv, p, hz⟩ := I.tuple hq
    obtain ⟨f0, f1, f2, f3, f4, f5⟩ := hf it (by simp)
    have hl := rv.length
    exact wpAny_pyNext_tuple_end (I.ok.hd hc) st (show s.heap.IsTuple a its.toArray from p) (by simp; omega) fun h' eb => ⟨rfl, I.turned (t' := s.toks) (fun b o hb e => eb b o hb e) f0 f1 f3 f4 f5⟩
  self := fun _ _ _ _ _ st h => wpAny_pyIter_tupleiter st h
theorem turn_range {P : Program} {w : World} {K : PySem.W.Frag} {tg : Expr} (it : Addr) (lo : Int) (n : Nat) : Turn P w K tg (Itr lo n) [it] it (fun i h => IsRangeIter h it (lo + (i : Nat) * 1) ((n : Int) - (i : Nat)) 1) where
  mem := by simp
  obj := fun i h st b hb => by
    have e : b = it := by simpa using hb
    subst e
    exact ⟨_, st, fun v z => by
      have z' : Data.fields _ = Data.cell v := z
      cases z'⟩
  keep := fun i h h' st k => k it (by simp) _ st
  item := by
    intro X hP hw hK hc i pins s σ H E I hf st hg
    subst hP hw hK
    obtain ⟨f0, f1, f2, f3, f4, f5⟩ := hf it (by simp)
    have W := Walks.range (prog := X.prog) (w := X.w) (I.ok.hd hc) it lo 1 n
    refine W.item i s _ _ hg st fun v h' tk hv st' kk => ?_
    obtain ⟨t, rfl⟩ := hv
    have I1 : Inv X pins σ H { s with heap := h', toks := tk } := I.turned (fun b o hb e => kk b o (by simpa using hb) e) f0 f1 f3 f4 f5
    refine ⟨_, rfl, go_of (s := { s with heap := h', toks := tk }) (n := "range_iterator") st' rfl rfl (by decide) ⟨.int (lo + i), H, I1, ⟨t, ?_⟩, ⟨rfl, rfl⟩, st', fun b hb => (hf b hb).1⟩⟩
    rw [Int.mul_one]
  done := by
    intro X hP hw hK hc i pins s σ H E I hf st hg
    subst hP hw hK
    obtain ⟨f0, f1, f2, f3, f4, f5⟩ := hf it (by simp)
    exact wpAny_pyNext_range_end (I.ok.hd hc) st (by have : n ≤ i := hg; omega) fun h' eb => ⟨rfl, I.turned (t' := s.toks) (fun b o hb e => eb b o hb e) f0 f1 f3 f4 f5⟩
  self := fun _ _ _ _ _ st h => wpAny_pyIter_rangeiter st h
end L2

namespace L2
open PySem PySem.Spec PyProof.Rows
section
variable {X : Cx} {tg : Expr}
def iList (K : PySem.W.Frag) (tl : TE) : TI := fun σ H R => tl σ H fun x H1 => ∃ a, x = .ref a ∧ (∃ xs, SqL K H1 a xs) ∧ R (Itl K a) H1
def iTup (K : PySem.W.Frag) (tl : TE) : TI := fun σ H R => tl σ H fun x H1 => ∃ a, x = .ref a ∧ (∃ xs, SqT K H1 a xs) ∧ R (Itt K a) H1
theorem pi_list {l : Expr} {tl : TE} (hl : PE X l tl) : PI X tg l (iList X.K tl) := by
  intro pins s σ H R I h
  refine thn (hl pins s σ H _ I h) fun v s1 ⟨x, H1, I1, r1, q1⟩ => ?_
  obtain ⟨a, e, ⟨xs, hq⟩, q⟩ := q1
  subst e
  cases r1
  obtain ⟨its, rv, p, hz⟩ := I1.list hq
  refine wpAny_pyIter_list p.isList ?_
  refine ⟨s1.heap.objs.size, [s1.heap.objs.size], _, _, H1, rfl, I1.kept (t' := s1.toks) fun b o e => Heap.get?_push_of_some _ e, turn_list a _, ⟨_, Heap.get?_push_size _ rfl, rfl, rfl⟩, fun b hb => ?_, q⟩
  have e : b = s1.heap.objs.size := by simpa using hb
  subst e
  exact I1.fpOk (Nat.le_refl _) (I1.hok.fresh (Nat.le_refl _))
theorem pi_tup {l : Expr} {tl : TE} (hl : PE X l tl) : PI X tg l (iTup X.K tl) := by
  intro pins s σ H R I h
  refine thn (hl pins s σ H _ I h) fun v s1 ⟨x, H1, I1, r1, q1⟩ => ?_
  obtain ⟨a, e, ⟨xs, hq⟩, q⟩ := q1
  subst e
  cases r1
  obtain ⟨its, rv, p, hz⟩ := I1.tuple hq
  refine wpAny_pyIter_tuple (show s1.heap.IsTuple a its.toArray from p) ?_
  refine ⟨s1.heap.objs.size, [s1.heap.objs.size], _, _, H1, rfl, I1.kept (t' := s1.toks) fun b o e => Heap.get?_push_of_some _ e, turn_tuple a _, ⟨_, Heap.get?_push_size _ rfl, rfl, rfl⟩, fun b hb => ?_, q⟩
  have e : b = s1.heap.objs.size := by simpa using hb
  subst e
  exact I1.fpOk (Nat.le_refl _) (I1.hok.fresh (Nat.le_refl _))
/-- a range object just made, walked -/
theorem range_it {pins : List (Addr × Obj)} {σ : St} {H : Hp} {s : Shared} {R : It → Hp → Prop} {E : Value → Shared → Prop} {lo hi : Int} {t u v : Tok} {tk : Nat} (I : Inv X pins σ H s) (h1 : -(2 ^ 62) ≤ lo) (h2 : lo < 2 ^ 62) (h3 : -(2 ^ 62) ≤ hi) (h4 : hi < 2 ^ 62)
    (q : R (Itr lo (hi - lo).toNat) H) : wpAny (model X.prog X.w) X.A (pyIter (.ref s.heap.objs.size)) (PIE X pins σ tg R) E { s with heap := s.heap.push { cls := .type "range", data := .fields #[.int lo t, .int hi u, .int 1 v] }, toks := tk } := by
  refine wpAny_pyIter_range (IsRange.new ..) (small_one h1 h2 h3 h4) ?_
  have I1 : Inv X pins σ H { s with heap := s.heap.push { cls := .type "range", data := .fields #[.int lo t, .int hi u, .int 1 v] }, toks := tk } := I.kept fun b o e => Heap.get?_push_of_some _ e
  refine ⟨(s.heap.push { cls := .type "range", data := .fields #[.int lo t, .int hi u, .int 1 v] }).objs.size, [(s.heap.push { cls := .type "range", data := .fields #[.int lo t, .int hi u, .int 1 v] }).objs.size], _, _, H, rfl,
    I1.kept (t' := tk) fun b o e => Heap.get?_push_of_some _ e, turn_range _ lo (hi - lo).toNat, ?_, fun b hb => ?_, q⟩
  · have e1 : lo + ((0 : Nat) : Int) * 1 = lo := by simp
    have e2 : (((hi - lo).toNat : Nat) : Int) - ((0 : Nat) : Int) = Builtin.Range.rangeSize lo hi 1 := by rw [rangeSize_one]; split <;> omega
    show IsRangeIter _ _ (lo + ((0 : Nat) : Int) * 1) ((((hi - lo).toNat : Nat) : Int) - ((0 : Nat) : Int)) 1
    rw [e1, e2]
    exact Heap.get?_push_size _ rfl
  · have e : b = (s.heap.push { cls := .type "range", data := .fields #[.int lo t, .int hi u, .int 1 v] }).objs.size := by simpa using hb
    subst e
    exact I1.fpOk (Nat.le_refl _) (I1.hok.fresh (Nat.le_refl _))
def iRng1 (ta : TA) : TI := fun σ H R => ta σ H fun vs H1 => ∃ j : Int, vs = [.int j] ∧ -(2 ^ 62) ≤ j ∧ j < 2 ^ 62 ∧ R (Itr 0 j.toNat) H1
def iRng2 (ta : TA) : TI := fun σ H R => ta σ H fun vs H1 => ∃ i j : Int, vs = [.int i, .int j] ∧ (-(2 ^ 62) ≤ i ∧ i < 2 ^ 62 ∧ -(2 ^ 62) ≤ j ∧ j < 2 ^ 62) ∧ R (Itr i (j - i).toNat) H1
theorem pi_range1 {a : Expr} {ta : TA} {p pos : Pos} (hg : Gl X "range") (hm : X.mg "range" = none) (ha : PA X [a] ta) (hs : starEach [a] X.env = [(false, eval a X.env)] := by rfl) : PI X tg (.Call (.Name "range" p) [a] [] pos) (iRng1 ta) := by
  intro pins s σ H R I h
  refine Call_ (ld_blt I hg hm boot_range (PyProof.Rows.callWith_type1 (thn (ha pos pins s σ H _ I h) fun us s1 ⟨vs, H1, I1, r1, q1⟩ => ?_) hs rfl))
  obtain ⟨j, e, q1, q2, q⟩ := q1
  subst e
  cases r1 with
  | cons r rr =>
    cases rr
    obtain ⟨t, rfl⟩ := r
    exact call_range_1 (range_it I1 (by omega) (by omega) q1 q2 (by simpa using q))
theorem pi_range2 {a b : Expr} {ta : TA} {p pos : Pos} (hg : Gl X "range") (hm : X.mg "range" = none) (ha : PA X [a, b] ta) (hs : starEach [a, b] X.env = [(false, eval a X.env), (false, eval b X.env)] := by rfl) (hs2 : starEach [b] X.env = [(false, eval b X.env)] := by rfl) :
    PI X tg (.Call (.Name "range" p) [a, b] [] pos) (iRng2 ta) := by
  intro pins s σ H R I h
  refine Call_ (ld_blt I hg hm boot_range (PyProof.Rows.callWith_type1 (thn (ha pos pins s σ H _ I h) fun us s1 ⟨vs, H1, I1, r1, q1⟩ => ?_) (by rw [hs, hs2]) (by rw [hs2]; rfl)))
  obtain ⟨i, j, e, ⟨q1, q2, q3, q4⟩, q⟩ := q1
  subst e
  cases r1 with
  | cons r rr =>
    cases rr with
    | cons r' rr =>
      cases rr
      obtain ⟨t, rfl⟩ := r
      obtain ⟨t', rfl⟩ := r'
      exact call_range_2 (range_it I1 q1 q2 q3 q4 q)

/-! ### for -/
/-- W: the invariant by the turn and a measure; N: what the body is to reach -/
def tFor (wi : TI) (g : TG) (tb : TS) : TS := fun D σ H => wi σ H fun J H1 => ∃ W : Nat → Nat → St → Hp → Prop, (∃ m, W 0 m σ H1) ∧ ∀ i m σ H, W i m σ H →
  (J.stop i H ∧ D.nx σ H) ∨ (J.go i H ∧ ∃ N : St → Hp → Prop, (∀ σ' H', N σ' H' → ∃ m', m' < m ∧ W (i + 1) m' σ' H') ∧ ∀ x H', J.yld i H x H' → g x σ H' fun σ2 H2 => tb { D with nx := N, ct := N, bk := D.nx } σ2 H2)
/-- the records at fp as they stand -/
def pinsAt (fp : List Addr) (h : Heap) : List (Addr × Obj) := fp.filterMap fun b => (h.get? b).map fun o => (b, o)
theorem mem_pinsAt {fp : List Addr} {h : Heap} {b : Addr} {o : Obj} (hb : b ∈ fp) (e : h.get? b = some o) : (b, o) ∈ pinsAt fp h := List.mem_filterMap.mpr ⟨b, hb, by rw [e]; rfl⟩
theorem of_pinsAt {fp : List Addr} {h : Heap} {p : Addr × Obj} (hp : p ∈ pinsAt fp h) : p.1 ∈ fp ∧ h.get? p.1 = some p.2 := by
  obtain ⟨b, hb, e⟩ := List.mem_filterMap.mp hp
  cases q : h.get? b with
  | none => rw [q] at e; cases e
  | some o =>
    rw [q] at e
    have e' : (b, o) = p := Option.some.inj e
    subst e'
    exact ⟨hb, q⟩
theorem Inv.pinned {pins : List (Addr × Obj)} {σ : St} {H : Hp} {s : Shared} {fp : List Addr} (I : Inv X pins σ H s) (hf : ∀ b ∈ fp, FpOk X pins H b) (ho : ∀ b ∈ fp, ∃ o, s.heap.get? b = some o ∧ ∀ v, o.data ≠ .cell v) : Inv X (pins ++ pinsAt fp s.heap) σ H s :=
  I.pins_of fun p hp => (List.mem_append.mp hp).elim (fun z => I.pin p (List.mem_append_right _ z)) fun z => by
    obtain ⟨hb, e⟩ := of_pinsAt z
    obtain ⟨f0, f1, f2, _⟩ := hf p.1 hb
    obtain ⟨o, e', d⟩ := ho p.1 hb
    rw [e] at e'; cases e'
    exact ⟨e, f0, f1, f2, d⟩
theorem Inv.unpinned {pins pl : List (Addr × Obj)} {σ : St} {H : Hp} {s : Shared} (I : Inv X (pins ++ pl) σ H s) : Inv X pins σ H s := I.pins_of fun p hp => I.pin p (List.mem_append_right _ (List.mem_append_left _ hp))
theorem ps_for {iter : Expr} {body : List Stmt} {wi : TI} {g : TG} {tb : TS} {pos : Pos} (hp : PassesOwn (model X.prog X.w) X.A X.env X.xe) (hc : X.calm = true) (hi : PI X tg iter wi) (hg : PG X tg g) (hb : PSs X body tb)
    (hs : ∀ x, foldedSetIterable iter X.env x = pure x := by intro _; rfl) : PS X (.For tg iter body [] pos) (tFor wi g tb) := by
  intro pins s σ H D I h
  refine wpAny_For (thn (hi pins s σ H _ I h) fun v s1 h1 => thn h1 fun itv s2 h2 => ?_) hs
  obtain ⟨it, fp, tn, J, H2, e, I2, T, st2, f2, W, ⟨m0, w0⟩, turn⟩ := h2
  subst e
  -- what stays true of the iterator's objects through the loop
  have stat : ∀ {H' : Hp}, (∀ b ∈ fp, H' b = none) → ∀ b ∈ fp, FpOk X pins H' b := fun hn b hb => ⟨hn b hb, (f2 b hb).2⟩
  refine codeAny_forLoop_any (fun n s' => ∃ i σ' H', Inv X pins σ' H' s' ∧ tn i s'.heap ∧ (∀ b ∈ fp, H' b = none) ∧ W i n σ' H') ?_ m0 ⟨0, σ, H2, I2, st2, fun b hb => (f2 b hb).1, w0⟩
  rintro n s3 ⟨i, σ3, H3, I3, st3, fr3, w3⟩
  rcases turn i n σ3 H3 w3 with ⟨stop, qn⟩ | ⟨go, N, hN, step⟩
  · refine wpAny_passesOwn hp (thn (T.done X rfl rfl rfl hc i pins s3 σ3 H3 X.xe I3 (stat fr3) st3 stop) fun r s4 ⟨hr, I4⟩ => ?_)
    subst hr
    exact wpAny_execs_nil ⟨σ3, H3, I4, qn⟩
  · refine wpAny_passesOwn hp (thn (T.item X rfl rfl rfl hc i pins s3 σ3 H3 X.xe I3 (stat fr3) st3 go) fun r s4 ⟨u, hr, h4⟩ => ?_)
    subst hr
    refine wpAny_passesOwn hp (thn h4 fun _ s5 ⟨x, H5, I5, r5, y5, st5, fr5⟩ => ?_)
    have I5' := I5.pinned (stat fr5) (T.obj _ _ st5)
    refine wpAny_passesOwn hp (thn (hg _ s5 σ3 H5 x u _ I5' r5 (step x H5 y5)) fun _ s6 ⟨σ6, H6, I6, q6⟩ => ?_)
    refine wpAny_passesOwn hp (thn (hb _ s6 σ6 H6 _ I6 q6) fun f s7 q7 => ?_)
    have again : ∀ {σ7 : St} {H7 : Hp}, Inv X (pins ++ pinsAt fp s5.heap) σ7 H7 s7 → N σ7 H7 → ∃ m, m < n ∧ ∃ i σ' H', Inv X pins σ' H' s7 ∧ tn i s7.heap ∧ (∀ b ∈ fp, H' b = none) ∧ W i m σ' H' := fun {σ7 H7} I7 n7 => by
      obtain ⟨m', hm, w7⟩ := hN σ7 H7 n7
      refine ⟨m', hm, i + 1, σ7, H7, I7.unpinned, T.keep _ _ _ st5 fun b hb o e => (I7.pin (b, o) (List.mem_append_right _ (List.mem_append_right _ (mem_pinsAt hb e)))).1, fun b hb => ?_, w7⟩
      obtain ⟨o, e, d⟩ := T.obj _ _ st5 b hb
      exact (I7.pin (b, o) (List.mem_append_right _ (List.mem_append_right _ (mem_pinsAt hb e)))).2.1
    cases f with
    | next => obtain ⟨σ7, H7, I7, n7⟩ := q7; exact again I7 n7
    | cont => obtain ⟨σ7, H7, I7, n7⟩ := q7; exact again I7 n7
    | brk => obtain ⟨σ7, H7, I7, q7⟩ := q7; exact ⟨σ7, H7, I7.unpinned, q7⟩
    | ret v => obtain ⟨x7, σ7, H7, I7, r7, q7⟩ := q7; exact ⟨x7, σ7, H7, I7.unpinned, r7, q7⟩
end

/-! ### the forms one uses -/
/-- over a list that the body leaves as it is -/
theorem for_list {K : PySem.W.Frag} {a : Addr} {xs : List V} {g : TG} {tb : TS} {D : Ends} {σ : St} {H : Hp} (Pv : Nat → St → Hp → Prop) (h0 : Pv 0 σ H) (hl : ∀ i σ H, i ≤ xs.length → Pv i σ H → SqL K H a xs)
    (hs : ∀ i x σ H, xs[i]? = some x → Pv i σ H → g x σ H fun σ2 H2 => tb { D with nx := Pv (i + 1), ct := Pv (i + 1), bk := D.nx } σ2 H2) (hd : ∀ σ H, Pv xs.length σ H → D.nx σ H) :
    ∃ W : Nat → Nat → St → Hp → Prop, (∃ m, W 0 m σ H) ∧ ∀ i m σ H, W i m σ H →
      ((Itl K a).stop i H ∧ D.nx σ H) ∨ ((Itl K a).go i H ∧ ∃ N : St → Hp → Prop, (∀ σ' H', N σ' H' → ∃ m', m' < m ∧ W (i + 1) m' σ' H') ∧ ∀ x H', (Itl K a).yld i H x H' → g x σ H' fun σ2 H2 => tb { D with nx := N, ct := N, bk := D.nx } σ2 H2) := by
  refine ⟨fun i m σ H => m = xs.length - i ∧ i ≤ xs.length ∧ Pv i σ H, ⟨xs.length, by simp, Nat.zero_le _, h0⟩, ?_⟩
  rintro i m σ H ⟨rfl, hi, p⟩
  have q := hl i σ H hi p
  by_cases hlt : i < xs.length
  · refine .inr ⟨⟨xs, xs[i], q, by simp [hlt]⟩, Pv (i + 1), fun σ' H' p' => ⟨xs.length - (i + 1), by omega, rfl, hlt, p'⟩, fun x H' y => ?_⟩
    obtain ⟨e, y⟩ := y
    subst e
    exact hs i x σ _ (y xs q) p
  · have e : i = xs.length := by omega
    subst e
    exact .inl ⟨⟨xs, q, Nat.le_refl _⟩, hd σ H p⟩
theorem for_tup {K : PySem.W.Frag} {a : Addr} {xs : List V} {g : TG} {tb : TS} {D : Ends} {σ : St} {H : Hp} (Pv : Nat → St → Hp → Prop) (h0 : Pv 0 σ H) (hl : ∀ i σ H, i ≤ xs.length → Pv i σ H → SqT K H a xs)
    (hs : ∀ i x σ H, xs[i]? = some x → Pv i σ H → g x σ H fun σ2 H2 => tb { D with nx := Pv (i + 1), ct := Pv (i + 1), bk := D.nx } σ2 H2) (hd : ∀ σ H, Pv xs.length σ H → D.nx σ H) :
    ∃ W : Nat → Nat → St → Hp → Prop, (∃ m, W 0 m σ H) ∧ ∀ i m σ H, W i m σ H →
      ((Itt K a).stop i H ∧ D.nx σ H) ∨ ((Itt K a).go i H ∧ ∃ N : St → Hp → Prop, (∀ σ' H', N σ' H' → ∃ m', m' < m ∧ W (i + 1) m' σ' H') ∧ ∀ x H', (Itt K a).yld i H x H' → g x σ H' fun σ2 H2 => tb { D with nx := N, ct := N, bk := D.nx } σ2 H2) := by
  refine ⟨fun i m σ H => m = xs.length - i ∧ i ≤ xs.length ∧ Pv i σ H, ⟨xs.length, by simp, Nat.zero_le _, h0⟩, ?_⟩
  rintro i m σ H ⟨rfl, hi, p⟩
  have q := hl i σ H hi p
  by_cases hlt : i < xs.length
  · refine .inr ⟨⟨xs, xs[i], q, by simp [hlt]⟩, Pv (i + 1), fun σ' H' p' => ⟨xs.length - (i + 1), by omega, rfl, hlt, p'⟩, fun x H' y => ?_⟩
    obtain ⟨e, y⟩ := y
    subst e
    exact hs i x σ _ (y xs q) p
  · have e : i = xs.length := by omega
    subst e
    exact .inl ⟨⟨xs, q, Nat.le_refl _⟩, hd σ H p⟩
theorem for_range {lo : Int} {n : Nat} {g : TG} {tb : TS} {D : Ends} {σ : St} {H : Hp} (Pv : Nat → St → Hp → Prop) (h0 : Pv 0 σ H)
    (hs : ∀ i σ H, i < n → Pv i σ H → g (.int (lo + i)) σ H fun σ2 H2 => tb { D with nx := Pv (i + 1), ct := Pv (i + 1), bk := D.nx } σ2 H2) (hd : ∀ σ H, Pv n σ H → D.nx σ H) :
    ∃ W : Nat → Nat → St → Hp → Prop, (∃ m, W 0 m σ H) ∧ ∀ i m σ H, W i m σ H →
      ((Itr lo n).stop i H ∧ D.nx σ H) ∨ ((Itr lo n).go i H ∧ ∃ N : St → Hp → Prop, (∀ σ' H', N σ' H' → ∃ m', m' < m ∧ W (i + 1) m' σ' H') ∧ ∀ x H', (Itr lo n).yld i H x H' → g x σ H' fun σ2 H2 => tb { D with nx := N, ct := N, bk := D.nx } σ2 H2) := by
  refine ⟨fun i m σ H => m = n - i ∧ i ≤ n ∧ Pv i σ H, ⟨n, by simp, Nat.zero_le _, h0⟩, ?_⟩
  rintro i m σ H ⟨rfl, hi, p⟩
  by_cases hlt : i < n
  · refine .inr ⟨hlt, Pv (i + 1), fun σ' H' p' => ⟨n - (i + 1), by omega, rfl, hlt, p'⟩, fun x H' y => ?_⟩
    obtain ⟨e, y⟩ := y
    subst e y
    exact hs i σ _ hlt p
  · have e : i = n := by omega
    subst e
    exact .inl ⟨Nat.le_refl _, hd σ H p⟩
end L2

namespace L2
open PySem PySem.Spec PyProof.Rows

abbrev R2 := V → V → Hp → VK → Prop
/-- a two-place operation on values: f is binaryOp op, inplaceOp op or compareOp op -/
def OpR (X : Cx) (f : Value → Value → Sem Value) (r : R2) : Prop :=
  ∀ (pins : List (Addr × Obj)) (s : Shared) (σ : St) (H : Hp) (x y : V) (v u : Value) (Q : VK), Inv X pins σ H s → RelV x v → RelV y u → r x y H Q →
    wpAny (model X.prog X.w) X.A (f v u) (EP X pins σ Q) X.xe s
/-- a one-place operation -/
def UnR (X : Cx) (f : Value → Sem Value) (r : V → Hp → VK → Prop) : Prop :=
  ∀ (pins : List (Addr × Obj)) (s : Shared) (σ : St) (H : Hp) (x : V) (v : Value) (Q : VK), Inv X pins σ H s → RelV x v → r x H Q →
    wpAny (model X.prog X.w) X.A (f v) (EP X pins σ Q) X.xe s
/-- a call of a value that is known (a builtin, a type) with values -/
def CallR (X : Cx) (f : Value) (r : List V → Hp → VK → Prop) : Prop :=
  ∀ (pins : List (Addr × Obj)) (s : Shared) (σ : St) (H : Hp) (xs : List V) (us : List Value) (Q : VK), Inv X pins σ H s → Vals xs us → r xs H Q →
    wpAny (model X.prog X.w) X.A (call f us) (EP X pins σ Q) X.xe s
def tOp (r : R2) (ta tb : TE) : TE := fun σ H Q => ta σ H fun x H1 => tb σ H1 fun y H2 => r x y H2 Q
def tUn (r : V → Hp → VK → Prop) (ta : TE) : TE := fun σ H Q => ta σ H fun x H1 => r x H1 Q
/-- ints in, under C, and a value out -/
def rI (C : Int → Int → Prop) (g : Int → Int → V) : R2 := fun x y H Q => ∃ i j, x = .int i ∧ y = .int j ∧ C i j ∧ Q (g i j) H
def rI0 (g : Int → Int → V) : R2 := fun x y H Q => ∃ i j, x = .int i ∧ y = .int j ∧ Q (g i j) H
def rU (g : Int → V) : V → Hp → VK → Prop := fun x H Q => ∃ i, x = .int i ∧ Q (g i) H

section
variable {X : Cx} {a b c : Expr} {ta tb tc : TE} {pos : Pos}

theorem binT (ha : PE X a ta) (hb : PE X b tb) {pins : List (Addr × Obj)} {s : Shared} {σ : St} {H : Hp} {R : V → V → Hp → Prop} (I : Inv X pins σ H s)
    (h : ta σ H fun x H1 => tb σ H1 fun y H2 => R x y H2) {Q : Value → Shared → Prop} {f : Value → Value → Sem Value}
    (hf : ∀ v u s2 x y H2, Inv X pins σ H2 s2 → RelV x v → RelV y u → R x y H2 → wpAny (model X.prog X.w) X.A (f v u) Q X.xe s2) :
    wpAny (model X.prog X.w) X.A (eval a X.env) (fun v s₁ => wpAny (model X.prog X.w) X.A (eval b X.env) (fun u s₂ => wpAny (model X.prog X.w) X.A (f v u) Q X.xe s₂) X.xe s₁) X.xe s := by
  refine thn (ha pins s σ H _ I h) fun v s1 ⟨x, H1, I1, r1, q1⟩ => ?_
  refine thn (hb pins s1 σ H1 _ I1 q1) fun u s2 ⟨y, H2, I2, r2, q2⟩ => ?_
  exact hf v u s2 x y H2 I2 r1 r2 q2

theorem pe_op {op : Operator} {r : R2} (ho : OpR X (binaryOp op) r) (ha : PE X a ta) (hb : PE X b tb) : PE X (.BinOp a op b pos) (tOp r ta tb) := by
  intro pins s σ H Q I h
  exact wpAny_BinOp (binT ha hb I h fun v u s2 x y H2 I2 rx ry q => ho pins s2 σ H2 x y v u Q I2 rx ry q)
theorem pe_un {op : UnaryOp} {r : V → Hp → VK → Prop} (ho : UnR X (unaryOp op) r) (ha : PE X a ta) : PE X (.UnaryOp op a pos) (tUn r ta) := by
  intro pins s σ H Q I h
  exact UnaryOp_ (thn (ha pins s σ H _ I h) fun v s1 ⟨x, H1, I1, r1, q1⟩ => ho pins s1 σ H1 x v Q I1 r1 q1)
/-! ### ints -/
theorem opI {f : Value → Value → Sem Value} {C : Int → Int → Prop} {g : Int → Int → Int}
    (rule : ∀ (i j : Int) (t u : Tok) (s : Shared) (Q : Value → Shared → Prop) (E : Value → Shared → Prop), C i j → Q (.int (g i j) s.toks) { s with toks := s.toks + 1 } → wpAny (model X.prog X.w) X.A (f (.int i t) (.int j u)) Q E s) :
    OpR X f (rI C fun i j => .int (g i j)) := by
  intro pins s σ H x y v u Q I rx ry h
  obtain ⟨i, j, rfl, rfl, hc, q⟩ := h
  obtain ⟨t, rfl⟩ := rx
  obtain ⟨t', rfl⟩ := ry
  exact rule i j t t' s _ _ hc ⟨.int (g i j), H, I.tok _, ⟨_, rfl⟩, q⟩
theorem opI0 {f : Value → Value → Sem Value} {g : Int → Int → Int}
    (rule : ∀ (i j : Int) (t u : Tok) (s : Shared) (Q : Value → Shared → Prop) (E : Value → Shared → Prop), Q (.int (g i j) s.toks) { s with toks := s.toks + 1 } → wpAny (model X.prog X.w) X.A (f (.int i t) (.int j u)) Q E s) :
    OpR X f (rI0 fun i j => .int (g i j)) := by
  intro pins s σ H x y v u Q I rx ry h
  obtain ⟨i, j, rfl, rfl, q⟩ := h
  obtain ⟨t, rfl⟩ := rx
  obtain ⟨t', rfl⟩ := ry
  exact rule i j t t' s _ _ ⟨.int (g i j), H, I.tok _, ⟨_, rfl⟩, q⟩
theorem opB0 {f : Value → Value → Sem Value} {g : Int → Int → Bool}
    (rule : ∀ (i j : Int) (t u : Tok) (s : Shared) (Q : Value → Shared → Prop) (E : Value → Shared → Prop), Q (.bool (g i j)) s → wpAny (model X.prog X.w) X.A (f (.int i t) (.int j u)) Q E s) :
    OpR X f (rI0 fun i j => .bl (g i j)) := by
  intro pins s σ H x y v u Q I rx ry h
  obtain ⟨i, j, rfl, rfl, q⟩ := h
  obtain ⟨t, rfl⟩ := rx
  obtain ⟨t', rfl⟩ := ry
  exact rule i j t t' s _ _ ⟨.bl (g i j), H, I, rfl, q⟩

def CDiv (i j : Int) : Prop := 0 < j ∧ j < 1073741824
def CPow (i j : Int) : Prop := 0 ≤ j ∧ j ≤ 1000000 ∧ i.natAbs < 2 ^ 64
def CMul (i j : Int) : Prop := (-(2 ^ 64) < i ∧ i < 2 ^ 64) ∨ (-(2 ^ 64) < j ∧ j < 2 ^ 64)
theorem CMul.ok {i j : Int} (h : CMul i j) : IntMulOk i j := by
  rcases h with ⟨h1, h2⟩ | ⟨h1, h2⟩
  · exact .of_left (intBits_le_64 h1 h2)
  · exact .of_right (intBits_le_64 h1 h2)
theorem op_add : OpR X (binaryOp .Add) (rI0 fun i j => .int (i + j)) := opI0 fun _ _ _ _ _ _ _ q => add_int q
theorem op_sub : OpR X (binaryOp .Sub) (rI0 fun i j => .int (i - j)) := opI0 fun _ _ _ _ _ _ _ q => sub_int q
theorem op_mul : OpR X (binaryOp .Mult) (rI CMul fun i j => .int (i * j)) := opI fun _ _ _ _ _ _ _ hc q => mul_int q hc.ok
/-- // by a positive divisor -/
theorem op_fdiv : OpR X (binaryOp .FloorDiv) (rI CDiv fun i j => .int (i / j)) := opI fun i j _ _ _ _ _ hc q => by
  have h1 : (0 : Int) < j := hc.1
  have h2 : j < 1073741824 := hc.2
  exact floordiv_int (by omega) (by rw [Int.fdiv_eq_ediv_of_nonneg i (by omega)]; exact q) (.inl (PyProof.noPylong_small (by omega)))
/-- % by a positive divisor of any size -/
theorem op_mod : OpR X (binaryOp .Mod) (rI (fun _ j => 0 < j) fun i j => .int (i % j)) := opI fun i j _ _ _ _ _ hc q => by
  have h1 : (0 : Int) < j := hc
  exact mod_int' (by omega) (by rw [Int.fmod_eq_emod_of_nonneg i (by omega)]; exact q)
theorem op_pow : OpR X (binaryOp .Pow) (rI CPow fun i j => .int (i ^ j.toNat)) := opI fun _ _ _ _ _ _ _ hc q => pow_int_small hc.1 hc.2.1 hc.2.2 q
theorem unI {f : Value → Sem Value} {g : Int → Int}
    (rule : ∀ (i : Int) (t : Tok) (s : Shared) (Q : Value → Shared → Prop) (E : Value → Shared → Prop), Q (.int (g i) s.toks) { s with toks := s.toks + 1 } → wpAny (model X.prog X.w) X.A (f (.int i t)) Q E s) :
    UnR X f (rU fun i => .int (g i)) := by
  intro pins s σ H x v Q I rx h
  obtain ⟨i, rfl, q⟩ := h
  obtain ⟨t, rfl⟩ := rx
  exact rule i t s _ _ ⟨.int (g i), H, I.tok _, ⟨_, rfl⟩, q⟩
theorem un_neg : UnR X (unaryOp .USub) (rU fun i => .int (-i)) := unI fun _ _ _ _ _ q => neg_int q
end

/-! ### comparisons -/
/-- the scalars that == tells apart as data does -/
def scal : V → V → Bool
  | .non, .non => true | .non, .int _ => true | .int _, .non => true | .non, .bl _ => true | .bl _, .non => true | .non, .str _ => true | .str _, .non => true
  | .int _, .int _ => true | .bl _, .bl _ => true | .str _, .str _ => true | .byt _, .byt _ => true
  | .int _, .str _ => true | .str _, .int _ => true | .bl _, .str _ => true | .str _, .bl _ => true
  | _, _ => false
def rEq : R2 := fun x y H Q => scal x y = true ∧ Q (.bl (decide (x = y))) H
theorem dec_int {i j : Int} : decide (V.int i = V.int j) = (i == j) := by
  rw [Bool.eq_iff_iff]
  simp
theorem dec_bl {i j : Bool} : decide (V.bl i = V.bl j) = (i == j) := by
  rw [Bool.eq_iff_iff]
  simp
theorem dec_str {i j : Str} : decide (V.str i = V.str j) = (i == j) := by
  rw [Bool.eq_iff_iff]
  simp
theorem dec_byt {i j : Array UInt8} : decide (V.byt i = V.byt j) = (i.toList == j.toList) := by
  rw [Bool.eq_iff_iff]
  cases i
  cases j
  simp

section
variable {X : Cx} {a b c : Expr} {ta tb tc : TE} {pos : Pos}
theorem fin_bl {pins : List (Addr × Obj)} {σ : St} {H : Hp} {s : Shared} {Q : VK} {k k' : Bool} (I : Inv X pins σ H s) (q : Q (.bl k) H) (e : k = k') : EP X pins σ Q (.bool k') s := by
  subst e
  exact ⟨.bl k, H, I, rfl, q⟩
theorem op_eq : OpR X (compareOp .Eq) rEq := by
  intro pins s σ H x y v u Q I rx ry h
  obtain ⟨hs, q⟩ := h
  cases x with
  | non =>
    cases rx
    cases y with
    | non => cases ry; exact PySem.EqNone.eq_none_none (fin_bl I q (by simp))
    | bl j => cases ry; exact PySem.EqNone.eq_none_bool (fin_bl I q (by simp))
    | int j => obtain ⟨t', rfl⟩ := ry; exact PySem.EqNone.eq_none_int (fin_bl I q (by simp))
    | str j => obtain ⟨t', rfl⟩ := ry; exact PySem.EqNone.eq_none_str (fin_bl I q (by simp))
    | _ => exact absurd (show false = true from hs) Bool.false_ne_true
  | bl i =>
    cases rx
    cases y with
    | non => cases ry; exact PySem.EqNone.eq_bool_none (fin_bl I q (by simp))
    | bl j => cases ry; exact eq_bool (fin_bl I q dec_bl)
    | str j => obtain ⟨t', rfl⟩ := ry; exact PySem.EqMixed.eq_bool_str (fin_bl I q (by simp))
    | _ => exact absurd (show false = true from hs) Bool.false_ne_true
  | int i =>
    obtain ⟨t, rfl⟩ := rx
    cases y with
    | non => cases ry; exact PySem.EqNone.eq_int_none (fin_bl I q (by simp))
    | int j => obtain ⟨t', rfl⟩ := ry; exact eq_int (fin_bl I q dec_int)
    | str j => obtain ⟨t', rfl⟩ := ry; exact PySem.EqMixed.eq_int_str (fin_bl I q (by simp))
    | _ => exact absurd (show false = true from hs) Bool.false_ne_true
  | str i =>
    obtain ⟨t, rfl⟩ := rx
    cases y with
    | non => cases ry; exact PySem.EqNone.eq_str_none (fin_bl I q (by simp))
    | bl j => cases ry; exact PySem.EqMixed.eq_str_bool (fin_bl I q (by simp))
    | int j => obtain ⟨t', rfl⟩ := ry; exact PySem.EqMixed.eq_str_int (fin_bl I q (by simp))
    | str j => obtain ⟨t', rfl⟩ := ry; exact eq_str (fin_bl I q dec_str)
    | _ => exact absurd (show false = true from hs) Bool.false_ne_true
  | byt i =>
    obtain ⟨t, rfl⟩ := rx
    cases y with
    | byt j => obtain ⟨t', rfl⟩ := ry; exact PySem.W.eq_bytes (fin_bl I q dec_byt)
    | _ => exact absurd (show false = true from hs) Bool.false_ne_true
  | _ => cases y <;> exact absurd (show false = true from hs) Bool.false_ne_true
theorem op_lt : OpR X (compareOp .Lt) (rI0 fun i j => .bl (decide (i < j))) := opB0 fun _ _ _ _ _ _ _ q => lt_int q
theorem op_le : OpR X (compareOp .LtE) (rI0 fun i j => .bl (decide (i ≤ j))) := opB0 fun _ _ _ _ _ _ _ q => le_int q
theorem op_gt : OpR X (compareOp .Gt) (rI0 fun i j => .bl (decide (j < i))) := opB0 fun _ _ _ _ _ _ _ q => gt_int q
theorem op_ge : OpR X (compareOp .GtE) (rI0 fun i j => .bl (decide (j ≤ i))) := opB0 fun _ _ _ _ _ _ _ q => ge_int q
theorem nomark (b : Expr) {op : CmpOp} (h : op ≠ .In := by decide) (h2 : op ≠ .NotIn := by decide) : behindInMarks op b = false := by
  have e1 : (op == CmpOp.In) = false := by cases op <;> first | rfl | exact absurd rfl h
  have e2 : (op == CmpOp.NotIn) = false := by cases op <;> first | rfl | exact absurd rfl h2
  cases b <;> simp [behindInMarks, e1, e2]
/-- a comparison as a value; hm: nomark b, or (for in, not in) by with_unfolding_all rfl -/
theorem pe_cmpR {op : CmpOp} {r : R2} (ho : OpR X (compareOp op) r) (ha : PE X a ta) (hb : PE X b tb) (hm : behindInMarks op b = false) : PE X (.Compare a [op] [b] pos) (tOp r ta tb) := by
  intro pins s σ H Q I h
  exact wpAny_Compare1 (binT ha hb I h fun v u s2 x y H2 I2 rx ry q => ho pins s2 σ H2 x y v u Q I2 rx ry q) hm
/-- a reading of a value as a test -/
def tTest (t : TE) : TT := fun σ H Q => t σ H fun x H' => ∃ k, x = .bl k ∧ Q k H'
theorem pt_cmpR {op : CmpOp} {r : R2} (ho : OpR X (compareOp op) r) (ha : PE X a ta) (hb : PE X b tb) (hm : behindInMarks op b = false) : PT X (.Compare a [op] [b] pos) (tTest (tOp r ta tb)) := by
  intro pins s σ H Q I h
  refine wpAny_isTrue_Compare1 (thn (ha pins s σ H _ I h) fun v s1 ⟨x, H1, I1, r1, q1⟩ => thn (hb pins s1 σ H1 _ I1 q1) fun u s2 ⟨y, H2, I2, r2, q2⟩ =>
    thn (ho pins s2 σ H2 x y v u _ I2 r1 r2 q2) fun c s3 ⟨z, H3, I3, r3, k, e, q3⟩ => ?_) hm
  subst e
  cases r3
  exact wpAny_truthy_bool ⟨H3, I3, q3⟩
/-- a op1 b op2 c -/
def tChain (r r' : R2) (ta tb tc : TE) : TE := fun σ H Q => ta σ H fun x H1 => tb σ H1 fun y H2 => r x y H2 fun z H3 => ∃ k, z = .bl k ∧
  (if k = true then tc σ H3 fun w' H4 => r' y w' H4 Q else Q (.bl false) H3)
theorem pe_chain {op op' : CmpOp} {r r' : R2} (ho : OpR X (compareOp op) r) (ho' : OpR X (compareOp op') r') (ha : PE X a ta) (hb : PE X b tb) (hc : PE X c tc)
    (hm : lastMarks [op, op'] [b, c] = false := by with_unfolding_all rfl) : PE X (.Compare a [op, op'] [b, c] pos) (tChain r r' ta tb tc) := by
  intro pins s σ H Q I h
  refine Compare_chain (thn (ha pins s σ H _ I h) fun v s1 ⟨x, H1, I1, r1, q1⟩ => chain_link (thn (hb pins s1 σ H1 _ I1 q1) fun u s2 ⟨y, H2, I2, r2, q2⟩ =>
    thn (ho pins s2 σ H2 x y v u _ I2 r1 r2 q2) fun d s3 ⟨z, H3, I3, r3, k, e, q3⟩ => ?_)) hm
  subst e
  cases r3
  refine wpAny_truthy_bool ?_
  cases k with
  | false => exact ite_ff ⟨.bl false, H3, I3, rfl, q3⟩
  | true => exact ite_tt (chain_last (thn (hc pins s3 σ H3 _ I3 q3) fun w' s4 ⟨z', H4, I4, r4, q4⟩ => ho' pins s4 σ H4 y z' u w' Q I4 r2 r4 q4))
theorem line63 : (sizeLine : Nat) < 2 ^ 63 := by rw [sizeLine_eq]; decide
/-! ### scalar builtins, by CallR -/
theorem vals1 {x : V} {us : List Value} (r : Vals [x] us) : ∃ u, us = [u] ∧ RelV x u := by
  cases r with
  | cons r1 r2 => cases r2; exact ⟨_, rfl, r1⟩
theorem vals2 {x y : V} {us : List Value} (r : Vals [x, y] us) : ∃ u w', us = [u, w'] ∧ RelV x u ∧ RelV y w' := by
  cases r with
  | cons r1 r2 =>
    cases r2 with
    | cons r3 r4 => cases r4; exact ⟨_, _, rfl, r1, r3⟩
theorem call_max2 (hc : X.calm = true) : CallR X (.builtin "max") (fun xs H Q => ∃ i j, xs = [.int i, .int j] ∧ Q (.int (if j > i then j else i)) H) := by
  intro pins s σ H xs us Q I r h
  obtain ⟨i, j, rfl, q⟩ := h
  obtain ⟨u, w', rfl, ⟨t, rfl⟩, ⟨t', rfl⟩⟩ := vals2 r
  refine max_two_ints (I.ok.hd hc) fun h' tk k => ⟨_, H, I.kept k, ?_, q⟩
  by_cases hj : j > i
  · rw [if_pos hj, if_pos hj]; exact ⟨_, rfl⟩
  · rw [if_neg hj, if_neg hj]; exact ⟨_, rfl⟩
theorem call_min2 (hc : X.calm = true) : CallR X (.builtin "min") (fun xs H Q => ∃ i j, xs = [.int i, .int j] ∧ Q (.int (if j < i then j else i)) H) := by
  intro pins s σ H xs us Q I r h
  obtain ⟨i, j, rfl, q⟩ := h
  obtain ⟨u, w', rfl, ⟨t, rfl⟩, ⟨t', rfl⟩⟩ := vals2 r
  refine min_two_ints (I.ok.hd hc) fun h' tk k => ⟨_, H, I.kept k, ?_, q⟩
  by_cases hj : j < i
  · rw [if_pos hj, if_pos hj]; exact ⟨_, rfl⟩
  · rw [if_neg hj, if_neg hj]; exact ⟨_, rfl⟩
end
end L2

namespace L2
open PySem PySem.Spec PyProof.Rows

/-! ### an instance, its attributes a map -/
structure ObjM (h : Heap) (x dx C : Addr) (mA : Str → Option Value) : Prop where
  obj : h.get? x = some (PySem.W.instObj C dx)
  ns : h.Ns1 dx mA
  ne : dx ≠ x

theorem lookIn_ns {h : Heap} {dx : Addr} {mA : Str → Option Value} (n : h.Ns1 dx mA) : ∃ od, h.get? dx = some od ∧ ∀ name, PySem.W.lookIn name od = some (mA name) := by
  obtain ⟨o, es, ep, ho, hd, hk, _, hm⟩ := n
  refine ⟨o, ho, fun name => ?_⟩
  have e := hm name
  unfold nsFind findBy at e
  rw [← Array.find?_toList] at e
  unfold PySem.W.lookIn
  rw [hd]
  dsimp only
  split
  · rename_i y q
    rw [q] at e
    exact congrArg some e
  · rename_i q
    rw [q] at e
    have a : es.toList.any (·.refKey) = false := by
      rw [List.any_eq_false]
      intro y hy
      obtain ⟨z, t, hkey⟩ := hk y (Array.mem_toList_iff.mp hy)
      simp [DictEntry.refKey, hkey]
    have a' : ¬ es.toList.any (·.refKey) = true := by rw [a]; exact Bool.false_ne_true
    rw [if_neg a']
    exact congrArg some e

theorem ObjM.look {h : Heap} {x dx C : Addr} {mA : Str → Option Value} (I : ObjM h x dx C mA) : ∃ od, PySem.W.InstAt h x (PySem.W.instObj C dx) C (some od) ∧ ∀ name, PySem.W.lookIn name od = some (mA name) :=
  let ⟨od, ho, hl⟩ := lookIn_ns I.ns
  ⟨od, ⟨I.obj, rfl, rfl, ho⟩, hl⟩

section
variable {prog : Program} {w : World} {A : Around} {E : Value → Shared → Prop} {s : Shared} {K : PySem.W.Frag} {x dx C f : Addr} {mA : Str → Option Value} {name : Str} {v : Value}

theorem get_map {expr : Bool} {Q : Value → Shared → Prop} (X : K.In s.heap) (I : ObjM s.heap x dx C mA) (hg : PySem.W.plainGet K C name = true) (hh : PySem.W.hasDictIn K C = true)
    (ha : PySem.W.findIn K (.ref C) name = some none) (hv : mA name = some v) (hv' : PySem.W.handedIn v = true) (h : Q v { s with toks := s.toks + 1 }) :
    wpAny (model prog w) A (getAttr (.ref x) name expr) Q E s := by
  obtain ⟨od, J, hl⟩ := I.look
  exact PySem.W.get_value X J (PySem.W.plainGet_of hg).1 (PySem.W.findObj_own hh ha rfl (by rw [hl, hv])) hv' h

theorem get_meth {pl : Sem Bool} {Q : Value × List Value → Shared → Prop} (X : K.In s.heap) (I : ObjM s.heap x dx C mA) (hg : PySem.W.plainGet K C name = true)
    (hf : PySem.W.findIn K (.ref C) name = some (some (.ref f))) (ht : PySem.W.isFn K (.ref f) = true) (hv : mA name = none) (h : Q (.ref f, [.ref x]) s) :
    wpAny (model prog w) A (getMethod (.ref x) name pl) Q E s := by
  obtain ⟨od, J, hl⟩ := I.look
  exact PySem.W.method_fn X J (PySem.W.plainGet_of hg).1 (PySem.W.plainGet_of hg).2 hf (beq_iff_eq.mp ht) (by show (PySem.W.lookIn name od).map (·.isSome) = some false; rw [hl, hv]; rfl) h

theorem set_map {ns : List Str} {Q : Unit → Shared → Prop} (X : K.In s.heap) (I : ObjM s.heap x dx C mA)
    (hs : PySem.W.findIn K (.ref C) "__setattr__" = some (some (.builtin "object.__setattr__"))) (hp : PySem.W.plainOver K C = true) (ht : PySem.W.takerIn K C name = some none) (hh : PySem.W.hasDictIn K C = true)
    (hw : PySem.Within mA ns) (hsz : ns.length ≤ sizeLine)
    (h : ∀ h', ObjM h' x dx C (fun y => if y = name then some v else mA y) → Heap.SameBut dx s.heap h' → Q () { s with heap := h', toks := s.toks + 2 }) :
    wpAny (model prog w) A (setAttr (.ref x) name v) Q E s := by
  obtain ⟨od, J, hl⟩ := I.look
  refine PySem.W.set_plain X J hs (PySem.W.osa_open (s := { s with toks := s.toks + 1 }) (r := none) X J hp ht fun b => ?_)
  obtain ⟨cd, hc, hd'⟩ := PySem.W.any_some hh
  have hx : s.heap.get? x = some ⟨.ref C, some dx, .plain, #[]⟩ := I.obj
  refine wpAny_bind (wpAny_pure (wpAny_bind (wpAny_bind (wpAny_loadPart hx (wpAny_bind (PySem.W.Looks.here (s := { s with toks := s.toks + 1 }) (PySem.W.looks_clsIn X hc) ?_))))))
  rw [hd']
  refine wpAny_pure (a := some dx) (wpAny_bind (wpAny_pure (wpAny_bind ?_)))
  refine wpAny_nsSet1 (s := { s with toks := s.toks + 1 }) I.ns fun h' hn2 hs2 => ?_
  obtain ⟨oD, esD, epD, hoD, hdD, hcD⟩ := hn2.count (PySem.Within.cons name v hw)
  refine wpAny_bind (wpAny_lookBehind hoD (by rw [hdD]; exact pastItsLine_dict (Nat.le_trans hcD (by rw [List.length_cons]; omega))) ?_)
  exact wpAny_pure (h _ ⟨(hs2.2 _ (Ne.symm I.ne)).trans I.obj, hn2, I.ne⟩ hs2)

/-- C(..): the dict at the heap's end, the instance behind it; then its __init__ -/
theorem make_map {R : Result → Shared → Prop} {vs : List Value} {kw : List (Str × Value)} (X : K.In s.heap) (hm : PySem.W.makesIn K C = true)
    (hi : PySem.W.findIn K (.ref C) "__init__" = some (some (.ref f))) (hf : PySem.W.typeIn K (.ref f) = some (.type "function"))
    (h : codeAny (model prog w) (A.under (.builtin "type.__call__" ⟨.ref C :: vs, kw⟩)) (.call (.ref f) ⟨.ref (s.heap.objs.size + 1) :: vs, kw⟩) (PySem.W.InitBack (s.heap.objs.size + 1) R)
      { s with heap := (s.heap.push PySem.W.emptyDict).push (PySem.W.instObj C s.heap.objs.size) }) :
    codeAny (model prog w) A (.call (.ref C) ⟨vs, kw⟩) R s := by
  obtain ⟨hh, g, d, t, os⟩ := s
  exact PySem.W.make_core (PySem.W.makes_of X hm) (PySem.W.looks_findIn X hi) (fun self => PySem.W.bind_fn X self hf) (.inl rfl) h
/-- C() where there is no __init__ but object's -/
theorem make_map0 {R : Result → Shared → Prop} (X : K.In s.heap) (hm : PySem.W.makesIn K C = true)
    (hi : PySem.W.findIn K (.ref C) "__init__" = some (some (.builtin "object.__init__")))
    (hb : ∀ self, PySem.W.Looks (model prog w) s.heap (bindSpecial (.builtin "object.__init__") self) (.builtin "object.__init__", [self]))
    (h : codeAny (model prog w) (A.under (.builtin "type.__call__" ⟨[.ref C], []⟩)) (.call (.builtin "object.__init__") ⟨[.ref (s.heap.objs.size + 1)], []⟩) (PySem.W.InitBack (s.heap.objs.size + 1) R)
      { s with heap := (s.heap.push PySem.W.emptyDict).push (PySem.W.instObj C s.heap.objs.size) }) :
    codeAny (model prog w) A (.call (.ref C) ⟨[], []⟩) R s := by
  obtain ⟨hh, g, d, t, os⟩ := s
  exact PySem.W.make_core (PySem.W.makes_of X hm) (PySem.W.looks_findIn X hi) hb (.inr ⟨rfl, rfl⟩) h
end

/-! ### the attributes as a list of pairs -/
def putF (f : Str) (v : V) : List (Str × V) → List (Str × V)
  | [] => [(f, v)]
  | (g, x) :: r => if g = f then (g, v) :: r else (g, x) :: putF f v r
theorem lookup_putF (f g : Str) (v : V) : ∀ fs : List (Str × V), (putF f v fs).lookup g = if g = f then some v else fs.lookup g
  | [] => by
    show List.lookup g [(f, v)] = _
    by_cases h : g = f
    · have hb : (g == f) = true := beq_iff_eq.mpr h
      simp only [List.lookup, hb, if_pos h]
    · have hb : (g == f) = false := beq_eq_false_iff_ne.mpr h
      simp only [List.lookup, hb, if_neg h]
  | (k, x) :: r => by
    have ih := lookup_putF f g v r
    rw [show putF f v ((k, x) :: r) = (if k = f then (k, v) :: r else (k, x) :: putF f v r) from rfl]
    by_cases hk : k = f
    · rw [if_pos hk]
      by_cases h : g = k
      · have hb : (g == k) = true := beq_iff_eq.mpr h
        simp only [List.lookup, hb, if_pos (h.trans hk)]
      · have hb : (g == k) = false := beq_eq_false_iff_ne.mpr h
        simp only [List.lookup, hb, if_neg (fun e : g = f => h (e.trans hk.symm))]
    · rw [if_neg hk]
      by_cases h : g = k
      · have hb : (g == k) = true := beq_iff_eq.mpr h
        simp only [List.lookup, hb, if_neg (fun e : g = f => hk (h.symm.trans e))]
      · have hb : (g == k) = false := beq_eq_false_iff_ne.mpr h
        simp only [List.lookup, hb]
        exact ih
theorem keys_putF (f : Str) (v : V) : ∀ fs : List (Str × V), f ∈ (putF f v fs).map (·.1) ∧ ∀ g, g ∈ fs.map (·.1) → g ∈ (putF f v fs).map (·.1)
  | [] => ⟨by simp [putF], fun g h => by simp at h⟩
  | (k, x) :: r => by
    obtain ⟨i1, i2⟩ := keys_putF f v r
    rw [show putF f v ((k, x) :: r) = (if k = f then (k, v) :: r else (k, x) :: putF f v r) from rfl]
    by_cases hk : k = f
    · rw [if_pos hk]
      subst hk
      exact ⟨by simp, fun g h => by simpa using h⟩
    · rw [if_neg hk]
      refine ⟨?_, fun g h => ?_⟩
      · rw [List.map_cons]
        exact List.mem_cons_of_mem _ i1
      · rw [List.map_cons] at h ⊢
        rcases List.mem_cons.mp h with e | e
        · exact List.mem_cons.mpr (.inl e)
        · exact List.mem_cons_of_mem _ (i2 g e)
theorem length_putF (f : Str) (v : V) : ∀ fs : List (Str × V), (putF f v fs).length ≤ fs.length + 1
  | [] => by simp [putF]
  | (k, x) :: r => by
    have ih := length_putF f v r
    rw [show putF f v ((k, x) :: r) = (if k = f then (k, v) :: r else (k, x) :: putF f v r) from rfl]
    by_cases hk : k = f
    · rw [if_pos hk, List.length_cons, List.length_cons]; omega
    · rw [if_neg hk, List.length_cons, List.length_cons]; omega

theorem RelO.some_of {v : V} {o : Option Value} (r : RelO (some v) o) : ∃ u, o = some u ∧ RelV v u := by
  cases o with
  | none => exact (show False from r).elim
  | some u => exact ⟨u, rfl, r⟩
theorem RelO.none_of {o : Option Value} (r : RelO none o) : o = none := by
  cases o with
  | none => rfl
  | some u => exact (show False from r).elim
theorem handed_of {v : V} {u : Value} (r : RelV v u) : PySem.W.handedIn u = true := by
  cases v with
  | non => cases (show u = Value.none from r); rfl
  | bl b => cases (show u = Value.bool b from r); rfl
  | int i => obtain ⟨t, e⟩ := (show ∃ t, u = Value.int i t from r); cases e; rfl
  | str x => obtain ⟨t, e⟩ := (show ∃ t, u = Value.str x t from r); cases e; rfl
  | byt b => obtain ⟨t, e⟩ := (show ∃ t, u = Value.bytes b t from r); cases e; rfl
  | flt b => obtain ⟨t, e⟩ := (show ∃ t, u = Value.float b t from r); cases e; rfl
  | ref a => cases (show u = Value.ref a from r); rfl
  | ty n => cases (show u = Value.type n from r); rfl

section
variable {P : Program} {w : World} {H H' : Hp} {h h' : Heap} {a C dx : Addr} {fs fs' : List (Str × V)}
theorem ins_get (hok : HOk P w H h) (e : H a = some (.ins C dx fs)) : ∃ mA, ObjM h a dx C mA ∧ (∀ f, RelO (fs.lookup f) (mA f)) ∧ PySem.Within mA (fs.map (·.1)) ∧ fs.length ≤ 1000 ∧ H dx = some (.own a) := by
  obtain ⟨d, z, ne, ob, mA, n, r, q⟩ := (show ObjOk P w H h a (.ins C dx fs) from hok a _ e)
  exact ⟨mA, ⟨ob, n, ne⟩, r, q, z, d⟩
end

/-! ### what of the text a class must have -/
structure Cls (K : PySem.W.Frag) (C : Addr) : Prop where
  pg : PySem.W.plainGet K C Str.empty = true
  hd : PySem.W.hasDictIn K C = true
  po : PySem.W.plainOver K C = true
  sa : PySem.W.findIn K (.ref C) "__setattr__" = some (some (.builtin "object.__setattr__"))
theorem Cls.get {K : PySem.W.Frag} {C : Addr} (c : Cls K C) (f : Str) : PySem.W.plainGet K C f = true := c.pg
/-- no class of it has the name -/
def NoAttr (K : PySem.W.Frag) (C : Addr) (f : Str) : Prop := PySem.W.findIn K (.ref C) f = some none
theorem NoAttr.taker {K : PySem.W.Frag} {C : Addr} {f : Str} (n : NoAttr K C f) : PySem.W.takerIn K C f = some none := by
  unfold PySem.W.takerIn
  rw [show PySem.W.findIn K (.ref C) f = some none from n]
  rfl
/-- a method: a plain def of the class or of one above it -/
structure Meth (K : PySem.W.Frag) (C : Addr) (m : Str) (f : Addr) : Prop where
  at_ : PySem.W.findIn K (.ref C) m = some (some (.ref f))
  fn : PySem.W.isFn K (.ref f) = true
  kp : PySem.W.keepIn K (.ref f) = true

section
variable {X : Cx} {pins : List (Addr × Obj)} {σ : St} {H : Hp} {s : Shared} {a C dx : Addr} {fs : List (Str × V)} {f : Str} {v : V} {A : Around} {E : Value → Shared → Prop}

theorem getattr_ok {b : Bool} {Q : Value → Shared → Prop} (I : Inv X pins σ H s) (e : H a = some (.ins C dx fs)) (c : Cls X.K C) (n : NoAttr X.K C f) (l : fs.lookup f = some v)
    (h : ∀ u s', Inv X pins σ H s' → RelV v u → Q u s') : wpAny (model X.prog X.w) A (getAttr (.ref a) f b) Q E s := by
  obtain ⟨mA, O, r, _, _, _⟩ := ins_get I.hok e
  obtain ⟨u, hu, ru⟩ := RelO.some_of (v := v) (o := mA f) (by rw [← l]; exact r f)
  exact get_map I.kIn O (c.get f) c.hd n hu (handed_of ru) (h u _ (I.tok _) ru)

theorem getmeth_ok {m : Str} {g : Addr} {pl : Sem Bool} {Q : Value × List Value → Shared → Prop} (I : Inv X pins σ H s) (e : H a = some (.ins C dx fs)) (c : Cls X.K C) (k : Meth X.K C m g) (l : fs.lookup m = none)
    (h : Q (.ref g, [.ref a]) s) : wpAny (model X.prog X.w) A (getMethod (.ref a) m pl) Q E s := by
  obtain ⟨mA, O, r, _, _, _⟩ := ins_get I.hok e
  have hn : mA m = none := RelO.none_of (by rw [← l]; exact r m)
  exact get_meth I.kIn O (c.get m) k.at_ k.fn hn h

theorem setattr_ok {y : V} {u : Value} {Q : Unit → Shared → Prop} (I : Inv X pins σ H s) (e : H a = some (.ins C dx fs)) (c : Cls X.K C) (n : NoAttr X.K C f) (hl : fs.length < 1000) (ry : RelV y u)
    (h : ∀ s', Inv X pins σ (upd H a (.ins C dx (putF f y fs))) s' → Q () s') : wpAny (model X.prog X.w) A (setAttr (.ref a) f u) Q E s := by
  obtain ⟨mA, O, r, wi, _, ho⟩ := ins_get I.hok e
  have hz : (fs.map (·.1)).length ≤ sizeLine := by rw [List.length_map, sizeLine_eq]; omega
  refine set_map I.kIn O c.sa c.po n.taker c.hd wi hz fun h' O' sb => h _ ?_
  have hd : ∃ o, h'.get? dx = some o := let ⟨o, _, _, e', _⟩ := O'.ns; ⟨o, e'⟩
  refine I.write (x := a) (e := dx) (by rw [e]; exact True.intro) (.inr ho) (fun b q hb z => (sb.2 b hb).trans z) hd ?_
  refine ⟨by rw [upd_ne O.ne]; exact ho, ?_, O.ne, O'.obj, _, O'.ns, fun g => ?_, fun g hg => ?_⟩
  · have := length_putF f y fs; omega
  · show RelO ((putF f y fs).lookup g) (if g = f then some u else mA g)
    rw [lookup_putF]
    by_cases q : g = f
    · rw [if_pos q, if_pos q]; exact ry
    · rw [if_neg q, if_neg q]; exact r g
  · by_cases q : g = f
    · rw [q]; exact (keys_putF f y fs).1
    · refine (keys_putF f y fs).2 g (wi g fun z => hg ?_)
      show (if g = f then some u else mA g) = none
      rw [if_neg q]; exact z

/-- a new instance, tracked, without attributes -/
theorem Inv.made (I : Inv X pins σ H s) : Inv X pins σ (upd (upd H s.heap.objs.size (.own (s.heap.objs.size + 1))) (s.heap.objs.size + 1) (.ins C s.heap.objs.size []))
    { s with heap := (s.heap.push PySem.W.emptyDict).push (PySem.W.instObj C s.heap.objs.size) } := by
  have e1 : (s.heap.push PySem.W.emptyDict).get? s.heap.objs.size = some PySem.W.emptyDict := Heap.get?_push_size s.heap rfl
  have e2 : ((s.heap.push PySem.W.emptyDict).push (PySem.W.instObj C s.heap.objs.size)).get? (s.heap.objs.size + 1) = some (PySem.W.instObj C s.heap.objs.size) := by
    have := Heap.get?_push_size (s.heap.push PySem.W.emptyDict) (o := PySem.W.instObj C s.heap.objs.size) rfl
    rwa [Heap.size_push] at this
  have e3 : (s.heap.push PySem.W.emptyDict).Ns s.heap.objs.size (fun _ => none) := ⟨PySem.W.emptyDict, #[], _, e1, rfl, (fun e he => absurd he (by simp)), fun _ => rfl⟩
  have I1 := I.laid (a := s.heap.objs.size) (o := .own (s.heap.objs.size + 1)) (h' := s.heap.push PySem.W.emptyDict) (t' := s.toks) (fun b u q => Heap.get?_push_of_some _ q) (Nat.le_refl _) ⟨_, e1⟩
  refine I1.laid (a := s.heap.objs.size + 1) (o := .ins C s.heap.objs.size []) (t' := s.toks) (fun b u q => Heap.get?_push_of_some _ q) (Nat.le_of_eq (Heap.size_push _ _)) ?_
  have ne : s.heap.objs.size ≠ s.heap.objs.size + 1 := Nat.ne_of_lt (Nat.lt_succ_self _)
  refine ⟨by rw [upd_ne ne, upd_same], Nat.zero_le _, ne, e2, fun _ => none, (Heap.Ns1.of_empty e3).at fun o q => Heap.get?_push_of_some _ q, fun _ => True.intro, fun y hy => absurd rfl hy⟩

/-- e.f where nothing but the object is asked: through attributeBase (super) and the last hold -/
theorem attr_of {prog : Program} {w : World} {env : Env} {e : Expr} {f : Str} {pos : Pos} {s : Shared} {Q : Value → Shared → Prop} (hb : attributeBase e f env (eval e env) = eval e env)
    (h : wpAny (model prog w) A (eval e env) (fun o s₁ => wpAny (model prog w) A (getAttr o f true) Q E s₁) E s) : wpAny (model prog w) A (eval (.Attribute e f pos) env) Q E s :=
  Attribute_any_ h (by rw [arm_eval_Attribute, hb])
end

/-! ### readings and rules -/
/-- e.f, an attribute of the instance -/
def tFld (K : PySem.W.Frag) (ta : TE) (f : Str) : TE := fun σ H Q => ta σ H fun x H1 => ∃ a C dx fs v, x = .ref a ∧ H1 a = some (.ins C dx fs) ∧ Cls K C ∧ NoAttr K C f ∧ fs.lookup f = some v ∧ Q v H1
/-- e.f = value -/
def sFld (K : PySem.W.Frag) (ta tv : TE) (f : Str) : TS := fun D σ H => tv σ H fun y H1 => ta σ H1 fun x H2 => ∃ a C dx fs, x = .ref a ∧ H2 a = some (.ins C dx fs) ∧ Cls K C ∧ NoAttr K C f ∧ fs.length < 1000 ∧
  D.nx σ (upd H2 a (.ins C dx (putF f y fs)))
section
variable {X : Cx} {o e value : Expr} {f : Str} {pos pos' tpos : Pos} {ta tv : TE}
theorem pe_fld (he : PE X e ta) (hb : attributeBase e f X.env (eval e X.env) = eval e X.env) : PE X (.Attribute e f pos) (tFld X.K ta f) := by
  intro pins s σ H Q I h
  refine attr_of hb (thn (he pins s σ H _ I h) fun u s1 ⟨x, H1, I1, rx, a, C, dx, fs, v, ex, ea, c, n, l, q⟩ => ?_)
  subst ex
  obtain rfl : u = Value.ref a := rx
  exact getattr_ok I1 ea c n l fun u' s2 I2 ru => ⟨v, H1, I2, ru, q⟩
theorem ps_fld (ha : PE X o ta) (hv : PE X value tv) (hs : swapsWith value (some (.Attribute o f pos')) pos.line X.env = pure false) : PS X (.Assign [.Attribute o f pos'] value pos) (sFld X.K ta tv f) := by
  intro pins s σ H D I h
  refine plainObj_wpAny_Assign_Attribute (thn (hv pins s σ H _ I h) fun u s1 ⟨y, H1, I1, ry, q⟩ => thn (ha pins s1 σ H1 _ I1 q) fun ov s2 ⟨x, H2, I2, rx, a, C, dx, fs, ex, ea, c, n, l, q2⟩ => ?_) hs
  subst ex
  obtain rfl : ov = Value.ref a := rx
  exact setattr_ok I2 ea c n l ry fun s3 I3 => ⟨σ, _, I3, q2⟩
end

/-! ### isinstance -/
section
variable {X : Cx} {pins : List (Addr × Obj)} {σ : St} {H : Hp} {s : Shared} {A : Around} {E : Value → Shared → Prop} {Q : Value → Shared → Prop} {c : Value} {b : Bool}
/-- the type of a value, as the fragment's deciders take it; for an instance its class -/
inductive TyOf (K : PySem.W.Frag) (H : Hp) : V → Value → Prop where
  | non : TyOf K H .non (.type "NoneType")
  | bl (x : Bool) : TyOf K H (.bl x) (.type "bool")
  | int (i : Int) : TyOf K H (.int i) (.type "int")
  | str (x : Str) : TyOf K H (.str x) (.type "str")
  | flt (x : UInt64) : TyOf K H (.flt x) (.type "float")
  | lst {a : Addr} {xs : List V} (e : H a = some (.lst xs)) : TyOf K H (.ref a) (.type "list")
  | frz {a : Addr} {o : Obj} {xs : List V} (e : H a = some (.frz o (.lst xs))) : TyOf K H (.ref a) (.type "list")
  | tup {a : Addr} {xs : List V} (e : H a = some (.tup xs)) : TyOf K H (.ref a) (.type "tuple")
  | dK {a : Addr} {kvs : List (Key × V)} (e : H a = some (.dK kvs)) : TyOf K H (.ref a) (.type "dict")
  | ins {a C dx : Addr} {fs : List (Str × V)} (e : H a = some (.ins C dx fs)) (cl : Cls K C) (ha : PySem.W.findIn K (.ref C) "__class__" = some (some (.builtin "object.__class__")))
      (hn : PySem.W.specialIn K (.builtin "object.__class__") "__get__" = some (some (.builtin "getset_descriptor.__get__"))) (htk : PySem.W.takesIn K (.builtin "object.__class__") = some true)
      (hm : PySem.W.mroIn K C (.type "object") = some true) : TyOf K H (.ref a) (.ref C)
/-- isinstance(x, c) for one class c, a built-in or an own one: kitOne's answer -/
theorem isinst_ok {x : V} {u t : Value} (I : Inv X pins σ H s) (rx : RelV x u) (ty : TyOf X.K H x t) (e : PySem.W.kitOne X.K t c = some b) (h : ∀ tk, Q (.bool b) { s with toks := tk }) :
    wpAny (model X.prog X.w) A (call (.builtin "isinstance") [u, c]) Q E s := by
  cases ty with
  | non => cases (show u = Value.none from rx); exact PySem.W.kia_one PySem.W.kitx_none I.kIn True.intro e (fun z => nomatch z) h
  | bl y => cases (show u = Value.bool y from rx); exact PySem.W.kia_one PySem.W.kitx_bool I.kIn True.intro e (fun z => nomatch z) h
  | int i => obtain ⟨t, q⟩ := (show ∃ t, u = Value.int i t from rx); cases q; exact PySem.W.kia_one PySem.W.kitx_int I.kIn True.intro e (fun z => nomatch z) h
  | str y => obtain ⟨t, q⟩ := (show ∃ t, u = Value.str y t from rx); cases q; exact PySem.W.kia_one PySem.W.kitx_str I.kIn True.intro e (fun z => nomatch z) h
  | flt y => obtain ⟨t, q⟩ := (show ∃ t, u = Value.float y t from rx); cases q; exact PySem.W.kia_one PySem.W.kitx_float I.kIn True.intro e (fun z => nomatch z) h
  | @lst a xs ea =>
    cases (show u = Value.ref a from rx)
    obtain ⟨_, _, n, _, h1⟩ := (show ObjOk X.prog X.w H s.heap a (.lst xs) from I.hok a _ ea)
    exact PySem.W.kia_one PySem.W.kitx_list I.kIn ⟨_, h1, rfl⟩ e (fun z => nomatch z) h
  | @frz a ob xs ea =>
    cases (show u = Value.ref a from rx)
    obtain ⟨_, _, _, n, _, h1⟩ := (show ObjOk X.prog X.w H s.heap a (.frz ob (.lst xs)) from I.hok a _ ea)
    exact PySem.W.kia_one PySem.W.kitx_list I.kIn ⟨_, h1, rfl⟩ e (fun z => nomatch z) h
  | @tup a xs ea =>
    cases (show u = Value.ref a from rx)
    obtain ⟨_, _, _, p⟩ := (show ObjOk X.prog X.w H s.heap a (.tup xs) from I.hok a _ ea)
    obtain ⟨o, h1, h2, _⟩ := p
    exact PySem.W.kia_one PySem.W.kitx_tuple I.kIn ⟨o, h1, h2⟩ e (fun z => nomatch z) h
  | @dK a kvs ea =>
    cases (show u = Value.ref a from rx)
    obtain ⟨_, _, vs, _, p⟩ := (show ObjOk X.prog X.w H s.heap a (.dK kvs) from I.hok a _ ea)
    obtain ⟨o, es, ep, h1, h2, _⟩ := p
    exact PySem.W.kia_one PySem.W.kitx_dict I.kIn ⟨o, h1, h2.1⟩ e (fun z => nomatch z) h
  | @ins a C dx fs ea cl ha hn htk hm =>
    cases (show u = Value.ref a from rx)
    obtain ⟨mA, O, _⟩ := ins_get I.hok ea
    obtain ⟨od, J, _⟩ := O.look
    exact PySem.W.kia_one (PySem.W.kitx_own (cl.get _) cl.hd ha hn htk hm) I.kIn J e (fun z => nomatch z) h
end
end L2

namespace L2
open PySem PySem.Spec PyProof.Rows

/-! ### room -/
structure Room (k : Nat) (A : Around) : Prop where
  hd : A.handled = none
  dp : A.depth + 3 * k + 5 < recursionLimit
  un : A.units + 16 * k + 200 < cLine
theorem Room.mono {j k : Nat} {A : Around} (r : Room k A) (h : j ≤ k) : Room j A := ⟨r.hd, by have := r.dp; omega, by have := r.un; omega⟩
theorem Room.deeper {k : Nat} {A : Around} (r : Room (k + 1) A) (env : Env) : Room k (A.deeper env) :=
  ⟨r.hd, by have := r.dp; show A.depth + 1 + 3 * k + 5 < _; omega, by have := r.un; show A.units + 3 + 16 * k + 200 < _; omega⟩
theorem make_depth {A : Around} {C : Addr} {us : List Value} {kw : List (Str × Value)} : (A.under (.builtin "type.__call__" ⟨.ref C :: us, kw⟩)).depth = A.depth + 1 := by
  first | rfl | simp [Around.under, Code.weight, Code.isCreation, Code.isGuard, Code.isCaller, Code.frames, Code.isFrame, guardIds]
theorem make_units {A : Around} {C : Addr} {us : List Value} {kw : List (Str × Value)} : (A.under (.builtin "type.__call__" ⟨.ref C :: us, kw⟩)).units = A.units + 1 := by
  first | rfl | simp [Around.under, Code.cUnits, Code.frames, Code.isFrame]
theorem Room.make {k : Nat} {A : Around} (r : Room (k + 1) A) (C : Addr) (us : List Value) (kw : List (Str × Value)) : Room k (A.under (.builtin "type.__call__" ⟨.ref C :: us, kw⟩)) :=
  ⟨r.hd, by have := r.dp; rw [make_depth]; omega, by have := r.un; rw [make_units]; omega⟩
theorem Room.depth {k : Nat} {A : Around} (r : Room k A) : A.depth < recursionLimit := by have := r.dp; omega
theorem Room.units {k : Nat} {A : Around} (r : Room k A) : A.units + 64 < cLine := by have := r.un; omega
/-! ### argument lists and displays -/
def tNil : TA := fun _ H Q => Q [] H
def tCons (ta : TE) (tr : TA) : TA := fun σ H Q => ta σ H fun x H1 => tr σ H1 fun xs H2 => Q (x :: xs) H2
section
variable {X : Cx} {e : Expr} {es : List Expr} {te : TE} {t : TA} {pos : Pos}
theorem pa_nil : PA X [] tNil := fun _ _ _ _ H Q I h => Calls.spliced_nil ⟨[], H, I, .nil, h⟩
theorem pa_cons (ha : PE X e te) (hr : PA X es t) (hs : starEach (e :: es) X.env = (false, eval e X.env) :: starEach es X.env := by rfl) : PA X (e :: es) (tCons te t) := by
  intro pos pins s σ H Q I h
  rw [hs]
  show wpAny _ _ (spliced ((false, eval e X.env) :: backTo pos (starEach es X.env))) _ _ s
  refine Calls.spliced_cons (thn (ha pins s σ H _ I h) fun u s1 ⟨x, H1, I1, r1, q1⟩ => ?_)
  exact thn (hr pos pins s1 σ H1 _ I1 q1) fun us s2 ⟨xs, H2, I2, r2, q2⟩ => ⟨x :: xs, H2, I2, .cons r1 r2, q2⟩

/-- a tuple, a list of written items -/
def tTup (t : TA) : TE := fun σ H Q => t σ H fun xs H1 => xs.length ≤ sizeLine ∧ ∀ p, H1 p = none → Q (.ref p) (upd H1 p (.tup xs))
def tLst (t : TA) : TE := fun σ H Q => t σ H fun xs H1 => xs.length ≤ sizeLine ∧ ∀ p, H1 p = none → Q (.ref p) (upd H1 p (.lst xs))
theorem pe_tup {x1} (h : PA X es t) : PE X (.Tuple es x1 pos) (tTup t) := by
  intro pins s σ H Q I hq
  refine wpAny_Tuple_spliced (thn (h pos pins s σ H _ I hq) fun us s1 ⟨xs, H1, I1, r, z, q⟩ => ⟨by rw [← r.length]; exact z, ?_⟩)
  have hf : H1 s1.heap.objs.size = none := I1.hok.fresh (Nat.le_refl _)
  refine ⟨.ref s1.heap.objs.size, upd H1 s1.heap.objs.size (.tup xs), I1.laid (t' := s1.toks) (fun b u e => Heap.get?_push_of_some _ e) (Nat.le_refl _) ?_, rfl, q _ hf⟩
  exact ⟨z, us, r, ⟨_, Heap.get?_push_size _ rfl, rfl, _, rfl⟩⟩
theorem pe_lst (h : PA X es t) : PE X (.List es pos) (tLst t) := by
  intro pins s σ H Q I hq
  refine wpAny_List_spliced (thn (h pos pins s σ H _ I hq) fun us s1 ⟨xs, H1, I1, r, z, q⟩ => ⟨by rw [← r.length]; exact z, ?_⟩)
  have hf : H1 s1.heap.objs.size = none := I1.hok.fresh (Nat.le_refl _)
  refine ⟨.ref s1.heap.objs.size, upd H1 s1.heap.objs.size (.lst xs), I1.laid (t' := s1.toks) (fun b u e => Heap.get?_push_of_some _ e) (Nat.le_refl _) ?_, rfl, q _ hf⟩
  exact ⟨z, us, 0, r, Heap.get?_push_size _ rfl⟩
end

/-! ### what a def promises -/
/-- a def's promise: the bound arguments in the parameters' order, the heap, the wanted end, the wanted exception -/
abbrev Sp := List V → Hp → VK → XK → Prop
/-- how an exception lies behind a call (file 08 gives it): the callers' frames, abstract heap and state ahead of the call, the wish, the exception, the state -/
abbrev CXT := List Env → Hp → Shared → XK → Value → Shared → Prop

/-- the state at a call -/
structure Env0 (P : Program) (w : World) (K : PySem.W.Frag) (mg : Str → Option Value) (base : Heap) (A : Around) (outer : List Env) (s : Shared) (H : Hp) : Prop where
  frames : A.frames = some outer
  mod : Mod K mg base
  bs : ∀ b o, base.get? b = some o → s.heap.get? b = some o ∧ H b = none
  bsz : base.objs.size ≤ s.heap.objs.size
  funs : s.heap.FunFrames base outer
  frf : ∀ b ∈ frs outer, H b = none
  hok : HOk P w H s.heap
  bare : AllBare s.gens
/-- a call's end -/
def CE (outer : List Env) (P : Program) (w : World) (H : Hp) (s : Shared) (Q : VK) (u : Value) (s' : Shared) : Prop :=
  ∃ v H', s'.os = s.os ∧ AllBare s'.gens ∧ Un (frs outer) [] H H' s.heap s'.heap ∧ HOk P w H' s'.heap ∧ RelV v u ∧ Q v H'
def CR (CX : CXT) (outer : List Env) (P : Program) (w : World) (H : Hp) (s : Shared) (Q : VK) (E : XK) (r : Result) (s' : Shared) : Prop :=
  match r with
  | .ok (.ret u) => CE outer P w H s Q u s'
  | .ok _ => False
  | .error e => CX outer H s E e s'
structure FnOk (P : Program) (w : World) (K : PySem.W.Frag) (mg : Str → Option Value) (base : Heap) (CX : CXT) (k : Nat) (f : Addr) (fd : FuncData) (ps : List Str) (sp : Sp) : Prop where
  len : ∀ vs H Q E, sp vs H Q E → vs.length = ps.length
  run : ∀ (A : Around) (outer : List Env) (s : Shared) (H : Hp) (args : Args) (us : List Value) (vs : List V) (Q : VK) (E : XK), Room k A → Env0 P w K mg base A outer s H → BindsTo s fd args (ps.zip us) → Vals vs us → sp vs H Q E →
    codeAny (model P w) A (.call (.ref f) args) (CR CX outer P w H s Q E) s
theorem Env0.make {P : Program} {w : World} {K : PySem.W.Frag} {mg : Str → Option Value} {base : Heap} {A : Around} {outer : List Env} {s : Shared} {H : Hp} (e : Env0 P w K mg base A outer s H) (C : Addr) (us : List Value) (kw : List (Str × Value)) :
    Env0 P w K mg base (A.under (.builtin "type.__call__" ⟨.ref C :: us, kw⟩)) outer s H := ⟨by first | exact e.frames | (simpa [Around.under, Code.envs, Code.isFrame, pushEnvs] using e.frames), e.mod, e.bs, e.bsz, e.funs, e.frf, e.hok, e.bare⟩
section
variable {X : Cx} {pins : List (Addr × Obj)} {σ : St} {H : Hp} {s s' : Shared}
/-- from a body: what a callee wants -/
theorem Inv.env0 (I : Inv X pins σ H s) : Env0 X.prog X.w X.K X.mg X.base X.A X.stack s H :=
  ⟨I.ok.frames, I.ok.mod, I.bs, Nat.le_trans I.ok.bsz I.sz, I.stack, I.stkFree, I.hok, I.bare⟩
/-- behind a call -/
theorem Inv.after {Q : VK} {u : Value} (I : Inv X pins σ H s) (h : CE X.stack X.prog X.w H s Q u s') : EP X pins σ Q u s' := by
  obtain ⟨v, H', os, bare, un, hok, r, q⟩ := h
  obtain ⟨hh, g, d, t, os'⟩ := s'
  obtain rfl : os' = s.os := os
  exact ⟨v, H', I.call (h' := hh) (g' := g) (d' := d) (t' := t) (ch := []) un hok bare (fun b z => absurd z (by simp)), r, q⟩
end

/-! ### calls -/
/-- f(..): the written arguments, then the defaults dvs; E: what is wanted of an exception -/
def tCall (sp : Sp) (dvs : List V) (E : XK) (t : TA) : TE := fun σ H Q => t σ H fun vs H1 => sp (vs ++ dvs) H1 Q E
/-- o.m(..) of an instance of the class at C -/
def tMeth (C : Addr) (m : Str) (sp : Sp) (dvs : List V) (E : XK) (ta : TE) (t : TA) : TE := fun σ H Q => ta σ H fun x H1 => ∃ a dx fs, x = .ref a ∧ H1 a = some (.ins C dx fs) ∧ fs.lookup m = none ∧
  t σ H1 fun vs H2 => sp (x :: (vs ++ dvs)) H2 Q E
/-- C(..): a new instance and its dict, then __init__ -/
def tMake (C : Addr) (sp : Sp) (dvs : List V) (E : XK) (t : TA) : TE := fun σ H Q => t σ H fun vs H1 => ∀ x dx, H1 x = none → H1 dx = none → dx ≠ x →
  sp (.ref x :: (vs ++ dvs)) (upd (upd H1 dx (.own x)) x (.ins C dx [])) (fun v H2 => v = .non ∧ Q (.ref x) H2) E

/-- how the parameters are bound: us the positional arguments, kw the keywords' values by name, ds the defaults that fill up -/
def Binds (K : PySem.W.Frag) (fd : FuncData) (ps : List Str) (ds : List Value) : Prop :=
  ∀ (s : Shared) (us : List Value), K.In s.heap → (us ++ ds).length = ps.length → BindsTo s fd ⟨us, []⟩ (ps.zip (us ++ ds))
/-- every parameter is given -/
theorem Binds.all {K : PySem.W.Frag} {fd : FuncData} {ps : List Str} (h : ∀ us : List Value, us.length = ps.length → bindArgs fd ⟨us, []⟩ = pure (ps.zip us)) : Binds K fd ps [] := fun s us _ hl => by
  rw [List.append_nil] at hl ⊢
  exact .of_eq (h us hl)

/-- an exception of a callee reaches what this body wants of exceptions -/
def Passes (CX : CXT) (X : Cx) (E : XK) : Prop := ∀ (pins : List (Addr × Obj)) (σ : St) (H : Hp) (s : Shared) (e : Value) (s' : Shared), Inv X pins σ H s → CX X.stack H s E e s' → X.xe e s'

section
variable {X : Cx} {CX : CXT} {k : Nat} {f C : Addr} {fd : FuncData} {ps : List Str} {sp : Sp} {dvs : List V} {ds : List Value} {E : XK} {x m : Str} {p pos apos : Pos} {e o : Expr} {es : List Expr} {ta : TE} {t : TA}

/-- the callee runs -/
theorem run_fn {pins : List (Addr × Obj)} {σ : St} {H : Hp} {s : Shared} {Q : VK} {us : List Value} {vs : List V} (F : FnOk X.prog X.w X.K X.mg X.base CX k f fd ps sp) (hr : Room k X.A) (hb : Binds X.K fd ps ds) (hd : Vals dvs ds) (hx : Passes CX X E)
    (I : Inv X pins σ H s) (r : Vals vs us) (h : sp (vs ++ dvs) H Q E) : wpAny (model X.prog X.w) X.A (call (.ref f) us) (EP X pins σ Q) X.xe s := by
  have r2 : Vals (vs ++ dvs) (us ++ ds) := r.append hd
  have hl : (us ++ ds).length = ps.length := by rw [← r2.length]; exact F.len _ _ _ _ h
  refine wpAny_call (codeAny_mono (F.run X.A X.stack s H ⟨us, []⟩ (us ++ ds) (vs ++ dvs) Q E hr I.env0 (hb s us I.kIn hl) r2 h) fun r s' hq => ?_)
  cases r with
  | error e => exact hx pins σ H s e s' I hq
  | ok fl =>
    cases fl with
    | ret u => exact I.after hq
    | next => exact False.elim hq
    | brk => exact False.elim hq
    | cont => exact False.elim hq

theorem pe_call (F : FnOk X.prog X.w X.K X.mg X.base CX k f fd ps sp) (hr : Room k X.A) (hg : Gl X x) (hm : X.mg x = some (.ref f)) (hk : PySem.W.keepIn X.K (.ref f) = true) (hb : Binds X.K fd ps ds) (hd : Vals dvs ds) (hx : Passes CX X E)
    (ha : PA X (e :: es) t) (hdb : (x == ("__debug__" : Str)) = false := by decide) (he : starEach (e :: es) X.env = (false, eval e X.env) :: starEach es X.env := by rfl) (hpl : (backTo pos (starEach es X.env)).any (·.1) = false := by rfl) :
    PE X (.Call (.Name x p) (e :: es) [] pos) (tCall sp dvs E t) := by
  intro pins s σ H Q I h
  refine wpAny_Call_Name_kw (ld_glob I hg hm ?_ hdb)
  refine PySem.W.callWith_K (h₀ := X.base) I.ok.mod.kin hk (thn (ha pos pins s σ H _ I h) fun us s1 ⟨vs, H1, I1, r, q⟩ => ⟨I1.kIn, ?_⟩) he hpl
  exact run_fn F hr hb hd hx I1 r q
/-- o.m(e, ..) -/
theorem pe_meth {pl : Sem Bool} (he : PE X o ta) (c : Cls X.K C) (hm : Meth X.K C m f) (F : FnOk X.prog X.w X.K X.mg X.base CX k f fd ps sp) (hr : Room k X.A) (hb : Binds X.K fd ps ds) (hd : Vals dvs ds) (hx : Passes CX X E) (ha : PA X (e :: es) t)
    (hst : starEach (e :: es) X.env = (false, eval e X.env) :: starEach es X.env := by rfl) (hpl : (backTo pos (starEach es X.env)).any (·.1) = false := by rfl)
    (ht : eval (.Call (.Attribute o m apos) (e :: es) [] pos) X.env = (do
      let ov ← eval o X.env
      standAt apos.atName
      let (f, first) ← holding [ov] (getMethod ov m pl)
      callWith pos f first (backTo pos (starEach (e :: es) X.env)) (backToKw pos (keywordEach [] X.env))) := by rfl) :
    PE X (.Call (.Attribute o m apos) (e :: es) [] pos) (tMeth C m sp dvs E ta t) := by
  intro pins s σ H Q I h
  refine PySem.W.methodCall_KW (pl := pl) (thn (he pins s σ H _ I h) fun u s1 ⟨x, H1, I1, rx, a, dx, fs, ex, ea, l, q⟩ => ?_) ht
  subst ex
  obtain rfl : u = Value.ref a := rx
  refine getmeth_ok I1 ea c hm l ?_
  refine PySem.W.callWith_K (first := [.ref a]) (h₀ := X.base) I.ok.mod.kin hm.kp (thn (ha pos pins s1 σ H1 _ I1 q) fun us s2 ⟨vs, H2, I2, r, q2⟩ => ⟨I2.kIn, ?_⟩) hst hpl
  exact run_fn (us := .ref a :: us) (vs := .ref a :: vs) F hr hb hd hx I2 (.cons rfl r) q2
/-- what a class must have to be made -/
structure Mk (K : PySem.W.Frag) (C f : Addr) : Prop where
  makes : PySem.W.makesIn K C = true
  init : PySem.W.findIn K (.ref C) "__init__" = some (some (.ref f))
  fn : PySem.W.isFn K (.ref f) = true
  kp : PySem.W.keepIn K (.ref C) = true

theorem run_make {pins : List (Addr × Obj)} {σ : St} {H : Hp} {s : Shared} {Q : VK} {us : List Value} {vs : List V} (M : Mk X.K C f) (F : FnOk X.prog X.w X.K X.mg X.base CX k f fd ps sp) (hr : Room (k + 1) X.A) (hb : Binds X.K fd ps ds) (hd : Vals dvs ds)
    (hx : Passes CX X E) (I : Inv X pins σ H s) (r : Vals vs us)
    (h : ∀ x dx, H x = none → H dx = none → dx ≠ x → sp (.ref x :: (vs ++ dvs)) (upd (upd H dx (.own x)) x (.ins C dx [])) (fun v H2 => v = .non ∧ Q (.ref x) H2) E) :
    wpAny (model X.prog X.w) X.A (call (.ref C) us) (EP X pins σ Q) X.xe s := by
  have hq := h (s.heap.objs.size + 1) s.heap.objs.size (I.hok.fresh (Nat.le_succ _)) (I.hok.fresh (Nat.le_refl _)) (Nat.ne_of_lt (Nat.lt_succ_self _))
  have I2 := Inv.made (C := C) I
  have r2 : Vals (V.ref (s.heap.objs.size + 1) :: (vs ++ dvs)) (Value.ref (s.heap.objs.size + 1) :: (us ++ ds)) := .cons rfl (r.append hd)
  have hl : (Value.ref (s.heap.objs.size + 1) :: us ++ ds).length = ps.length := by
    have e := r2.length
    rw [F.len _ _ _ _ hq] at e
    exact e.symm
  refine wpAny_call (make_map (f := f) I.kIn M.makes M.init (beq_iff_eq.mp M.fn) (codeAny_mono (F.run _ X.stack _ _ ⟨Value.ref (s.heap.objs.size + 1) :: us, []⟩ (Value.ref (s.heap.objs.size + 1) :: (us ++ ds)) _ _ E (hr.make C us [])
    (I2.env0.make C us []) (hb _ (Value.ref (s.heap.objs.size + 1) :: us) I2.kIn hl) r2 hq) fun r s' hq' => ?_))
  cases r with
  | error e => exact hx pins σ _ _ e s' I2 hq'
  | ok fl =>
    cases fl with
    | ret u =>
      obtain ⟨v, H', I3, rv, ev, q3⟩ := I2.after hq'
      subst ev
      exact ⟨rv, ⟨V.ref (s.heap.objs.size + 1), H', I3, rfl, q3⟩⟩
    | next => exact False.elim hq'
    | brk => exact False.elim hq'
    | cont => exact False.elim hq'
theorem pe_make (M : Mk X.K C f) (F : FnOk X.prog X.w X.K X.mg X.base CX k f fd ps sp) (hr : Room (k + 1) X.A) (hg : Gl X x) (hm : X.mg x = some (.ref C)) (hb : Binds X.K fd ps ds) (hd : Vals dvs ds) (hx : Passes CX X E)
    (ha : PA X (e :: es) t) (hdb : (x == ("__debug__" : Str)) = false := by decide) (he : starEach (e :: es) X.env = (false, eval e X.env) :: starEach es X.env := by rfl) (hpl : (backTo pos (starEach es X.env)).any (·.1) = false := by rfl) :
    PE X (.Call (.Name x p) (e :: es) [] pos) (tMake C sp dvs E t) := by
  intro pins s σ H Q I h
  refine wpAny_Call_Name_kw (ld_glob I hg hm ?_ hdb)
  refine PySem.W.callWith_K (h₀ := X.base) I.ok.mod.kin M.kp (thn (ha pos pins s σ H _ I h) fun us s1 ⟨vs, H1, I1, r, q⟩ => ⟨I1.kIn, ?_⟩) he hpl
  exact run_make M F hr hb hd hx I1 r q
end

section
variable {X : Cx} {CX : CXT} {k : Nat} {f C : Addr} {fd : FuncData} {ps ks : List Str} {sp : Sp} {E : XK} {x m : Str} {p pos apos kpos : Pos} {e o : Expr} {es : List Expr} {kws : List Keyword} {te ta : TE} {t tk : TA} {nm : Option Str}
variable {g : List Value → List Value → List Value} {gV : List V → List V → List V}
end

/-! ### a def's body keeps its promise -/
/-- names: the parameters first -/
structure FnScope (N P : List Str) (sc : Scope) : Prop where
  kind : sc.kind = .function
  co : sc.isCoroutine = false
  gen : sc.isGenerator = false
  nd : N.Nodup
  pre : N.take P.length = P
  par : ∀ x ∈ P, sc.names.lookup x = some .local ∨ sc.names.lookup x = some .cell
  nofree : ∀ y ∈ sc.names, y.2 ≠ .free

theorem bindL_out {kindOf : Str → Option NameKind} {x : Str} : ∀ {binds : List (Str × Value)} {m : Str → Option Value}, (∀ v, (x, v) ∉ binds) → bindL kindOf binds m x = m x
  | [], _, _ => rfl
  | (n, v) :: r, m, h => by
    unfold bindL
    rw [bindL_out fun w hw => h w (List.mem_cons_of_mem _ hw)]
    split
    · have : x ≠ n := by rintro rfl; exact h v List.mem_cons_self
      simp [this]
    · rfl
theorem bindC_out {kindOf : Str → Option NameKind} {x : Str} : ∀ {binds : List (Str × Value)} {m : Str → Option Value}, (∀ v, (x, v) ∉ binds) → bindC kindOf binds m x = m x
  | [], _, _ => rfl
  | (n, v) :: r, m, h => by
    unfold bindC
    rw [bindC_out fun w hw => h w (List.mem_cons_of_mem _ hw)]
    split
    · rfl
    · have : x ≠ n := by rintro rfl; exact h v List.mem_cons_self
      simp [this]
theorem bindL_get {kindOf : Str → Option NameKind} {x : Str} {v : Value} : ∀ {P : List Str} {vs : List Value} {i : Nat} {m : Str → Option Value}, P.Nodup → P[i]? = some x → vs[i]? = some v → kindOf x = some .local →
    bindL kindOf (P.zip vs) m x = some v
  | [], _, _, _, _, h, _, _ => by simp at h
  | _ :: _, [], _, _, _, _, h, _ => by simp at h
  | p :: P, w :: vs, 0, m, nd, h1, h2, hk => by
    simp at h1 h2; subst h1; subst h2
    show bindL kindOf ((p, w) :: P.zip vs) m p = _
    unfold bindL
    rw [bindL_out fun v hv => (List.nodup_cons.mp nd).1 (List.of_mem_zip hv).1, if_pos hk]
    simp
  | p :: P, w :: vs, i + 1, m, nd, h1, h2, hk => by
    show bindL kindOf ((p, w) :: P.zip vs) m x = _
    unfold bindL
    exact bindL_get (i := i) (List.nodup_cons.mp nd).2 (by simpa using h1) (by simpa using h2) hk
theorem bindC_get {kindOf : Str → Option NameKind} {x : Str} {v : Value} : ∀ {P : List Str} {vs : List Value} {i : Nat} {m : Str → Option Value}, P.Nodup → P[i]? = some x → vs[i]? = some v → kindOf x ≠ some .local →
    bindC kindOf (P.zip vs) m x = some v
  | [], _, _, _, _, h, _, _ => by simp at h
  | _ :: _, [], _, _, _, _, h, _ => by simp at h
  | p :: P, w :: vs, 0, m, nd, h1, h2, hk => by
    simp at h1 h2; subst h1; subst h2
    show bindC kindOf ((p, w) :: P.zip vs) m p = _
    unfold bindC
    rw [bindC_out fun v hv => (List.nodup_cons.mp nd).1 (List.of_mem_zip hv).1, if_neg hk]
    simp
  | p :: P, w :: vs, i + 1, m, nd, h1, h2, hk => by
    show bindC kindOf ((p, w) :: P.zip vs) m x = _
    unfold bindC
    exact bindC_get (i := i) (List.nodup_cons.mp nd).2 (by simpa using h1) (by simpa using h2) hk

/-- the names' values at the entry -/
def start (N : List Str) (vs : List V) : St := vs.map some ++ List.replicate (N.length - vs.length) none

/-- the context of a def's body, at its entry; an exception leaves the frame, then lies as CX says -/
def cxOf (CX : CXT) (P : Program) (w : World) (K : PySem.W.Frag) (mg : Str → Option Value) (base : Heap) (N : List Str) (qual : Str) (scope : Scope) (f : Addr) (cd : Value) (A : Around) (outer : List Env) (s : Shared) (H : Hp) (E : XK) : Cx where
  prog := P
  w := w
  K := K
  mg := mg
  base := base
  A := A.deeper (envOfC qual scope s.heap.objs.size f cd)
  N := N
  s₀ := s
  H₀ := H
  env := envOfC qual scope s.heap.objs.size f cd
  outer := outer
  stack := envOfC qual scope s.heap.objs.size f cd :: outer
  ex := []
  calm := true
  fn := fun _ => true
  pn := []
  xe := fun e s' => wpAny (model P w) (A.deeper (envOfC qual scope s.heap.objs.size f cd)) (leaving (envOfC qual scope s.heap.objs.size f cd) e) (fun _ s'' => CX outer H s E e s'') (fun e' s'' => CX outer H s E e' s'') s'

theorem cell_has {sc : Scope} {n : Nat} {x : Str} (h : sc.names.lookup x = some .cell) : ∃ c, (cellsFrom n sc.names []).lookup x = some c := by
  have q := PySem.W.cellsFrom_some sc.names n [] (.inl h)
  exact Option.isSome_iff_exists.mp q

theorem inv_start {CX : CXT} {P : Program} {w : World} {K : PySem.W.Frag} {mg : Str → Option Value} {base : Heap} {N ps : List Str} {qual : Str} {scope : Scope} {f : Addr} {cd : Value} {A : Around} {outer : List Env} {s s1 : Shared} {H : Hp} {E : XK} {us : List Value} {vs : List V}
    (S : FnScope N ps scope) (hd : A.handled = none) (e0 : Env0 P w K mg base A outer s H) (hl : vs.length = ps.length) (r : Vals vs us)
    (x : InCallC s s.heap.objs.size (bindL (envOfC qual scope s.heap.objs.size f cd).kindOf (ps.zip us) fun _ => none) (cellsFrom (s.heap.objs.size + 1) scope.names []) (bindC (envOfC qual scope s.heap.objs.size f cd).kindOf (ps.zip us) fun _ => none) s1) :
    Inv (cxOf CX P w K mg base N qual scope f cd A outer s H E) [] (start N vs) H s1 := by
  have hpl : ps.length ≤ N.length := by have := congrArg List.length S.pre; rw [List.length_take] at this; omega
  obtain ⟨h1, tk, rfl, hk⟩ := x.done
  have noA : ∀ b : Addr, b ∉ (cxOf CX P w K mg base N qual scope f cd A outer s H E).ex := fun b z => absurd (show b ∈ ([] : List Addr) from z) (by simp)
  refine ⟨⟨e0.mod, S.kind, rfl, rfl, Nat.le_refl _, fun y z c h1 h2 => ?_, fun y hy => ?_, fun y c _ h => ?_, fun _ => hd, Around.frames_deeper e0.frames, .inr ⟨rfl, rfl⟩, fun b z => absurd z (noA b), e0.bs, e0.bsz, fun b _ _ => noA b, fun b z => absurd z (noA b), e0.funs, e0.frf⟩,
    rfl, e0.bare, Un.kept hk, ⟨_, x.toInCall.ns, fun i y v h1 h2 h3 => ?_⟩, fun y c h => ⟨_, x.cell y c h⟩, e0.hok.fresh (Nat.le_refl _), fun y c h => ?_, fun p hp => absurd (show p ∈ ([] : List (Addr × Obj)) from hp) (by simp), e0.hok.kept hk, ?_⟩
  · exact name_of_addr x.apart (PySem.mem_of_lookup h1) (PySem.mem_of_lookup h2)
  · have hy : scope.names.lookup y = some .cell ∨ scope.names.lookup y = some .free := hy
    rcases hy with hy | hy
    · exact cell_has hy
    · exact absurd rfl (S.nofree _ (PySem.mem_of_lookup hy))
  · exact Nat.le_of_lt (x.above y c (PySem.mem_of_lookup h))
  · have hi : i < vs.length := by
      unfold start at h2
      by_cases hi : i < vs.length
      · exact hi
      · rw [List.getElem?_append_right (by simpa using hi)] at h2
        rw [List.getElem?_replicate] at h2
        split at h2 <;> cases h2
    have ha : vs[i]? = some v := by
      unfold start at h2
      rw [List.getElem?_append_left (by simpa using hi), List.getElem?_map] at h2
      cases e : vs[i]? with
      | none => rw [e] at h2; cases h2
      | some a => rw [e] at h2; cases h2; rfl
    obtain ⟨u, hu, rv⟩ := r.get ha
    have hp : ps[i]? = some y := by
      rw [← S.pre, List.getElem?_take_of_lt (by omega)]; exact h1
    have ndP : ps.Nodup := by rw [← S.pre]; exact S.nd.sublist (List.take_sublist _ _)
    refine ⟨u, rv, ?_⟩
    rcases S.par y (List.mem_of_getElem? hp) with k | k
    · exact .inl ⟨k, bindL_get ndP hp hu k⟩
    · obtain ⟨c, e⟩ := cell_has (n := s.heap.objs.size + 1) k
      refine .inr ⟨.inl k, c, e, ?_⟩
      have q := x.cell y c e
      rw [bindC_get ndP hp hu (by show scope.names.lookup y ≠ _; rw [k]; decide)] at q
      exact q
  · exact e0.hok.fresh (Nat.le_of_lt (x.above y c (PySem.mem_of_lookup h)))
  · unfold start
    show _ = N.length
    rw [List.length_append, List.length_map, List.length_replicate]
    omega

/-- THE RULE: a def (or a method) of the text, by its body. The body's reading t is chosen for each entry; it is run at the parameters' values -/
theorem fn_of {CX : CXT} {P : Program} {w : World} {K : PySem.W.Frag} {mg : Str → Option Value} {base : Heap} {k : Nat} {f : Addr} {name qual : Str} {params : Arguments} {body : List Stmt} {scope : Scope} {dV kV doc pm cdv ct oc : Value} {an od : Option Addr}
    {osl : Array (Option Value)} {N ps : List Str} {sp : Sp} (lk : K.lookup f = some ⟨oc, od, .func (PySem.W.fnOf name qual params body scope dV kV doc pm an cdv ct), osl⟩) (hcd : PySem.W.codeIn K cdv qual = true) (S : FnScope N ps scope)
    (len : ∀ vs H Q E, sp vs H Q E → vs.length = ps.length)
    (hbody : ∀ (A : Around) (outer : List Env) (s : Shared) (H : Hp) (vs : List V) (Q : VK) (E : XK), Room k (A.deeper (envOfC qual scope s.heap.objs.size f cdv)) → sp vs H Q E →
      ∃ t, PSs (cxOf CX P w K mg base N qual scope f cdv A outer s H E) body t ∧ t { nx := fun _ H' => Q .non H', rt := Q } (start N vs) H) :
    FnOk P w K mg base CX (k + 1) f (PySem.W.fnOf name qual params body scope dV kV doc pm an cdv ct) ps sp := by
  refine ⟨len, fun A outer s H args us vs Q E hr e0 hb r hsp => ?_⟩
  have hl := len _ _ _ _ hsp
  have KX : K.In s.heap := e0.mod.kin.keeps fun b o e => (e0.bs b o e).1
  have lim : s.heap.NoLimit := e0.mod.nolimit.keeps fun b o e => (e0.bs b o e).1
  have hkind : ∀ y ∈ ps.zip us, scope.names.lookup y.1 = some .local ∨ (scope.names.lookup y.1 = some .cell ∧ ((cellsFrom (s.heap.objs.size + 1) scope.names []).lookup y.1).isSome = true) := fun ⟨n, v⟩ hy => by
    rcases S.par n (List.of_mem_zip hy).1 with q | q
    · exact .inl q
    · exact .inr ⟨q, PySem.W.cellsFrom_some _ _ _ (.inl q)⟩
  refine codeAny_call_function hr.depth (KX _ _ lk) rfl S.co S.gen rfl (PySem.W.codeRec_of KX hcd) (hb _ _ _ _ ?_)
  refine wpAny_newFunctionEnv_cells S.kind hkind fun env he s1 x => ?_
  subst he
  refine ⟨lim.keeps x.toInCall.keep, codeAny_func ?_⟩
  obtain ⟨t, ht, hq⟩ := hbody A outer s H vs Q E (hr.deeper _) hsp
  have I : Inv (cxOf CX P w K mg base N qual scope f cdv A outer s H E) [] (start N vs) H s1 := inv_start S hr.hd e0 hl r x
  refine wpAny_mono (ht [] s1 (start N vs) H _ I hq) (fun fl s' hs => ?_) fun e s' hs => hs
  have fin : ∀ {σ' : St} {H' : Hp} {v : V} {u : Value}, Inv (cxOf CX P w K mg base N qual scope f cdv A outer s H E) [] σ' H' s' → RelV v u → Q v H' → CE outer P w H s Q u s' :=
    fun {σ' H' v u} J rv q => ⟨v, H', J.os, J.bare, J.base, J.hok, rv, q⟩
  cases fl with
  | ret u =>
    obtain ⟨v, σ', H', J, rv, q⟩ := hs
    exact fin J rv q
  | next =>
    obtain ⟨σ', H', J, q⟩ := hs
    exact fin (v := V.non) (u := Value.none) J rfl q
  | brk =>
    obtain ⟨_, _, _, q⟩ := hs
    exact False.elim q
  | cont =>
    obtain ⟨_, _, _, q⟩ := hs
    exact False.elim q
end L2

namespace L2
open PySem PySem.Spec PyProof.Rows
section
variable {X : Cx} {x : Str} {p pos : Pos} {e : Expr} {es : List Expr} {t : TA} {id T : String} {r : List V → Hp → VK → Prop}

def tCB (r : List V → Hp → VK → Prop) (t : TA) : TE := fun σ H Q => t σ H fun vs H1 => r vs H1 Q
/-- f(e, ..), f a built-in function -/
theorem pe_callB (hc : CallR X (.builtin id) r) (hg : Gl X x) (hm : X.mg x = none) (hv : bootBuiltins x = some (.builtin id)) (ha : PA X (e :: es) t) (hn : x ≠ "__name__" := by decide) (hdb : (x == ("__debug__" : Str)) = false := by decide)
    (he : starEach (e :: es) X.env = (false, eval e X.env) :: starEach es X.env := by rfl) (hpl : (backTo pos (starEach es X.env)).any (·.1) = false := by rfl) : PE X (.Call (.Name x p) (e :: es) [] pos) (tCB r t) := by
  intro pins s σ H Q I h
  refine wpAny_Call_Name_kw (ld_blt I hg hm hv ?_ hn hdb)
  exact PyProof.Rows.callWith_builtin1 (thn (ha pos pins s σ H _ I h) fun us s1 ⟨vs, H1, I1, r1, q1⟩ => hc pins s1 σ H1 vs us Q I1 r1 q1) he hpl
/-- T(e, ..), T a built-in type -/
theorem pe_callTy (hc : CallR X (.type T) r) (hg : Gl X x) (hm : X.mg x = none) (hv : bootBuiltins x = some (.type T)) (ha : PA X (e :: es) t) (hn : x ≠ "__name__" := by decide) (hdb : (x == ("__debug__" : Str)) = false := by decide)
    (he : starEach (e :: es) X.env = (false, eval e X.env) :: starEach es X.env := by rfl) (hpl : (backTo pos (starEach es X.env)).any (·.1) = false := by rfl) : PE X (.Call (.Name x p) (e :: es) [] pos) (tCB r t) := by
  intro pins s σ H Q I h
  refine wpAny_Call_Name_kw (ld_blt I hg hm hv ?_ hn hdb)
  exact PyProof.Rows.callWith_type1 (thn (ha pos pins s σ H _ I h) fun us s1 ⟨vs, H1, I1, r1, q1⟩ => hc pins s1 σ H1 vs us Q I1 r1 q1) he hpl
end
end L2

namespace HT
open PySem PyProof.Rows

section
open PySem.SeqAt
open PySem.AutoSeq1 (wpAny_loadPart')
open PySem.MeetsSeq PySem.MeetsSeq2 PySem.MeetsSeq3

end

section
variable {prog : Program} {w : World} {A : Around} {E : Value → Shared → Prop} {s : Shared}

/-! ### t[a:b], not the whole -/
/-- a slice's bound as a place among n (d where it is left out) -/
def sIx (n d : Nat) : Option Int → Nat
  | none => d
  | some v => if v < 0 then (v + (n : Int)).toNat else min v.toNat n
end
end HT

namespace L2
open PySem PySem.Spec PyProof.Rows

/-! ### the parts of a slice -/
abbrev TO := St → Hp → (Option Int → Hp → Prop) → Prop
/-- a slice's part (left out, or an int) -/
def PO (X : Cx) (e : Option Expr) (t : TO) : Prop :=
  ∀ (pins : List (Addr × Obj)) (s : Shared) (σ : St) (H : Hp) (Q : Option Int → Hp → Prop), Inv X pins σ H s → t σ H Q →
    wpAny (model X.prog X.w) X.A (evalPart e X.env) (fun u s' => ∃ o H', Inv X pins σ H' s' ∧ IsPart u o ∧ Q o H') X.xe s
def tNoPart : TO := fun _ H Q => Q none H
def tPart (t : TE) : TO := fun σ H Q => t σ H fun x H1 => ∃ i, x = .int i ∧ Q (some i) H1

section
variable {X : Cx} {e : Expr} {te : TE} {lo hi : Option Expr} {tl th : TO} {pos p2 : Pos}

theorem po_none : PO X none tNoPart := by
  intro pins s σ H Q I h
  rw [evalPart_none]
  exact wpAny_pure ⟨none, H, I, .none, h⟩
theorem po_some (h : PE X e te) : PO X (some e) (tPart te) := by
  intro pins s σ H Q I hw
  rw [evalPart_some]
  refine thn (h pins s σ H _ I hw) fun u s1 ⟨x, H1, I1, r1, q1⟩ => ?_
  obtain ⟨i, rfl, q⟩ := q1
  obtain ⟨t, rfl⟩ := r1
  exact ⟨some i, H1, I1, .int i t, q⟩

/-- what a slice of a value is, by values: the slice object stands at sl -/
def SlR (X : Cx) (r : V → Option Int → Option Int → Hp → VK → Prop) : Prop :=
  ∀ (pins : List (Addr × Obj)) (s : Shared) (σ : St) (H : Hp) (x : V) (v vl vu : Value) (lo hi : Option Int) (sl : Addr) (Q : VK), Inv X pins σ H s → RelV x v → s.heap.IsSliceOf sl vl vu .none → IsPart vl lo → IsPart vu hi → r x lo hi H Q →
    ∃ T id, typeLookup (.type T) "__getitem__" = pure (some (.builtin id)) ∧ s.TypeIs v T ∧ wpAny (model X.prog X.w) X.A (getItem v (.ref sl)) (EP X pins σ Q) X.xe s
def tSl (r : V → Option Int → Option Int → Hp → VK → Prop) (te : TE) (tl th : TO) : TE := fun σ H Q => te σ H fun x H1 => tl σ H1 fun l H2 => th σ H2 fun u H3 => r x l u H3 Q
/-- a[lo:hi], any a -/
theorem pe_slice {r : V → Option Int → Option Int → Hp → VK → Prop} (hr : SlR X r) (he : PE X e te) (hl : PO X lo tl) (hu : PO X hi th) : PE X (.Subscript e (.Slice lo hi none p2) pos) (tSl r te tl th) := by
  intro pins s σ H Q I h
  refine Subscript_ (thn (he pins s σ H _ I h) fun v s1 ⟨x, H1, I1, r1, q1⟩ => ?_)
  refine wpAny_Slice (thn (hl pins s1 σ H1 _ I1 q1) fun vl s2 ⟨l, H2, I2, pl, q2⟩ => thn (hu pins s2 σ H2 _ I2 q2) fun vu s3 ⟨u, H3, I3, pu, q3⟩ => ?_)
  rw [evalPart_none]
  refine wpAny_pure ?_
  have I4 : Inv X pins σ H3 { s3 with heap := s3.heap.push { cls := .type "slice", data := .fields #[vl, vu, .none] } } := I3.kept (t' := s3.toks) fun b ob q => Heap.get?_push_of_some _ q
  obtain ⟨T, id, hT, ht, hg⟩ := hr pins { s3 with heap := s3.heap.push { cls := .type "slice", data := .fields #[vl, vu, .none] } } σ H3 x v vl vu l u s3.heap.objs.size Q I4 r1 (Heap.IsSliceOf.new ..) pl pu q3
  show wpAny (model X.prog X.w) X.A (subscriptTail e (.Slice lo hi none p2) v (.ref s3.heap.objs.size)) (EP X pins σ Q) X.xe { s3 with heap := s3.heap.push { cls := .type "slice", data := .fields #[vl, vu, .none] } }
  exact tail_any (ops := [.ref s3.heap.objs.size, v]) ht hT hg (by with_unfolding_all rfl)

/-- the items of xs[lo:hi] -/
def cutV (xs : List V) (lo hi : Option Int) : List V := (xs.drop (HT.sIx xs.length 0 lo)).take (HT.sIx xs.length xs.length hi - HT.sIx xs.length 0 lo)
theorem cutV_length (xs : List V) (lo hi : Option Int) : (cutV xs lo hi).length ≤ xs.length := by
  unfold cutV
  rw [List.length_take, List.length_drop]
  omega
end
end L2

namespace L2
open PySem PySem.Spec PyProof.Rows

/-! ### places -/
/-- the place that an index of any sign means -/
def ixN (n : Nat) (i : Int) : Option Nat := if 0 ≤ i then (if i < n then some i.toNat else none) else if -(n : Int) ≤ i then some (i + n).toNat else none
def atI {α : Type} (xs : List α) (i : Int) : Option α := (ixN xs.length i).bind fun j => xs[j]?
theorem ixN_seq {n : Nat} {i : Int} {j : Nat} (h : ixN n i = some j) : seqIndex? i n = some j ∧ j < n ∧ -(n : Int) ≤ i ∧ i < n := by
  unfold ixN at h
  by_cases h0 : 0 ≤ i
  · rw [if_pos h0] at h
    by_cases h1 : i < n
    · rw [if_pos h1] at h
      have e : i.toNat = j := Option.some.inj h
      exact ⟨by rw [seqIndex_of h0 h1, e], by omega, by omega, h1⟩
    · rw [if_neg h1] at h; cases h
  · rw [if_neg h0] at h
    by_cases h1 : -(n : Int) ≤ i
    · rw [if_pos h1] at h
      have e : (i + n).toNat = j := Option.some.inj h
      exact ⟨by rw [seqIndex_neg (by omega) h1, e], by omega, h1, by omega⟩
    · rw [if_neg h1] at h; cases h
theorem atI_get {α : Type} {xs : List α} {i : Int} {v : α} (h : atI xs i = some v) : ∃ j, seqIndex? i xs.length = some j ∧ xs[j]? = some v ∧ j < xs.length ∧ -(xs.length : Int) ≤ i ∧ i < xs.length := by
  unfold atI at h
  cases e : ixN xs.length i with
  | none => rw [e] at h; cases h
  | some j =>
    rw [e] at h
    obtain ⟨h1, h2, h3, h4⟩ := ixN_seq e
    exact ⟨j, h1, h, h2, h3, h4⟩
theorem atI_nat {α : Type} {xs : List α} {j : Nat} {v : α} (h : xs[j]? = some v) : atI xs (j : Int) = some v := by
  have hj : j < xs.length := (List.getElem?_eq_some_iff.mp h).1
  have e : ixN xs.length (j : Int) = some j := by
    unfold ixN
    rw [if_pos (by omega), if_pos (by omega)]; simp
  unfold atI; rw [e]; exact h
theorem atI_last {α : Type} (xs : List α) (v : α) : atI (xs ++ [v]) (-1) = some v := by
  have hl : (xs ++ [v]).length = xs.length + 1 := by simp
  have e : ixN (xs ++ [v]).length (-1) = some xs.length := by
    unfold ixN
    rw [hl, if_neg (by decide), if_pos (by omega)]
    congr 1
    omega
  unfold atI
  rw [e]
  show (xs ++ [v])[xs.length]? = some v
  simp

/-! ### what may be subscripted -/
/-- what stands as an index of a plain subscript -/
def PlainIx (b : Expr) : Prop := ∀ o i, subscripted b false o i = operate [o, i] (getItem o i)
/-- a subscript by values -/
def IxR (X : Cx) (r : R2) : Prop :=
  ∀ (value slice : Expr) (pins : List (Addr × Obj)) (s : Shared) (σ : St) (H : Hp) (x y : V) (v u : Value) (Q : VK), Inv X pins σ H s → RelV x v → RelV y u → r x y H Q →
    subscripted slice false v u = operate [v, u] (getItem v u) → wpAny (model X.prog X.w) X.A (subscriptTail value slice v u) (EP X pins σ Q) X.xe s
/-- a call of a builtin's method by values: the receiver, the arguments -/
def MtR (X : Cx) (id : String) (r : V → List V → Hp → VK → Prop) : Prop :=
  ∀ (pins : List (Addr × Obj)) (s : Shared) (σ : St) (H : Hp) (x : V) (xs : List V) (v : Value) (us : List Value) (Q : VK), Inv X pins σ H s → RelV x v → Vals xs us → r x xs H Q →
    wpAny (model X.prog X.w) X.A (call (.builtin id) (v :: us)) (EP X pins σ Q) X.xe s
section
variable {X : Cx} {a b : Expr} {ta tb : TE} {pos : Pos}
/-- a[b] -/
theorem pe_ix {r : R2} (hr : IxR X r) (ha : PE X a ta) (hb : PE X b tb) (hs : PlainIx b) : PE X (.Subscript a b pos) (tOp r ta tb) := by
  intro pins s σ H Q I h
  exact Subscript_ (binT ha hb I h fun v u s2 x y H2 I2 rx ry q => hr a b pins s2 σ H2 x y v u Q I2 rx ry q (hs _ _))

def rIxL (K : PySem.W.Frag) : R2 := fun x y H Q => ∃ p xs i v, x = .ref p ∧ y = .int i ∧ SqL K H p xs ∧ atI xs i = some v ∧ Q v H
def rIxT (K : PySem.W.Frag) : R2 := fun x y H Q => ∃ p xs i v, x = .ref p ∧ y = .int i ∧ SqT K H p xs ∧ atI xs i = some v ∧ Q v H
theorem ix_list : IxR X (rIxL X.K) := by
  intro value slice pins s σ H x y v u Q I rx ry h hs
  obtain ⟨p, xs, i, z, rfl, rfl, hq, he, q⟩ := h
  cases rx
  obtain ⟨t, rfl⟩ := ry
  obtain ⟨its, r, pl, hz⟩ := I.list hq
  obtain ⟨j, h1, h2, h3, h4, h5⟩ := atI_get he
  obtain ⟨w, ew, rw'⟩ := r.get h2
  have hl := r.length
  have hn := line63
  have fin : EP X pins σ Q w s := ⟨z, H, I, rw', q⟩
  by_cases h0 : 0 ≤ i
  · have hj : i.toNat = j := by
      rw [seqIndex_of h0 h5] at h1
      exact Option.some.inj h1
    exact item_listR pl.isList h0 (by omega) (by rw [hj]; simpa using ew) fin hs
  · have hj : (i + (its.toArray.size : Int)).toNat = j := by
      rw [seqIndex_neg (by omega) h4] at h1
      rw [List.size_toArray, ← hl]
      exact Option.some.inj h1
    exact subscriptTail_builtinR (x := w) pl.isList.typeIs slot_list_getitem.lookup
      (wpAny_getItem_list_neg (Q := fun r s' => r = w ∧ EP X pins σ Q r s') pl.isList (by omega) (by rw [List.size_toArray] <;> omega) (by omega) (by rw [hj]; simpa using ew) ⟨rfl, fin⟩) hs
theorem ix_tup : IxR X (rIxT X.K) := by
  intro value slice pins s σ H x y v u Q I rx ry h hs
  obtain ⟨p, xs, i, z, rfl, rfl, hq, he, q⟩ := h
  cases rx
  obtain ⟨t, rfl⟩ := ry
  obtain ⟨its, r, pl, hz⟩ := I.tuple hq
  obtain ⟨j, h1, h2, h3, h4, h5⟩ := atI_get he
  obtain ⟨w, ew, rw'⟩ := r.get h2
  have hl := r.length
  have hn := line63
  have fin : EP X pins σ Q w s := ⟨z, H, I, rw', q⟩
  exact subscriptTail_builtinR (x := w) pl.typeIs slot_tuple_getitem.lookup
    (getItem_tuple (j := j) (Q := fun r s' => r = w ∧ EP X pins σ Q r s') pl (by omega) (by omega) (by rw [List.size_toArray, ← hl]; exact h1) (by simpa using ew) ⟨rfl, fin⟩) hs
/-! ### slices -/
theorem slice_bounds (lo hi : Option Int) (n : Nat) : (sliceBounds lo hi none n).1 = ((HT.sIx n 0 lo : Nat) : Int) ∧ (sliceBounds lo hi none n).2.1 = ((HT.sIx n n hi : Nat) : Int) ∧ (sliceBounds lo hi none n).2.2 = 1 := by
  refine ⟨?_, ?_, rfl⟩
  · cases lo with
    | none => simp [sliceBounds, HT.sIx]
    | some i =>
      simp only [sliceBounds, HT.sIx, Option.getD_none, show (1 : Int) > 0 by decide, if_true]
      by_cases h : i < 0
      · simp only [h, if_true] <;> omega
      · simp only [h, if_false] <;> omega
  · cases hi with
    | none => simp [sliceBounds, HT.sIx]
    | some i =>
      simp only [sliceBounds, HT.sIx, Option.getD_none, show (1 : Int) > 0 by decide, if_true]
      by_cases h : i < 0
      · simp only [h, if_true] <;> omega
      · simp only [h, if_false] <;> omega
theorem slicePick_cut (its : List Value) (lo hi : Option Int) : slicePick its.toArray lo hi none = ((its.drop (HT.sIx its.length 0 lo)).take (HT.sIx its.length its.length hi - HT.sIx its.length 0 lo)).toArray := by
  obtain ⟨h1, h2, h3⟩ := slice_bounds lo hi its.toArray.size
  unfold slicePick
  rw [h1, h2, h3]
  simp only [sliceRange_one, pick_run, List.size_toArray] <;> rfl
/-- xs[lo:hi] of a list: a new list -/
def rSlL (K : PySem.W.Frag) : V → Option Int → Option Int → Hp → VK → Prop := fun x lo hi H Q => ∃ a xs, x = .ref a ∧ SqL K H a xs ∧ ∀ p, H p = none → Q (.ref p) (upd H p (.lst (cutV xs lo hi)))
theorem sl_list : SlR X (rSlL X.K) := by
  intro pins s σ H x v vl vu lo hi sl Q I rx hs pl pu h
  obtain ⟨a, xs, rfl, hx, q⟩ := h
  cases rx
  obtain ⟨its, r, ht, hz⟩ := I.list hx
  have hlen := r.length
  refine ⟨"list", _, slot_list_getitem.lookup, ht.isList.typeIs, ?_⟩
  refine wpAny_getItem_list_slice ht.isList hs pl pu .none (by simp) ?_ (by rw [List.size_toArray] <;> omega)
  rw [slicePick_cut, ← hlen]
  refine ⟨.ref s.heap.objs.size, _, I.laid (t' := s.toks) (o := .lst (cutV xs lo hi)) (fun b ob q => Heap.get?_push_of_some _ q) (Nat.le_refl _) ?_, rfl, q _ (I.hok.fresh (Nat.le_refl _))⟩
  exact ⟨Nat.le_trans (cutV_length xs lo hi) hz, _, 0, (r.drop (HT.sIx xs.length 0 lo)).take (HT.sIx xs.length xs.length hi - HT.sIx xs.length 0 lo), Heap.get?_push_size _ rfl⟩

/-! ### in, not in: flat items -/
def flatV : V → Bool
  | .non => true
  | .bl _ => true
  | .int _ => true
  | .str _ => true
  | _ => false
/-- == of flat values -/
def eqV : V → V → Bool
  | .non, .non => true
  | .bl a, .bl b => a == b
  | .bl a, .int b => (if a then 1 else 0) == b
  | .int a, .bl b => a == (if b then 1 else 0)
  | .int a, .int b => a == b
  | .str a, .str b => a == b
  | _, _ => false
theorem eqAt_V {A : Around} {s : Shared} {y x : V} {u v : Value} (ry : RelV y u) (rx : RelV x v) (fy : flatV y = true) (fx : flatV x = true) : SeqAt.EqAt A s u v (eqV y x) := by
  cases y with
  | non =>
    cases ry
    cases x with
    | non => cases rx; exact SeqAt.EqAt.same _
    | bl b => cases rx; exact SeqAt.EqAt.none_bool b
    | int b => obtain ⟨t, rfl⟩ := rx; exact SeqAt.EqAt.none_int b t
    | str b => obtain ⟨t, rfl⟩ := rx; exact SeqAt.EqAt.none_str b t
    | _ => exact absurd (show false = true from fx) Bool.false_ne_true
  | bl a =>
    cases ry
    cases x with
    | non => cases rx; exact SeqAt.EqAt.bool_none a
    | bl b => cases rx; exact SeqAt.EqAt.bool_bool a b
    | int b => obtain ⟨t, rfl⟩ := rx; exact SeqAt.EqAt.bool_int a b t
    | str b => obtain ⟨t, rfl⟩ := rx; exact SeqAt.EqAt.bool_str a b t
    | _ => exact absurd (show false = true from fx) Bool.false_ne_true
  | int a =>
    obtain ⟨t', rfl⟩ := ry
    cases x with
    | non => cases rx; exact SeqAt.EqAt.int_none a t'
    | bl b => cases rx; exact SeqAt.EqAt.int_bool a t' b
    | int b => obtain ⟨t, rfl⟩ := rx; exact SeqAt.EqAt.int_int a t' b t
    | str b => obtain ⟨t, rfl⟩ := rx; exact SeqAt.EqAt.int_str a t' b t
    | _ => exact absurd (show false = true from fx) Bool.false_ne_true
  | str a =>
    obtain ⟨t', rfl⟩ := ry
    cases x with
    | non => cases rx; exact SeqAt.EqAt.str_none a t'
    | bl b => cases rx; exact SeqAt.EqAt.str_bool a t' b
    | int b => obtain ⟨t, rfl⟩ := rx; exact SeqAt.EqAt.str_int a t' b t
    | str b => obtain ⟨t, rfl⟩ := rx; exact SeqAt.EqAt.str_str a t' b t
    | _ => exact absurd (show false = true from fx) Bool.false_ne_true
  | _ => exact absurd (show false = true from fy) Bool.false_ne_true
/-- the items' answers, read off the values (a value's own answer does not lean on its token) -/
def eqU (x : V) (u : Value) : Bool := match u with
  | .none => eqV .non x
  | .bool b => eqV (.bl b) x
  | .int i _ => eqV (.int i) x
  | .str z _ => eqV (.str z) x
  | _ => false
theorem eqU_of {x y : V} {u : Value} (r : RelV y u) (f : flatV y = true) : eqU x u = eqV y x := by
  cases y with
  | non => cases r; rfl
  | bl b => cases r; rfl
  | int i => obtain ⟨t, rfl⟩ := r; rfl
  | str z => obtain ⟨t, rfl⟩ := r; rfl
  | _ => exact absurd (show false = true from f) Bool.false_ne_true
theorem any_eqU {x : V} : ∀ {xs : List V} {us : List Value}, Vals xs us → xs.all flatV = true → us.any (eqU x) = xs.any fun y => eqV y x
  | _, _, .nil, _ => rfl
  | y :: xs, u :: us, .cons r t, f => by
    rw [List.all_cons, Bool.and_eq_true] at f
    rw [List.any_cons, List.any_cons, eqU_of r f.1, any_eqU t f.2]
theorem mem_eqAt {A : Around} {s : Shared} {x : V} {v : Value} (rx : RelV x v) (fx : flatV x = true) : ∀ {xs : List V} {us : List Value}, Vals xs us → xs.all flatV = true → ∀ u ∈ us, SeqAt.EqAt A s u v (eqU x u)
  | _, _, .nil, _ => fun u hu => by cases hu
  | y :: xs, u :: us, .cons r t, f => fun u' hu => by
    rw [List.all_cons, Bool.and_eq_true] at f
    rcases List.mem_cons.mp hu with rfl | hu
    · rw [eqU_of r f.1]; exact eqAt_V r rx f.1 fx
    · exact mem_eqAt rx fx t f.2 u' hu
def inV (x : V) (xs : List V) : Bool := xs.any fun y => eqV y x
/-- x in a list or tuple of flat items -/
def rIn (K : PySem.W.Frag) (neg : Bool) : R2 := fun x y H Q => ∃ p xs, y = .ref p ∧ (SqL K H p xs ∨ SqT K H p xs) ∧ flatV x = true ∧ xs.all flatV = true ∧ Q (.bl (if neg then !inV x xs else inV x xs)) H
theorem op_in_seq : OpR X (compareOp .In) (rIn X.K false) := by
  intro pins s σ H x y v u Q I rx ry h
  obtain ⟨p, xs, rfl, hq, fx, fs, q⟩ := h
  cases ry
  rcases hq with hq | hq
  · obtain ⟨its, r, pl, hz⟩ := I.list hq
    refine SeqAt.in_listAt (eqU x) pl.isList (fun w hw => mem_eqAt rx fx r fs w (by simpa using hw)) ⟨.bl _, H, I, rfl, ?_⟩
    rw [show its.toArray.any (eqU x) = its.any (eqU x) by simp, any_eqU r fs]
    exact q
  · obtain ⟨its, r, pl, hz⟩ := I.tuple hq
    refine SeqAt.in_tupleAt (eqU x) pl (fun w hw => mem_eqAt rx fx r fs w (by simpa using hw)) ⟨.bl _, H, I, rfl, ?_⟩
    rw [show its.toArray.any (eqU x) = its.any (eqU x) by simp, any_eqU r fs]
    exact q
theorem op_notIn_seq : OpR X (compareOp .NotIn) (rIn X.K true) := by
  intro pins s σ H x y v u Q I rx ry h
  obtain ⟨p, xs, rfl, hq, fx, fs, q⟩ := h
  cases ry
  rcases hq with hq | hq
  · obtain ⟨its, r, pl, hz⟩ := I.list hq
    refine SeqAt.notIn_listAt (eqU x) pl.isList (fun w hw => mem_eqAt rx fx r fs w (by simpa using hw)) ⟨.bl _, H, I, rfl, ?_⟩
    rw [show its.toArray.any (eqU x) = its.any (eqU x) by simp, any_eqU r fs]
    exact q
  · obtain ⟨its, r, pl, hz⟩ := I.tuple hq
    refine SeqAt.notIn_tupleAt (eqU x) pl (fun w hw => mem_eqAt rx fx r fs w (by simpa using hw)) ⟨.bl _, H, I, rfl, ?_⟩
    rw [show its.toArray.any (eqU x) = its.any (eqU x) by simp, any_eqU r fs]
    exact q
/-! ### len, list(x), tuple(x) of any list or tuple that is read -/
theorem call_len_seq : CallR X (.builtin "len") (fun xs H Q => ∃ p ys, xs = [.ref p] ∧ (SqL X.K H p ys ∨ SqT X.K H p ys) ∧ Q (.int ys.length) H) := by
  intro pins s σ H xs us Q I r h
  obtain ⟨p, ys, rfl, hq, q⟩ := h
  obtain ⟨u, rfl, rx⟩ := vals1 r
  cases rx
  have hn := line63
  rcases hq with hq | hq
  · obtain ⟨its, r', pl, hz⟩ := I.list hq
    have hlen := r'.length
    exact Calls.call_len_list pl.isList (by simp only [List.size_toArray] <;> omega) ⟨.int ys.length, H, I.tok _, ⟨s.toks + 1, by rw [List.size_toArray, hlen]⟩, q⟩
  · obtain ⟨its, r', pl, hz⟩ := I.tuple hq
    have hlen := r'.length
    exact len_tuple pl (by simp only [List.size_toArray] <;> omega) ⟨.int ys.length, H, I.tok _, ⟨s.toks + 1, by rw [List.size_toArray, hlen]⟩, q⟩
/-! ### the call of a builtin's method: o.m(..) -/
/-- the value is of that builtin type -/
def tyV (K : PySem.W.Frag) (T : String) (x : V) (H : Hp) : Prop := match x with
  | .str _ => T = "str"
  | .int _ => T = "int"
  | .ref p => (T = "list" ∧ ∃ xs, SqL K H p xs) ∨ (T = "tuple" ∧ ∃ o, K.lookup p = some o ∧ o.cls = .type "tuple" ∧ o.dict = none) ∨
      (T = "dict" ∧ ∃ kvs, H p = some (.dK kvs)) ∨ (T = "set" ∧ ∃ S n, H p = some (.set S n))
  | _ => False
theorem tyV_is {pins : List (Addr × Obj)} {σ : St} {H : Hp} {s : Shared} {T : String} {x : V} {v : Value} (I : Inv X pins σ H s) (r : RelV x v) (ty : tyV X.K T x H) :
    s.TypeIs v T ∧ ∀ a, v = .ref a → ∃ ob, s.heap.get? a = some ob ∧ ob.dict = none := by
  cases x with
  | str z =>
    obtain ⟨t, rfl⟩ := r
    cases (show T = "str" from ty)
    exact ⟨typeIs_str s z t, fun _ e => nomatch e⟩
  | int i =>
    obtain ⟨t, rfl⟩ := r
    cases (show T = "int" from ty)
    exact ⟨typeIs_int s i t, fun _ e => nomatch e⟩
  | ref p =>
    cases r
    rcases ty with ⟨rfl, xs, hq⟩ | ⟨rfl, o, hk, hc, hd⟩ | ⟨rfl, hk⟩ | ⟨rfl, S, n, hk⟩
    · obtain ⟨its, _, pl, _⟩ := I.list hq
      refine ⟨pl.isList.typeIs, fun a e => ?_⟩
      cases e
      obtain ⟨o, n, e, c, hd, _⟩ := pl
      exact ⟨o, e, hd⟩
    · refine ⟨⟨o, I.kIn p o hk, hc⟩, fun a e => ?_⟩
      cases e
      exact ⟨o, I.kIn _ o hk, hd⟩
    · have z : ∃ o, s.heap.get? p = some o ∧ o.ExactDict := by
        obtain ⟨kvs, hk⟩ := hk
        obtain ⟨_, _, _, _, o, _, _, e, ex, _⟩ := I.hok p _ hk
        exact ⟨o, e, ex⟩
      obtain ⟨o, e, ex⟩ := z
      refine ⟨⟨o, e, ex.1⟩, fun a e2 => ?_⟩
      cases e2
      exact ⟨o, e, ex.2.1⟩
    · obtain ⟨o, _, _, _, e, ex, _⟩ := I.hok p _ hk
      refine ⟨⟨o, e, ex.1⟩, fun a e2 => ?_⟩
      cases e2
      exact ⟨o, e, ex.2.1⟩
  | _ => exact False.elim ty
def tBM0 (K : PySem.W.Frag) (T : String) (r : V → List V → Hp → VK → Prop) (to : TE) : TE := fun σ H Q => to σ H fun x H1 => tyV K T x H1 ∧ r x [] H1 Q
def tBM (K : PySem.W.Frag) (T : String) (r : V → List V → Hp → VK → Prop) (to : TE) (t : TA) : TE := fun σ H Q => to σ H fun x H1 => tyV K T x H1 ∧ t σ H1 fun xs H2 => r x xs H2 Q
variable {o e : Expr} {es : List Expr} {to : TE} {t : TA} {name : Str} {apos cpos : Pos} {T id : String} {r : V → List V → Hp → VK → Prop}
theorem pe_bm0 (pa : PlainAttrs T) (slot : Slot T name id) (hty : typeOf (.builtin id) = pure (.type "method_descriptor")) (hm : MtR X id r) (ho : PE X o to)
    (hbase : attributeBase o name X.env (eval o X.env) = eval o X.env := by rfl) (hline : (apos.endLine == cpos.line) = true := by rfl) : PE X (.Call (.Attribute o name apos) [] [] cpos) (tBM0 X.K T r to) := by
  intro pins s σ H Q I h
  refine wpAny_Call_method0_late hbase hline (thn (ho pins s σ H _ I h) fun v s1 ⟨x, H1, I1, r1, ty, q1⟩ => ?_)
  obtain ⟨h1, h2⟩ := tyV_is I1 r1 ty
  exact ⟨T, id, pa, slot, hty, h1, h2, Calls.callWith_builtin rfl (PySem.evalArgs_none (hm pins s1 σ H1 x [] v [] Q I1 r1 .nil q1))⟩
theorem pe_bm (pa : PlainAttrs T) (slot : Slot T name id) (hty : typeOf (.builtin id) = pure (.type "method_descriptor")) (hm : MtR X id r) (ho : PE X o to) (ha : PA X (e :: es) t)
    (hbase : attributeBase o name X.env (eval o X.env) = eval o X.env := by rfl)
    (hfew : ((backTo cpos (starEach (e :: es) X.env)).all (fun x => !x.1) && (backToKw cpos (keywordEach [] X.env)).all (fun x => x.1.isSome)
      && decide ((e :: es).length + ([] : List Keyword).length + (if ([] : List Keyword).isEmpty then 0 else 1) < 30)) = true := by rfl)
    (hline : (apos.endLine == cpos.line) = true := by rfl) (hs : starEach (e :: es) X.env = (false, eval e X.env) :: starEach es X.env := by rfl) (hplain : (backTo cpos (starEach es X.env)).any (·.1) = false := by rfl) :
    PE X (.Call (.Attribute o name apos) (e :: es) [] cpos) (tBM X.K T r to t) := by
  intro pins s σ H Q I h
  refine wpAny_Call_method_late hbase hfew hline rfl (thn (ho pins s σ H _ I h) fun v s1 ⟨x, H1, I1, r1, ty, q1⟩ => ?_)
  obtain ⟨h1, h2⟩ := tyV_is I1 r1 ty
  refine ⟨T, id, pa, slot, hty, h1, h2, ?_⟩
  have hA := ha cpos pins s1 σ H1 _ I1 q1
  rw [hs] at hA ⊢
  refine Calls.callWith_builtin (by show (false || (backTo cpos (starEach es X.env)).any (·.1)) = false; rw [hplain] <;> rfl) (Calls.evalArgs_plain ?_)
  exact thn hA fun us s2 ⟨vs, H2, I2, r2, q2⟩ => hm pins s2 σ H2 x vs v us Q I2 r1 r2 q2
/- xs.append(e), list.index on a module's tuple .. are MtR facts of 06m -/
end
end L2

namespace L2
open PySem PySem.Spec PyProof.Rows

def MtM (X : Cx) (id : String) (r : V → List V → Hp → VK → Prop) : Prop :=
  ∀ (pins : List (Addr × Obj)) (s : Shared) (σ : St) (H : Hp) (x : V) (xs : List V) (v : Value) (us : List Value) (Q : VK), Inv X pins σ H s → RelV x v → Vals xs us → r x xs H Q →
    wpAny (model X.prog X.w) X.A (call (.builtin id) (v :: us)) (EP X pins σ Q) X.xe s

/-! ### lists of values -/
theorem Vals.one : ∀ {x : V} {us : List Value}, Vals [x] us → ∃ u, us = [u] ∧ RelV x u
  | _, _, .cons r .nil => ⟨_, rfl, r⟩
theorem Vals.zero : ∀ {us : List Value}, Vals [] us → us = []
  | _, .nil => rfl
section
variable {X : Cx} {pins : List (Addr × Obj)} {σ : St} {H : Hp} {s : Shared} {l b : Addr} {xs ys zs : List V}

/-! ### the two steps: a tracked list is rewritten, a new list is laid -/
theorem Inv.lset {its its' : List Value} {n : Nat} {f : Array Value → Array Value} {t' : Nat} (I : Inv X pins σ H s) (hH : H l = some (.lst xs))
    (e : s.heap.get? l = some { cls := .type "list", data := .seq its.toArray n }) (hf : f its.toArray = its'.toArray) (hv : Vals ys its') (hz : ys.length ≤ sizeLine) :
    Inv X pins σ (upd H l (.lst ys)) { s with heap := s.heap.update l (Obj.mapSeq f), toks := t' } := by
  have q := PySem.IsL.update e f
  rw [hf] at q
  refine I.write (x := l) (e := l) (by rw [hH]; exact trivial) (.inl rfl) (fun b' u hb hu => (Heap.get?_update_other s.heap (Obj.mapSeq f) (Ne.symm hb)).trans hu) ⟨_, q⟩ ?_
  exact ⟨hz, its', _, hv, q⟩
theorem Inv.lnew {its : List Value} {t' : Nat} (I : Inv X pins σ H s) (hv : Vals ys its) (hz : ys.length ≤ sizeLine) :
    Inv X pins σ (upd H s.heap.objs.size (.lst ys)) { s with heap := s.heap.push { cls := .type "list", data := .seq its.toArray }, toks := t' } :=
  I.laid (fun _ _ q => Heap.get?_push_of_some _ q) (Nat.le_refl _) ⟨hz, its, 0, hv, Heap.get?_push_size _ rfl⟩
theorem Inv.fresh (I : Inv X pins σ H s) : H s.heap.objs.size = none := I.hok.fresh (Nat.le_refl _)
theorem Inv.lstM (I : Inv X pins σ H s) (hH : H l = some (.lst xs)) : xs.length ≤ sizeLine ∧ ∃ (its : List Value) (n : Nat), Vals xs its ∧ xs.length = its.length ∧ s.heap.get? l = some { cls := .type "list", data := .seq its.toArray n } := by
  obtain ⟨z, its, n, r, e⟩ := I.hok l _ hH
  exact ⟨z, its, n, r, r.length, e⟩

end

section
variable {X : Cx}

/-! ### methods -/
def rAppend : V → List V → Hp → VK → Prop := fun x vs H Q => ∃ l xs y, x = .ref l ∧ vs = [y] ∧ H l = some (.lst xs) ∧ xs.length < sizeLine ∧ Q .non (upd H l (.lst (xs ++ [y])))
theorem mt_append : MtM X "list.append" rAppend := by
  intro pins s σ H x vs v us Q I rx rv h
  obtain ⟨l, xs, y, rfl, rfl, hH, hz, q⟩ := h
  cases rx
  obtain ⟨u, rfl, ru⟩ := rv.one
  obtain ⟨z, its, n, r, hl, e⟩ := I.lstM hH
  refine call_meets F.slot_list_append ⟨_, e, rfl⟩ F.entry_list_append (F.args_list_append_2 _ _) (PySem.list_append l its.toArray n u (by rw [List.size_toArray]; omega)) ⟨e, ?_⟩
  refine ⟨.non, _, I.lset (its' := its ++ [u]) hH e (by simp) (r.append (.cons ru .nil)) ?_, rfl, q⟩
  rw [List.length_append, List.length_singleton]
  omega

def rClear : V → List V → Hp → VK → Prop := fun x vs H Q => ∃ l xs, x = .ref l ∧ vs = [] ∧ H l = some (.lst xs) ∧ Q .non (upd H l (.lst []))
theorem mt_clear : MtM X "list.clear" rClear := by
  intro pins s σ H x vs v us Q I rx rv h
  obtain ⟨l, xs, rfl, rfl, hH, q⟩ := h
  cases rx
  have hus := rv.zero
  subst hus
  obtain ⟨z, its, n, r, hl, e⟩ := I.lstM hH
  refine call_meets F.slot_list_clear ⟨_, e, rfl⟩ F.entry_list_clear (F.args_list_clear_1 _) (AutoSeq1.list_clear_list_0 l its.toArray n (by rw [List.size_toArray]; omega)) ⟨e, ?_⟩
  exact ⟨.non, _, I.lset (its' := []) (ys := []) hH e rfl .nil (Nat.zero_le _), rfl, q⟩

/-! ### list + list, list += list, list * int -/
def rCat : R2 := fun x y H Q => ∃ l b xs zs, x = .ref l ∧ y = .ref b ∧ H l = some (.lst xs) ∧ H b = some (.lst zs) ∧ xs.length + zs.length ≤ sizeLine ∧ ∀ p, H p = none → Q (.ref p) (upd H p (.lst (xs ++ zs)))
theorem op_cat : OpR X (binaryOp .Add) rCat := by
  intro pins s σ H x y v u Q I rx ry h
  obtain ⟨l, b, xs, zs, rfl, rfl, hH, hB, hz, q⟩ := h
  cases rx
  cases ry
  obtain ⟨z, its, n, r, hl, e⟩ := I.lstM hH
  obtain ⟨z2, its2, n2, r2, hl2, e2⟩ := I.lstM hB
  refine PySem.P.add_list e e2 ?_ (by rw [List.size_toArray, List.size_toArray]; omega)
  have ea : its.toArray ++ its2.toArray = (its ++ its2).toArray := by simp
  rw [ea]
  exact ⟨.ref _, _, I.lnew (t' := s.toks) (r.append r2) (by rw [List.length_append]; omega), rfl, q _ I.fresh⟩
end

/-! ### xs[a:b] = ys -/
section
variable {prog : Program} {w : World} {A : Around} {E : Value → Shared → Prop} {s : Shared}
set_option maxRecDepth 100000 in
end

section
variable {X : Cx}
end
end L2

namespace Att
open PySem PySem.W PySem.Calls PyProof.Rows

/-! ### the script -/
theorem ints_of_wellAll {P : Params} {h : Heap} : ∀ (ns : List Int) (vs : List Value), WellAll P h vs (ns.map WData.int) → IntsAre vs ns := by
  intro ns
  induction ns with
  | nil =>
    intro vs w
    rw [List.map_nil] at w
    cases w
    exact .nil
  | cons n ns ih =>
    intro vs w
    rw [List.map_cons] at w
    cases w with
    | cons a b =>
      cases a
      exact .cons _ _ (ih _ b)

theorem script_of {l : OpenLaw} {n : Nat} (hn : l.most = some n) {P : Params} {h : Heap} {args : List WData} {vals : List Value}
    (hpre : l.row.toRowW.claim.pre args = true) (hwl : WellAll P h vals args) :
    ∃ a vs ns, vals = [Value.ref a] ∧ args = [WData.list (ns.map WData.int)] ∧ h.get? a = some { cls := .type "list", data := .seq vs.toArray } ∧ IntsAre vs ns ∧ ns.length ≤ n := by
  have hsh : WShape.hasAll [] args [.list .int] = true := (pre_splitW hpre).1
  have hc : l.pre.holds [] { args := args } = true := (pre_splitW hpre).2
  obtain ⟨d, r, rfl, h1, h2⟩ := hasAllW_cons hsh
  obtain rfl := hasAllW_nil h2
  obtain ⟨xs, rfl, h3⟩ := hasW_list h1
  obtain ⟨ns, rfl⟩ := items_int h3
  have hlen : ns.length ≤ n := by
    unfold OpenLaw.pre at hc
    have h4 : (WTm.not (.lt (.lit (.int (n : Int))) (.len (.arg 0)))).holds [] { args := [.list (ns.map .int)] } = true := by
      have h4 := (holds_andW hc).1
      rw [hn] at h4
      exact h4
    have h5 := condW_of h4 (w_not (w_lt w_lit (w_len_list (w_arg rfl))))
    rw [List.length_map] at h5
    refine Nat.le_of_not_lt fun q => ?_
    have q' : (n : Int) < ((ns.length : Nat) : Int) := by omega
    first
      | (rw [decide_eq_true q'] at h5; exact absurd h5 (by decide))
      | (simp at h5; omega)
  cases hwl with
  | cons w1 w2 =>
    cases w2
    cases w1 with
    | list ho hall => exact ⟨_, _, ns, rfl, rfl, ho, ints_of_wellAll ns _ hall, hlen⟩

theorem post_true (l : OpenLaw) (args : List WData) : l.row.toRowW.claim.post args (.bool true) args = true :=
  postW_of (r := l.row.toRowW) (X := (true == true))
    (show WShape.has [] (.bool true) .bool = true by first | rfl | decide | simp [WShape.has, WShape.arms, WShape.armsAll])
    (show (WTm.eq .res (.lit (.bool true))).value [] { args := args, res := some (.bool true), after := args } = some (.bool (true == true)) from w_eq_bool (w_res rfl) w_lit) rfl

/-- the same from a codeAny of the CALL (for a layer whose function contracts speak of calls) -/
theorem attach_call {l : OpenLaw} {n : Nat} {q : Program} {loose : List Str} {XP : (Str → Option Value) → Heap → Prop} {YP : World → Heap → Prop} {d : DefRec}
    (hn : l.most = some n) (hdf : d.params.defaults = [])
    (call : ∀ (w : World) (s₀ s₁ : Shared) (mg mb : Str → Option Value) (fa : Addr) (o : Obj) (pm cd doc : Value) (a : Addr) (vs : List Value) (ns : List Int),
      Ground q loose [] XP w s₀ mg mb s₁.heap → YP w s₁.heap →
      s₁.heap.get? fa = some o → o.data = .func (docDef d.name d.params d.body d.scope pm cd doc) → s₁.heap.CodeRec cd d.name → mg d.name = some (.ref fa) →
      s₁.heap.get? a = some { cls := .type "list", data := .seq vs.toArray } → IntsAre vs ns → ns.length ≤ n → s₁.gens = #[] →
      codeAny (model l.prog w) callerA (.call (.ref fa) ⟨[.ref a], []⟩) (fun r s' => r = .ok (.ret (.bool true)) ∧ OldK s₁.heap s'.heap ∧ s'.os = s₁.os ∧ AllBare s'.gens) s₁) :
    WalkO q loose XP YP l.row.toRowW d [] (fun f vs => PySem.call f vs) := by
  intro w s₀ s₁ mg mb G Y fa o pm cd doc dV kV ho hd hcd hD hmg hg args vals as hpre hlay hrd hwl hlo
  obtain rfl : dV = .none := Dflts.none hD hdf
  obtain rfl : kV = .none := Dflts.noKw hD
  obtain ⟨a, vs, ns, rfl, rfl, hobj, hints, hlen⟩ := script_of hn hpre hwl
  refine enter_call (codeAny_mono (call w s₀ s₁ mg mb fa o pm cd doc a vs ns G Y ho (fd_plain hd) hcd hmg hobj hints hlen hg) fun r s' hq => ?_)
  obtain ⟨rfl, h2, h3, h4⟩ := hq
  exact ⟨.inl ⟨.bool true, .bool true, [], rfl, fun _ => rfl, .bool true, post_true l _, fun _ => ⟨List.Pairwise.nil, fun _ hm => (nomatch hm)⟩⟩, h2, h3, h4⟩

/-! ### rules over ANY heap (no ledger) from facts about the written part K: the library's own take a ledger (News) for what they write -/
section
variable {prog : Program} {w : World} {A : Around} {E : Value → Shared → Prop} {s : Shared} {K : Frag}

def ledger (h : Heap) (L d : Addr) : List (Addr × Obj) := (List.range h.objs.size).filterMap fun a => if a = L ∨ a = d then none else (h.get? a).map fun o => (a, o)
end
end Att

namespace L2
open PySem PySem.Spec PyProof.Rows

theorem vals_ints : ∀ {vs : List Value} {ns : List Int}, IntsAre vs ns → Vals (ns.map V.int) vs
  | _, _, .nil => .nil
  | _, _, .cons n t h => .cons ⟨t, rfl⟩ (vals_ints h)

/-- nothing is tracked but the script, known to the object (or it is an object of the module) -/
def Only (H : Hp) : Prop := ∀ b, H b = none ∨ ∃ o xs, H b = some (.frz o (.lst xs))

/-- THE HEAD: the law's promise, at the heap behind the top. F, the promise of the law's def, may use that base is part of the heap (so K.In base, base.Ns mainGlobals mg stand in Mod) -/
theorem law_call {P : Program} {w : World} {K : PySem.W.Frag} {mg mb : Str → Option Value} {CX : CXT} {k : Nat} {fa a : Addr} {fd : FuncData} {x : Str} {sp : Sp} {s₁ : Shared} {vs : List Value} {ns : List Int}
    (KX : K.In s₁.heap) (hns : s₁.heap.Ns mainGlobals mg) (hb : s₁.heap.Ns builtinsNs mb) (hbb : ∀ x : Str, x ≠ "__name__" → mb x = bootBuiltins x) (hlim : s₁.heap.NoLimit) (hg : s₁.gens = #[])
    (ha : s₁.heap.get? a = some { cls := .type "list", data := .seq vs.toArray }) (hi : IntsAre vs ns) (hl : ns.length ≤ sizeLine) (hr : Room k callerA)
    (F : ∀ base : Heap, K.In base → base.Ns mainGlobals mg → FnOk P w K mg base CX k fa fd [x] sp) (hbind : ∀ (s : Shared) (u : Value), BindsTo s fd ⟨[u], []⟩ [(x, u)])
    (hsp : ∀ H : Hp, Only H → SqL K H a (ns.map V.int) → sp [.ref a] H (fun v _ => v = .bl true) fun _ _ _ => False)
    (hCX : ∀ H e s', CX [] H s₁ (fun _ _ _ => False) e s' → False) :
    codeAny (model P w) callerA (.call (.ref fa) ⟨[.ref a], []⟩) (fun r s' => r = .ok (.ret (.bool true)) ∧ OldK s₁.heap s'.heap ∧ s'.os = s₁.os ∧ AllBare s'.gens) s₁ := by
  have rv := vals_ints hi
  have lenV := hi.length
  -- from an abstract heap in which nothing but the script may be tracked
  have core : ∀ H : Hp, Only H → SqL K H a (ns.map V.int) → HOk P w H s₁.heap → (∀ b, H b ≠ none → b = a) → (H a ≠ none → K.lookup a = none) →
      codeAny (model P w) callerA (.call (.ref fa) ⟨[.ref a], []⟩) (fun r s' => r = .ok (.ret (.bool true)) ∧ OldK s₁.heap s'.heap ∧ s'.os = s₁.os ∧ AllBare s'.gens) s₁ := by
    intro H hO hS hok hA hK
    have base_of : ∀ {b : Addr} {o : Obj}, s₁.heap.get? b = some o → H b = none → (hidT s₁.heap H).get? b = some o := fun e n => hidT_get e n
    have noA : ∀ {b : Addr} {o : Obj} {es : Array DictEntry} {ep : Nat}, s₁.heap.get? b = some o → o.data = .dict es ep → H b = none := fun {b o es ep} e d => by
      cases q : H b with
      | none => rfl
      | some u =>
        have e' : b = a := hA b (by rw [q]; simp)
        subst e'
        rw [ha] at e; cases e
        have d' : Data.seq vs.toArray _ = Data.dict es ep := d
        cases d'
    have nsK : ∀ {b : Addr} {m : Str → Option Value}, s₁.heap.Ns b m → (hidT s₁.heap H).Ns b m := fun {b m} ⟨o, es, ep, e, d, r⟩ => ⟨o, es, ep, base_of e (noA e d), d, r⟩
    have hKb : K.In (hidT s₁.heap H) := fun b o e => base_of (KX b o e) (by
      cases q : H b with
      | none => rfl
      | some u =>
        have e' : b = a := hA b (by rw [q]; simp)
        subst e'
        rw [hK (by rw [q]; simp)] at e; cases e)
    have hM : Mod K mg (hidT s₁.heap H) := ⟨hKb, nsK hns, ⟨mb, nsK hb, hbb⟩, let ⟨mc, h1, h2⟩ := hlim; ⟨mc, nsK h1, h2⟩⟩
    have e0 : Env0 P w K mg (hidT s₁.heap H) callerA [] s₁ H := ⟨rfl, hM, fun b o e => of_hidT e, Nat.le_of_eq (hidT_size _ _), trivial, fun b hb => absurd (show b ∈ ([] : List Addr) from hb) (by simp), hok, .of_eq hg⟩
    refine codeAny_mono ((F _ hKb (nsK hns)).run callerA [] s₁ H ⟨[.ref a], []⟩ [.ref a] [.ref a] _ _ hr e0 (hbind s₁ (.ref a)) (.cons rfl .nil) (hsp H hO hS)) fun r s' h => ?_
    cases r with
    | error e => exact (hCX H e s' h).elim
    | ok fl =>
      cases fl with
      | next => exact False.elim h
      | brk => exact False.elim h
      | cont => exact False.elim h
      | ret u =>
        obtain ⟨v, H', os, bare, un, hok', r', q⟩ := h
        have q' : v = .bl true := q
        subst q'
        obtain rfl : u = Value.bool true := r'
        refine ⟨rfl, OldK.of_keep fun b o e => ?_, os, bare⟩
        cases q : H b with
        | none => exact un.keep b o e q (by intro z; exact absurd (show b ∈ ([] : List Addr) from z) (by simp)) (by simp)
        | some u =>
          rcases hO b with z | ⟨ob, xs, z⟩
          · rw [q] at z; cases z
          · have z2 := un.frzs b ob _ z
            obtain ⟨e1, _⟩ := hok b _ z
            obtain ⟨e2, _⟩ := hok' b _ z2
            rw [e] at e1; cases e1
            exact e2
  cases hk : K.lookup a with
  | some o =>
    -- the script is one of the module's own objects
    have e := KX a o hk
    rw [ha] at e
    cases e
    refine core (fun _ => none) (fun _ => .inl rfl) (.inr ⟨_, vs.toArray, _, hk, rfl, rfl, rfl, by rw [List.size_toArray, lenV]; exact hl, by simpa using rv⟩) (fun b u z => by have z' : (none : Option HO) = some u := z; cases z') (fun b z => absurd rfl z) fun z => absurd rfl z
  | none =>
    refine core (fun b => if b = a then some (.frz { cls := .type "list", data := .seq vs.toArray } (.lst (ns.map V.int))) else none) (fun b => ?_) (.inl (.inr ⟨{ cls := .type "list", data := .seq vs.toArray }, if_pos rfl⟩)) (fun b u z => ?_) (fun b z => ?_) fun _ => hk
    · by_cases hb : b = a
      · exact .inr ⟨_, _, if_pos hb⟩
      · exact .inl (if_neg hb)
    · by_cases hb : b = a
      · have z' := (if_pos hb).symm.trans z
        cases z'
        subst hb
        exact ⟨ha, by rw [List.length_map]; exact hl, vs, _, rv, ha⟩
      · have z' := (if_neg hb).symm.trans z
        cases z'
    · by_cases hb : b = a
      · exact hb
      · exact absurd (if_neg hb) z
end L2

namespace L2
open PySem PySem.Spec PyProof.Rows

/-- the goal that k_head leaves (case hc), from the law's promise. F gives the function object fd (K's own) once, then the promise over every base -/
theorem walk_of {l : PySem.W.OpenLaw} {n k : Nat} {q : Program} {loose : List Str} {XP : (Str → Option Value) → Heap → Prop} {YP : World → Heap → Prop} {d : DefRec} {K : Params → PySem.W.Frag} {CX : World → CXT} {sp : World → Sp} {x : Str}
    (hn : l.most = some n) (hn2 : n ≤ sizeLine) (hdf : d.params.defaults = []) (hr : Room k callerA)
    (hY : ∀ (w : World) (h : Heap), YP w h → (K w.params).In h)
    (F : ∀ (w : World) (mg : Str → Option Value) (fa : Addr) (h : Heap), (K w.params).In h → h.Ns mainGlobals mg → mg d.name = some (.ref fa) →
      ∃ fd : FuncData, (∀ (s : Shared) (u : Value), BindsTo s fd ⟨[u], []⟩ [(x, u)]) ∧
        ∀ base : Heap, (K w.params).In base → base.Ns mainGlobals mg → FnOk l.prog w (K w.params) mg base (CX w) k fa fd [x] (sp w))
    (hsp : ∀ (w : World) (H : Hp) (a : Addr) (ns : List Int), ns.length ≤ n → Only H → SqL (K w.params) H a (ns.map V.int) → sp w [.ref a] H (fun v _ => v = .bl true) fun _ _ _ => False)
    (hCX : ∀ (w : World) (H : Hp) (s : Shared) (e : Value) (s' : Shared), CX w [] H s (fun _ _ _ => False) e s' → False) :
    PySem.W.WalkO q loose XP YP l.row.toRowW d [] (fun f vs => PySem.call f vs) := by
  refine Att.attach_call hn hdf fun w s₀ s₁ mg mb fa o pm cd doc a vs ns G Y ho hd hcd hmg hobj hints hlen hg => ?_
  have KX := hY w _ Y
  obtain ⟨fd, hb, hF⟩ := F w mg fa _ KX G.T.g hmg
  exact law_call KX G.T.g G.T.b G.T.builtins G.T.nolimit hg hobj hints (Nat.le_trans hlen hn2) hr hF hb (fun H hO hS => hsp w H a ns hlen hO hS) fun H e s' => hCX w H s₁ e s'
end L2



/-! SHORT WORDS over the layer: a def of the text, its body, what a loop and a test want. -/
namespace L2
open PySem PySem.Spec PyProof.Rows

/-! ### the text by places -/
/-- the j-th statement of a class's body -/
def inClass (s : Stmt) (j : Nat) : Stmt := match s with
  | .ClassDef _ _ _ body _ _ _ _ _ _ _ => body.getD j (.Pass ⟨0, 0, 0, 0⟩)
  | _ => .Pass ⟨0, 0, 0, 0⟩
def defArgs (s : Stmt) : Arguments := match s with
  | .FunctionDef _ a _ _ _ _ _ _ _ _ => a
  | _ => { posonlyargs := [], args := [], vararg := none, kwonlyargs := [], kw_defaults := [], kwarg := none, defaults := [] }
def defBody (s : Stmt) : List Stmt := match s with
  | .FunctionDef _ _ b _ _ _ _ _ _ _ => b
  | _ => []
def defScope (s : Stmt) : Scope := match s with
  | .FunctionDef _ _ _ _ _ _ sc _ _ _ => sc
  | _ => { kind := .function, names := [], isGenerator := false, isCoroutine := false }

/-! ### no exception leaves a def -/
abbrev CX0 : CXT := fun _ _ _ _ _ _ => False
abbrev E0 : XK := fun _ _ _ => False
theorem pass0 {X : Cx} : Passes CX0 X E0 := fun _ _ _ _ _ _ _ h => h.elim

/-! ### a def (or method) of the text as it stands behind the top -/
structure Fun (K : PySem.W.Frag) (x qual : Str) (st : Stmt) (f : Addr) (fd : FuncData) : Prop where
  ex : ∃ (oc : Value) (od : Option Addr) (kV doc pm : Value) (an : Option Addr) (cdv ct : Value) (osl : Array (Option Value)),
    fd = PySem.W.fnOf x qual (defArgs st) (defBody st) (defScope st) .none kV doc pm an cdv ct ∧ K.lookup f = some ⟨oc, od, .func fd, osl⟩ ∧ PySem.W.codeIn K cdv qual = true
  kp : PySem.W.keepIn K (.ref f) = true
section
variable {P : Program} {w : World} {K : PySem.W.Frag} {mg : Str → Option Value} {base : Heap}
/-- THE RULE for a def: its body as a term of rules, and the reading of that term -/
theorem Fun.ok {x qual : Str} {st : Stmt} {f : Addr} {fd : FuncData} {N ps : List Str} {k : Nat} {sp : Sp} (F : Fun K x qual st f fd) (S : FnScope N ps (defScope st)) (len : ∀ vs H Q E, sp vs H Q E → vs.length = ps.length)
    (hbody : ∀ (cdv : Value) (A : Around) (outer : List Env) (s : Shared) (H : Hp) (vs : List V) (Q : VK) (E : XK), Room k (A.deeper (envOfC qual (defScope st) s.heap.objs.size f cdv)) → sp vs H Q E →
      ∃ t, PSs (cxOf CX0 P w K mg base N qual (defScope st) f cdv A outer s H E).nox (defBody st) t ∧ t { nx := fun _ H' => Q .non H', rt := Q } (start N vs) H) : FnOk P w K mg base CX0 (k + 1) f fd ps sp := by
  obtain ⟨oc, od, kV, doc, pm, an, cdv, ct, osl, rfl, lk, hcd⟩ := F.ex
  refine fn_of lk hcd S len fun A outer s H vs Q E hr hsp => ?_
  obtain ⟨t, h, q⟩ := hbody cdv A outer s H vs Q E hr hsp
  exact ⟨t, h.nox, q⟩
theorem fun_mk {x qual : Str} {st : Stmt} {f : Addr} {oc : Value} {od an : Option Addr} {osl : Array (Option Value)} {kV doc pm cdv ct : Value} (l : K.lookup f = some ⟨oc, od, .func (PySem.W.fnOf x qual (defArgs st) (defBody st) (defScope st) .none kV doc pm an cdv ct), osl⟩)
    (c : PySem.W.codeIn K cdv qual = true) (k : PySem.W.keepIn K (.ref f) = true) : Fun K x qual st f (PySem.W.fnOf x qual (defArgs st) (defBody st) (defScope st) .none kV doc pm an cdv ct) := ⟨⟨oc, od, kV, doc, pm, an, cdv, ct, osl, rfl, l, c⟩, k⟩
end
/-! ### expressions in short: the name that stands in the i-th slot -/
section
variable {X : Cx}
theorem pv (i : Nat) {x : Str} {pos : Pos} (hN : X.N[i]? = some x := by rfl) (hv : Vis X.env.scope x := by first | exact Or.inl rfl | exact Or.inr (Or.inl rfl) | exact Or.inr (Or.inr rfl)) (hd : (x == ("__debug__" : Str)) = false := by decide)
    (hcd : (x == ("__classdict__" : Str)) = false := by decide) : PE X (.Name x pos) (tVar i) := pe_var hN hv hd hcd
end

/-! ### tests -/
theorem iteF {A B : Prop} (h : B) : if false = true then A else B := by
  rw [if_neg Bool.false_ne_true]
  exact h
theorem iteT {A B : Prop} (h : A) : if true = true then A else B := by
  rw [if_pos rfl]
  exact h
/-! ### heaps -/
/-- all that was tracked is as it was -/
def Same (H H' : Hp) : Prop := ∀ b o, H b = some o → H' b = some o
theorem Same.refl (H : Hp) : Same H H := fun _ _ h => h
theorem Same.trans {H H1 H2 : Hp} (a : Same H H1) (b : Same H1 H2) : Same H H2 := fun c o h => b c o (a c o h)
theorem Same.seq {K : PySem.W.Frag} {H H' : Hp} {a : Addr} {xs : List V} (e : Same H H') (h : SqL K H a xs) : SqL K H' a xs := by
  rcases h with (h | ⟨o, h⟩) | h
  · exact .inl (.inl (e _ _ h))
  · exact .inl (.inr ⟨o, e _ _ h⟩)
  · exact .inr h

end L2
namespace L2
open PySem PySem.Spec PyProof.Rows

/-! ### what a call made and dropped may be forgotten -/
theorem ObjOk.swap {P : Program} {w : World} {H H' : Hp} {h h' : Heap} {a : Addr} {o : HO} (x : ObjOk P w H h a o) (y : ObjOk P w H' h' a o) : ObjOk P w H h' a o := by
  induction o with
  | ins C dx fs => exact ⟨x.1, y.2⟩
  | frz ob u ih => exact ⟨y.1, ih x.2 y.2⟩
  | _ => exact y
theorem HOk.forget {P : Program} {w : World} {H H' : Hp} {h h' : Heap} (a : HOk P w H h) (b : HOk P w H' h') (s : Same H H') : HOk P w H h' := fun x o e => (a x o e).swap (b x o (s x o e))
theorem Un.forget {fs ex : List Addr} {H H' : Hp} {h h' : Heap} (u : Un fs ex H H' h h') : Un fs ex H H h h' :=
  ⟨u.keep, u.slot, fun _ _ _ n _ => n, u.there, fun _ _ q => q, fun _ _ _ q => q, fun b ps q => ⟨#[], by rw [q]; simp⟩⟩
theorem FnOk.forget {P : Program} {w : World} {K : PySem.W.Frag} {mg : Str → Option Value} {base : Heap} {CX : CXT} {k : Nat} {f : Addr} {fd : FuncData} {ps : List Str} {sp sp' : Sp} (F : FnOk P w K mg base CX k f fd ps sp)
    (h : ∀ vs H Q E, sp' vs H Q E → sp vs H (fun v H' => Same H H' ∧ Q v H) E) : FnOk P w K mg base CX k f fd ps sp' where
  len := fun vs H Q E q => F.len _ _ _ _ (h _ _ _ _ q)
  run := fun A outer s H args us vs Q E hr e0 hb hv hs => by
    refine codeAny_mono (F.run A outer s H args us vs _ E hr e0 hb hv (h _ _ _ _ hs)) fun r s' q => ?_
    cases r with
    | error e => exact q
    | ok fl =>
      cases fl with
      | ret u =>
        obtain ⟨v, H', os, bare, un, hok, rv, sm, qv⟩ := q
        exact ⟨v, H, os, bare, un.forget, e0.hok.forget hok sm, rv, qv⟩
      | next => exact q
      | brk => exact q
      | cont => exact q

/-! ### a def of the text, a def that keeps a promise -/
structure Src (K : PySem.W.Frag) (mg : Str → Option Value) (x : Str) (st : Stmt) (ps : List Str) : Prop where
  ex : ∃ (f : Addr) (fd : FuncData), Fun K x x st f fd ∧ mg x = some (.ref f) ∧ ∀ us : List Value, us.length = ps.length → bindArgs fd ⟨us, []⟩ = pure (ps.zip us)
structure Def (P : Program) (w : World) (K : PySem.W.Frag) (mg : Str → Option Value) (base : Heap) (k : Nat) (x : Str) (ps : List Str) (sp : Sp) : Prop where
  ex : ∃ (f : Addr) (fd : FuncData), FnOk P w K mg base CX0 k f fd ps sp ∧ mg x = some (.ref f) ∧ PySem.W.keepIn K (.ref f) = true ∧ (∀ us : List Value, us.length = ps.length → bindArgs fd ⟨us, []⟩ = pure (ps.zip us)) ∧
    ∃ o, K.lookup f = some o ∧ o.data = .func fd
section
variable {P : Program} {w : World} {K : PySem.W.Frag} {mg : Str → Option Value} {base : Heap} {x : Str} {st : Stmt} {N ps : List Str} {k : Nat} {sp : Sp}
theorem Src.ok (S : Src K mg x st ps) (sc : FnScope N ps (defScope st)) (len : ∀ vs H Q E, sp vs H Q E → vs.length = ps.length)
    (hbody : ∀ (f : Addr) (cdv : Value) (A : Around) (outer : List Env) (s : Shared) (H : Hp) (vs : List V) (Q : VK) (E : XK), Room k (A.deeper (envOfC x (defScope st) s.heap.objs.size f cdv)) → sp vs H Q E →
      ∃ t, PSs (cxOf CX0 P w K mg base N x (defScope st) f cdv A outer s H E).nox (defBody st) t ∧ t { nx := fun _ H' => Q .non H', rt := Q } (start N vs) H) : Def P w K mg base (k + 1) x ps sp := by
  obtain ⟨f, fd, F, hm, hb⟩ := S.ex
  refine ⟨f, fd, F.ok sc len (fun cdv => hbody f cdv), hm, F.kp, hb, ?_⟩
  obtain ⟨oc, od, kV, doc, pm, an, cdv, ct, osl, e, lk, hcd⟩ := F.ex
  exact ⟨_, lk, rfl⟩
/-- .. what it made is dropped -/
theorem Src.okF (S : Src K mg x st ps) (sc : FnScope N ps (defScope st)) (len : ∀ vs H Q E, sp vs H Q E → vs.length = ps.length)
    (hbody : ∀ (f : Addr) (cdv : Value) (A : Around) (outer : List Env) (s : Shared) (H : Hp) (vs : List V) (Q : VK) (E : XK), Room k (A.deeper (envOfC x (defScope st) s.heap.objs.size f cdv)) → sp vs H Q E →
      ∃ t, PSs (cxOf CX0 P w K mg base N x (defScope st) f cdv A outer s H E).nox (defBody st) t ∧ t { nx := fun _ H' => Same H H' ∧ Q .non H, rt := fun v H' => Same H H' ∧ Q v H } (start N vs) H) : Def P w K mg base (k + 1) x ps sp := by
  obtain ⟨f, fd, F, hm, hb⟩ := S.ex
  have G : FnOk P w K mg base CX0 (k + 1) f fd ps (fun vs H R E => ∃ Q, sp vs H Q E ∧ R = fun v H' => Same H H' ∧ Q v H) :=
    F.ok sc (fun vs H R E ⟨Q, h, _⟩ => len vs H Q E h) fun cdv A outer s H vs R E hr ⟨Q, h, e⟩ => by
      subst e
      exact hbody f cdv A outer s H vs Q E hr h
  refine ⟨f, fd, G.forget fun vs H Q E h => ⟨Q, h, rfl⟩, hm, F.kp, hb, ?_⟩
  obtain ⟨oc, od, kV, doc, pm, an, cdv, ct, osl, e, lk, hcd⟩ := F.ex
  exact ⟨_, lk, rfl⟩
theorem src_mk {h : Heap} {f : Addr} {oc : Value} {od an : Option Addr} {osl : Array (Option Value)} {kV doc pm cdv ct : Value} (X : K.In h) (G : h.Ns mainGlobals mg) (a : PySem.W.nsIn K mainGlobals x = some (some (.ref f)))
    (l : K.lookup f = some ⟨oc, od, .func (PySem.W.fnOf x x (defArgs st) (defBody st) (defScope st) .none kV doc pm an cdv ct), osl⟩) (c : PySem.W.codeIn K cdv x = true) (k : PySem.W.keepIn K (.ref f) = true)
    (hb : ∀ us : List Value, us.length = ps.length → bindArgs (PySem.W.fnOf x x (defArgs st) (defBody st) (defScope st) .none kV doc pm an cdv ct) ⟨us, []⟩ = pure (ps.zip us)) : Src K mg x st ps :=
  ⟨f, _, fun_mk l c k, PySem.W.mg_of X G a, hb⟩
theorem gint_mk {h : Heap} {i : Int} {t : Tok} (X : K.In h) (G : h.Ns mainGlobals mg) (a : PySem.W.nsIn K mainGlobals x = some (some (.int i t))) : ∃ t, mg x = some (.int i t) := ⟨t, PySem.W.mg_of X G a⟩
theorem gtup_mk {h : Heap} {p : Addr} {od : Option Addr} {its : Array Value} {n : Nat} {sl : Array (Option Value)} {xs : List V} (X : K.In h) (G : h.Ns mainGlobals mg) (a : PySem.W.nsIn K mainGlobals x = some (some (.ref p)))
    (l : K.lookup p = some ⟨.type "tuple", od, .seq its n, sl⟩) (r : Vals xs its.toList) (z : its.size ≤ sizeLine) : ∃ a, mg x = some (.ref a) ∧ ∀ H, SqT K H a xs :=
  ⟨p, PySem.W.mg_of X G a, fun H => .inr ⟨_, its, n, l, rfl, rfl, z, r⟩⟩
end
/-- the goal that k_head leaves, from the law's promise -/
theorem walk_def {l : PySem.W.OpenLaw} {lv : Nat} {q : Program} {loose : List Str} {XP : (Str → Option Value) → Heap → Prop} {YP : World → Heap → Prop} {d : DefRec} {K : Params → PySem.W.Frag} {sp : PySem.W.Frag → Sp} {x : Str} {st : Stmt}
    (hn : l.most = some 63) (hdf : d.params.defaults = []) (hnm : d.name = "law") (hr : Room lv callerA)
    (hY : ∀ (w : World) (h : Heap), YP w h → (K w.params).In h)
    (F : ∀ (w : World) (mg : Str → Option Value) (h : Heap), (K w.params).In h → h.Ns mainGlobals mg →
      Src (K w.params) mg "law" st [x] ∧ ∀ base : Heap, Def l.prog w (K w.params) mg base lv "law" [x] (sp (K w.params)))
    (hsp : ∀ (K : PySem.W.Frag) (H : Hp) (a : Addr) (ns : List Int), ns.length ≤ 63 → SqL K H a (ns.map V.int) → sp K [.ref a] H (fun v _ => v = .bl true) fun _ _ _ => False) :
    PySem.W.WalkO q loose XP YP l.row.toRowW d [] (fun f vs => PySem.call f vs) := by
  refine L2.walk_of (n := 63) (k := lv) (x := x) (CX := fun _ => CX0) (sp := fun w => sp (K w.params)) hn (by decide) hdf hr hY ?_ (fun w H a ns h1 h2 h3 => hsp (K w.params) H a ns h1 h3) fun _ _ _ _ _ z => z
  intro w mg fa h KX G hmg
  obtain ⟨S, D⟩ := F w mg h KX G
  obtain ⟨f, fd, Fn, hm, hb⟩ := S.ex
  obtain ⟨oc, od, kV, doc, pm, an, cdv, ct, osl, e, lk, hcd⟩ := Fn.ex
  refine ⟨fd, fun s u => .of_eq (hb [u] rfl), fun base _ _ => ?_⟩
  obtain ⟨f', fd', ok, hm', _, _, o, lk', ho⟩ := (D base).ex
  rw [hnm, hm] at hmg
  rw [hm] at hm'
  cases hmg
  cases hm'
  rw [lk] at lk'
  cases lk'
  cases ho
  exact ok

/-! ### rules of ours -/
section
variable {X : Cx} {x : Str} {p pos : Pos} {e : Expr} {es : List Expr} {t : TA} {j k : Nat} {ps : List Str} {sp : Sp}
theorem pe_fn (D : Def X.prog X.w X.K X.mg X.base j x ps sp) (hr : Room k X.A) (ha : PA X (e :: es) t) (hg : Gl X x := by rfl) (hj : j ≤ k := by decide) (hdb : (x == ("__debug__" : Str)) = false := by decide)
    (he : starEach (e :: es) X.env = (false, eval e X.env) :: starEach es X.env := by rfl) (hpl : (backTo pos (starEach es X.env)).any (·.1) = false := by rfl) :
    PE X (.Call (.Name x p) (e :: es) [] pos) (tCall sp [] E0 t) := by
  obtain ⟨f, fd, F, hm, hk, hb, _⟩ := D.ex
  exact pe_call F (hr.mono hj) hg hm hk (.all hb) .nil pass0 ha hdb he hpl
theorem pe_gint {i : Int} (h : ∃ t, X.mg x = some (.int i t)) (hg : Gl X x := by rfl) (hd : (x == ("__debug__" : Str)) = false := by decide) : PE X (.Name x pos) (tC (.int i)) := by
  obtain ⟨t, h⟩ := h
  exact pe_glob hg h ⟨t, rfl⟩ hd
def tGT (K : PySem.W.Frag) (xs : List V) : TE := fun _ H Q => ∀ a, (∀ H, SqT K H a xs) → Q (.ref a) H
theorem pe_gtup {xs : List V} (h : ∃ a, X.mg x = some (.ref a) ∧ ∀ H, SqT X.K H a xs) (hg : Gl X x := by rfl) (hd : (x == ("__debug__" : Str)) = false := by decide) : PE X (.Name x pos) (tGT X.K xs) := by
  obtain ⟨a, h, hs⟩ := h
  intro pins s σ H Q I hq
  exact pe_glob (v := .ref a) hg h rfl hd pins s σ H Q I (hq a hs)
theorem call_isinst : CallR X (.builtin "isinstance") (fun xs H Q => ∃ x t n b, xs = [x, .ty n] ∧ TyOf X.K H x t ∧ PySem.W.kitOne X.K t (.type n) = some b ∧ Q (.bl b) H) := by
  intro pins s σ H xs us Q I r h
  obtain ⟨x, t, n, b, rfl, ty, e, q⟩ := h
  obtain ⟨u, w', rfl, rx, rn⟩ := vals2 r
  cases rn
  exact isinst_ok I rx ty e fun tk => ⟨.bl b, H, I.tok tk, rfl, q⟩
end
/-! ### tests -/
theorem ifI {a b : Int} {A B : Prop} (h1 : a = b → A) (h2 : ¬ a = b → B) : if decide (V.int a = V.int b) = true then A else B := by
  by_cases h : a = b
  · rw [if_pos (by rw [h]; simp)]; exact h1 h
  · rw [if_neg (by simpa using h)]; exact h2 h
theorem ifD {p A B : Prop} [Decidable p] (h1 : p → A) (h2 : ¬ p → B) : if decide p = true then A else B := by
  by_cases h : p
  · rw [if_pos (by simpa using h)]; exact h1 h
  · rw [if_neg (by simpa using h)]; exact h2 h
theorem ifB {c : Bool} {A B : Prop} (h1 : c = true → A) (h2 : c = false → B) : if c = true then A else B := by
  cases c with
  | true => rw [if_pos rfl]; exact h1 rfl
  | false => rw [if_neg Bool.false_ne_true]; exact h2 rfl
theorem dI {a b : Int} : decide (V.int a = V.int b) = decide (a = b) := by
  by_cases h : a = b <;> simp [h]
/-- an item of a list of ints at a bounded place -/
theorem at_ints {ns : List Int} {k : Int} (h0 : 0 ≤ k) (h : k < (ns.length : Int)) : atI (ns.map V.int) k = some (.int (ns.getD k.toNat 0)) := by
  have hk : k.toNat < ns.length := by omega
  have q : atI (ns.map V.int) ((k.toNat : Nat) : Int) = some (.int (ns.getD k.toNat 0)) := atI_nat (by rw [List.getElem?_map, List.getElem?_eq_getElem hk, List.getD_eq_getElem?_getD, List.getElem?_eq_getElem hk] <;> rfl)
  rw [show ((k.toNat : Nat) : Int) = k by omega] at q
  exact q
theorem kit_ii {K : PySem.W.Frag} : PySem.W.kitOne K (.type "int") (.type "int") = some true := by rfl
theorem kit_ib {K : PySem.W.Frag} : PySem.W.kitOne K (.type "int") (.type "bool") = some false := by rfl
/-! ### a statement whose end is told by a word of one's own -/
def tCut (t : TS) : TS := fun D σ H => ∃ Mid : St → Hp → Prop, t { D with nx := Mid } σ H ∧ ∀ σ' H', Mid σ' H' → D.nx σ' H'
theorem ps_cut {X : Cx} {st : Stmt} {t : TS} (h : PS X st t) : PS X st (tCut t) := by
  intro pins s σ H D I ⟨Mid, hq, hm⟩
  refine thn (h pins s σ H _ I hq) fun f s' q => ?_
  cases f with
  | next =>
    obtain ⟨σ', H', I', q⟩ := q
    exact ⟨σ', H', I', hm σ' H' q⟩
  | ret v => exact q
  | brk => exact q
  | cont => exact q
theorem ty_int {K : PySem.W.Frag} {H : Hp} {x : V} (h : TyOf K H x (.type "int")) : ∃ i, x = .int i := by
  generalize e : Value.type "int" = t at h
  cases h with
  | int i => exact ⟨i, rfl⟩
  | ins => cases e
  | _ => injection e with e; exact absurd e (by decide)
theorem int_ty {K : PySem.W.Frag} {H : Hp} {i : Int} {T : String} (h : TyOf K H (.int i) (.type T)) : T = "int" := by
  cases h
  rfl
end L2
namespace L2
open PySem PySem.Spec PyProof.Rows
/-! ### list comprehensions with one clause -/
theorem noE {α : Type} {M : Model} {A : Around} {s : Shared} {t : Sem α} {Q : α → Shared → Prop} {E : Value → Shared → Prop} (h : wpAny M A t Q (fun _ _ => False) s) : wpAny M A t Q E s := wpAny_mono h (fun _ _ q => q) fun _ _ z => z.elim
section
variable {prog : Program} {w : World} {A : Around} {R : Result → Shared → Prop} {s : Shared}
/-- a turn: the item, then (where the test holds) the element, put to the list -/
theorem comp_loop {elt target iter : Expr} {scope : Scope} {pos : Pos} {it acc : Value} {env : Env} (I : Nat → Shared → Prop)
    (turn : ∀ n s, I n s → wpAny (model prog w) A (pyNext it) (fun r s₁ => match r with
      | none => R (.ok .next) s₁
      | some v => wpAny (model prog w) A (letOwnedTupleGo target it v) (fun _ s₂ => wpAny (model prog w) A (assign target env v) (fun _ s₃ => wpAny (model prog w) A (eval elt env) (fun y s₄ =>
          wpAny (model prog w) A (call (.builtin "list.append") [acc, y]) (fun _ s₅ => ∃ m, m < n ∧ I m s₅) (fun _ _ => False) s₄) (fun _ _ => False) s₃) (fun _ _ => False) s₂) (fun _ _ => False) s₁) (fun _ _ => False) s)
    (n : Nat) (h : I n s) : codeAny (model prog w) A (.compLoop (.ListComp elt [⟨target, iter, [], 0⟩] scope pos) 0 it acc env) R s := by
  refine codeAny_loop rfl I (fun n s hI => ?_) n h
  show wpAny _ _ (Sem.onRaise (compTurn (.ListComp elt [⟨target, iter, [], 0⟩] scope pos) 0 it acc env) _) _ _ s
  refine wpAny_noted (noE ?_)
  rw [compTurn_list1]
  refine wpAny_bind (wpAny_standAt (wpAny_bind (wpAny_mono (turn n s hI) (fun r s₁ h₁ => ?_) fun _ _ z => z)))
  cases r with
  | none => exact wpAny_pure h₁
  | some v =>
    refine wpAny_bind (wpAny_mono h₁ (fun _ s₂ h₂ => ?_) fun _ _ z => z)
    refine wpAny_bind (wpAny_mono h₂ (fun _ s₃ h₃ => ?_) fun _ _ z => z)
    refine wpAny_bind (wpAny_bind (wpAny_mono h₃ (fun y s₄ h₄ => ?_) fun _ _ z => z))
    refine wpAny_bind (wpAny_mono h₄ (fun _ s₅ h₅ => ?_) fun _ _ z => z)
    exact wpAny_pure (wpAny_pure ⟨rfl, h₅⟩)
theorem comp_loop_if {elt target iter c : Expr} {scope : Scope} {pos : Pos} {it acc : Value} {env : Env} (I : Nat → Shared → Prop)
    (turn : ∀ n s, I n s → wpAny (model prog w) A (pyNext it) (fun r s₁ => match r with
      | none => R (.ok .next) s₁
      | some v => wpAny (model prog w) A (letOwnedTupleGo target it v) (fun _ s₂ => wpAny (model prog w) A (assign target env v) (fun _ s₃ => wpAny (model prog w) A (isTrue c env (eval c env)) (fun b s₄ =>
          if b = true then wpAny (model prog w) A (eval elt env) (fun y s₅ =>
            wpAny (model prog w) A (call (.builtin "list.append") [acc, y]) (fun _ s₆ => ∃ m, m < n ∧ I m s₆) (fun _ _ => False) s₅) (fun _ _ => False) s₄
          else ∃ m, m < n ∧ I m s₄) (fun _ _ => False) s₃) (fun _ _ => False) s₂) (fun _ _ => False) s₁) (fun _ _ => False) s)
    (n : Nat) (h : I n s) : codeAny (model prog w) A (.compLoop (.ListComp elt [⟨target, iter, [c], 0⟩] scope pos) 0 it acc env) R s := by
  refine codeAny_loop rfl I (fun n s hI => ?_) n h
  show wpAny _ _ (Sem.onRaise (compTurn (.ListComp elt [⟨target, iter, [c], 0⟩] scope pos) 0 it acc env) _) _ _ s
  refine wpAny_noted (noE ?_)
  rw [compTurn_list]
  refine wpAny_bind (wpAny_standAt (wpAny_bind (wpAny_mono (turn n s hI) (fun r s₁ h₁ => ?_) fun _ _ z => z)))
  cases r with
  | none => exact wpAny_pure h₁
  | some v =>
    refine wpAny_bind (wpAny_mono h₁ (fun _ s₂ h₂ => ?_) fun _ _ z => z)
    refine wpAny_bind (wpAny_mono h₂ (fun _ s₃ h₃ => ?_) fun _ _ z => z)
    simp only [List.forIn_cons, List.forIn_nil, if_true, bind_assoc, pure_bind]
    refine wpAny_bind (wpAny_mono h₃ (fun b s₄ h₄ => ?_) fun _ _ z => z)
    cases b with
    | true =>
      simp only [if_true] at h₄ ⊢
      refine wpAny_bind (wpAny_mono h₄ (fun y s₅ h₅ => ?_) fun _ _ z => z)
      refine wpAny_bind (wpAny_mono h₅ (fun _ s₆ h₆ => ?_) fun _ _ z => z)
      exact wpAny_pure ⟨rfl, h₆⟩
    | false =>
      simp only [Bool.false_eq_true, if_false] at h₄ ⊢
      exact wpAny_pure ⟨rfl, h₄⟩
end
/-- the cells that the block takes over -/
def closOf (sc : Scope) (env : Env) : List (Str × Addr) := (sc.names.filterMap fun p => if p.2 == .free then (env.cells.lookup p.1).map fun c => (p.1, c) else none).reverse
/-- the block's run: its frame's dict, the state and heap ahead of it, pins, iterators -/
structure Blk where
  C : Addr
  s : Shared
  H : Hp
  pn : List (Addr × Obj)
  ex : List Addr
def Cx.block (X : Cx) (sc : Scope) (x : Str) (ix : List Nat) (b : Blk) : Cx where
  prog := X.prog
  w := X.w
  K := X.K
  mg := X.mg
  base := X.base
  A := X.A
  N := x :: ix.map fun i => X.N.getD i x
  s₀ := b.s
  H₀ := b.H
  env := compEnvC sc (closOf sc X.env) b.C X.env
  outer := X.stack
  stack := X.stack
  ex := b.ex
  fn := fun _ => false
  calm := X.calm
  pn := b.pn
  xe := fun _ _ => False
def capts (σ : St) (ix : List Nat) : St := ix.map fun i => σ.getD i none
def CapOk (X : Cx) (sc : Scope) (x : Str) (i : Nat) : Prop :=
  (X.env.kindOf (X.N.getD i x) = some .cell ∨ X.env.kindOf (X.N.getD i x) = some .free) ∧ ((relabel sc X.env).names.lookup (X.N.getD i x) = some .cell ∨ (relabel sc X.env).names.lookup (X.N.getD i x) = some .free) ∧
    (closOf sc X.env).lookup (X.N.getD i x) = X.env.cells.lookup (X.N.getD i x)
def CapsOk (X : Cx) (sc : Scope) (x : Str) : List Nat → Prop
  | [] => True
  | i :: r => CapOk X sc x i ∧ CapsOk X sc x r
theorem CapsOk.get {X : Cx} {sc : Scope} {x : Str} : ∀ {ix : List Nat}, CapsOk X sc x ix → ∀ i ∈ ix, CapOk X sc x i
  | [], _, _, h => nomatch h
  | _ :: _, h, _, hi => (List.mem_cons.mp hi).elim (fun e => e ▸ h.1) fun z => CapsOk.get h.2 _ z
def SubOk (cells : List (Str × Addr)) : List (Str × Addr) → Prop
  | [] => True
  | p :: r => cells.lookup p.1 = some p.2 ∧ SubOk cells r
theorem SubOk.get {cells : List (Str × Addr)} : ∀ {cl : List (Str × Addr)}, SubOk cells cl → ∀ y c, cl.lookup y = some c → cells.lookup y = some c
  | [], _, _, _, h => by simp at h
  | p :: r, h, y, c, e => by
    rw [List.lookup_cons] at e
    cases q : y == p.1 with
    | true =>
      rw [q] at e
      have e1 : p.2 = c := Option.some.inj e
      rw [eq_of_beq q, ← e1]
      exact h.1
    | false =>
      rw [q] at e
      exact SubOk.get h.2 y c e
def HasOk (cl : List (Str × Addr)) : List (Str × NameKind) → Prop
  | [] => True
  | p :: r => (p.2 = .cell ∨ p.2 = .free → ∃ c, cl.lookup p.1 = some c) ∧ HasOk cl r
theorem HasOk.get {cl : List (Str × Addr)} : ∀ {ns : List (Str × NameKind)}, HasOk cl ns → ∀ p ∈ ns, p.2 = .cell ∨ p.2 = .free → ∃ c, cl.lookup p.1 = some c
  | [], _, _, h => nomatch h
  | _ :: _, h, _, hp => (List.mem_cons.mp hp).elim (fun e => e ▸ h.1) fun z => HasOk.get h.2 _ z
structure CompOk (X : Cx) (sc : Scope) (x : Str) (ix : List Nat) : Prop where
  clos : closureFor sc X.env = pure (closOf sc X.env)
  cell : ∀ y ∈ sc.names, y.2 ≠ .cell
  kind : sc.kind = .function
  names : ∀ y ∈ sc.names, y.2 = .local → sc.names.lookup y.1 = some .local
  var : sc.names.lookup x = some .local
  nd : (x :: ix.map fun i => X.N.getD i x).Nodup
  cap : CapsOk X sc x ix
  sub : SubOk X.env.cells (closOf sc X.env)
  has : HasOk (closOf sc X.env) (relabel sc X.env).names
section
variable {X : Cx} {pins : List (Addr × Obj)} {σ : St} {H : Hp} {s : Shared} {sc : Scope} {x : Str} {ix : List Nat} {fp : List Addr}
theorem block_ok (I : Inv X pins σ H s) (O : CompOk X sc x ix) (hf : ∀ b ∈ fp, FpOk X pins H b) (hx : ∀ b ∈ fp, ∃ o, s.heap.get? b = some o) : (X.block sc x ix ⟨s.heap.objs.size, s, H, X.pn ++ pins, fp⟩).Ok where
  mod := I.ok.mod
  kind := O.kind
  glob := I.ok.glob
  blt := I.ok.blt
  above := Nat.le_refl _
  inj := fun y z c h1 h2 => I.ok.inj y z c (O.sub.get y c h1) (O.sub.get z c h2)
  has := fun y h => by
    have h' : (relabel sc X.env).names.lookup y = some .cell ∨ (relabel sc X.env).names.lookup y = some .free := h
    rcases h' with h' | h'
    · exact O.has.get _ (PySem.mem_of_lookup h') (.inl rfl)
    · exact O.has.get _ (PySem.mem_of_lookup h') (.inr rfl)
  cab := fun _ _ h => absurd (show false = true from h) Bool.false_ne_true
  hd := I.ok.hd
  frames := I.ok.frames
  stk := .inl rfl
  exf := fun b hb => by
    obtain ⟨o, e⟩ := hx b hb
    exact ⟨Nat.ne_of_lt (Heap.lt_size e), fun y c h => (hf b hb).2.2.2.2.1 y c (O.sub.get y c h)⟩
  bs := I.bs
  bsz := Nat.le_trans I.ok.bsz I.sz
  noex := fun b o e hb => by
    rcases (hf b hb).2.2.2.1 with z | z
    · exact I.ok.noex b o e z
    · exact absurd (Nat.lt_of_lt_of_le (Heap.lt_size e) (Nat.le_trans I.ok.bsz z)) (Nat.lt_irrefl _)
  exfs := fun b hb z => (List.mem_cons.mp (I.stkSub b z)).elim (hf b hb).2.1 (hf b hb).2.2.1
  funs := I.stack
  frf := I.stkFree
theorem block_inv {h₁ : Heap} {m : Str → Option Value} {tk : Nat} (I : Inv X pins σ H s) (O : CompOk X sc x ix) (hf : ∀ b ∈ fp, FpOk X pins H b) (hx : ∀ b ∈ fp, ∃ o, s.heap.get? b = some o)
    (hn : h₁.Ns s.heap.objs.size m) (keep : ∀ b o, s.heap.get? b = some o → h₁.get? b = some o) :
    Inv (X.block sc x ix ⟨s.heap.objs.size, s, H, X.pn ++ pins, fp⟩) [] (none :: capts σ ix) H { s with heap := h₁, toks := tk } := by
  refine ⟨block_ok I O hf hx, rfl, I.bare, Un.kept keep, ⟨m, hn, fun i y v e1 e2 _ => ?_⟩, fun y c h => ?_, I.hok.fresh (Nat.le_refl _), fun y c h => I.freeC y c (O.sub.get y c h), fun p hp => ?_, I.hok.kept keep, ?_⟩
  · cases i with
    | zero => cases e2
    | succ j =>
      have e1' : (ix.map fun i => X.N.getD i x)[j]? = some y := e1
      have e2' : (capts σ ix)[j]? = some (some v) := e2
      unfold capts at e2'
      rw [List.getElem?_map] at e1' e2'
      cases q : ix[j]? with
      | none => rw [q] at e1'; cases e1'
      | some i =>
        rw [q] at e1' e2'
        have e3 : X.N.getD i x = y := Option.some.inj e1'
        have e4 : σ.getD i none = some v := Option.some.inj e2'
        obtain ⟨c1, c2, c3⟩ := O.cap.get i (List.mem_of_getElem? q)
        rw [e3] at c1 c2 c3
        have e5 : σ[i]? = some (some v) := by
          rw [List.getD_eq_getElem?_getD] at e4
          cases z : σ[i]? with
          | none => rw [z] at e4; cases e4
          | some a => rw [z] at e4; exact congrArg some e4
        have hl : i < X.N.length := by
          rw [← I.len]
          exact (List.getElem?_eq_some_iff.mp e5).1
        have e6 : X.N[i]? = some y := by
          rw [List.getD_eq_getElem?_getD, List.getElem?_eq_getElem hl] at e3
          rw [List.getElem?_eq_getElem hl]
          exact congrArg some e3
        obtain ⟨m0, _, l0⟩ := I.loc
        have vis : Vis X.env.scope y := by
          rcases c1 with z | z
          · exact .inr (.inl z)
          · exact .inr (.inr z)
        obtain ⟨u, ru, lu⟩ := l0 i y v e6 e5 vis
        refine ⟨u, ru, ?_⟩
        rcases lu with ⟨k, _⟩ | ⟨_, c, hc, o, ho, hd⟩
        · rcases c1 with z | z
          · rw [z] at k; cases k
          · rw [z] at k; cases k
        · exact .inr ⟨c2, c, c3.trans hc, o, keep c o ho, hd⟩
  · obtain ⟨v, o, ho, hd⟩ := I.cell y c (O.sub.get y c h)
    exact ⟨v, o, keep c o ho, hd⟩
  · have hp' : p ∈ X.pn ++ pins := by
      rcases List.mem_append.mp hp with z | z
      · exact z
      · cases z
    obtain ⟨e, n, ne, nf, d⟩ := I.pin p hp'
    exact ⟨keep _ _ e, n, Nat.ne_of_lt (Heap.lt_size e), fun z => (List.mem_cons.mp (I.stkSub _ z)).elim ne nf, d⟩
  · show (none :: capts σ ix).length = (x :: ix.map fun i => X.N.getD i x).length
    simp [capts]
/-- back from the block -/
theorem block_back {pins' : List (Addr × Obj)} {σ' : St} {H' : Hp} {s' : Shared} (I : Inv X pins σ H s) (hf : ∀ b ∈ fp, FpOk X pins H b) (J : Inv (X.block sc x ix ⟨s.heap.objs.size, s, H, X.pn ++ pins, fp⟩) pins' σ' H' s') : Inv X pins σ H' s' :=
  I.call' J.os J.base J.hok J.bare fun b hb => ⟨(hf b hb).2.2.2.1, (hf b hb).2.1, (hf b hb).2.2.2.2.1, (hf b hb).2.2.2.2.2⟩
theorem Inv.addpin {b : Addr} {o : Obj} (I : Inv X pins σ H s) (e : s.heap.get? b = some o) (hn : H b = none) (hL : b ≠ X.env.locals) (hf : b ∉ X.fs) (hd : ∀ v, o.data ≠ .cell v) : Inv X (pins ++ [(b, o)]) σ H s :=
  I.pins_of fun p hp => (List.mem_append.mp hp).elim (fun z => I.pin p (List.mem_append_right _ z)) fun z => by
    have e' : p = (b, o) := by simpa using z
    subst e'
    exact ⟨e, hn, hL, hf, hd⟩
end
/-- what the block does, turn by turn: W by the turn, a measure, the list so far -/
def Turns (ix : List Nat) (te : TE) (σ : St) (J : It) (l : Addr) (R : Hp → Prop) (W : Nat → Nat → List V → Hp → Prop) : Prop :=
  ∀ i m xs H', W i m xs H' → H' l = some (.lst xs) ∧ ((J.stop i H' ∧ R H') ∨ (J.go i H' ∧ xs.length < sizeLine ∧ ∀ x H2, J.yld i H' x H2 →
    te (some x :: capts σ ix) H2 fun v H3 => H3 l = some (.lst xs) ∧ ∃ m', m' < m ∧ W (i + 1) m' (xs ++ [v]) (upd H3 l (.lst (xs ++ [v])))))
def tComp (ix : List Nat) (wi : TI) (te : TE) : TE := fun σ H Q => wi σ H fun J H1 => ∀ l, H1 l = none → ∃ W : Nat → Nat → List V → Hp → Prop, (∃ m, W 0 m [] (upd H1 l (.lst []))) ∧ Turns ix te σ J l (Q (.ref l)) W
section
variable {X : Cx} {pins : List (Addr × Obj)} {σ : St} {H : Hp} {s : Shared} {sc : Scope} {x : Str} {ix : List Nat} {fp : List Addr} {elt iter : Expr} {te : TE} {wi : TI} {px pos : Pos}
theorem comp_core {it : Addr} {tn : Nat → Heap → Prop} {J : It} {use : Option (Value → Sem Unit)} {Q : Value → Shared → Prop} {E : Value → Shared → Prop} (O : CompOk X sc x ix) (hel : ∀ b, PE (X.block sc x ix b) elt te) (hc : X.calm = true)
    (I : Inv X pins σ H s) (T : Turn X.prog X.w X.K (.Name x px) J fp it tn) (st : tn 0 s.heap) (hf : ∀ b ∈ fp, FpOk X pins H b) (R : Addr → Hp → Prop)
    (h : ∀ l, H l = none → ∃ W : Nat → Nat → List V → Hp → Prop, (∃ m, W 0 m [] (upd H l (.lst []))) ∧ Turns ix te σ J l (R l) W)
    (fin : ∀ l C m s' H', Inv X pins σ H' s' → s'.heap.Ns C m → FpOk X pins H' C → R l H' → compPost (model X.prog X.w) X.A E use Q (.ref l) C (.ok .next) s') :
    wpAny (model X.prog X.w) X.A (newList []) (fun acc s₃ => wpAny (model X.prog X.w) X.A (newFunctionEnv sc X.env.globals (closOf sc X.env) [] X.env.qual none .none (some X.env)) (fun cenv s₄ =>
      codeAny (model X.prog X.w) X.A (.compStart (.ListComp elt [⟨.Name x px, iter, [], 0⟩] sc pos) 0 (.ref it) acc { cenv with scope := relabel sc X.env }) (compPost (model X.prog X.w) X.A E use Q acc cenv.locals) s₄) E s₃) E s := by
  refine wpAny_newObj_type (wpAny_newFunctionEnv O.cell (by intro y hy; simp at hy) (fun h₁ hns hsb => ?_) O.kind)
  dsimp only at hns hsb ⊢
  have hl0 : H s.heap.objs.size = none := I.hok.fresh (Nat.le_refl _)
  obtain ⟨W, ⟨m0, w0⟩, tr⟩ := h s.heap.objs.size hl0
  have I3 : Inv X pins σ (upd H s.heap.objs.size (.lst [])) { s with heap := s.heap.push { cls := .type "list", dict := none, data := .seq ([] : List Value).toArray } } :=
    I.laid (t' := s.toks) (fun b o e => Heap.get?_push_of_some _ e) (Nat.le_refl _) ⟨Nat.zero_le _, [], 0, .nil, Heap.get?_push_size _ rfl⟩
  have ofp : ∀ b ∈ fp, ∃ o, s.heap.get? b = some o := fun b hb => by
    obtain ⟨o, e, _⟩ := T.obj 0 _ st b hb
    exact ⟨o, e⟩
  generalize e3 : s.heap.push { cls := .type "list", dict := none, data := .seq ([] : List Value).toArray } = G at I3 hns hsb ⊢
  have ofp3 : ∀ b ∈ fp, ∃ o, G.get? b = some o := fun b hb => by
    obtain ⟨o, e⟩ := ofp b hb
    exact ⟨o, by rw [← e3]; exact Heap.get?_push_of_some _ e⟩
  have nl : ∀ b ∈ fp, b ≠ s.heap.objs.size := fun b hb => by
    obtain ⟨o, e⟩ := ofp b hb
    exact Nat.ne_of_lt (Heap.lt_size e)
  have hf3 : ∀ b ∈ fp, FpOk X pins (upd H s.heap.objs.size (.lst [])) b := fun b hb => ⟨by rw [upd_ne (nl b hb)]; exact (hf b hb).1, (hf b hb).2⟩
  have keep3 : ∀ b o, G.get? b = some o → h₁.get? b = some o := fun b o e => hsb.extBut b o (Nat.ne_of_lt (Heap.lt_size e)) (Heap.get?_push_of_some _ e)
  have stk : tn 0 h₁ := T.keep _ _ _ st fun b hb o e => keep3 b o (by rw [← e3]; exact Heap.get?_push_of_some _ e)
  have J0 := block_inv (tk := s.toks + ([] : List (Str × Value)).length) I3 O hf3 ofp3 hns keep3
  -- what stays true of the iterator
  have stat : ∀ {H' : Hp}, (∀ b ∈ fp, H' b = none) → ∀ b ∈ fp, FpOk (X.block sc x ix ⟨G.objs.size, { s with heap := G }, upd H s.heap.objs.size (.lst []), X.pn ++ pins, fp⟩) [] H' b := fun hn b hb => by
    obtain ⟨o, e⟩ := ofp3 b hb
    refine ⟨hn b hb, Nat.ne_of_lt (Heap.lt_size e), fun z => (List.mem_cons.mp (I3.stkSub _ z)).elim (hf b hb).2.1 (hf b hb).2.2.1, .inl hb, fun y c q => (hf b hb).2.2.2.2.1 y c (O.sub.get y c q), fun p hp => ?_⟩
    have hp' : p ∈ X.pn ++ pins := by
      rcases List.mem_append.mp hp with z | z
      · exact z
      · cases z
    exact (hf b hb).2.2.2.2.2 p hp'
  have loop : ∀ s4 : Shared, s4 = { s with heap := h₁, toks := s.toks + ([] : List (Str × Value)).length } →
      codeAny (model X.prog X.w) X.A (.compLoop (.ListComp elt [⟨.Name x px, iter, [], 0⟩] sc pos) 0 (.ref it) (.ref s.heap.objs.size) (compEnvC sc (closOf sc X.env) G.objs.size X.env))
        (compPost (model X.prog X.w) X.A E use Q (.ref s.heap.objs.size) G.objs.size) s4 := by
    rintro s4 rfl
    refine comp_loop (fun n s' => ∃ i xs H' z, Inv (X.block sc x ix ⟨G.objs.size, { s with heap := G }, upd H s.heap.objs.size (.lst []), X.pn ++ pins, fp⟩) [] (z :: capts σ ix) H' s' ∧ tn i s'.heap ∧ (∀ b ∈ fp, H' b = none) ∧ W i n xs H') ?_ m0
      ⟨0, [], _, none, J0, stk, fun b hb => (hf3 b hb).1, w0⟩
    rintro n s5 ⟨i, xs, H5, z, I5, st5, fr5, w5⟩
    obtain ⟨hl5, h5⟩ := tr i n xs H5 w5
    rcases h5 with ⟨stop, r5⟩ | ⟨go, hz, step⟩
    · refine thn (T.done (X.block sc x ix ⟨G.objs.size, { s with heap := G }, upd H s.heap.objs.size (.lst []), X.pn ++ pins, fp⟩) rfl rfl rfl hc i [] s5 _ H5 _ I5 (stat fr5) st5 stop) fun r s6 ⟨hr, I6⟩ => ?_
      subst hr
      obtain ⟨m6, hn6, _⟩ := I6.loc
      refine fin _ _ m6 s6 H5 (block_back I3 hf3 I6) hn6 ?_ r5
      exact I3.fpOk (Nat.le_refl _) I6.free
    · refine thn (T.item (X.block sc x ix ⟨G.objs.size, { s with heap := G }, upd H s.heap.objs.size (.lst []), X.pn ++ pins, fp⟩) rfl rfl rfl hc i [] s5 _ H5 _ I5 (stat fr5) st5 go) fun r s6 ⟨u, hr, h6⟩ => ?_
      subst hr
      refine thn h6 fun _ s7 ⟨y, H7, I7, r7, y7, st7, fr7⟩ => ?_
      have I7' := I7.pinned (stat fr7) (T.obj _ _ st7)
      have lx : (relabel sc X.env).names.lookup x = some .local := lookup_relabel_local O.var
      refine thn ((pg_name (i := 0) O.nd rfl (Or.inl lx) (Or.inr lx) : PG (X.block sc x ix ⟨G.objs.size, { s with heap := G }, upd H s.heap.objs.size (.lst []), X.pn ++ pins, fp⟩) (.Name x px) (gName 0)) _ s7 _ H7 y u (fun σ' H' => σ' = some y :: capts σ ix ∧ H' = H7) I7' r7 ⟨rfl, rfl⟩) fun _ s8 ⟨σ8, H8, I8, e8, e8'⟩ => ?_
      subst e8 e8'
      refine thn (hel _ _ s8 _ H8 _ I8 (step y H8 y7)) fun v9 s9 ⟨v, H9, I9, r9, hl9, m', hm, w9⟩ => ?_
      refine thn (mt_append _ s9 _ H9 (.ref s.heap.objs.size) [v] (.ref s.heap.objs.size) [v9] (fun _ H' => H' = upd H9 s.heap.objs.size (.lst (xs ++ [v]))) I9 rfl (.cons r9 .nil) ⟨_, xs, v, rfl, rfl, hl9, hz, rfl⟩) fun _ s10 ⟨_, H10, I10, _, e10⟩ => ?_
      subst e10
      refine ⟨m', hm, i + 1, xs ++ [v], _, some y, I10.unpinned, T.keep _ _ _ st7 fun b hb o e => (I10.pin (b, o) (List.mem_append_right _ (List.mem_append_right _ (mem_pinsAt hb e)))).1, fun b hb => ?_, w9⟩
      obtain ⟨o, e, d⟩ := T.obj _ _ st7 b hb
      exact (I10.pin (b, o) (List.mem_append_right _ (List.mem_append_right _ (mem_pinsAt hb e)))).2.1
  exact codeAny_compStart_list (loop _ rfl) (T.self _ 0 _ _ _ stk (loop _ rfl))
/-- [elt for x in iter] -/
theorem pe_comp (O : CompOk X sc x ix) (hi : PI X (.Name x px) iter wi) (hel : ∀ b, PE (X.block sc x ix b) elt te) (hc : X.calm = true := by rfl) (hs : ∀ v, foldedSetIterable iter X.env v = pure v := by intro _; rfl) :
    PE X (.ListComp elt [⟨.Name x px, iter, [], 0⟩] sc pos) (tComp ix wi te) := by
  intro pins s σ H Q I h
  rw [eval_ListComp]
  refine wpAny_comprehension_free (use := none) rfl hs O.clos O.kind O.names (thn (hi pins s σ H _ I h) fun xv s1 h1 => thn h1 fun itv s2 h2 => ?_)
  obtain ⟨it, fp, tn, J, H2, e, I2, T, st2, f2, hq⟩ := h2
  subst e
  refine comp_core O hel hc I2 T st2 f2 (fun l H' => Q (.ref l) H') hq ?_
  intro l C m s' H' I' hn hf r
  refine ⟨m, hn, fun h' hb => ⟨.ref l, H', ?_, rfl, r⟩⟩
  exact I'.turned (t' := s'.toks) (fun b o hne e => hb.extBut b o hne e) hf.1 hf.2.1 hf.2.2.2.1 hf.2.2.2.2.1 hf.2.2.2.2.2
end
def TurnsIf (ix : List Nat) (tt : TT) (te : TE) (σ : St) (J : It) (l : Addr) (R : Hp → Prop) (W : Nat → Nat → List V → Hp → Prop) : Prop :=
  ∀ i m xs H', W i m xs H' → H' l = some (.lst xs) ∧ ((J.stop i H' ∧ R H') ∨ (J.go i H' ∧ xs.length < sizeLine ∧ ∀ x H2, J.yld i H' x H2 →
    tt (some x :: capts σ ix) H2 fun b H3 => if b = true then te (some x :: capts σ ix) H3 fun v H4 => H4 l = some (.lst xs) ∧ ∃ m', m' < m ∧ W (i + 1) m' (xs ++ [v]) (upd H4 l (.lst (xs ++ [v]))) else ∃ m', m' < m ∧ W (i + 1) m' xs H3))
def tCompIf (ix : List Nat) (wi : TI) (tt : TT) (te : TE) : TE := fun σ H Q => wi σ H fun J H1 => ∀ l, H1 l = none → ∃ W : Nat → Nat → List V → Hp → Prop, (∃ m, W 0 m [] (upd H1 l (.lst []))) ∧ TurnsIf ix tt te σ J l (Q (.ref l)) W
section
variable {X : Cx} {pins : List (Addr × Obj)} {σ : St} {H : Hp} {s : Shared} {sc : Scope} {x : Str} {ix : List Nat} {fp : List Addr} {elt iter c : Expr} {te : TE} {tt : TT} {wi : TI} {px pos : Pos}
theorem comp_coreIf {it : Addr} {tn : Nat → Heap → Prop} {J : It} {use : Option (Value → Sem Unit)} {Q : Value → Shared → Prop} {E : Value → Shared → Prop} (O : CompOk X sc x ix) (htt : ∀ b, PT (X.block sc x ix b) c tt) (hel : ∀ b, PE (X.block sc x ix b) elt te) (hc : X.calm = true)
    (I : Inv X pins σ H s) (T : Turn X.prog X.w X.K (.Name x px) J fp it tn) (st : tn 0 s.heap) (hf : ∀ b ∈ fp, FpOk X pins H b) (R : Addr → Hp → Prop)
    (h : ∀ l, H l = none → ∃ W : Nat → Nat → List V → Hp → Prop, (∃ m, W 0 m [] (upd H l (.lst []))) ∧ TurnsIf ix tt te σ J l (R l) W)
    (fin : ∀ l C m s' H', Inv X pins σ H' s' → s'.heap.Ns C m → FpOk X pins H' C → R l H' → compPost (model X.prog X.w) X.A E use Q (.ref l) C (.ok .next) s') :
    wpAny (model X.prog X.w) X.A (newList []) (fun acc s₃ => wpAny (model X.prog X.w) X.A (newFunctionEnv sc X.env.globals (closOf sc X.env) [] X.env.qual none .none (some X.env)) (fun cenv s₄ =>
      codeAny (model X.prog X.w) X.A (.compStart (.ListComp elt [⟨.Name x px, iter, [c], 0⟩] sc pos) 0 (.ref it) acc { cenv with scope := relabel sc X.env }) (compPost (model X.prog X.w) X.A E use Q acc cenv.locals) s₄) E s₃) E s := by
  refine wpAny_newObj_type (wpAny_newFunctionEnv O.cell (by intro y hy; simp at hy) (fun h₁ hns hsb => ?_) O.kind)
  dsimp only at hns hsb ⊢
  have hl0 : H s.heap.objs.size = none := I.hok.fresh (Nat.le_refl _)
  obtain ⟨W, ⟨m0, w0⟩, tr⟩ := h s.heap.objs.size hl0
  have I3 : Inv X pins σ (upd H s.heap.objs.size (.lst [])) { s with heap := s.heap.push { cls := .type "list", dict := none, data := .seq ([] : List Value).toArray } } :=
    I.laid (t' := s.toks) (fun b o e => Heap.get?_push_of_some _ e) (Nat.le_refl _) ⟨Nat.zero_le _, [], 0, .nil, Heap.get?_push_size _ rfl⟩
  have ofp : ∀ b ∈ fp, ∃ o, s.heap.get? b = some o := fun b hb => by
    obtain ⟨o, e, _⟩ := T.obj 0 _ st b hb
    exact ⟨o, e⟩
  generalize e3 : s.heap.push { cls := .type "list", dict := none, data := .seq ([] : List Value).toArray } = G at I3 hns hsb ⊢
  have ofp3 : ∀ b ∈ fp, ∃ o, G.get? b = some o := fun b hb => by
    obtain ⟨o, e⟩ := ofp b hb
    exact ⟨o, by rw [← e3]; exact Heap.get?_push_of_some _ e⟩
  have nl : ∀ b ∈ fp, b ≠ s.heap.objs.size := fun b hb => by
    obtain ⟨o, e⟩ := ofp b hb
    exact Nat.ne_of_lt (Heap.lt_size e)
  have hf3 : ∀ b ∈ fp, FpOk X pins (upd H s.heap.objs.size (.lst [])) b := fun b hb => ⟨by rw [upd_ne (nl b hb)]; exact (hf b hb).1, (hf b hb).2⟩
  have keep3 : ∀ b o, G.get? b = some o → h₁.get? b = some o := fun b o e => hsb.extBut b o (Nat.ne_of_lt (Heap.lt_size e)) (Heap.get?_push_of_some _ e)
  have stk : tn 0 h₁ := T.keep _ _ _ st fun b hb o e => keep3 b o (by rw [← e3]; exact Heap.get?_push_of_some _ e)
  have J0 := block_inv (tk := s.toks + ([] : List (Str × Value)).length) I3 O hf3 ofp3 hns keep3
  -- what stays true of the iterator
  have stat : ∀ {H' : Hp}, (∀ b ∈ fp, H' b = none) → ∀ b ∈ fp, FpOk (X.block sc x ix ⟨G.objs.size, { s with heap := G }, upd H s.heap.objs.size (.lst []), X.pn ++ pins, fp⟩) [] H' b := fun hn b hb => by
    obtain ⟨o, e⟩ := ofp3 b hb
    refine ⟨hn b hb, Nat.ne_of_lt (Heap.lt_size e), fun z => (List.mem_cons.mp (I3.stkSub _ z)).elim (hf b hb).2.1 (hf b hb).2.2.1, .inl hb, fun y c q => (hf b hb).2.2.2.2.1 y c (O.sub.get y c q), fun p hp => ?_⟩
    have hp' : p ∈ X.pn ++ pins := by
      rcases List.mem_append.mp hp with z | z
      · exact z
      · cases z
    exact (hf b hb).2.2.2.2.2 p hp'
  have loop : ∀ s4 : Shared, s4 = { s with heap := h₁, toks := s.toks + ([] : List (Str × Value)).length } →
      codeAny (model X.prog X.w) X.A (.compLoop (.ListComp elt [⟨.Name x px, iter, [c], 0⟩] sc pos) 0 (.ref it) (.ref s.heap.objs.size) (compEnvC sc (closOf sc X.env) G.objs.size X.env))
        (compPost (model X.prog X.w) X.A E use Q (.ref s.heap.objs.size) G.objs.size) s4 := by
    rintro s4 rfl
    refine comp_loop_if (fun n s' => ∃ i xs H' z, Inv (X.block sc x ix ⟨G.objs.size, { s with heap := G }, upd H s.heap.objs.size (.lst []), X.pn ++ pins, fp⟩) [] (z :: capts σ ix) H' s' ∧ tn i s'.heap ∧ (∀ b ∈ fp, H' b = none) ∧ W i n xs H') ?_ m0
      ⟨0, [], _, none, J0, stk, fun b hb => (hf3 b hb).1, w0⟩
    rintro n s5 ⟨i, xs, H5, z, I5, st5, fr5, w5⟩
    obtain ⟨hl5, h5⟩ := tr i n xs H5 w5
    rcases h5 with ⟨stop, r5⟩ | ⟨go, hz, step⟩
    · refine thn (T.done (X.block sc x ix ⟨G.objs.size, { s with heap := G }, upd H s.heap.objs.size (.lst []), X.pn ++ pins, fp⟩) rfl rfl rfl hc i [] s5 _ H5 _ I5 (stat fr5) st5 stop) fun r s6 ⟨hr, I6⟩ => ?_
      subst hr
      obtain ⟨m6, hn6, _⟩ := I6.loc
      refine fin _ _ m6 s6 H5 (block_back I3 hf3 I6) hn6 ?_ r5
      exact I3.fpOk (Nat.le_refl _) I6.free
    · refine thn (T.item (X.block sc x ix ⟨G.objs.size, { s with heap := G }, upd H s.heap.objs.size (.lst []), X.pn ++ pins, fp⟩) rfl rfl rfl hc i [] s5 _ H5 _ I5 (stat fr5) st5 go) fun r s6 ⟨u, hr, h6⟩ => ?_
      subst hr
      refine thn h6 fun _ s7 ⟨y, H7, I7, r7, y7, st7, fr7⟩ => ?_
      have I7' := I7.pinned (stat fr7) (T.obj _ _ st7)
      have lx : (relabel sc X.env).names.lookup x = some .local := lookup_relabel_local O.var
      refine thn ((pg_name (i := 0) O.nd rfl (Or.inl lx) (Or.inr lx) : PG (X.block sc x ix ⟨G.objs.size, { s with heap := G }, upd H s.heap.objs.size (.lst []), X.pn ++ pins, fp⟩) (.Name x px) (gName 0)) _ s7 _ H7 y u (fun σ' H' => σ' = some y :: capts σ ix ∧ H' = H7) I7' r7 ⟨rfl, rfl⟩) fun _ s8 ⟨σ8, H8, I8, e8, e8'⟩ => ?_
      subst e8 e8'
      refine thn (htt _ _ s8 _ H8 _ I8 (step y H8 y7)) fun b s9 ⟨H9, I9, q9⟩ => ?_
      have kp : ∀ {σ0 : St} {H0 : Hp} {s0 : Shared}, Inv (X.block sc x ix ⟨G.objs.size, { s with heap := G }, upd H s.heap.objs.size (.lst []), X.pn ++ pins, fp⟩) ([] ++ pinsAt fp s7.heap) σ0 H0 s0 → tn (i + 1) s0.heap ∧ ∀ b ∈ fp, H0 b = none := fun {σ0 H0 s0} I0 => by
        refine ⟨T.keep _ _ _ st7 fun b hb o e => (I0.pin (b, o) (List.mem_append_right _ (List.mem_append_right _ (mem_pinsAt hb e)))).1, fun b hb => ?_⟩
        obtain ⟨o, e, d⟩ := T.obj _ _ st7 b hb
        exact (I0.pin (b, o) (List.mem_append_right _ (List.mem_append_right _ (mem_pinsAt hb e)))).2.1
      cases b with
      | false =>
        rw [if_neg Bool.false_ne_true] at q9 ⊢
        obtain ⟨m', hm, w9⟩ := q9
        exact ⟨m', hm, i + 1, xs, _, some y, I9.unpinned, (kp I9).1, (kp I9).2, w9⟩
      | true =>
        rw [if_pos rfl] at q9 ⊢
        refine thn (hel _ _ s9 _ H9 _ I9 q9) fun v9 s10 ⟨v, H10, I10, r10, hl10, m', hm, w10⟩ => ?_
        refine thn (mt_append _ s10 _ H10 (.ref s.heap.objs.size) [v] (.ref s.heap.objs.size) [v9] (fun _ H' => H' = upd H10 s.heap.objs.size (.lst (xs ++ [v]))) I10 rfl (.cons r10 .nil) ⟨_, xs, v, rfl, rfl, hl10, hz, rfl⟩) fun _ s11 ⟨_, H11, I11, _, e11⟩ => ?_
        subst e11
        exact ⟨m', hm, i + 1, xs ++ [v], _, some y, I11.unpinned, (kp I11).1, (kp I11).2, w10⟩
  exact codeAny_compStart_list (loop _ rfl) (T.self _ 0 _ _ _ stk (loop _ rfl))
/-- [elt for x in iter if c] -/
theorem pe_compIf (O : CompOk X sc x ix) (hi : PI X (.Name x px) iter wi) (htt : ∀ b, PT (X.block sc x ix b) c tt) (hel : ∀ b, PE (X.block sc x ix b) elt te) (hc : X.calm = true := by rfl) (hs : ∀ v, foldedSetIterable iter X.env v = pure v := by intro _; rfl) :
    PE X (.ListComp elt [⟨.Name x px, iter, [c], 0⟩] sc pos) (tCompIf ix wi tt te) := by
  intro pins s σ H Q I h
  rw [eval_ListComp]
  refine wpAny_comprehension_free (use := none) rfl hs O.clos O.kind O.names (thn (hi pins s σ H _ I h) fun xv s1 h1 => thn h1 fun itv s2 h2 => ?_)
  obtain ⟨it, fp, tn, J, H2, e, I2, T, st2, f2, hq⟩ := h2
  subst e
  refine comp_coreIf O htt hel hc I2 T st2 f2 (fun l H' => Q (.ref l) H') hq ?_
  intro l C m s' H' I' hn hf r
  refine ⟨m, hn, fun h' hb => ⟨.ref l, H', ?_, rfl, r⟩⟩
  exact I'.turned (t' := s'.toks) (fun b o hne e => hb.extBut b o hne e) hf.1 hf.2.1 hf.2.2.2.1 hf.2.2.2.2.1 hf.2.2.2.2.2
end
theorem same_new {H : Hp} {p : Addr} (h : H p = none) (o : HO) : Same H (upd H p o) := fun b u q => by rw [upd_ne (ne_of_none q h)]; exact q
section
variable {X : Cx}
theorem intsAre_vals : ∀ {ns : List Int} {us : List Value}, Vals (ns.map V.int) us → IntsAre us ns
  | [], _, .nil => .nil
  | n :: ns, _, .cons ⟨t, e⟩ r => by
    subst e
    exact .cons n t (intsAre_vals r)
end
end L2
namespace L2
open PySem PySem.Spec PyProof.Rows
/-! ### == and != by data -/
mutual
inductive RdV (K : PySem.W.Frag) (H : Hp) : V → PyData → Prop
  | non : RdV K H .non .none
  | bl (b : Bool) : RdV K H (.bl b) (.bool b)
  | int (i : Int) : RdV K H (.int i) (.int i)
  | str (x : Str) : RdV K H (.str x) (.str x)
  | lst {a : Addr} {xs : List V} {ds : List PyData} : SqL K H a xs → RdVs K H xs ds → RdV K H (.ref a) (.list ds)
  | tup {a : Addr} {xs : List V} {ds : List PyData} : SqT K H a xs → RdVs K H xs ds → RdV K H (.ref a) (.tuple ds)
inductive RdVs (K : PySem.W.Frag) (H : Hp) : List V → List PyData → Prop
  | nil : RdVs K H [] []
  | cons {x : V} {d : PyData} {xs : List V} {ds : List PyData} : RdV K H x d → RdVs K H xs ds → RdVs K H (x :: xs) (d :: ds)
end
theorem RdVs.ints {K : PySem.W.Frag} {H : Hp} : ∀ ns : List Int, RdVs K H (ns.map V.int) (ns.map PyData.int)
  | [] => .nil
  | n :: r => .cons (.int n) (RdVs.ints r)
section
variable {X : Cx} {pins : List (Addr × Obj)} {σ : St} {H : Hp} {s : Shared} {pos : Pos}
mutual
theorem RdV.reads (I : Inv X pins σ H s) : ∀ {x : V} {d : PyData} {u : Value}, RdV X.K H x d → RelV x u → ∃ as, Reads s.heap u d as
  | _, _, _, .non, r => by cases r; exact ⟨_, .none⟩
  | _, _, _, .bl b, r => by cases r; exact ⟨_, .bool b⟩
  | _, _, _, .int i, r => by obtain ⟨t, rfl⟩ := r; exact ⟨_, .int i t⟩
  | _, _, _, .str x, r => by obtain ⟨t, rfl⟩ := r; exact ⟨_, .str x t⟩
  | _, _, _, .lst h hs, r => by
    cases r
    obtain ⟨its, rv, pl, hz⟩ := I.list h
    obtain ⟨as, q⟩ := RdVs.reads I hs rv
    obtain ⟨o, n, e, c, hd, dt⟩ := pl
    exact ⟨_, reads_list_at e c dt (by simpa using q)⟩
  | _, _, _, .tup h hs, r => by
    cases r
    obtain ⟨its, rv, pl, hz⟩ := I.tuple h
    obtain ⟨as, q⟩ := RdVs.reads I hs rv
    obtain ⟨o, e, c, n, dt⟩ := pl
    exact ⟨_, reads_tuple_at e c dt (by simpa using q)⟩
theorem RdVs.reads (I : Inv X pins σ H s) : ∀ {xs : List V} {ds : List PyData} {us : List Value}, RdVs X.K H xs ds → Vals xs us → ∃ as, ReadsAll s.heap us ds as
  | _, _, _, .nil, .nil => ⟨_, .nil⟩
  | _, _, _, .cons h hs, .cons r rs => by
    obtain ⟨as, q⟩ := RdV.reads I h r
    obtain ⟨bs, q'⟩ := RdVs.reads I hs rs
    exact ⟨_, .cons q q'⟩
end
def rNeD (K : PySem.W.Frag) : R2 := fun x y H Q => ∃ d e, RdV K H x d ∧ RdV K H y e ∧ SeqAt.shaped d = true ∧ SeqAt.shaped e = true ∧ Q (.bl (!PyData.eqv d e)) H
theorem op_neD (hu : X.A.units + 64 < cLine) : OpR X (compareOp .NotEq) (rNeD X.K) := by
  intro pins s σ H x y v u Q I rx ry h
  obtain ⟨d, e, hd, he, sd, se, q⟩ := h
  obtain ⟨as, ra⟩ := hd.reads I rx
  obtain ⟨bs, rb⟩ := he.reads I ry
  exact ne_dataH ra rb sd se hu ⟨.bl _, H, I, rfl, q⟩
end
/-! ### isinstance of the plain kinds -/
def kinds : List String := ["NoneType", "bool", "int", "str", "list", "tuple", "dict"]
theorem kit_int {K : PySem.W.Frag} {T : String} (h : T ∈ kinds) : PySem.W.kitOne K (.type T) (.type "int") = some (decide (T = "int" ∨ T = "bool")) := by
  simp only [kinds, List.mem_cons, List.not_mem_nil, or_false] at h
  rcases h with rfl | rfl | rfl | rfl | rfl | rfl | rfl <;> rfl
theorem kit_bool {K : PySem.W.Frag} {T : String} (h : T ∈ kinds) : PySem.W.kitOne K (.type T) (.type "bool") = some (decide (T = "bool")) := by
  simp only [kinds, List.mem_cons, List.not_mem_nil, or_false] at h
  rcases h with rfl | rfl | rfl | rfl | rfl | rfl | rfl <;> rfl
/-- a flat thing or one of the three kinds of containers -/
def IsKind (K : PySem.W.Frag) (H : Hp) (x : V) (T : String) : Prop := TyOf K H x (.type T) ∧ T ∈ kinds
theorem iteNT {A B : Prop} (h : B) : if (!true) = true then A else B := iteF (A := A) h
theorem ifND {p A B : Prop} [Decidable p] (h1 : ¬ p → A) (h2 : p → B) : if (!decide p) = true then A else B := by
  by_cases h : p
  · rw [if_neg (by simpa using h)]; exact h2 h
  · rw [if_pos (by simpa using h)]; exact h1 h
/-- a power of two written numbers -/
theorem pe_powc {X : Cx} {a b v : Int} {j j' : Nat} {p p' pos : Pos} (h : a ^ b.toNat = v) (hb : CPow a b) : PE X (.BinOp (.Constant (.int a) j p) .Pow (.Constant (.int b) j' p') pos) (tC (.int v)) := by
  intro pins s σ H Q I hq
  exact pe_op op_pow pe_int pe_int pins s σ H Q I ⟨_, _, rfl, rfl, hb, by show Q (V.int (a ^ b.toNat)) H; rw [h]; exact hq⟩
end L2
namespace L2
open PySem PySem.Spec PyProof.Rows
/-! ### an exception that flies -/
theorem ObjOk.get {P : Program} {w : World} {H : Hp} {h : Heap} {a : Addr} {o : HO} (x : ObjOk P w H h a o) : ∃ u, h.get? a = some u := by
  cases o with
  | lst xs => obtain ⟨_, _, _, _, e⟩ := x; exact ⟨_, e⟩
  | tup xs => obtain ⟨_, _, _, _, e, _⟩ := x; exact ⟨_, e⟩
  | dK kvs => obtain ⟨_, _, _, _, _, _, _, e, _⟩ := x; exact ⟨_, e⟩
  | set S n => obtain ⟨_, _, _, _, e, _⟩ := x; exact ⟨_, e⟩
  | ins C dx fs => obtain ⟨_, _, _, e, _⟩ := x; exact ⟨_, e⟩
  | own y => exact x
  | xd fs => obtain ⟨_, ⟨_, _, _, e, _⟩, _⟩ := x; exact ⟨_, e⟩
  | rng lo hi => obtain ⟨_, _, _, e⟩ := x; exact ⟨_, e⟩
  | frz ob u => obtain ⟨e, _⟩ := x; exact ⟨_, e⟩
  | tbl ps => exact ⟨_, (show h.get? a = some _ from x)⟩
  | met f y => exact ⟨_, (show h.get? a = some _ from x)⟩
  | ext φ => obtain ⟨_, e, _⟩ := x; exact e
theorem HOk.gone {P : Program} {w : World} {H : Hp} {h : Heap} {a : Addr} (x : HOk P w H h) (e : h.get? a = none) : H a = none := by
  cases q : H a with
  | none => rfl
  | some o =>
    obtain ⟨u, z⟩ := (x a o q).get
    rw [e] at z; cases z
section
variable {X : Cx} {pins : List (Addr × Obj)} {σ : St} {H : Hp} {s : Shared} {h' : Heap} {hid : List Addr}
end
section
variable {P : Program} {w : World} {K : PySem.W.Frag} {mg : Str → Option Value} {base : Heap} {N : List Str} {qual : Str} {scope : Scope} {f : Addr} {cd : Value} {A : Around} {outer : List Env} {s₀ : Shared} {H₀ : Hp} {E : XK}
end
section
variable {P : Program} {w : World} {K : PySem.W.Frag} {mg : Str → Option Value} {base : Heap} {x : Str} {st : Stmt} {N ps : List Str} {k : Nat} {sp : Sp}
end
section
variable {X : Cx} {x : Str} {p pos : Pos} {e : Expr} {es : List Expr} {t : TA} {j k : Nat} {ps : List Str} {sp : Sp}
end
/-- the address of the class of that name -/
def cA (K : PySem.W.Frag) (x : Str) : Addr := match PySem.W.nsIn K mainGlobals x with
  | some (some (.ref C)) => C
  | _ => 0
theorem cA_of {K : PySem.W.Frag} {x : Str} {C : Addr} (e : PySem.W.nsIn K mainGlobals x = some (some (.ref C))) : cA K x = C := by unfold cA; rw [e]
section
variable {X : Cx} {x : Str} {np cpos pos : Pos} {e0 : Expr} {rest : List Expr} {t : TA} {E : XK}
end
section
open PySem.Builtin PySem.Builtin.ObjectAttr PySem.Builtin.Getset_descriptor
variable {prog : Program} {w : World} {A : Around} {E : Value → Shared → Prop} {s : Shared} {K : PySem.W.Frag} {e C : Addr} {oe : Obj}
end
end L2
namespace L2
open PySem PySem.Spec PyProof.Rows
section
variable {K : PySem.W.Frag} {e C : Addr}
end
section
variable {X : Cx}
end
section
variable {X : Cx} {pins : List (Addr × Obj)} {σ : St} {H : Hp} {s : Shared} {e : Addr}
theorem Inv.track {o : HO} (I : Inv X pins σ H s) (hn : H e = none) (h0 : X.s₀.heap.get? e = none) (hL : e ≠ X.env.locals) (hC : ∀ x c, X.env.cells.lookup x = some c → c ≠ e) (hp : ∀ p ∈ X.pn ++ pins, p.1 ≠ e)
    (new : ObjOk X.prog X.w (upd H e o) s.heap e o) : Inv X pins σ (upd H e o) s := by
  refine ⟨I.ok, I.os, I.bare, ⟨I.base.keep, I.base.slot, fun b u q n hx => ?_, I.base.there, fun b xs q => ?_, fun b u v q => ?_, fun b ps q => ?_⟩, I.loc, I.cell, ?_, fun x c q => ?_, fun p q => ?_, fun b u q => ?_, I.len⟩
  · rw [upd_ne (fun z => by rw [z, h0] at q; cases q)]
    exact I.base.free b u q n hx
  · have z := I.base.tups b xs q
    rw [upd_ne (ne_of_none z hn)]; exact z
  · have z := I.base.frzs b u v q
    rw [upd_ne (ne_of_none z hn)]; exact z
  · obtain ⟨more, z⟩ := I.base.tbls b ps q
    exact ⟨more, by rw [upd_ne (ne_of_none z hn)]; exact z⟩
  · rw [upd_ne (Ne.symm hL)]; exact I.free
  · rw [upd_ne (hC x c q)]; exact I.freeC x c q
  · obtain ⟨a, b, c, d, f⟩ := I.pin p q
    exact ⟨a, by rw [upd_ne (hp p q)]; exact b, c, d, f⟩
  · by_cases hb : b = e
    · subst hb
      rw [upd_same] at q; cases q
      exact new
    · rw [upd_ne hb] at q
      exact (I.hok b u q).stay (fun _ _ _ z => z) (fun c z => by rw [upd_ne (ne_of_none z hn)]; exact z) fun c xs z => by rw [upd_ne (ne_of_none z hn)]; exact z
end
end L2
namespace L2
open PySem PySem.Spec PyProof.Rows
/-! ### the facts of classes, as they stand behind the top -/
section
variable {K : PySem.W.Frag} {h : Heap} {mg : Str → Option Value} {x y : Str} {C D : Addr} {v : Bool} {n : String}
theorem nsHave (X : K.In h) (a : PySem.W.nsIn K mainGlobals x = some (some (.ref C))) : PySem.W.nsIn K mainGlobals x = some (some (.ref C)) := a
theorem m_mk (X : K.In h) (G : h.Ns mainGlobals mg) (a : PySem.W.nsIn K mainGlobals x = some (some (.ref C))) : mg x = some (.ref (cA K x)) := by
  rw [cA_of a]; exact PySem.W.mg_of X G a
theorem kit_mk (a : PySem.W.nsIn K mainGlobals x = some (some (.ref C))) (b : PySem.W.nsIn K mainGlobals y = some (some (.ref D))) (q : PySem.W.kitOne K (.ref C) (.ref D) = some v) : PySem.W.kitOne K (.ref (cA K x)) (.ref (cA K y)) = some v := by
  rw [cA_of a, cA_of b]; exact q
theorem kitB_mk (a : PySem.W.nsIn K mainGlobals x = some (some (.ref C))) (q : PySem.W.kitOne K (.ref C) (.type n) = some v) : PySem.W.kitOne K (.ref (cA K x)) (.type n) = some v := by
  rw [cA_of a]; exact q
end
end L2
namespace L2
open PySem PySem.Spec PyProof.Rows
section
variable {P : Program} {w : World} {K : PySem.W.Frag} {mg : Str → Option Value} {base : Heap} {x : Str} {st : Stmt} {N ps : List Str} {k : Nat} {sp : Sp}
end
section
variable {X : Cx} {x : Str} {p pos : Pos} {e : Expr} {es : List Expr} {t : TA} {j k : Nat} {ps : List Str} {sp : Sp}
end
/-! ### lists by what is true of each item -/
theorem at_mem {xs : List V} {k : Int} (h0 : 0 ≤ k) (h : k < (xs.length : Int)) : ∃ v, atI xs k = some v ∧ v ∈ xs := by
  have hk : k.toNat < xs.length := by omega
  have q : atI xs ((k.toNat : Nat) : Int) = some xs[k.toNat] := atI_nat (List.getElem?_eq_getElem hk)
  rw [show ((k.toNat : Nat) : Int) = k by omega] at q
  exact ⟨_, q, List.getElem_mem hk⟩
theorem mem1 {v : V} {xs : List V} {p : V → Prop} (h : p v) (t : ∀ x ∈ xs, p x) : ∀ x ∈ v :: xs, p x := fun x hx => by
  rcases List.mem_cons.mp hx with rfl | hx
  · exact h
  · exact t x hx
theorem mem0 {p : V → Prop} : ∀ x ∈ ([] : List V), p x := fun x hx => by cases hx
theorem same_gone {H H' : Hp} {a : Addr} (s : Same H H') (h : H' a = none) : H a = none := by
  cases q : H a with
  | none => rfl
  | some o => rw [s a o q] at h; cases h
/-- a list that is newer than H is changed -/
theorem same_put {H H' : Hp} {l : Addr} {o : HO} (s : Same H H') (h : H l = none) : Same H (upd H' l o) := fun b u q => by
  rw [upd_ne (ne_of_none q h)]; exact s b u q
/-! ### lists of ints as data -/
theorem canLay_ints : ∀ ns : List Int, PyData.canLayAll0 (ns.map PyData.int) = true
  | [] => by simp [PyData.canLayAll0]
  | n :: ns => by simp [PyData.canLayAll0, PyData.canLay0, canLay_ints ns]
theorem depth_ints : ∀ ns : List Int, PyData.depthAll (ns.map PyData.int) = 0
  | [] => by simp [PyData.depthAll]
  | n :: ns => by simp [PyData.depthAll, PyData.depth, depth_ints ns]
theorem shaped_ints (ns : List Int) : SeqAt.shaped (.list (ns.map PyData.int)) = true := by
  simp [SeqAt.shaped, PyData.canLay0, PyData.depth, canLay_ints, depth_ints]
theorem eqvAll_ints : ∀ ns : List Int, PyData.eqvAll (ns.map PyData.int) (ns.map PyData.int) = true
  | [] => by simp [PyData.eqvAll]
  | n :: ns => by simp [PyData.eqvAll, PyData.eqv, eqvAll_ints ns]
theorem eqv_ints (ns : List Int) : PyData.eqv (.list (ns.map PyData.int)) (.list (ns.map PyData.int)) = true := by
  simp [PyData.eqv, eqvAll_ints]
end L2
namespace L2
open PySem PySem.W PyProof.Rows
def tSeqN (t u : TS) : TS := tSeq t u
theorem pss_consN {X : Cx} {st : Stmt} {rest : List Stmt} {t u : TS} (h1 : PS X st t) (h2 : PSs X rest u) : PSs X (st :: rest) (tSeqN t u) := pss_cons h1 h2
def Mkd (p : Prop) : Prop := p
variable {t1 t2 t3 t4 t5 t6 t7 t8 t9 t10 : TS} {D : Ends} {σ : St} {H : Hp}
theorem sqG (h : Mkd (tSeqN t1 t2 D σ H)) : tSeqN t1 t2 D σ H := h
theorem sqN2 (h : let v1 := t2; tSeq t1 v1 D σ H) : Mkd ((tSeqN t1 t2) D σ H) := h
theorem sqN3 (h : let v2 := t3; let v1 := tSeq t2 v2; tSeq t1 v1 D σ H) : Mkd ((tSeqN t1 (tSeqN t2 t3)) D σ H) := h
theorem sqN4 (h : let v3 := t4; let v2 := tSeq t3 v3; let v1 := tSeq t2 v2; tSeq t1 v1 D σ H) : Mkd ((tSeqN t1 (tSeqN t2 (tSeqN t3 t4))) D σ H) := h
theorem sqN5 (h : let v4 := t5; let v3 := tSeq t4 v4; let v2 := tSeq t3 v3; let v1 := tSeq t2 v2; tSeq t1 v1 D σ H) : Mkd ((tSeqN t1 (tSeqN t2 (tSeqN t3 (tSeqN t4 t5)))) D σ H) := h
theorem sqN6 (h : let v5 := t6; let v4 := tSeq t5 v5; let v3 := tSeq t4 v4; let v2 := tSeq t3 v3; let v1 := tSeq t2 v2; tSeq t1 v1 D σ H) : Mkd ((tSeqN t1 (tSeqN t2 (tSeqN t3 (tSeqN t4 (tSeqN t5 t6))))) D σ H) := h
theorem sqN7 (h : let v6 := t7; let v5 := tSeq t6 v6; let v4 := tSeq t5 v5; let v3 := tSeq t4 v4; let v2 := tSeq t3 v3; let v1 := tSeq t2 v2; tSeq t1 v1 D σ H) : Mkd ((tSeqN t1 (tSeqN t2 (tSeqN t3 (tSeqN t4 (tSeqN t5 (tSeqN t6 t7)))))) D σ H) := h
theorem sqN8 (h : let v7 := t8; let v6 := tSeq t7 v7; let v5 := tSeq t6 v6; let v4 := tSeq t5 v5; let v3 := tSeq t4 v4; let v2 := tSeq t3 v3; let v1 := tSeq t2 v2; tSeq t1 v1 D σ H) : Mkd ((tSeqN t1 (tSeqN t2 (tSeqN t3 (tSeqN t4 (tSeqN t5 (tSeqN t6 (tSeqN t7 t8))))))) D σ H) := h
theorem sqN9 (h : let v8 := t9; let v7 := tSeq t8 v8; let v6 := tSeq t7 v7; let v5 := tSeq t6 v6; let v4 := tSeq t5 v5; let v3 := tSeq t4 v4; let v2 := tSeq t3 v3; let v1 := tSeq t2 v2; tSeq t1 v1 D σ H) : Mkd ((tSeqN t1 (tSeqN t2 (tSeqN t3 (tSeqN t4 (tSeqN t5 (tSeqN t6 (tSeqN t7 (tSeqN t8 t9)))))))) D σ H) := h
theorem sqN10 (h : let v9 := t10; let v8 := tSeq t9 v9; let v7 := tSeq t8 v8; let v6 := tSeq t7 v7; let v5 := tSeq t6 v6; let v4 := tSeq t5 v5; let v3 := tSeq t4 v4; let v2 := tSeq t3 v3; let v1 := tSeq t2 v2; tSeq t1 v1 D σ H) : Mkd ((tSeqN t1 (tSeqN t2 (tSeqN t3 (tSeqN t4 (tSeqN t5 (tSeqN t6 (tSeqN t7 (tSeqN t8 (tSeqN t9 t10))))))))) D σ H) := h
inductive Ee4 {α0 α1 α2 α3 : Type} (p : α0 → α1 → α2 → α3 → Prop) : Prop | mk (x0 : α0) (x1 : α1) (x2 : α2) (x3 : α3) (h : p x0 x1 x2 x3) : Ee4 p
inductive Ee5 {α0 α1 α2 α3 α4 : Type} (p : α0 → α1 → α2 → α3 → α4 → Prop) : Prop | mk (x0 : α0) (x1 : α1) (x2 : α2) (x3 : α3) (x4 : α4) (h : p x0 x1 x2 x3 x4) : Ee5 p
inductive Ee6 {α0 α1 α2 α3 α4 α5 : Type} (p : α0 → α1 → α2 → α3 → α4 → α5 → Prop) : Prop | mk (x0 : α0) (x1 : α1) (x2 : α2) (x3 : α3) (x4 : α4) (x5 : α5) (h : p x0 x1 x2 x3 x4 x5) : Ee6 p
inductive Ee7 {α0 α1 α2 α3 α4 α5 α6 : Type} (p : α0 → α1 → α2 → α3 → α4 → α5 → α6 → Prop) : Prop | mk (x0 : α0) (x1 : α1) (x2 : α2) (x3 : α3) (x4 : α4) (x5 : α5) (x6 : α6) (h : p x0 x1 x2 x3 x4 x5 x6) : Ee7 p
inductive Ee8 {α0 α1 α2 α3 α4 α5 α6 α7 : Type} (p : α0 → α1 → α2 → α3 → α4 → α5 → α6 → α7 → Prop) : Prop | mk (x0 : α0) (x1 : α1) (x2 : α2) (x3 : α3) (x4 : α4) (x5 : α5) (x6 : α6) (x7 : α7) (h : p x0 x1 x2 x3 x4 x5 x6 x7) : Ee8 p
inductive Ee9 {α0 α1 α2 α3 α4 α5 α6 α7 α8 : Type} (p : α0 → α1 → α2 → α3 → α4 → α5 → α6 → α7 → α8 → Prop) : Prop | mk (x0 : α0) (x1 : α1) (x2 : α2) (x3 : α3) (x4 : α4) (x5 : α5) (x6 : α6) (x7 : α7) (x8 : α8) (h : p x0 x1 x2 x3 x4 x5 x6 x7 x8) : Ee9 p
inductive Ee10 {α0 α1 α2 α3 α4 α5 α6 α7 α8 α9 : Type} (p : α0 → α1 → α2 → α3 → α4 → α5 → α6 → α7 → α8 → α9 → Prop) : Prop | mk (x0 : α0) (x1 : α1) (x2 : α2) (x3 : α3) (x4 : α4) (x5 : α5) (x6 : α6) (x7 : α7) (x8 : α8) (x9 : α9) (h : p x0 x1 x2 x3 x4 x5 x6 x7 x8 x9) : Ee10 p
inductive Ee11 {α0 α1 α2 α3 α4 α5 α6 α7 α8 α9 α10 : Type} (p : α0 → α1 → α2 → α3 → α4 → α5 → α6 → α7 → α8 → α9 → α10 → Prop) : Prop | mk (x0 : α0) (x1 : α1) (x2 : α2) (x3 : α3) (x4 : α4) (x5 : α5) (x6 : α6) (x7 : α7) (x8 : α8) (x9 : α9) (x10 : α10) (h : p x0 x1 x2 x3 x4 x5 x6 x7 x8 x9 x10) : Ee11 p
inductive Ee12 {α0 α1 α2 α3 α4 α5 α6 α7 α8 α9 α10 α11 : Type} (p : α0 → α1 → α2 → α3 → α4 → α5 → α6 → α7 → α8 → α9 → α10 → α11 → Prop) : Prop | mk (x0 : α0) (x1 : α1) (x2 : α2) (x3 : α3) (x4 : α4) (x5 : α5) (x6 : α6) (x7 : α7) (x8 : α8) (x9 : α9) (x10 : α10) (x11 : α11) (h : p x0 x1 x2 x3 x4 x5 x6 x7 x8 x9 x10 x11) : Ee12 p
inductive Aa3 (a0 a1 a2 : Prop) : Prop | mk (h0 : a0) (h1 : a1) (h2 : a2) : Aa3 a0 a1 a2
inductive Aa4 (a0 a1 a2 a3 : Prop) : Prop | mk (h0 : a0) (h1 : a1) (h2 : a2) (h3 : a3) : Aa4 a0 a1 a2 a3
inductive Aa5 (a0 a1 a2 a3 a4 : Prop) : Prop | mk (h0 : a0) (h1 : a1) (h2 : a2) (h3 : a3) (h4 : a4) : Aa5 a0 a1 a2 a3 a4
inductive Aa6 (a0 a1 a2 a3 a4 a5 : Prop) : Prop | mk (h0 : a0) (h1 : a1) (h2 : a2) (h3 : a3) (h4 : a4) (h5 : a5) : Aa6 a0 a1 a2 a3 a4 a5
inductive Aa7 (a0 a1 a2 a3 a4 a5 a6 : Prop) : Prop | mk (h0 : a0) (h1 : a1) (h2 : a2) (h3 : a3) (h4 : a4) (h5 : a5) (h6 : a6) : Aa7 a0 a1 a2 a3 a4 a5 a6
inductive Aa8 (a0 a1 a2 a3 a4 a5 a6 a7 : Prop) : Prop | mk (h0 : a0) (h1 : a1) (h2 : a2) (h3 : a3) (h4 : a4) (h5 : a5) (h6 : a6) (h7 : a7) : Aa8 a0 a1 a2 a3 a4 a5 a6 a7
inductive Aa9 (a0 a1 a2 a3 a4 a5 a6 a7 a8 : Prop) : Prop | mk (h0 : a0) (h1 : a1) (h2 : a2) (h3 : a3) (h4 : a4) (h5 : a5) (h6 : a6) (h7 : a7) (h8 : a8) : Aa9 a0 a1 a2 a3 a4 a5 a6 a7 a8
inductive Aa10 (a0 a1 a2 a3 a4 a5 a6 a7 a8 a9 : Prop) : Prop | mk (h0 : a0) (h1 : a1) (h2 : a2) (h3 : a3) (h4 : a4) (h5 : a5) (h6 : a6) (h7 : a7) (h8 : a8) (h9 : a9) : Aa10 a0 a1 a2 a3 a4 a5 a6 a7 a8 a9
inductive Aa13 (a0 a1 a2 a3 a4 a5 a6 a7 a8 a9 a10 a11 a12 : Prop) : Prop | mk (h0 : a0) (h1 : a1) (h2 : a2) (h3 : a3) (h4 : a4) (h5 : a5) (h6 : a6) (h7 : a7) (h8 : a8) (h9 : a9) (h10 : a10) (h11 : a11) (h12 : a12) : Aa13 a0 a1 a2 a3 a4 a5 a6 a7 a8 a9 a10 a11 a12
end L2
namespace L2
open PySem PySem.Spec PyProof.Rows
section
variable {prog : Program} {w : World} {A : Around} {E : Value → Shared → Prop} {s : Shared} {K : PySem.W.Frag} {e C f : Addr} {oe : Obj}
end
section
open PySem.Builtin PySem.Builtin.ObjectAttr
variable {prog : Program} {w : World} {A : Around} {E : Value → Shared → Prop} {s : Shared} {K : PySem.W.Frag} {e C f dx : Addr} {oe : Obj} {vs : Array Value} {mA : Str → Option Value} {name : Str} {v : Value}
end
section
open PySem.Builtin PySem.Builtin.ObjectAttr
variable {prog : Program} {w : World} {A : Around} {E : Value → Shared → Prop} {s : Shared} {K : PySem.W.Frag} {x C f dx : Addr} {o : Obj} {vs : Array Value} {mA : Str → Option Value} {name : Str} {v : Value}
set_option maxHeartbeats 2000000 in
end
section
variable {X : Cx} {pins : List (Addr × Obj)} {σ : St} {H : Hp} {s : Shared} {e : Addr}
theorem Inv.freshX (I : Inv X pins σ H s) (hn : s.heap.get? e = none) (hex : X.ex = []) : X.s₀.heap.get? e = none ∧ e ≠ X.env.locals ∧ (∀ x c, X.env.cells.lookup x = some c → c ≠ e) ∧ ∀ p ∈ X.pn ++ pins, p.1 ≠ e := by
  refine ⟨?_, fun z => ?_, fun x c q z => ?_, fun p hp z => ?_⟩
  · cases q : X.s₀.heap.get? e with
    | none => rfl
    | some o =>
      obtain ⟨o', e1⟩ := I.base.there e o q (by rw [hex]; simp)
      rw [hn] at e1; cases e1
  · obtain ⟨m, ⟨o, es, ep, ho, _⟩, _⟩ := I.loc
    rw [← z, hn] at ho; cases ho
  · obtain ⟨v, o, ho, hd⟩ := I.cell x c q
    rw [z, hn] at ho; cases ho
  · have := (I.pin p hp).1
    rw [z, hn] at this; cases this
theorem Inv.trackNew {o : HO} {h' : Heap} {t' : Nat} (I : Inv X pins σ H s) (k : ∀ b u, s.heap.get? b = some u → h'.get? b = some u) (hn : s.heap.get? e = none) (hex : X.ex = []) (new : ObjOk X.prog X.w (upd H e o) h' e o) :
    Inv X pins σ (upd H e o) { s with heap := h', toks := t' } :=
  let ⟨a, b, c, d⟩ := I.freshX hn hex
  (I.kept (t' := t') k).track (I.hok.gone hn) a b c d new
end
section
variable {X : Cx} {x : Str} {np pos : Pos} {e0 : Expr} {rest : List Expr} {t : TA}
end
section
variable {X : Cx} {o value : Expr} {name : Str} {pos pos' : Pos} {ta tv : TE} {C f : Addr}
end
section
variable {X : Cx} {x : Str} {np pos : Pos} {e0 : Expr} {t : TA} {C f : Addr} {fd : FuncData} {ps : List Str} {name : Str} {j k : Nat}
end
/-! ### the facts, as they stand behind the top -/
section
variable {X : Cx} {o : Expr} {name : Str} {pos : Pos} {ta : TE} {C : Addr}
end
section
variable {K : PySem.W.Frag} {h : Heap} {mg : Str → Option Value} {x : Str} {C f D : Addr}
theorem fi_mk {name : Str} (a : PySem.W.nsIn K mainGlobals x = some (some (.ref C))) (q : PySem.W.findIn K (.ref C) name = some none) : PySem.W.findIn K (.ref (cA K x)) name = some none := by rw [cA_of a]; exact q
end
end L2
namespace L2
open PySem PySem.Spec PyProof.Rows
/-! ### sets of whole numbers: what stands in the table, and how it is walked -/
namespace SetL
def Up (xs : Array Nat) : Prop := xs.toList.Pairwise (· < ·)
theorem up_lt {xs : Array Nat} (h : Up xs) {i j : Nat} (hi : i < j) (hj : j < xs.size) (d e : Nat) : xs.getD i d < xs.getD j e := by
  have hi' : i < xs.size := by omega
  have q := List.pairwise_iff_getElem.mp h i j (by simpa using hi') (by simpa using hj) hi
  simpa [Array.getD, hi', hj] using q
theorem go_spec {xs : Array Nat} {j : Nat} (h : Up xs) : ∀ (fuel lo hi : Nat), lo ≤ hi → hi ≤ xs.size → hi - lo ≤ fuel → (∀ i, i < lo → xs.getD i j < j) → (∀ i, hi ≤ i → i < xs.size → j ≤ xs.getD i j) →
    SetTable.below.go xs j fuel lo hi ≤ xs.size ∧ (∀ i, i < SetTable.below.go xs j fuel lo hi → xs.getD i j < j) ∧ ∀ i, SetTable.below.go xs j fuel lo hi ≤ i → i < xs.size → j ≤ xs.getD i j
  | 0, lo, hi, h1, h2, h3, a, b => by
    unfold SetTable.below.go
    exact ⟨by omega, a, fun i p q => b i (by omega) q⟩
  | fuel + 1, lo, hi, h1, h2, h3, a, b => by
    unfold SetTable.below.go
    by_cases hl : lo < hi
    · rw [if_pos hl]
      dsimp only
      by_cases hm : xs.getD ((lo + hi) / 2) j < j
      · rw [if_pos hm]
        refine go_spec h fuel _ hi (by omega) h2 (by omega) (fun i q => ?_) b
        by_cases e : i = (lo + hi) / 2
        · rw [e]; exact hm
        · exact Nat.lt_trans (up_lt h (by omega) (by omega) j j) hm
      · rw [if_neg hm]
        refine go_spec h fuel lo _ (by omega) (by omega) (by omega) a (fun i q r => ?_)
        by_cases e : i = (lo + hi) / 2
        · rw [e]; omega
        · have := up_lt h (i := (lo + hi) / 2) (j := i) (by omega) r j j
          omega
    · rw [if_neg hl]
      exact ⟨by omega, a, fun i p q => b i (by omega) q⟩
theorem below_spec {xs : Array Nat} (h : Up xs) (j : Nat) : SetTable.below xs j ≤ xs.size ∧ (∀ i, i < SetTable.below xs j → xs.getD i j < j) ∧ ∀ i, SetTable.below xs j ≤ i → i < xs.size → j ≤ xs.getD i j := by
  unfold SetTable.below
  exact go_spec h _ _ _ (Nat.zero_le _) (Nat.le_refl _) (by omega) (fun i q => by omega) fun i p q => by omega
theorem up_insert {xs : Array Nat} {j : Nat} (h : Up xs) (hj : xs[SetTable.below xs j]? ≠ some j) : Up (SetTable.insertAt xs (SetTable.below xs j) j) := by
  obtain ⟨h0, h1, h2⟩ := below_spec h j
  generalize SetTable.below xs j = p at *
  unfold Up
  rw [SetTable.toList_insertAt]
  have e : xs.toList = xs.toList.take p ++ xs.toList.drop p := (List.take_append_drop p _).symm
  have hp : (xs.toList.take p ++ xs.toList.drop p).Pairwise (· < ·) := by rw [← e]; exact h
  obtain ⟨a, b, c⟩ := List.pairwise_append.mp hp
  have lo : ∀ x ∈ xs.toList.take p, x < j := fun x hx => by
    obtain ⟨i, hi, rfl⟩ := List.mem_iff_getElem.mp hx
    rw [List.length_take, Array.length_toList] at hi
    have := h1 i (by omega)
    rw [List.getElem_take]
    simpa [Array.getD, show i < xs.size by omega] using this
  have hi : ∀ x ∈ xs.toList.drop p, j < x := fun x hx => by
    obtain ⟨i, hi, rfl⟩ := List.mem_iff_getElem.mp hx
    rw [List.length_drop, Array.length_toList] at hi
    have q := h2 (p + i) (by omega) (by omega)
    rw [List.getElem_drop]
    have g : xs.getD (p + i) j = xs.toList[p + i]'(by rw [Array.length_toList]; omega) := by simp [Array.getD, show p + i < xs.size by omega]
    rw [g] at q
    refine Nat.lt_of_le_of_ne q fun z => ?_
    by_cases i0 : i = 0
    · subst i0
      apply hj
      rw [Array.getElem?_eq_getElem (by omega : p < xs.size), z]
      simp
    · have q0 := h2 p (Nat.le_refl _) (by omega)
      have lt := up_lt h (i := p) (j := p + i) (by omega) (by omega) j j
      rw [g, ← z] at lt
      omega
  exact List.pairwise_append.mpr ⟨a, List.pairwise_cons.mpr ⟨hi, b⟩, fun x hx y hy => by
    rcases List.mem_cons.mp hy with rfl | hy
    · exact lo x hx
    · exact c x hx y hy⟩
/-- what holds of the table of a set that was filled and never lost anything -/
structure Tab (bt : Bool) (t : SetTable) : Prop where
  led : t.led = !bt
  dum : t.dummies = #[]
  up : t.plain = true → Up t.place
theorem has_none (j : Nat) : SetTable.has #[] j = false := by simp [SetTable.has]
theorem slot_cases {t : SetTable} (hd : t.dummies = #[]) (j : Nat) : t.slot j ≠ .dummy := by
  unfold SetTable.slot
  dsimp only
  split
  · intro z; cases z
  · rw [hd, has_none]; intro z; simp at z
theorem probe_empty {t : SetTable} (hd : t.dummies = #[]) {f : Nat → Int} {h : Int} : ∀ (fuel : Nat) (p : SetTable.Probe) {j : Nat} {d : Option Nat}, p.dummy = none → SetTable.probe.go t f h fuel p = some (.empty j d) → d = none ∧ t.slot j = .empty
  | 0, p, j, d, hp, e => by simp [SetTable.probe.go] at e
  | fuel + 1, p, j, d, hp, e => by
    have adv : ∀ q : SetTable.Probe, q.dummy = none → (t.advance q).dummy = none := fun q hq => by
      unfold SetTable.advance
      split
      · exact hq
      · exact hq
    unfold SetTable.probe.go at e
    cases hs : t.slot p.j with
    | empty =>
      rw [hs] at e
      cases e
      exact ⟨hp, hs⟩
    | dummy => exact absurd hs (slot_cases hd _)
    | live i =>
      rw [hs] at e
      dsimp only at e
      split at e
      · cases e
      · exact probe_empty hd fuel _ (adv p hp) e
theorem free_slot {t : SetTable} (hd : t.dummies = #[]) {h : Int} {j : Nat} {b : Bool} (e : t.freeSlot h = some (j, b)) : t.place[SetTable.below t.place j]? ≠ some j := by
  unfold SetTable.freeSlot at e
  split at e
  · rename_i j' d' q
    obtain ⟨rfl, hs⟩ := probe_empty hd _ _ rfl (show SetTable.probe.go t _ h _ _ = _ from q)
    cases e
    intro z
    have z' : t.place[SetTable.below t.place j']? = some j' := z
    unfold SetTable.slot at hs
    dsimp only at hs
    rw [if_pos (by rw [z']; simp)] at hs
    cases hs
  · cases e
theorem tab_stand {bt : Bool} {t : SetTable} (T : Tab bt t) (n : Nat) : Tab bt (t.standIn n) := ⟨T.led, rfl, fun z => by cases z⟩
theorem tab_put {bt : Bool} {t : SetTable} (T : Tab bt t) {j : Nat} (hj : t.place[SetTable.below t.place j]? ≠ some j) : Tab bt (t.put j).1 :=
  ⟨T.led, by show (if SetTable.has t.dummies j then _ else t.dummies) = #[]; rw [T.dum, has_none]; rfl, fun z => up_insert (T.up z) hj⟩
theorem tab_new {bt : Bool} {t : SetTable} (T : Tab bt t) (es : Array (Int × Value)) (h : Int) (x : Value) : Tab bt (layNew t es h x).2.1 := by
  unfold layNew
  split
  · rename_i j b e
    dsimp only
    unfold SetTable.orStandIn
    split
    · exact tab_put T (free_slot T.dum e)
    · exact tab_stand (tab_put T (free_slot T.dum e)) _
  · exact tab_stand T _
theorem up_live (owner : Array (Option Nat)) (m : Nat) : (((List.range m).filterMap fun j => (owner.getD j none).map (fun k => (j, k))).map (·.1)).Pairwise (· < ·) := by
  have e : (((List.range m).filterMap fun j => (owner.getD j none).map (fun k => (j, k))).map (·.1)) = (List.range m).filter fun j => (owner.getD j none).isSome := by
    generalize List.range m = l
    induction l with
    | nil => rfl
    | cons a l ih =>
      cases q : owner.getD a none with
      | none => rw [List.filterMap_cons, q, List.filter_cons, q]; simpa using ih
      | some k => rw [List.filterMap_cons, q, List.filter_cons, q]; simpa using ih
  rw [e]
  exact List.Pairwise.filter _ (List.pairwise_lt_range)
theorem tab_re {bt : Bool} {t : SetTable} (T : Tab bt t) (es : Array (Int × Value)) (n : Nat) : Tab bt (relayAll t es n).2.1 := by
  unfold relayAll
  split
  · rename_i t' order e
    dsimp only
    split
    · unfold SetTable.relaid SetTable.laid at e
      simp only [Option.bind_eq_bind, Option.bind_eq_some_iff] at e
      obtain ⟨owner, _, e⟩ := e
      cases e
      refine ⟨T.led, rfl, fun _ => ?_⟩
      unfold Up
      simpa using up_live owner _
    · exact tab_stand T _
  · exact tab_stand T _
theorem tab_fresh (bt : Bool) : Tab bt (.fresh 0 0 (!bt)) := ⟨rfl, rfl, fun _ => List.Pairwise.nil⟩
end SetL
end L2
namespace L2
open PySem PySem.Spec PyProof.Rows
namespace SetL
def intOf : Value → Int
  | .int i _ => i
  | _ => 0
theorem intOf_is {k : Int} {v : Value} (h : Value.isInt k v = true) : intOf v = k := by
  obtain ⟨t, rfl⟩ := Value.isInt_shape h
  rfl
/-- the set at a has just the whole numbers ms, in the order of its entries -/
structure SetI (prog : Program) (w : World) (h : Heap) (a : Addr) (ms : List Int) : Prop where
  ex : ∃ o es ep t, (h.get? a = some o ∧ o.ExactSet ∧ o.data = .set es ep t) ∧ (ElemsOf (intKind prog w) es.toList ∧ es.size < scanBound ∧ t.fits es.size = true) ∧ Tab (w.params.followText "set-order") t ∧
    es.toList.map (fun e => intOf e.2) = ms
  nd : ms.Nodup
theorem elems_is {prog : Program} {w : World} {l : List (Int × Value)} (hl : ElemsOf (intKind prog w) l) (k : Int) : (∃ e ∈ l, Value.isInt k e.2 = true) ↔ k ∈ l.map fun e => intOf e.2 := by
  constructor
  · rintro ⟨e, he, q⟩
    exact List.mem_map.mpr ⟨e, he, intOf_is q⟩
  · intro q
    obtain ⟨e, he, rfl⟩ := List.mem_map.mp q
    obtain ⟨⟨k', hk, _⟩, _⟩ := hl e he
    refine ⟨e, he, ?_⟩
    rw [intOf_is hk]; exact hk
section
variable {prog : Program} {w : World} {A : Around} {E : Value → Shared → Prop} {s : Shared} {a : Addr} {ms : List Int} {k : Int} {tk : Tok}
theorem xadd {Q : Bool → Shared → Prop} (S : SetI prog w s.heap a ms) (room : ms.length + 1 < scanBound)
    (hQ : ∀ b h' ms', Heap.SameBut a s.heap h' → SetI prog w h' a ms' → (∀ m, m ∈ ms' ↔ m ∈ ms ∨ m = k) → ms'.length ≤ ms.length + 1 → Q b { s with heap := h' }) :
    wpAny (model prog w) A (setAddHashed a (.int k tk) (hashInt k)) Q E s := by
  obtain ⟨⟨o, es, ep, t, ⟨ho, hex, hd⟩, ⟨hel, hb, hf⟩, T, rfl⟩, nd⟩ := S
  have hlen : (es.toList.map fun e => intOf e.2).length = es.size := by simp
  have hkey : (intKind prog w).is k (.int k tk) = true := intKind_is prog w k tk
  unfold setAddHashed setAddHashedIn
  refine wpAny_holding (wpAny_bind (wpAny_setState_of ho hd hf ?_))
  dsimp only
  rw [byScan_of (knd := intKind prog w) rfl hb hel]
  simp only [↓reduceIte]
  unfold setAddByScan
  refine wpAny_bind (wpAny_bind (wpAny_rule (wpAny_bind (wpAny_setScan_of (knd := intKind prog w) hkey ho hd hf hel ?_))))
  cases hr : List.findIdx? (fun e => (intKind prog w).is k e.2) es.toList with
  | some j =>
    obtain ⟨hj, hpj, _⟩ := List.findIdx?_eq_some_iff_getElem.mp hr
    have hm : k ∈ es.toList.map fun e => intOf e.2 := (elems_is hel k).mp ⟨es.toList[j], List.getElem_mem hj, hpj⟩
    refine wpAny_pure (wpAny_pure ?_)
    have z := hQ false s.heap _ (Heap.SameBut.refl a s.heap) ⟨⟨o, es, ep, t, ⟨ho, hex, hd⟩, ⟨hel, hb, hf⟩, T, rfl⟩, nd⟩ (fun m => ⟨.inl, fun q => q.elim id fun e => e ▸ hm⟩) (by omega)
    exact z
  | none =>
    have hm : k ∉ es.toList.map fun e => intOf e.2 := fun q => by
      obtain ⟨e, he, hp⟩ := (elems_is hel k).mpr q
      have := List.findIdx?_eq_none_iff.mp hr e he
      rw [show (intKind prog w).is k e.2 = true from hp] at this
      cases this
    dsimp only
    have hperm := layNew_perm t es (hashInt k) (.int k tk)
    have hfits := layNew_fits t es (hashInt k) (.int k tk)
    have T1 := tab_new T es (hashInt k) (.int k tk)
    generalize layNew t es (hashInt k) (.int k tk) = L at hperm hfits T1 ⊢
    obtain ⟨es1, t1, dm, gave⟩ := L
    dsimp only at hperm hfits T1 ⊢
    rw [Array.toList_push] at hperm
    have el1 : ElemsOf (intKind prog w) es1.toList := (hel.push (k := k) hkey rfl).perm hperm
    have sz1 : es1.size = es.size + 1 := by rw [← Array.length_toList, hperm.length_eq, List.length_append, Array.length_toList]; rfl
    have hb1 : es1.size < scanBound := by omega
    have pm : (es1.toList.map fun e => intOf e.2).Perm ((es.toList.map fun e => intOf e.2) ++ [k]) := by
      have := hperm.map fun e => intOf e.2
      rw [List.map_append] at this
      exact this
    have nd1 : (es1.toList.map fun e => intOf e.2).Nodup := pm.nodup_iff.mpr (List.nodup_append.mpr ⟨nd, (List.pairwise_singleton _ _), fun x hx y hy z => hm (by rw [List.mem_singleton] at hy; rw [← hy, ← z]; exact hx)⟩)
    have mm : ∀ m, m ∈ (es1.toList.map fun e => intOf e.2) ↔ m ∈ (es.toList.map fun e => intOf e.2) ∨ m = k := fun m => by rw [pm.mem_iff, List.mem_append, List.mem_singleton]
    have len1 : (es1.toList.map fun e => intOf e.2).length ≤ (es.toList.map fun e => intOf e.2).length + 1 := by rw [pm.length_eq, List.length_append]; exact Nat.le_refl _
    have fin : ∀ h' es2 t2 ep2 o2, (h'.get? a = some o2 ∧ o2.ExactSet ∧ o2.data = .set es2 ep2 t2) → es2.toList.Perm es1.toList → t2.fits es2.size = true → Tab (w.params.followText "set-order") t2 → Heap.SameBut a s.heap h' → Q true { s with heap := h' } :=
      fun h' es2 t2 ep2 o2 hg p2 f2 T2 sb => by
        have q2 := p2.map fun e => intOf e.2
        have z2 : es2.size = es1.size := by rw [← Array.length_toList, p2.length_eq, Array.length_toList]
        refine hQ true h' _ sb ⟨⟨o2, es2, ep2, t2, hg, ⟨el1.perm p2, by omega, f2⟩, T2, rfl⟩, q2.nodup_iff.mpr nd1⟩ (fun m => (q2.mem_iff).trans (mm m)) ?_
        rw [q2.length_eq]; exact len1
    have put : ∀ {h : Heap} {o1 : Obj} {e1 : Array (Int × Value)} {p1 : Nat} {u1 : SetTable}, h.get? a = some o1 → o1.ExactSet → o1.data = .set e1 p1 u1 → ∀ (e2 : Array (Int × Value)) (u2 : SetTable),
        (h.update a (Obj.putSet e2 u2)).get? a = some { o1 with data := .set e2 (p1 + 1) u2 } := fun {h o1 e1 p1 u1} q1 _ q3 e2 u2 => by
      have z := Heap.get?_update_self (Obj.putSet e2 u2) q1 (by rw [putSet_of e2 u2 q3]; rfl)
      rw [putSet_of e2 u2 q3] at z
      exact z
    have tl : ∀ (Q' : Option Bool → Shared → Prop), (∀ h', Q true { s with heap := h' } → Q' (some true) { s with heap := h' }) → wpAny (model prog w) A (storeSet a es1 t1) (fun _ s1 => (dm = false ∧ t1.tooFull = true → ∀ g : Sem Unit, (∀ Q₀ : Unit → Shared → Prop, Q₀ () s1 → wpAny (model prog w) A g Q₀ E s1) →
        wpAny (model prog w) A (g >>= fun _ => storeSet a (relayAll t1 es1 (SetTable.grown es1.size)).1 (relayAll t1 es1 (SetTable.grown es1.size)).2.1 >>= fun _ => pure (some true)) Q' E s1) ∧ Q' (some true) s1) E s := fun Q' hq => by
      refine wpAny_storeSet_of ho hd ?_ (fits_of_scanBound hb1)
      have g1 := put ho hex hd es1 t1
      have sb1 := Heap.SameBut.update s.heap a (Obj.putSet es1 t1)
      refine ⟨fun _ g hg => wpAny_bind (hg _ ?_), hq _ (fin _ es1 t1 _ _ ⟨g1, hex, rfl⟩ .rfl hfits T1 sb1)⟩
      have p2 := relayAll_perm t1 es1 (SetTable.grown es1.size)
      have f2 := relayAll_fits t1 es1 (SetTable.grown es1.size)
      have T2 := tab_re T1 es1 (SetTable.grown es1.size)
      generalize relayAll t1 es1 (SetTable.grown es1.size) = L2 at p2 f2 T2 ⊢
      obtain ⟨es2, t2, gv2⟩ := L2
      dsimp only at p2 f2 T2 ⊢
      have z2 : es2.size = es1.size := by rw [← Array.length_toList, p2.length_eq, Array.length_toList]
      refine wpAny_bind (wpAny_storeSet_of g1 rfl (wpAny_pure (hq _ ?_)) (fits_of_scanBound (by omega)))
      exact fin _ es2 t2 _ _ ⟨put g1 hex rfl es2 t2, hex, rfl⟩ p2 f2 T2 (sb1.trans (Heap.SameBut.update _ a _))
    refine wpAny_bind ?_
    cases gave
    all_goals
      first | refine wpAny_pure ?_ | refine wpAny_rule ?_
      split
      all_goals
        refine wpAny_bind ?_
        try rw [hashByValue_scannable 8 (show (Value.int k tk).scannable = true from rfl)]
        refine wpAny_pure ?_
        simp only [plainKind, ↓reduceIte]
        refine wpAny_bind (wpAny_mono (tl (fun r s' => wpAny (model prog w) A (match r with | some added => pure added | none => setAddHashedIn a (Value.int k tk) (hashInt k) 99999) Q E s') fun h' z => wpAny_pure z) (fun _ s1 hz => ?_) fun _ _ z => z)
        obtain ⟨hz1, hz2⟩ := hz
        split
        · rename_i hc
          simp only [Bool.and_eq_true, Bool.not_eq_true'] at hc
          refine hz1 hc _ fun Q₀ q₀ => ?_
          generalize (relayAll t1 es1 (SetTable.grown es1.size)).2.2 = gb
          cases gb
          · exact wpAny_pure q₀
          · exact wpAny_rule q₀
        · exact wpAny_pure hz2
end
end SetL
end L2
namespace L2
open PySem PySem.Spec PyProof.Rows
namespace SetL
theorem SetI.keep {prog : Program} {w : World} {h h' : Heap} {a : Addr} {ms : List Int} (S : SetI prog w h a ms) (k : ∀ o, h.get? a = some o → h'.get? a = some o) : SetI prog w h' a ms := by
  obtain ⟨⟨o, es, ep, t, ⟨ho, r⟩, r2⟩, nd⟩ := S
  exact ⟨⟨o, es, ep, t, ⟨k o ho, r⟩, r2⟩, nd⟩
section
variable {prog : Program} {w : World} {A : Around} {R : Result → Shared → Prop} {I a : Addr} {fp wr : List Addr} {G : Array GenState → Array GenState → Prop} {n : Nat} {P : Nat → Value → Prop} {St : Nat → Shared → Prop} {val : Nat → Int}
theorem xloop (W : WalksS prog w A.in1 I fp wr G n P St) (ha : a ∉ fp) (hval : ∀ i v, P i v → ∃ t, v = .int (val i) t) (hb : n + 1 < scanBound) : ∀ (k i : Nat) (s : Shared) (ms : List Int), n - i = k → i ≤ n → St i s → SetI prog w s.heap a ms →
      (∀ m, m ∈ ms ↔ m ∈ (List.range i).map val) → ms.length ≤ i →
      (∀ s' ms', Moved (a :: wr) G s s' → SetI prog w s'.heap a ms' → (∀ m, m ∈ ms' ↔ m ∈ (List.range n).map val) → ms'.length ≤ n → R (.ok (.ret .none)) s') →
      codeAny (model prog w) A (.builtin "set.update.loop" ⟨[.ref a, .ref I], []⟩) R s := by
  have aw : a ∉ wr := fun z => ha (W.sub _ z)
  have sub : ∀ b ∈ wr, b ∈ a :: wr := fun b z => List.mem_cons_of_mem _ z
  intro k
  induction k with
  | zero =>
    intro i s ms hk hi st S mm hl hR
    obtain rfl : i = n := by omega
    refine codeAny_builtin PyProof.Rows.F.entry_set_update_loop ?_
    rw [Around.under_plainId PyProof.Rows.F.plain_set_update_loop _]
    show wpAny _ A.in1 (pyNext (.ref I) >>= _) _ _ s
    refine wpAny_bind (W.done s _ _ st fun s' mv => wpAny_pure (hR s' ms (mv.mono sub) (S.keep fun o e => mv.heap a o aw e) mm hl))
  | succ k ih =>
    intro i s ms hk hi st S mm hl hR
    have lt : i < n := by omega
    refine codeAny_builtin PyProof.Rows.F.entry_set_update_loop ?_
    rw [Around.under_plainId PyProof.Rows.F.plain_set_update_loop _]
    show wpAny _ A.in1 (pyNext (.ref I) >>= _) _ _ s
    refine wpAny_bind (W.item i s _ _ lt st fun v s' hP st' mv => ?_)
    obtain ⟨t, rfl⟩ := hval i v hP
    have S' := S.keep (h' := s'.heap) fun o e => mv.heap a o aw e
    show wpAny _ A.in1 (holding [Value.int (val i) t] (setAdd a (.int (val i) t)) >>= _) _ _ s'
    refine wpAny_bind (wpAny_holding ?_)
    unfold setAdd
    refine wpAny_holding (wpAny_bind ((intKind prog w).pyHash (k := val i) (intKind_is _ _ _ _) ?_))
    refine xadd (s := { s' with toks := s'.toks + 1 }) (ms := ms) S' (by omega) fun b h' ms' sb S2 mm2 l2 => ?_
    refine wpAny_pure ⟨plainId_quiet PyProof.Rows.F.plain_set_update_loop _, ih (i + 1) _ ms' (by omega) lt (W.frame _ s' _ _ st' (Nat.le_succ _) fun b hb o e => ?_) S2 (fun m => ?_) (by omega) fun s2 ms2 mv2 => hR s2 ms2 ?_⟩
    · rw [sb.2 b (fun z : b = a => ha (by rw [← z]; exact hb))]; exact e
    · rw [mm2, mm, List.range_succ, List.map_append, List.mem_append]
      simp
    · refine Moved.trans W.gtrans ((mv.mono sub).then_heap (Nat.le_succ _) fun b o hb e => ?_) mv2
      rw [sb.2 b (fun z : b = a => hb (by rw [z]; exact List.mem_cons_self))]; exact e
end
section
variable {prog : Program} {w : World} {A : Around} {E : Value → Shared → Prop} {s : Shared}
abbrev empty (w : World) : Obj := { cls := .type "set", dict := none, data := .set #[] 0 (.fresh 0 0 (!w.params.followText "set-order")) }
theorem new1 (v : Value) {R : Result → Shared → Prop} (h : R (.ok (.ret (.ref s.heap.objs.size))) { s with heap := s.heap.push (empty w) }) :
    codeAny (model prog w) A (.call (.builtin "set.__new__") ⟨[.type "set", v], []⟩) R s := by
  refine codeAny_of_tree ?_
  show wpAny _ A.in1 (checkBuiltinCall "set.__new__" ⟨[.type "set", v], []⟩ >>= fun _ => again (.builtin "set.__new__" ⟨[.type "set", v], []⟩)) _ _ s
  refine wpAny_bind (wpAny_of_eq (PySem.F.newCall_set_1 v) (wpAny_pure ⟨plainId_quiet PySem.F.plain_set_new _, codeAny_builtin PySem.F.entry_set_new ?_⟩))
  rw [Around.under_plainId PySem.F.plain_set_new _]
  unfold Builtin.«set.__new__» Builtin.Frozenset.newClass
  have sub := sub_set_self
  obtain ⟨hp, g, d, tk, os⟩ := s
  dsimp only
  wp_walk
  refine wpAny_askSetting (wpAny_pure ?_)
  simp only [newObj]
  refine wpAny_bind (wpAny_alloc (wpAny_pure (wpAny_pure ?_)))
  exact h
theorem empty_set {h : Heap} : SetI prog w (h.push (empty w)) h.objs.size [] :=
  ⟨⟨_, #[], 0, _, ⟨Heap.get?_push_size _ rfl, ⟨rfl, rfl, rfl⟩, rfl⟩, ⟨(fun e he => by simp at he), by decide, rfl⟩, tab_fresh _, rfl⟩, List.Pairwise.nil⟩
end
end SetL
end L2
namespace L2
open PySem PySem.Spec PyProof.Rows
namespace SetL
section
variable {prog : Program} {w : World} {A : Around} {E : Value → Shared → Prop} {s : Shared}
theorem range_ints : ∀ ns : List Int, (List.range ns.length).map (fun i => ns.getD i 0) = ns := fun ns => by
  apply List.ext_getElem?
  intro i
  rw [List.getElem?_map]
  by_cases h : i < ns.length
  · rw [List.getElem?_range h, List.getElem?_eq_getElem h]
    simp [h]
  · rw [List.getElem?_eq_none (by rw [List.length_range]; omega), List.getElem?_eq_none (by omega)]
    rfl
/-- __init__ of the new set, from a list of whole numbers -/
theorem init1 {l : Addr} {items : Array Value} {ns : List Int} (hh : A.handled = none) (hl : s.heap.IsList l items) (hi : IntsAre items.toList ns) (hb : items.size + 1 < scanBound) {R : Result → Shared → Prop}
    (h : ∀ h' tk ms, SetI prog w h' s.heap.objs.size ms → (∀ m, m ∈ ms ↔ m ∈ ns) → ms.length ≤ ns.length → (∀ b o, b < s.heap.objs.size → s.heap.get? b = some o → h'.get? b = some o) → R (.ok (.ret .none)) { s with heap := h', toks := tk }) :
    codeAny (model prog w) A (.call (.builtin "set.__init__") ⟨[.ref s.heap.objs.size, .ref l], []⟩) R { s with heap := s.heap.push (empty w) } := by
  have hn : items.size = ns.length := by rw [← IntsAre.length hi]; simp
  have at0 : (s.heap.push (empty w)).get? s.heap.objs.size = some (empty w) := Heap.get?_push_size _ rfl
  have ty : Shared.TypeIs { s with heap := s.heap.push (empty w) } (.ref s.heap.objs.size) "set" := ⟨_, at0, rfl⟩
  refine codeAny_call_builtin PySem.F.called_set.init.plain PySem.F.entry_set_init (check_set_init_1 ty ?_)
  obtain ⟨ol, hol, hcl, nl, hdl⟩ := id hl
  have lS : l < s.heap.objs.size := Heap.lt_size hol
  obtain ⟨oc, od, odt, osl⟩ := ol
  dsimp only at hcl hdl
  subst hcl hdl
  have hol' := Heap.get?_push_of_some (empty w) hol
  have n1 := PySem.F.sub_list_set
  have n2 := PySem.F.sub_list_frozenset
  have n3 : (Value.type "list" == Value.type "dict") = false := by decide
  have l1 : (s.heap.push (empty w)).IsList l items := ⟨_, hol', rfl, nl, rfl⟩
  unfold Builtin.«set.__init__» noKeywords Builtin.Frozenset.updateFrom
  generalize hPI : pyIter = PI
  wp_walk
  subst hPI
  refine wpAny_pyIter_list l1 (wpAny_bind (wpAny_runValue ?_))
  have h3 : A.in1.in1.handled = none := by simp [hh]
  have sz : (s.heap.push (empty w)).objs.size = s.heap.objs.size + 1 := Heap.size_push _ _
  have ne : l ≠ (s.heap.push (empty w)).objs.size := by rw [sz]; exact Nat.ne_of_lt (Nat.lt_succ_of_lt lS)
  have nf : s.heap.objs.size ∉ [(s.heap.push (empty w)).objs.size, l] := by
    rw [sz]
    simp only [List.mem_cons, List.not_mem_nil, or_false, not_or]
    exact ⟨Nat.ne_of_lt (Nat.lt_succ_self _), Nat.ne_of_gt lS⟩
  have S0 : SetI prog w ((s.heap.push (empty w)).push { cls := .type "list_iterator", data := .fields #[.ref l, .int 0 0] }) s.heap.objs.size [] := empty_set.keep fun o e => Heap.get?_push_of_some _ e
  refine xloop (val := fun i => ns.getD i 0) ((Walks.list h3 _ l ne items).toS) nf (fun i v q => IntsAre.int_at hi i v (by rw [Array.getElem?_toList]; exact q)) hb (items.size - 0) 0 _ [] (by omega) (Nat.zero_le _)
    ?xst ?xS (fun m => by simp) (Nat.zero_le _) ?_
  case xst => exact ⟨⟨_, Heap.get?_push_size _ rfl, rfl, rfl⟩, l1.push _⟩
  case xS => exact S0
  intro s' ms mv S mm len
  obtain ⟨h', g', d', tk', os'⟩ := s'
  obtain rfl : g' = s.gens := mv.gens
  obtain rfl : d' = s.drawn := mv.drawn
  obtain rfl : os' = s.os := mv.os
  refine wpAny_pure ?_
  show wpAny _ _ (ret Value.none) _ _ _
  refine wpAny_pure (h h' tk' ms S (fun m => ?_) (by omega) fun b o lt e => ?_)
  · rw [mm, hn, range_ints]
  · refine mv.heap b o ?_ (Heap.get?_push_of_some _ (Heap.get?_push_of_some _ e))
    rw [sz]
    simp only [List.mem_cons, List.not_mem_nil, or_false, not_or]
    exact ⟨Nat.ne_of_lt lt, Nat.ne_of_lt (Nat.lt_succ_of_lt lt)⟩
set_option maxHeartbeats 3200000 in
theorem set_of_list {l : Addr} {items : Array Value} {ns : List Int} (hh : A.handled = none) (hl : s.heap.IsList l items) (hi : IntsAre items.toList ns) (hb : items.size + 1 < scanBound) {Q : Value → Shared → Prop}
    (h : ∀ h' tk ms, SetI prog w h' s.heap.objs.size ms → (∀ m, m ∈ ms ↔ m ∈ ns) → ms.length ≤ ns.length → (∀ b o, b < s.heap.objs.size → s.heap.get? b = some o → h'.get? b = some o) → Q (.ref s.heap.objs.size) { s with heap := h', toks := tk }) :
    wpAny (model prog w) A (call (.type "set") [.ref l]) Q E s := by
  obtain ⟨c, tl, hmro⟩ := PySem.F.called_set.mro
  have m1 := PySem.F.called_set.made
  have m2 := PySem.F.called_set.sub
  have m3 := PySem.F.called_set.notType
  have m4 := PySem.F.called_set.canCreate
  have m5 := PySem.F.typeCall_set_1 (.ref l)
  refine wpAny_call (codeAny_of_tree ?_)
  show wpAny _ _ (callAny (.type "set") _) _ _ _
  refine wpAny_pure ⟨Code.quiet_builtin _ (by decide +kernel), codeAny_builtin PySem.F.entry_type_call ?_⟩
  rw [Around.under_plain (weight_type_call_type "set" [.ref l] []) rfl]
  repeat (any_goals (first | assumption | wp_step))
  refine new1 (.ref l) ?_
  have at0 : (s.heap.push (empty w)).get? s.heap.objs.size = some (empty w) := Heap.get?_push_size _ rfl
  have ty : Shared.TypeIs { s with heap := s.heap.push (empty w) } (.ref s.heap.objs.size) "set" := ⟨_, at0, rfl⟩
  have i1 := PySem.F.called_set.init.lookup
  have i2 := PySem.F.called_set.init.bind (.ref s.heap.objs.size)
  show wpAny _ _ _ _ _ _
  repeat (any_goals (first | assumption | wp_step))
  refine init1 (by simp [hh]) hl hi hb fun h' tk ms S mm len kp => ?_
  show wpAny _ _ _ _ _ _
  repeat (any_goals (first | assumption | wp_step))
  exact h _ _ _ S mm len kp
end
end SetL
end L2
namespace L2
open PySem PySem.Spec PyProof.Rows
namespace SetL
theorem si_next : Slot "set_iterator" "__next__" "set_iterator.__next__" := .of (owner := "set_iterator") (n := "__next__") (by rw [typeLookup_type, builtinLookup_eq_fast]; kernel_rfl) (by decide +kernel) (by decide +kernel) (by decide +kernel)
  (by first | exact .inl (by decide +kernel) | exact .inr (by decide +kernel)) (by rw [isSubtype_type]; kernel_rfl)
theorem si_iter : Slot "set_iterator" "__iter__" "set_iterator.__iter__" := .of (owner := "set_iterator") (n := "__iter__") (by rw [typeLookup_type, builtinLookup_eq_fast]; kernel_rfl) (by decide +kernel) (by decide +kernel) (by decide +kernel)
  (by first | exact .inl (by decide +kernel) | exact .inr (by decide +kernel)) (by rw [isSubtype_type]; kernel_rfl)
theorem en_next : entryFor table "set_iterator.__next__" = some Builtin.«set_iterator.__next__» := entryFor_of_fast (by kernel_rfl)
theorem en_iter : entryFor table "set_iterator.__iter__" = some Builtin.«dict_keyiterator.__iter__» := entryFor_alias (id' := "dict_keyiterator.__iter__") (by kernel_rfl) rfl (by decide +kernel) (by kernel_rfl)
theorem en_siter : entryFor table "set.__iter__" = some Builtin.«frozenset.__iter__» := entryFor_alias (id' := "frozenset.__iter__") (by kernel_rfl) rfl (by decide +kernel) (by kernel_rfl)
theorem ar_next (a : Value) : argsOk "set_iterator.__next__" ⟨[a], []⟩ := by unfold argsOk; kernel_rfl
theorem ar_iter (a : Value) : argsOk "set_iterator.__iter__" ⟨[a], []⟩ := by unfold argsOk; kernel_rfl
/-- the iterator at I, at its i-th turn -/
def IterAt (h : Heap) (I a : Addr) (first : Value) (i n ep : Nat) : Prop := ∃ o, h.get? I = some o ∧ o.cls = .type "set_iterator" ∧ o.data = .fields #[first, .int i 0, .ref a, .int n 0, .int ep 0]
theorem IterAt.ty {s : Shared} {I a : Addr} {first : Value} {i n ep : Nat} (h : IterAt s.heap I a first i n ep) : s.TypeIs (.ref I) "set_iterator" := let ⟨_, a, b, _⟩ := h; ⟨_, a, b⟩
theorem IterAt.keep {h h' : Heap} {I a : Addr} {first : Value} {i n ep : Nat} (x : IterAt h I a first i n ep) (k : ∀ o, h.get? I = some o → h'.get? I = some o) : IterAt h' I a first i n ep := let ⟨o, a, b⟩ := x; ⟨o, k o a, b⟩
/-- the object of the set -/
def ObjAt (h : Heap) (a : Addr) (es : Array (Int × Value)) (ep : Nat) (t : SetTable) : Prop := ∃ o, h.get? a = some o ∧ o.data = .set es ep t ∧ t.fits es.size = true
theorem ObjAt.keep {h h' : Heap} {a : Addr} {es : Array (Int × Value)} {ep : Nat} {t : SetTable} (x : ObjAt h a es ep t) (k : ∀ o, h.get? a = some o → h'.get? a = some o) : ObjAt h' a es ep t := let ⟨o, a, b⟩ := x; ⟨o, k o a, b⟩
section
variable {prog : Program} {w : World} {A : Around} {E : Value → Shared → Prop} {s : Shared} {I a : Addr} {es : Array (Int × Value)} {ep : Nat} {t : SetTable}
theorem state_at {Q : (Array (Int × Value) × Nat × SetTable) → Shared → Prop} (O : ObjAt s.heap a es ep t) (h : Q (es, ep, t) s) : wpAny (model prog w) A (setState a) Q E s := by
  obtain ⟨o, ho, hd, hf⟩ := O
  exact wpAny_setState_of ho hd hf h
theorem iter_self {first : Value} {i n : Nat} {Q : Value → Shared → Prop} (h : IterAt s.heap I a first i n ep) (q : Q (.ref I) s) : wpAny (model prog w) A (pyIter (.ref I)) Q E s := by
  refine wpAny_pyIter_slot h.ty si_iter (wpAny_call_entry si_iter h.ty en_iter ?_ (ar_iter _))
  exact wpAny_pure ⟨_, rfl, "set_iterator", _, h.ty, si_next.lookup, q⟩
/-- the end: StopIteration, caught by pyNext -/
theorem stop_here {Q : Option Value → Shared → Prop} {h1 : Heap} (hh : A.handled = none) (q : ∀ h', (∀ b o, h1.get? b = some o → h'.get? b = some o) → Q none { s with heap := h' }) :
    wpAny (model prog w) A.in1 (newExc (.type "StopIteration") [] >>= fun e => raiseNew e : Sem Fin) (fun fin s' => ∃ v, fin = .done (.ret v) ∧ wpAny (model prog w) A (match (Except.ok (some v) : Except Value (Option Value)) with | .ok (some v) => pure (some v) | .ok none => unsupported "iter:the-iterator's-class-has-lost-its-__next__-amid-the-walk" | .error e => do if ← isInstance e (.type "StopIteration") then pure none else throw e) Q E s')
      (fun e s' => wpAny (model prog w) A (do if ← isInstance e (.type "StopIteration") then pure none else throw e) Q E s') { s with heap := h1 } := by
  refine wpAny_bind ?_
  simp only [newExc, newTuple]
  refine wpAny_bind (wpAny_newObj_type ?_ (by size_fits))
  refine wpAny_bind (m := firstArgMember _ _) (wpAny_of_eq (a := Value.none) (by first | rfl | (simp only [firstArgMember]; rfl)) ?_)
  refine wpAny_newObj_type ?_ (by size_fits)
  simp only [raiseNew]
  refine wpAny_bind (wpAny_handled ?_)
  rw [show A.in1.handled = none from hh]
  refine wpAny_bind (wpAny_pure (wpAny_throw ?_))
  refine wpAny_bind (wpAny_isInstance (T := "StopIteration") (b := true) ⟨_, Heap.get?_push_size _ rfl, rfl⟩ isSubtype_stop ?_)
  exact wpAny_pure (q _ fun b o e => Heap.get?_push_of_some _ (Heap.get?_push_of_some _ e))
end
end SetL
end L2
namespace L2
open PySem PySem.Spec PyProof.Rows
namespace SetL
section
variable {prog : Program} {w : World} {A : Around} {E : Value → Shared → Prop} {s : Shared} {I a : Addr} {es : Array (Int × Value)} {ep : Nat} {t : SetTable}
theorem put_field {h : Heap} {o : Obj} {vs : Array Value} {j : Nat} {x : Value} (ho : h.get? I = some o) (hd : o.data = .fields vs) : (h.update I (Obj.mapFields (·.setIfInBounds j x))).get? I = some (Obj.mapFields (·.setIfInBounds j x) o) :=
  Heap.get?_update_self _ ho (Obj.isFreed_of_fields (Obj.data_mapFields hd _))
theorem next_int {F i : Nat} {r : Option (Value × Nat)} {Q : Option Value → Shared → Prop} (hh : A.handled = none) (It : IterAt s.heap I a (.int F 0) i es.size ep) (O : ObjAt s.heap a es ep t)
    (st : ∀ (A' : Around) (E' : Value → Shared → Prop) (Q' : Option (Value × Nat) → Shared → Prop), Q' r s → wpAny (model prog w) A' (setNext a F i ep) Q' E' s)
    (h1 : ∀ x F', r = some (x, F') → ∀ h', Heap.SameBut I s.heap h' → IterAt h' I a (.int F' 0) (i + 1) es.size ep → Q (some x) { s with heap := h' })
    (h2 : r = none → ∀ h', (∀ b o, b ≠ I → s.heap.get? b = some o → h'.get? b = some o) → Q none { s with heap := h' }) : wpAny (model prog w) A (pyNext (.ref I)) Q E s := by
  obtain ⟨o, ho, hc, hd⟩ := id It
  unfold pyNext
  refine wpAny_bind (wpAny_attempt (wpAny_callSpecial?_slot (name := Str.ofString "__next__") It.ty si_next (wpAny_call_entry si_next It.ty en_next ?_ (ar_next _))))
  unfold Builtin.«set_iterator.__next__»
  refine wpAny_bind (wpAny_of_eq (a := (Value.ref I, [])) rfl ?_)
  show wpAny _ _ (fieldsOf (.ref I) >>= _) _ _ s
  refine wpAny_bind (wpAny_fieldsOf ho hd ?_)
  show wpAny _ _ (setEntries a >>= _) _ _ s
  refine wpAny_bind ?_
  unfold setEntries
  refine wpAny_bind (state_at O (wpAny_pure ?_))
  dsimp only
  rw [if_neg (by simp)]
  simp only [Int.toNat_natCast]
  refine wpAny_bind (st _ _ _ ?_)
  cases r with
  | some xf =>
    obtain ⟨x, F'⟩ := xf
    refine wpAny_bind (wpAny_setField ho hd (by simp) ?_)
    have ho1 := put_field (j := 0) (x := rawInt F') ho hd
    have hd1 := Obj.data_mapFields hd (f := (·.setIfInBounds 0 (rawInt F')))
    refine wpAny_bind (wpAny_setField ho1 hd1 (by simp) (wpAny_pure ⟨x, rfl, wpAny_pure (h1 x F' rfl _ ((Heap.SameBut.update ..).trans (Heap.SameBut.update ..)) ?_)⟩))
    refine ⟨_, put_field ho1 hd1, (Obj.cls_mapFields ..).trans ((Obj.cls_mapFields ..).trans hc), ?_⟩
    rw [Obj.data_mapFields hd1]
    simp [rawInt]
  | none =>
    refine wpAny_bind (wpAny_setField ho hd (by simp) ?_)
    refine stop_here hh fun h' k => h2 rfl h' fun b o hb e => k b o ?_
    exact (Heap.get?_update_ne _ _ _ _ hb).trans e
end
end SetL
end L2
namespace L2
open PySem PySem.Spec PyProof.Rows
namespace SetL
section
variable {prog : Program} {w : World} {A : Around} {E : Value → Shared → Prop} {s : Shared} {I a T : Addr} {es : Array (Int × Value)} {ep : Nat} {t : SetTable} {ps : Array Value}
def PlacesAt (h : Heap) (T : Addr) (ps : Array Value) : Prop := ∃ o n, h.get? T = some o ∧ o.data = .seq ps n
theorem PlacesAt.keep {h h' : Heap} (x : PlacesAt h T ps) (k : ∀ o, h.get? T = some o → h'.get? T = some o) : PlacesAt h' T ps := let ⟨o, n, a, b⟩ := x; ⟨o, n, k o a, b⟩
theorem next_drawn {i : Nat} {Q : Option Value → Shared → Prop} (hh : A.handled = none) (It : IterAt s.heap I a (.ref T) i es.size ep) (O : ObjAt s.heap a es ep t) (P : PlacesAt s.heap T ps)
    (h1 : ∀ p, ps[i]? = some (.int p 0) → ∀ k x, es[p.toNat]? = some (k, x) → ∀ h', Heap.SameBut I s.heap h' → IterAt h' I a (.ref T) (i + 1) es.size ep → Q (some x) { s with heap := h' })
    (h2 : ps[i]? = none → ∀ h', (∀ b o, b ≠ I → s.heap.get? b = some o → h'.get? b = some o) → Q none { s with heap := h' })
    (hp : ps[i]? = none ∨ ∃ p k x, ps[i]? = some (.int p 0) ∧ es[p.toNat]? = some (k, x)) : wpAny (model prog w) A (pyNext (.ref I)) Q E s := by
  obtain ⟨o, ho, hc, hd⟩ := id It
  obtain ⟨oT, nT, hT, hdT⟩ := P
  unfold pyNext
  refine wpAny_bind (wpAny_attempt (wpAny_callSpecial?_slot (name := Str.ofString "__next__") It.ty si_next (wpAny_call_entry si_next It.ty en_next ?_ (ar_next _))))
  unfold Builtin.«set_iterator.__next__»
  refine wpAny_bind (wpAny_of_eq (a := (Value.ref I, [])) rfl ?_)
  show wpAny _ _ (fieldsOf (.ref I) >>= _) _ _ s
  refine wpAny_bind (wpAny_fieldsOf ho hd ?_)
  show wpAny _ _ (setEntries a >>= _) _ _ s
  refine wpAny_bind ?_
  unfold setEntries
  refine wpAny_bind (state_at O (wpAny_pure ?_))
  dsimp only
  rw [if_neg (by simp)]
  simp only [Int.toNat_natCast]
  refine wpAny_bind (wpAny_seqItems hT hdT ?_)
  dsimp only
  rcases hp with hp | ⟨p, k, x, hp, hx⟩
  · rw [hp]
    refine wpAny_bind (wpAny_setField ho hd (by simp) ?_)
    have ho1 := put_field (j := 0) (x := rawInt 0) ho hd
    have hd1 := Obj.data_mapFields hd (f := (·.setIfInBounds 0 (rawInt 0)))
    refine wpAny_bind (wpAny_setField ho1 hd1 (by simp) ?_)
    refine stop_here hh fun h' k => h2 hp h' fun b o hb e => k b o ?_
    exact (Heap.get?_update_ne _ _ _ _ hb).trans ((Heap.get?_update_ne _ _ _ _ hb).trans e)
  · rw [hp]
    dsimp only
    refine wpAny_bind ?_
    unfold setNextDrawn
    refine wpAny_bind (state_at O ?_)
    dsimp only
    rw [if_neg (by simp), hx]
    refine wpAny_pure (wpAny_bind (wpAny_setField ho hd (by simp) (wpAny_pure ⟨x, rfl, wpAny_pure (h1 p hp k x hx _ (Heap.SameBut.update ..) ?_)⟩)))
    refine ⟨_, put_field ho hd, (Obj.cls_mapFields ..).trans hc, ?_⟩
    rw [Obj.data_mapFields hd]
    simp [rawInt]
/-- a walk by slots -/
theorem walks_int (hh : A.handled = none) (ne : a ≠ I) {F : Nat → Nat} {ord : Nat → Value} (st : ∀ i, i ≤ es.size → ∀ (s : Shared), ObjAt s.heap a es ep t → ∀ (A' : Around) (E' : Value → Shared → Prop) (Q' : Option (Value × Nat) → Shared → Prop),
      Q' (if i < es.size then some (ord i, F (i + 1)) else none) s → wpAny (model prog w) A' (setNext a (F i) i ep) Q' E' s) :
    Walks prog w A I [I, a] [I] es.size (fun i v => v = ord i) (fun i h => i ≤ es.size ∧ IterAt h I a (.int (F i) 0) i es.size ep ∧ ObjAt h a es ep t) where
  sub := fun b hb => by simp at hb; simp [hb]
  frame := fun _ _ _ st k => ⟨st.1, st.2.1.keep fun o e => k I (by simp) o e, st.2.2.keep fun o e => k a (by simp) o e⟩
  item := fun i s Q E hi h hQ => by
    refine next_int hh h.2.1 h.2.2 (fun A' E' Q' q => st i h.1 s h.2.2 A' E' Q' q) (fun x F' e h' sb It => ?_) fun e => ?_
    · rw [if_pos hi] at e
      cases e
      exact hQ _ h' s.toks rfl ⟨hi, It, h.2.2.keep fun o e => (sb.2 a ne).trans e⟩ fun b o hb e => (sb.2 b fun z => hb (by simp [z])).trans e
    · rw [if_pos hi] at e; cases e
  done := fun s Q E h hQ => by
    refine next_int hh h.2.1 h.2.2 (fun A' E' Q' q => st _ h.1 s h.2.2 A' E' Q' q) (fun x F' e => ?_) fun _ h' k => hQ h' s.toks fun b o hb e => k b o (fun z => hb (by simp [z])) e
    rw [if_neg (Nat.lt_irrefl _)] at e; cases e
  self := fun _ _ _ _ h q => iter_self h.2.1 q
/-- a walk by places that were drawn -/
theorem walks_drawn (hh : A.handled = none) (ne : a ≠ I) (nT : T ≠ I) {ord : List Nat} (hps : ps = (ord.map fun i : Nat => rawInt i).toArray) (hl : ord.length = es.size) (ho : ∀ i ∈ ord, i < es.size) :
    Walks prog w A I [I, a, T] [I] es.size (fun i v => ∃ j, ord[i]? = some j ∧ ∃ k, es[j]? = some (k, v)) (fun i h => i ≤ es.size ∧ (IterAt h I a (.ref T) i es.size ep ∧ ObjAt h a es ep t) ∧ PlacesAt h T ps) where
  sub := fun b hb => by simp at hb; simp [hb]
  frame := fun _ _ _ st k => ⟨st.1, ⟨st.2.1.1.keep fun o e => k I (by simp) o e, st.2.1.2.keep fun o e => k a (by simp) o e⟩, st.2.2.keep fun o e => k T (by simp) o e⟩
  item := fun i s Q E hi h hQ => by
    have hj : i < ord.length := by omega
    have e0 : ps[i]? = some (.int (ord[i] : Nat) 0) := by rw [hps]; simp [hj, rawInt]
    have hlt := ho ord[i] (List.getElem_mem hj)
    obtain ⟨⟨k0, x0⟩, q0⟩ : ∃ q, es[ord[i]]? = some q := ⟨_, Array.getElem?_eq_getElem hlt⟩
    refine next_drawn hh h.2.1.1 h.2.1.2 h.2.2 (fun p ep' k x ex h' sb It => ?_) (fun e => by rw [e0] at e; cases e) (.inr ⟨_, k0, x0, e0, by simpa using q0⟩)
    rw [e0] at ep'
    cases ep'
    refine hQ x h' s.toks ⟨ord[i], List.getElem?_eq_getElem hj, k, by simpa using ex⟩ ⟨hi, ⟨It, h.2.1.2.keep fun o e => (sb.2 a ne).trans e⟩, h.2.2.keep fun o e => (sb.2 T nT).trans e⟩ fun b o hb e => (sb.2 b fun z => hb (by simp [z])).trans e
  done := fun s Q E h hQ => by
    have e0 : ps[es.size]? = none := by rw [hps]; simp; omega
    exact next_drawn hh h.2.1.1 h.2.1.2 h.2.2 (fun p ep' => by rw [e0] at ep'; cases ep') (fun _ h' k => hQ h' s.toks fun b o hb e => k b o (fun z => hb (by simp [z])) e) (.inl e0)
  self := fun _ _ _ _ h q => iter_self h.2.1.1 q
end
end SetL
end L2
namespace L2
open PySem PySem.Spec PyProof.Rows
namespace SetL
theorem erase_perm {α : Type} : ∀ (l : List α) (i : Nat) (h : i < l.length), (l[i] :: l.eraseIdx i).Perm l
  | x :: xs, 0, _ => .refl _
  | x :: xs, i + 1, h => (List.Perm.swap x _ _).trans ((erase_perm xs i (by simpa using h)).cons x)
theorem pick_go {α : Type} (next : Nat → Nat) : ∀ (fuel k : Nat) (left : List α) (out : Array α), left.length = fuel → (pickOrder.go next fuel k left out).toList.Perm (out.toList ++ left)
  | 0, k, left, out, h => by
    have : left = [] := List.length_eq_zero_iff.mp h
    subst this
    unfold pickOrder.go
    simp
  | fuel + 1, k, left, out, h => by
    have lt : next k % left.length < left.length := Nat.mod_lt _ (by omega)
    unfold pickOrder.go
    rw [List.getElem?_eq_getElem lt]
    dsimp only
    refine (pick_go next fuel (k + 1) _ _ (by rw [List.length_eraseIdx_of_lt lt, h]; rfl)).trans ?_
    rw [Array.toList_push, List.append_assoc]
    refine List.Perm.append_left _ ?_
    exact erase_perm left _ lt
theorem pick_perm {α : Type} (next : Nat → Nat) (xs : Array α) : (pickOrder next xs).toList.Perm xs.toList := by
  unfold pickOrder
  simpa using pick_go next xs.size 0 xs.toList #[] (by simp)
/-- the slot from which the i-th turn looks -/
def slotAt (t : SetTable) (i : Nat) : Nat := if i = 0 then 0 else t.place.getD (i - 1) 0 + 1
theorem below_at {t : SetTable} (h : Up t.place) {i : Nat} (hi : i ≤ t.place.size) : SetTable.below t.place (slotAt t i) = i := by
  obtain ⟨h0, h1, h2⟩ := below_spec h (slotAt t i)
  generalize SetTable.below t.place (slotAt t i) = p at *
  have gd : ∀ j, j < t.place.size → ∀ d e, t.place.getD j d = t.place.getD j e := fun j hj d e => by simp [Array.getD, hj]
  by_cases hz : i = 0
  · subst hz
    refine Nat.eq_zero_of_not_pos fun hp => ?_
    have := h1 0 hp
    unfold slotAt at this
    rw [if_pos rfl] at this
    omega
  · have e : slotAt t i = t.place.getD (i - 1) 0 + 1 := by unfold slotAt; rw [if_neg hz]
    rcases Nat.lt_trichotomy p i with lt | rfl | gt
    · have := h2 (i - 1) (by omega) (by omega)
      rw [gd _ (by omega) _ 0, e] at this
      omega
    · rfl
    · have := h1 i gt
      have u := up_lt h (i := i - 1) (j := i) (by omega) (by omega) 0 0
      rw [gd _ (by omega) _ 0, e] at this
      omega
section
variable {prog : Program} {w : World} {a : Addr} {es : Array (Int × Value)} {ep : Nat} {t : SetTable}
theorem next_plain (hb : w.params.followText "set-order" = false) (T : Tab false t) (hf : t.fits es.size = true) (hp : (!t.plain && decide (es.size > 1)) = false) (i : Nat) (hi : i ≤ es.size) (s : Shared) (O : ObjAt s.heap a es ep t) (A' : Around)
    (E' : Value → Shared → Prop) (Q' : Option (Value × Nat) → Shared → Prop) (q : Q' (if i < es.size then some ((es.getD i (0, .none)).2, slotAt t (i + 1)) else none) s) : wpAny (model prog w) A' (setNext a (slotAt t i) i ep) Q' E' s := by
  have fz : t.place.size = es.size := by simp [SetTable.fits] at hf; exact hf.1
  have up : Up t.place := by
    by_cases pl : t.plain = true
    · exact T.up pl
    · have : es.size ≤ 1 := by simp [pl] at hp; exact hp
      unfold Up
      have l1 : t.place.toList.length ≤ 1 := by rw [Array.length_toList]; omega
      match hq : t.place.toList, l1 with
      | [], _ => exact .nil
      | [x], _ => exact List.pairwise_singleton _ _
      | _ :: _ :: _, z => simp at z
  unfold setNext
  refine wpAny_bind (state_at O ?_)
  unfold setsByText
  refine wpAny_bind (wpAny_bind (wpAny_askSetting (wpAny_pure ?_)))
  rw [show (model prog w).w.params.followText "set-order" = false from hb]
  rw [if_neg Bool.false_ne_true]
  dsimp only
  show wpAny _ _ (if (!t.plain && decide (es.size > 1)) = true then _ else _) _ _ _
  rw [if_neg (by rw [hp]; exact Bool.false_ne_true)]
  refine wpAny_bind ?_
  show wpAny _ _ (if (!t.led && !es.isEmpty) = true then _ else _) _ _ _
  rw [if_neg (by rw [T.led]; simp)]
  refine wpAny_pure ?_
  rw [below_at up (by omega)]
  refine wpAny_pure ?_
  by_cases lt : i < es.size
  · rw [if_pos lt] at q
    rw [Array.getElem?_eq_getElem lt, Array.getElem?_eq_getElem (by omega : i < t.place.size)]
    dsimp only
    have e1 : (es.getD i (0, .none)).2 = es[i].2 := by simp [Array.getD, lt]
    have e2 : slotAt t (i + 1) = t.place[i]'(by omega) + 1 := by simp [slotAt, Array.getD, show i < t.place.size by omega]
    rw [e1, e2] at q
    exact q
  · rw [if_neg lt] at q
    rw [Array.getElem?_eq_none (by omega)]
    exact q
theorem next_text (hb : w.params.followText "set-order" = true) (i : Nat) (hi : i ≤ es.size) (s : Shared) (O : ObjAt s.heap a es ep t) (A' : Around)
    (E' : Value → Shared → Prop) (Q' : Option (Value × Nat) → Shared → Prop) (q : Q' (if i < es.size then some (((pickOrder (w.params.setOrder a ep) es).getD i (0, .none)).2, 0) else none) s) : wpAny (model prog w) A' (setNext a 0 i ep) Q' E' s := by
  have sz : (pickOrder (w.params.setOrder a ep) es).size = es.size := by
    have := (pick_perm (w.params.setOrder a ep) es).length_eq
    simpa using this
  unfold setNext
  refine wpAny_bind (state_at O ?_)
  unfold setsByText
  refine wpAny_bind (wpAny_bind (wpAny_askSetting (wpAny_pure ?_)))
  rw [show (model prog w).w.params.followText "set-order" = true from hb, if_pos rfl]
  dsimp only
  rw [if_neg (by simp)]
  refine wpAny_bind ?_
  unfold setWalk
  refine wpAny_bind (state_at O ?_)
  unfold setsByText
  refine wpAny_bind (wpAny_bind (wpAny_askSetting (wpAny_pure ?_)))
  rw [show (model prog w).w.params.followText "set-order" = true from hb, if_pos rfl]
  refine wpAny_bind (wpAny_askSetting (wpAny_pure (wpAny_pure ?_)))
  show Q' (Option.map (fun e => (e.2, 0)) (pickOrder (w.params.setOrder a ep) es)[i]?) s
  by_cases lt : i < es.size
  · rw [if_pos lt] at q
    rw [Array.getElem?_eq_getElem (by omega)]
    have e1 : ((pickOrder (w.params.setOrder a ep) es).getD i (0, .none)).2 = ((pickOrder (w.params.setOrder a ep) es)[i]'(by omega)).2 := by simp [Array.getD, show i < (pickOrder (w.params.setOrder a ep) es).size by omega]
    rw [e1] at q
    exact q
  · rw [if_neg lt] at q
    rw [Array.getElem?_eq_none (by omega)]
    exact q
end
end SetL
end L2
namespace L2
open PySem PySem.Spec PyProof.Rows
namespace SetL
section
variable {prog : Program} {w : World} {A : Around} {E : Value → Shared → Prop}
theorem choose_any {src : Source} {n : Nat} {s : Shared} {Q : Nat → Shared → Prop} (hn : 0 < n) (h : ∀ i d, i < n → Q i { s with drawn := d }) : wpAny (model prog w) A (choose src n) Q E s :=
  fun Γ p hΓ => ⟨by omega, h _ _ (Nat.mod_lt _ hn)⟩
theorem draw_perm {α : Type} : ∀ (n : Nat) (xs : List α) (s : Shared) (Q : List α → Shared → Prop), xs.length = n → (∀ l d, l.Perm xs → Q l { s with drawn := d }) → wpAny (model prog w) A (drawOrder n xs) Q E s
  | 0, xs, s, Q, hl, h => by
    have : xs = [] := List.length_eq_zero_iff.mp hl
    subst this
    unfold drawOrder
    exact wpAny_pure (h [] s.drawn (.refl _))
  | n + 1, [], s, Q, hl, h => by simp at hl
  | n + 1, x :: xs, s, Q, hl, h => by
    unfold drawOrder
    refine wpAny_bind (choose_any (by simp) fun i d hi => ?_)
    rw [List.getElem?_eq_getElem hi]
    refine wpAny_bind (draw_perm n _ _ _ (by rw [List.length_eraseIdx_of_lt hi, hl]; rfl) fun l d' hp => wpAny_pure (h _ d' ?_))
    exact (hp.cons _).trans (erase_perm (x :: xs) i hi)
end
theorem items_eq {P : Nat → Value → Prop} {acc : Array Value} {n : Nat} {f : Nat → Value} (h : ItemsOf P acc n) (hf : ∀ i v, i < n → P i v → v = f i) : acc.toList = (List.range n).map f := by
  apply List.ext_getElem?
  intro j
  rw [List.getElem?_map]
  by_cases lt : j < n
  · have e : acc.toList[j]? = some (acc[j]'(by rw [h.1]; exact lt)) := by rw [Array.getElem?_toList]; exact Array.getElem?_eq_getElem _
    rw [e, List.getElem?_range lt]
    exact congrArg some (hf j _ lt (h.2 j _ (Array.getElem?_eq_getElem _)))
  · rw [List.getElem?_eq_none (by rw [Array.length_toList, h.1]; omega), List.getElem?_eq_none (by rw [List.length_range]; omega)]
    rfl
theorem range_arr {α β : Type} (xs : Array α) (d : α) (f : α → β) : (List.range xs.size).map (fun i => f (xs.getD i d)) = xs.toList.map f := by
  apply List.ext_getElem?
  intro j
  rw [List.getElem?_map, List.getElem?_map]
  by_cases lt : j < xs.size
  · rw [List.getElem?_range lt, Array.getElem?_toList, Array.getElem?_eq_getElem lt]
    simp [Array.getD, lt]
  · rw [List.getElem?_eq_none (by rw [List.length_range]; omega), List.getElem?_eq_none (by rw [Array.length_toList]; omega)]
    rfl
section
variable {prog : Program} {w : World} {A : Around} {E : Value → Shared → Prop} {s : Shared} {a : Addr} {es : Array (Int × Value)} {ep : Nat} {t : SetTable}
/-- iter(a set): a walk that meets each of its elements once -/
theorem iter_set {B : Around} {Q : Value → Shared → Prop} (hB : B.handled = none) (ty : s.TypeIs (.ref a) "set") (O : ObjAt s.heap a es ep t) (T : Tab (w.params.followText "set-order") t) (hz : es.size ≤ sizeLine)
    (hQ : ∀ I h' d' fp P (St : Nat → Heap → Prop), Walks prog w B I fp [I] es.size P St → St 0 h' → (∀ b ∈ fp, b = a ∨ (s.heap.objs.size ≤ b ∧ b < h'.objs.size)) → (∀ acc, ItemsOf P acc es.size → acc.toList.Perm (es.toList.map (·.2))) →
      (∀ b o, s.heap.get? b = some o → h'.get? b = some o) → s.heap.objs.size ≤ I → Q (.ref I) { s with heap := h', drawn := d' }) : wpAny (model prog w) A (pyIter (.ref a)) Q E s := by
  have hf : t.fits es.size = true := O.choose_spec.2.2
  have alt : a < s.heap.objs.size := Heap.lt_size O.choose_spec.1
  refine wpAny_pyIter_slot ty PySem.F.slot_set_iter (wpAny_call_entry PySem.F.slot_set_iter ty en_siter ?_ (PySem.F.args_set_iter_1 _))
  unfold Builtin.«frozenset.__iter__» Builtin.Frozenset.slot0
  refine wpAny_bind (wpAny_bind (wpAny_of_eq (a := (Value.ref a, [])) rfl (wpAny_of_eq (a := a) rfl ?_)))
  unfold Builtin.Frozenset.sizeOf setEntries
  refine wpAny_bind (wpAny_bind (wpAny_bind (state_at O (wpAny_pure (wpAny_pure ?_)))))
  unfold setDrawn setsByText
  refine wpAny_bind (wpAny_bind (state_at O (wpAny_bind (wpAny_bind (wpAny_askSetting (wpAny_pure (wpAny_pure ?_)))))))
  show wpAny _ _ (if (!w.params.followText "set-order" && (!t.plain && decide (es.size > 1))) = true then _ else _) _ _ _
  have body : ∀ (first : Value) (s1 : Shared), ObjAt s1.heap a es ep t → (∀ I h', h' = s1.heap.push { cls := .type "set_iterator", data := .fields #[first, .int (0 : Nat) 0, .ref a, .int es.size 0, .int ep 0] } → I = s1.heap.objs.size → IterAt h' I a first 0 es.size ep → ObjAt h' a es ep t → Q (.ref I) { s1 with heap := h' }) →
      wpAny (model prog w) A.in1 (setEpoch a >>= fun e => newFields "set_iterator" [first, rawInt 0, .ref a, rawInt es.size, rawInt e] >>= fun x => ret x) (fun fin s' => ∃ v, fin = .done (.ret v) ∧ ∃ T' r, s'.TypeIs v T' ∧ typeLookup (.type T') "__next__" = pure (some r) ∧ Q v s') E s1 := fun first s1 O1 q => by
    unfold setEpoch
    refine wpAny_bind (wpAny_bind (state_at O1 (wpAny_pure ?_)))
    refine wpAny_bind (wpAny_newObj_type (wpAny_pure ?_))
    have g : (s1.heap.push { cls := .type "set_iterator", data := .fields #[first, .int (0 : Nat) 0, .ref a, .int es.size 0, .int ep 0] }).get? s1.heap.objs.size = some { cls := .type "set_iterator", data := .fields #[first, .int (0 : Nat) 0, .ref a, .int es.size 0, .int ep 0] } := Heap.get?_push_size _ rfl
    exact ⟨_, rfl, "set_iterator", _, ⟨_, g, rfl⟩, si_next.lookup, q _ _ rfl rfl ⟨_, g, rfl, rfl⟩ (O1.keep fun o e => Heap.get?_push_of_some _ e)⟩
  have pin : ∀ (F : Nat → Nat) (ord : Nat → Value), F 0 = 0 → (∀ i, i ≤ es.size → ∀ (s : Shared), ObjAt s.heap a es ep t → ∀ (A' : Around) (E' : Value → Shared → Prop) (Q' : Option (Value × Nat) → Shared → Prop),
      Q' (if i < es.size then some (ord i, F (i + 1)) else none) s → wpAny (model prog w) A' (setNext a (F i) i ep) Q' E' s) → ((List.range es.size).map ord).Perm (es.toList.map (·.2)) →
      wpAny (model prog w) A.in1 (setEpoch a >>= fun e => newFields "set_iterator" [rawInt 0, rawInt 0, .ref a, rawInt es.size, rawInt e] >>= fun x => ret x) (fun fin s' => ∃ v, fin = .done (.ret v) ∧ ∃ T' r, s'.TypeIs v T' ∧ typeLookup (.type T') "__next__" = pure (some r) ∧ Q v s') E s := fun F ord F0 st pm => by
    refine body (rawInt 0) s O fun I h' eh eI It O' => ?_
    have Ilt : I < h'.objs.size := by rw [eh, eI, Heap.size_push]; exact Nat.lt_succ_self _
    refine hQ I h' s.drawn [I, a] _ _ (walks_int (prog := prog) (w := w) (A := B) hB (by rw [eI]; exact Nat.ne_of_lt alt) st) ⟨Nat.zero_le _, by rw [F0]; exact It, O'⟩ (fun b hb => ?_) (fun acc hacc => ?_) (fun b o e => by rw [eh]; exact Heap.get?_push_of_some _ e) (by rw [eI]; exact Nat.le_refl _)
    · simp only [List.mem_cons, List.not_mem_nil, or_false] at hb
      rcases hb with rfl | rfl
      · exact .inr ⟨by rw [eI]; exact Nat.le_refl _, Ilt⟩
      · exact .inl rfl
    · rw [items_eq hacc fun i v _ q => q]
      exact pm
  by_cases hd : (!w.params.followText "set-order" && (!t.plain && decide (es.size > 1))) = true
  · rw [if_pos hd]
    refine wpAny_bind (draw_perm es.size (List.range es.size) s _ (by simp) fun ord d hp => ?_)
    have ol : ord.length = es.size := by rw [hp.length_eq]; simp
    refine wpAny_bind (wpAny_newObj_type ?_ ?_)
    · refine body (.ref s.heap.objs.size) { s with heap := s.heap.push { cls := .type "tuple", data := .seq (ord.map fun i : Nat => rawInt i).toArray }, drawn := d } (O.keep fun o e => Heap.get?_push_of_some _ e) fun I h' eh eI It O' => ?_
      have eI' : I = s.heap.objs.size + 1 := by rw [eI]; exact Heap.size_push _ _
      have Ilt : h'.objs.size = s.heap.objs.size + 2 := by rw [eh, Heap.size_push, Heap.size_push]
      have P : PlacesAt h' s.heap.objs.size (ord.map fun i : Nat => rawInt i).toArray := ⟨_, _, by rw [eh]; exact Heap.get?_push_of_some _ (Heap.get?_push_size _ rfl), rfl⟩
      refine hQ I h' d [I, a, s.heap.objs.size] _ _ (walks_drawn (prog := prog) (w := w) (A := B) hB (by rw [eI']; exact Nat.ne_of_lt (Nat.lt_succ_of_lt alt)) (by rw [eI']; exact Nat.ne_of_lt (Nat.lt_succ_self _)) rfl ol fun i hi => by
        have := hp.mem_iff.mp hi
        simpa using this) ⟨Nat.zero_le _, ⟨It, O'⟩, P⟩ (fun b hb => ?_) (fun acc hacc => ?_) (fun b o e => by rw [eh]; exact Heap.get?_push_of_some _ (Heap.get?_push_of_some _ e)) (by rw [eI']; exact Nat.le_succ _)
      · simp only [List.mem_cons, List.not_mem_nil, or_false] at hb
        rcases hb with rfl | rfl | rfl
        · exact .inr ⟨by rw [eI']; exact Nat.le_succ _, by rw [Ilt, eI']; exact Nat.lt_succ_self _⟩
        · exact .inl rfl
        · exact .inr ⟨Nat.le_refl _, by rw [Ilt]; exact Nat.lt_succ_of_lt (Nat.lt_succ_self _)⟩
      · have e1 : acc.toList = (List.range es.size).map fun i => (es.getD (ord.getD i 0) (0, .none)).2 := items_eq hacc fun i v lt ⟨j, hj, k, hk⟩ => by
          have hlt : j < es.size := by
            have := hp.mem_iff.mp (List.mem_of_getElem? hj)
            simpa using this
          have hi : i < ord.length := by omega
          rw [List.getElem?_eq_getElem hi] at hj
          cases hj
          rw [Array.getElem?_eq_getElem hlt] at hk
          cases hq : es[ord[i]]
          rw [hq] at hk
          cases hk
          simp [Array.getD, hi, hlt, hq]
        rw [e1]
        have e2 : (List.range es.size).map (fun i => (es.getD (ord.getD i 0) (0, .none)).2) = ord.map fun j => (es.getD j (0, .none)).2 := by
          have := range_arr ord.toArray 0 fun j => (es.getD j (0, .none)).2
          simpa [ol] using this
        rw [e2, ← range_arr es (0, .none) (·.2)]
        exact hp.map _
    · show (ord.map fun i : Nat => rawInt i).toArray.size ≤ sizeLine
      simp [ol, hz]
  · rw [if_neg hd]
    refine wpAny_bind (wpAny_pure ?_)
    cases hb : w.params.followText "set-order" with
    | true =>
      refine pin (fun _ => 0) (fun i => ((pickOrder (w.params.setOrder a ep) es).getD i (0, .none)).2) rfl (fun i hi s O A' E' Q' q => next_text hb i hi s O A' E' Q' q) ?_
      have sz : (pickOrder (w.params.setOrder a ep) es).size = es.size := by
        have := (pick_perm (w.params.setOrder a ep) es).length_eq
        simpa using this
      rw [← sz, range_arr]
      exact (pick_perm _ _).map _
    | false =>
      have T' := T
      rw [hb] at T'
      rw [hb] at hd
      refine pin (slotAt t) (fun i => (es.getD i (0, .none)).2) rfl (fun i hi s O A' E' Q' q => next_plain hb T' hf (by simpa using hd) i hi s O A' E' Q' q) ?_
      rw [range_arr]
end
end SetL
end L2
namespace L2
open PySem PySem.Spec PyProof.Rows
namespace SetL
theorem len_set : typeLookup (.type "set") "__len__" = pure (some (.builtin "set.__len__")) := by rw [typeLookup_type, builtinLookup_eq_fast]; kernel_rfl
theorem wp_if {M : Model} {A : Around} {α : Type} {Q : α → Shared → Prop} {E : Value → Shared → Prop} {s : Shared} {c : Prop} [Decidable c] {x y : Sem α} (hc : c) (h : wpAny M A x Q E s) : wpAny M A (if c then x else y) Q E s := by rw [if_pos hc]; exact h
theorem wp_ifn {M : Model} {A : Around} {α : Type} {Q : α → Shared → Prop} {E : Value → Shared → Prop} {s : Shared} {c : Prop} [Decidable c] {x y : Sem α} (hc : ¬ c) (h : wpAny M A y Q E s) : wpAny M A (if c then x else y) Q E s := by rw [if_neg hc]; exact h
section
variable {prog : Program} {w : World} {A : Around} {E : Value → Shared → Prop} {s : Shared} {a : Addr} {es : Array (Int × Value)} {ep : Nat} {t : SetTable}
theorem hint_set {Q : Bool → Shared → Prop} (ty : s.TypeIs (.ref a) "set") (q : Q false s) : wpAny (model prog w) A (Builtin.List.listLengthHint (.ref a)) Q E s := by
  unfold Builtin.List.listLengthHint
  refine wpAny_bind (wpAny_specialOf ty len_set ?_)
  generalize hid : ("set.__len__" : String) = id0
  have h1 : splitId id0 = some ("set", "__len__") := by subst hid; decide +kernel
  dsimp only
  rw [h1]
  subst hid
  refine wpAny_bind (wpAny_isInstance (b := true) ty (by rw [isSubtype_type]; kernel_rfl) ?_)
  refine wp_ifn (by simp) (wp_if (by decide +kernel) (wpAny_bind (wpAny_typeOf ty ?_)))
  exact wpAny_pure q
theorem collect_set {Q : List Value → Shared → Prop} (hh : A.handled = none) (ty : s.TypeIs (.ref a) "set") (O : ObjAt s.heap a es ep t) (T : Tab (w.params.followText "set-order") t) (hz : es.size ≤ sizeLine)
    (hQ : ∀ vs h' d' tk, vs.Perm (es.toList.map (·.2)) → (∀ b o, s.heap.get? b = some o → h'.get? b = some o) → Q vs { s with heap := h', drawn := d', toks := tk }) : wpAny (model prog w) A (collect (.ref a)) Q E s := by
  have alt : a < s.heap.objs.size := Heap.lt_size O.choose_spec.1
  unfold collect
  refine wpAny_bind (wpAny_runValue (codeAny_builtin PySem.F.entry_proto_collect ?_))
  rw [Around.under_plainId PySem.F.plain_proto_collect _]
  show wpAny _ A.in1 (newList [] >>= fun l => again (.builtin "list.__iadd__" ⟨[l, .ref a], []⟩)) _ _ s
  refine wpAny_bind (wpAny_newObj_type ?_)
  refine wpAny_pure ⟨plainId_quiet PySem.F.plain_list_iadd _, codeAny_builtin PySem.F.entry_list_iadd ?_⟩
  rw [Around.under_plainId PySem.F.plain_list_iadd _]
  show wpAny _ A.in1 (Builtin.List.listExtendWith (.ref s.heap.objs.size) (.ref a) (.ref s.heap.objs.size)) _ _ _
  have ne : Builtin.List.listSameRef (.ref s.heap.objs.size) (.ref a) = false := by
    have : s.heap.objs.size ≠ a := Nat.ne_of_gt alt
    simp [Builtin.List.listSameRef, this]
  obtain ⟨oa, hoa, hca⟩ := id ty
  have ty1 : ({ s with heap := s.heap.push { cls := .type "list", data := .seq ([] : List Value).toArray } } : Shared).TypeIs (.ref a) "set" := ⟨oa, Heap.get?_push_of_some _ hoa, hca⟩
  unfold Builtin.List.listExtendWith
  refine wpAny_bind (wpAny_typeOf ty1 ?_)
  rw [if_neg (by rw [ne]; decide)]
  refine wpAny_bind (iter_set (B := A.in1) (by simp [hh]) ty1 (O.keep fun o e => Heap.get?_push_of_some _ e) T hz fun I h' d' fp P St W st0 hfp pm kp hI => ?_)
  have S1 : h'.get? s.heap.objs.size = some { cls := .type "list", data := .seq ([] : List Value).toArray } := kp _ _ (Heap.get?_push_size _ rfl)
  refine wpAny_bind (wpAny_holding (hint_set ⟨oa, kp _ _ (Heap.get?_push_of_some _ hoa), hca⟩ ?_))
  refine wp_if (by decide +kernel) (wpAny_bind (wpAny_rule (wpAny_bind ?_)))
  unfold Builtin.List.listTouch
  have g1 : (h'.update s.heap.objs.size (Obj.mapSeq (·.push Value.none))).get? s.heap.objs.size = some { cls := .type "list", data := .seq #[.none] 1 } := Heap.get?_update_self _ S1 rfl
  have g2 : ((h'.update s.heap.objs.size (Obj.mapSeq (·.push Value.none))).update s.heap.objs.size (Obj.mapSeq (·.pop))).get? s.heap.objs.size = some { cls := .type "list", data := .seq #[] 2 } := Heap.get?_update_self _ g1 rfl
  refine wpAny_bind (listUpdate_at S1 rfl (listUpdate_at g1 rfl ?_ (by decide) (by decide)) (by decide) (by decide))
  have Sf : s.heap.objs.size ∉ fp := fun z => by
    rcases hfp _ z with e | ⟨e, _⟩
    · exact absurd alt (by rw [← e]; exact Nat.lt_irrefl _)
    · rw [Heap.size_push] at e
      exact Nat.not_succ_le_self _ e
  have st1 : St 0 ((h'.update s.heap.objs.size (Obj.mapSeq (·.push Value.none))).update s.heap.objs.size (Obj.mapSeq (·.pop))) := W.frame 0 h' _ st0 fun b hb o e => by
    have nb : b ≠ s.heap.objs.size := fun z => Sf (z ▸ hb)
    exact (Heap.get?_update_ne _ _ _ _ nb).trans ((Heap.get?_update_ne _ _ _ _ nb).trans e)
  refine wpAny_pure ⟨plainId_quiet PySem.F.plain_extend_loop _, codeAny_extend_loopS W.toS hz _ Sf _ es.size 0 _ #[] 2 rfl (Nat.zero_le _) st1 g2 (ItemsOf.nil P) fun s' acc c mv S' hacc => ?_⟩
  show wpAny _ A (load s.heap.objs.size >>= _) _ _ s'
  refine wpAny_bind (wpAny_load S' (wpAny_pure ?_))
  obtain ⟨h2, g', d2, tk', os'⟩ := s'
  obtain rfl : g' = s.gens := mv.gens
  obtain rfl : os' = s.os := mv.os
  refine hQ acc.toList h2 d2 tk' (pm acc hacc) fun b o e => mv.heap b o ?_ ?_
  · intro z
    have lt := Heap.lt_size e
    rcases List.mem_cons.mp z with z | z
    · exact absurd lt (by rw [z]; exact Nat.lt_irrefl _)
    · have z' : b = I := by simpa using z
      rw [z'] at lt
      have : s.heap.objs.size + 1 ≤ I := by rw [← Heap.size_push]; exact hI
      exact absurd (Nat.lt_of_lt_of_le lt (Nat.le_trans (Nat.le_succ _) this)) (Nat.lt_irrefl _)
  · have nb : b ≠ s.heap.objs.size := Nat.ne_of_lt (Heap.lt_size e)
    exact (Heap.get?_update_ne _ _ _ _ nb).trans ((Heap.get?_update_ne _ _ _ _ nb).trans (kp b o (Heap.get?_push_of_some _ e)))
end
end SetL
end L2
namespace L2
open PySem PySem.Spec PyProof.Rows
namespace SetL
theorem ints_of : ∀ {vs : List Value}, (∀ v ∈ vs, ∃ m t, v = .int m t) → IntsAre vs (vs.map intOf)
  | [], _ => .nil
  | v :: vs, h => by
    obtain ⟨m, t, rfl⟩ := h v (List.mem_cons_self)
    exact .cons m t (ints_of fun v hv => h v (List.mem_cons_of_mem _ hv))
section
variable {prog : Program} {w : World} {A : Around} {E : Value → Shared → Prop} {s : Shared} {a : Addr} {ms : List Int}
theorem sorted_set {Q : Value → Shared → Prop} (hh : A.handled = none) (S : SetI prog w s.heap a ms) (h64 : ms.length < 64)
    (h : ∀ h' d' tk (out : Array Value) ns' p n, IntsAre out.toList ns' → ns'.Perm ms → ns'.Pairwise (· ≤ ·) → (∀ b o, s.heap.get? b = some o → h'.get? b = some o) → s.heap.get? p = none → h'.get? p = some (seqObj "list" out n) → Q (.ref p) { s with heap := h', drawn := d', toks := tk }) :
    wpAny (model prog w) A (call (.builtin "sorted") [.ref a]) Q E s := by
  obtain ⟨⟨o, es, ep, t, ⟨ho, hex, hd⟩, ⟨hel, hb, hf⟩, T, rfl⟩, nd⟩ := S
  have lz : es.size < 64 := by simpa using h64
  refine Calls.call_function_entry kind_sorted plain_sorted entry_sorted (args_sorted1 _) ?_
  unfold Builtin.«sorted»
  refine wpAny_bind (m := checkCount "sorted" 1 1 _) (wpAny_pure ?_)
  refine wpAny_bind (collect_set (by simp [hh]) ⟨o, ho, hex.1⟩ ⟨o, ho, hd, hf⟩ T (by rw [sizeLine_eq]; omega) fun vs h1 d1 tk1 pm kp => ?_)
  have vi : IntsAre vs (vs.map intOf) := ints_of fun v hv => by
    obtain ⟨e, he, rfl⟩ := List.mem_map.mp (pm.mem_iff.mp hv)
    obtain ⟨⟨k, hk, _⟩, _⟩ := hel e he
    obtain ⟨t, e2⟩ := Value.isInt_shape (show Value.isInt k e.2 = true from hk)
    exact ⟨k, t, e2⟩
  have vp : (vs.map intOf).Perm (es.toList.map fun e => intOf e.2) := by
    have := pm.map intOf
    rwa [List.map_map] at this
  have vl : vs.length < 64 := by rw [pm.length_eq]; simpa using lz
  have sl : vs.length ≤ sizeLine := by rw [sizeLine_eq]; omega
  refine wpAny_bind (wpAny_newList ?_ (by first | exact sl | simpa using sl))
  have g0 : (h1.push (seqObj "list" vs.toArray 0)).get? h1.objs.size = some (seqObj "list" vs.toArray 0) := Heap.get?_push_size _ rfl
  have ol : s.heap.get? h1.objs.size = none := by
    cases q : s.heap.get? h1.objs.size with
    | none => rfl
    | some u => exact absurd (Heap.lt_size (kp _ _ q)) (Nat.lt_irrefl _)
  show wpAny _ _ _ _ _ { s with heap := h1.push (seqObj "list" vs.toArray 0), drawn := d1, toks := tk1 }
  refine wpAny_bind (wpAny_holding (wpAny_call_entry slot_list_sort ⟨_, g0, rfl⟩ entry_list_sort (list_sort_tree g0 vi vl fun out ns' a1 a2 a3 => ⟨_, rfl, ?_⟩) (args_list_sort _)))
  obtain ⟨n, g1⟩ := sortedHeap_at (out := out) g0
  refine wpAny_pure ⟨_, rfl, h _ _ _ out ns' h1.objs.size n a1 (a2.trans vp) a3 (fun b u e => ?_) ol g1⟩
  have e1 := kp b u e
  have lt := Heap.lt_size e1
  rw [sortedHeap_old (Nat.ne_of_lt lt) (by rw [size_push']; exact Nat.lt_succ_of_lt lt)]
  exact Heap.get?_push_of_some _ e1
end
end SetL
end L2
namespace L2
open PySem PySem.Spec PyProof.Rows
/-- a set of just the whole numbers ms -/
def SetO (P : Program) (w : World) (a : Addr) (ms : List Int) : HO := .ext fun h => SetL.SetI P w h a ms
theorem SetL.SetI.obj {P : Program} {w : World} {h : Heap} {a : Addr} {ms : List Int} (S : SetL.SetI P w h a ms) : ∃ o, h.get? a = some o := let ⟨⟨o, _, _, _, ⟨e, _⟩, _⟩, _⟩ := S; ⟨o, e⟩
section
variable {X : Cx} {pins : List (Addr × Obj)} {σ : St} {H : Hp} {s : Shared}
theorem Inv.drew (I : Inv X pins σ H s) (d : Drawn) : Inv X pins σ H { s with drawn := d } := ⟨I.ok, I.os, I.bare, I.base, I.loc, I.cell, I.free, I.freeC, I.pin, I.hok, I.len⟩
/-- set(xs), xs a list of whole numbers -/
theorem call_setI (hc : X.calm = true) : CallR X (.type "set") (fun xs H Q => ∃ (l : Addr) (ns : List Int), xs = [.ref l] ∧ SqL X.K H l (ns.map V.int) ∧ ns.length < 4000 ∧
    ∀ (p : Addr) (H' : Hp) (ms : List Int), H p = none → Same H H' → H' p = some (SetO X.prog X.w p ms) → ms.Nodup → (∀ m, m ∈ ms ↔ m ∈ ns) → ms.length ≤ ns.length → Q (.ref p) H') := by
  intro pins s σ H xs us Q I r h
  obtain ⟨l, ns, rfl, hq, hl, q⟩ := h
  obtain ⟨u, rfl, rx⟩ := vals1 r
  cases rx
  obtain ⟨its, rv, pl, hz⟩ := I.list hq
  have len : its.length = ns.length := by rw [← rv.length, List.length_map]
  refine SetL.set_of_list (I.ok.hd hc) pl.isList (by simpa using intsAre_vals rv) (by show its.toArray.size + 1 < 4096; simp; omega) fun h' tk ms S mm lm kp => ?_
  have k : ∀ b o, s.heap.get? b = some o → h'.get? b = some o := fun b o e => kp b o (Heap.lt_size e) e
  refine ⟨.ref s.heap.objs.size, _, I.laid (o := SetO X.prog X.w s.heap.objs.size ms) k (Nat.le_refl _) ⟨S, S.obj, fun h1 h2 p e => p.keep e⟩, rfl, q _ _ ms (I.hok.fresh (Nat.le_refl _)) (same_new (I.hok.fresh (Nat.le_refl _)) _) upd_same S.nd mm lm⟩
/-- sorted(a set of whole numbers) -/
theorem call_sortedS (hc : X.calm = true) (hex : X.ex = [] := by rfl) : CallR X (.builtin "sorted") (fun xs H Q => ∃ (p : Addr) (ms : List Int), xs = [.ref p] ∧ H p = some (SetO X.prog X.w p ms) ∧ ms.length < 64 ∧
    ∀ (l : Addr) (H' : Hp) (ns : List Int), H l = none → Same H H' → H' l = some (.lst (ns.map V.int)) → ns.Perm ms → ns.Pairwise (· ≤ ·) → Q (.ref l) H') := by
  intro pins s σ H xs us Q I r h
  obtain ⟨p, ms, rfl, hp, hl, q⟩ := h
  obtain ⟨u, rfl, rx⟩ := vals1 r
  cases rx
  refine SetL.sorted_set (I.ok.hd hc) (I.hok p _ hp).1 hl fun h' d' tk out ns l n a1 a2 a3 kp new at_ => ?_
  have vl : Vals (ns.map V.int) out.toList := vals_ints a1
  have nl : (ns.map V.int).length ≤ sizeLine := by rw [List.length_map, a2.length_eq, sizeLine_eq]; omega
  have I1 : Inv X pins σ (upd H l (.lst (ns.map V.int))) { s with heap := h', toks := tk } := I.trackNew kp new hex ⟨nl, out.toList, n, vl, by simpa [seqObj] using at_⟩
  exact ⟨.ref l, _, I1.drew d', rfl, q l _ ns (I.hok.gone new) (same_new (I.hok.gone new) _) upd_same a2 a3⟩
end
end L2
namespace L2
open PySem PySem.Spec PyProof.Rows
/-! ### for a, b in zip(xs, ys): two lists -/
section
variable {X : Cx} {pins : List (Addr × Obj)} {σ : St} {H : Hp} {s : Shared} {h' : Heap}
end
end L2
namespace L2
open PySem PySem.Spec PyProof.Rows
/-! ### within a comprehension's block: the written part is named -/
theorem ix_tupK {X : Cx} (K : PySem.W.Frag) (h : X.K = K := by rfl) : IxR X (rIxT K) := by subst h; exact ix_tup
section
variable {K : PySem.W.Frag} {H H' : Hp} {xs ys zs : List V} {l : List (Int × Int)} {p : Addr} {s : Int × Int}
end
end L2
namespace L2
open PySem PySem.Spec PyProof.Rows
/-! ### comprehensions, whatever is walked -/
/-- what is walked has just these items, however the heap grows -/
structure WalkOf (J : It) (H : Hp) (xs : List V) : Prop where
  go : ∀ i H', Same H H' → i < xs.length → J.go i H'
  yld : ∀ i H' x H2, Same H H' → J.yld i H' x H2 → H2 = H' ∧ xs[i]? = some x
  stop : ∀ i H', Same H H' → xs.length ≤ i → J.stop i H'
theorem walk_list {K : PySem.W.Frag} {H : Hp} {a : Addr} {xs : List V} (h : SqL K H a xs) : WalkOf (Itl K a) H xs :=
  ⟨fun i H' s hi => ⟨xs, _, s.seq h, List.getElem?_eq_getElem hi⟩, fun i H' x H2 s y => ⟨y.1, y.2 xs (s.seq h)⟩, fun i H' s hi => ⟨xs, s.seq h, hi⟩⟩
/-- each item by a word of it that new objects don't touch -/
theorem comp_any {J : It} {ix : List Nat} {te : TE} {σ : St} {l : Addr} {xs : List V} {H : Hp} {R : Hp → Prop} (Y : WalkOf J H xs) (hl : H l = none) (hz : xs.length ≤ sizeLine) (P : Nat → V → Hp → Prop)
    (mono : ∀ i v H1 H2, Same H1 H2 → P i v H1 → P i v H2) (put : ∀ i v H1 ys zs, H1 l = some (.lst ys) → P i v H1 → P i v (upd H1 l (.lst zs)))
    (hel : ∀ i x H' Q', xs[i]? = some x → Same H H' → (∀ v H2, Same H' H2 → P i v H2 → Q' v H2) → te (some x :: capts σ ix) H' Q')
    (fin : ∀ ys H', Same H H' → H' l = some (.lst ys) → ys.length = xs.length → (∀ j v, ys[j]? = some v → P j v H') → R H') :
    ∃ W : Nat → Nat → List V → Hp → Prop, (∃ m, W 0 m [] (upd H l (.lst []))) ∧ Turns ix te σ J l R W := by
  refine ⟨fun i m ys H' => m = xs.length - i ∧ i ≤ xs.length ∧ ys.length = i ∧ (∀ j v, ys[j]? = some v → P j v H') ∧ Same H H' ∧ H' l = some (.lst ys), ⟨xs.length, by simp, Nat.zero_le _, rfl, (fun j v e => by simp at e), same_new hl _, upd_same⟩, ?_⟩
  rintro i m ys H' ⟨rfl, hi, hx, hp, sH, hL⟩
  refine ⟨hL, ?_⟩
  by_cases hlt : i < xs.length
  · refine .inr ⟨Y.go i H' sH hlt, by omega, fun x H2 y => ?_⟩
    obtain ⟨rfl, e2⟩ := Y.yld i H' x H2 sH y
    refine hel i x _ _ e2 sH fun v H3 s3 hv => ⟨s3 _ _ hL, xs.length - (i + 1), by omega, rfl, hlt, by rw [List.length_append, hx]; rfl, fun j w e => ?_, same_put (sH.trans s3) hl, upd_same⟩
    by_cases hj : j < ys.length
    · rw [List.getElem?_append_left hj] at e
      exact put _ _ _ _ _ (s3 _ _ hL) (mono _ _ _ _ s3 (hp j w e))
    · by_cases hj2 : j = ys.length
      · subst hj2
        rw [List.getElem?_append_right (Nat.le_refl _), Nat.sub_self] at e
        cases e
        rw [hx]
        exact put _ _ _ _ _ (s3 _ _ hL) hv
      · rw [List.getElem?_eq_none (by rw [List.length_append, List.length_singleton]; omega)] at e
        cases e
  · exact .inl ⟨Y.stop i H' sH (by omega), fin ys H' sH hL (by omega) hp⟩
theorem sIx_nat (n d k : Nat) : HT.sIx n d (some (k : Int)) = min k n := by
  show (if (k : Int) < 0 then ((k : Int) + (n : Int)).toNat else min (k : Int).toNat n) = min k n
  rw [if_neg (by omega)]
  rfl
theorem cutV_hi (xs : List V) (k : Nat) : cutV xs none (some (k : Int)) = xs.take k := by
  unfold cutV
  rw [sIx_nat, show HT.sIx xs.length 0 none = 0 from rfl, List.drop_zero, Nat.sub_zero]
  by_cases h : k ≤ xs.length
  · rw [Nat.min_eq_left h]
  · rw [Nat.min_eq_right (by omega), List.take_of_length_le (Nat.le_refl _), List.take_of_length_le (by omega)]
end L2
namespace L2
open PySem
end L2
namespace L2
open PySem PySem.Spec PyProof.Rows
section
variable {X : Cx} {pins : List (Addr × Obj)} {σ : St} {H : Hp} {s : Shared} {sc : Scope} {x : Str} {ix : List Nat} {fp : List Addr} {elt iter c : Expr} {te : TE} {tt : TT} {wi : TI} {px pos : Pos}
end
end L2
namespace L2
open PySem PySem.Spec PyProof.Rows
/-! ### C() where no class of it has an __init__ -/
structure Mk0 (K : PySem.W.Frag) (C : Addr) : Prop where
  makes : PySem.W.makesIn K C = true
  init : PySem.W.findIn K (.ref C) "__init__" = some (some (.builtin "object.__init__"))
  kp : PySem.W.keepIn K (.ref C) = true
def tNew0 (C : Addr) : TE := fun _ H Q => ∀ x dx, H x = none → H dx = none → dx ≠ x → Q (.ref x) (upd (upd H dx (.own x)) x (.ins C dx []))
section
variable {X : Cx} {C : Addr} {x m : Str} {p pos apos : Pos} {e o : Expr} {es : List Expr} {ta : TE} {t : TA} {j k : Nat} {ps : List Str}
theorem pe_new0 (M : Mk0 X.K C) (hm : X.mg x = some (.ref C)) (hg : Gl X x := by rfl) (hdb : (x == ("__debug__" : Str)) = false := by decide) : PE X (.Call (.Name x p) [] [] pos) (tNew0 C) := by
  intro pins s σ H Q I h
  refine wpAny_Call_Name_kw (ld_glob I hg hm ?_ hdb)
  refine PySem.W.callWith_K0 I.kIn M.kp ?_
  have hq := h (s.heap.objs.size + 1) s.heap.objs.size (I.hok.fresh (Nat.le_succ _)) (I.hok.fresh (Nat.le_refl _)) (Nat.ne_of_lt (Nat.lt_succ_self _))
  have I2 := Inv.made (C := C) I
  have Y := PySem.W.makes_of (M := model X.prog X.w) I.kIn M.makes
  have e2 : ((s.heap.push PySem.W.emptyDict).push (PySem.W.instObj C s.heap.objs.size)).get? (s.heap.objs.size + 1) = some (PySem.W.instObj C s.heap.objs.size) := by
    have := Heap.get?_push_size (s.heap.push PySem.W.emptyDict) (o := PySem.W.instObj C s.heap.objs.size) rfl
    rwa [Heap.size_push] at this
  refine wpAny_call (make_map0 I.kIn M.makes M.init (fun self => PySem.W.Looks.of_pure (PySem.W.oi_bind self)) ?_)
  have t1 : PySem.W.Looks (model X.prog X.w) ((s.heap.push PySem.W.emptyDict).push (PySem.W.instObj C s.heap.objs.size)) (typeOf (.ref (s.heap.objs.size + 1))) (.ref C) := (PySem.W.Looks.ld e2).andThen .now
  have t2 : PySem.W.Looks (model X.prog X.w) ((s.heap.push PySem.W.emptyDict).push (PySem.W.instObj C s.heap.objs.size)) (isInstance (.ref (s.heap.objs.size + 1)) (.type "object")) true := t1.andThen (Y.top.keeps fun b o e => Heap.get?_push_of_some _ (Heap.get?_push_of_some _ e))
  refine codeAny_call_builtin PySem.W.oi_plain PySem.W.entry_oi (@PySem.W.check_slot (model X.prog X.w) _ _ _ "object.__init__" "object" "__init__" (.ref (s.heap.objs.size + 1)) [] [] _ PySem.W.oi_kind PySem.W.oi_split t2 (PySem.W.oi_args (.ref (s.heap.objs.size + 1))) ?_)
  rw [PySem.W.oi_run]
  exact wpAny_pure (And.intro rfl ⟨V.ref (s.heap.objs.size + 1), _, I2, rfl, hq⟩)
/-! ### four classes, one under which the others stand; methods by the class of the instance -/
inductive Kd where
  | plain | bank | thirty | exact
def Kd.cls : Kd → Str
  | .plain => "Count"
  | .bank => "Bank"
  | .thirty => "Thirty"
  | .exact => "Exact"
/-- an instance of that class, without attributes -/
def IsCnt (K : PySem.W.Frag) (H : Hp) (a : Addr) (kd : Kd) : Prop := ∃ dx, H a = some (.ins (cA K kd.cls) dx [])
theorem IsCnt.same {K : PySem.W.Frag} {H H' : Hp} {a : Addr} {kd : Kd} (h : IsCnt K H a kd) (s : Same H H') : IsCnt K H' a kd := let ⟨dx, e⟩ := h; ⟨dx, s _ _ e⟩
/-- a method of the text, as it is found from a class -/
structure MethS (K : PySem.W.Frag) (C : Addr) (m qual : Str) (st : Stmt) (ps : List Str) : Prop where
  ex : ∃ (f : Addr) (fd : FuncData), Fun K m qual st f fd ∧ Meth K C m f ∧ ∀ us : List Value, us.length = ps.length → bindArgs fd ⟨us, []⟩ = pure (ps.zip us)
structure DefM (P : Program) (w : World) (K : PySem.W.Frag) (mg : Str → Option Value) (base : Heap) (k : Nat) (C : Addr) (m : Str) (ps : List Str) (sp : Sp) : Prop where
  ex : ∃ (f : Addr) (fd : FuncData), FnOk P w K mg base CX0 k f fd ps sp ∧ Meth K C m f ∧ ∀ us : List Value, us.length = ps.length → bindArgs fd ⟨us, []⟩ = pure (ps.zip us)
theorem MethS.ok {P : Program} {w : World} {K : PySem.W.Frag} {mg : Str → Option Value} {base : Heap} {C : Addr} {m qual : Str} {st : Stmt} {N ps : List Str} {k : Nat} {sp : Sp} (S : MethS K C m qual st ps) (sc : FnScope N ps (defScope st)) (len : ∀ vs H Q E, sp vs H Q E → vs.length = ps.length)
    (hbody : ∀ (f : Addr) (cdv : Value) (A : Around) (outer : List Env) (s : Shared) (H : Hp) (vs : List V) (Q : VK) (E : XK), Room k (A.deeper (envOfC qual (defScope st) s.heap.objs.size f cdv)) → sp vs H Q E →
      ∃ t, PSs (cxOf CX0 P w K mg base N qual (defScope st) f cdv A outer s H E).nox (defBody st) t ∧ t { nx := fun _ H' => Q .non H', rt := Q } (start N vs) H) : DefM P w K mg base (k + 1) C m ps sp := by
  obtain ⟨f, fd, F, hm, hb⟩ := S.ex
  exact ⟨f, fd, F.ok sc len (fun cdv => hbody f cdv), hm, hb⟩
def tMethK (K : PySem.W.Frag) (sp : Kd → Sp) (ta : TE) (t : TA) : TE := fun σ H Q => ta σ H fun x H1 => ∃ (kd : Kd) (a : Addr), x = .ref a ∧ IsCnt K H1 a kd ∧ t σ H1 fun vs H2 => sp kd (x :: vs) H2 Q E0
theorem pe_methK0 {pl : Sem Bool} {sp : Kd → Sp} (D : ∀ kd : Kd, DefM X.prog X.w X.K X.mg X.base j (cA X.K kd.cls) m ps (sp kd)) (hc : ∀ kd : Kd, Cls X.K (cA X.K kd.cls)) (hr : Room k X.A) (he : PE X o ta) (hj : j ≤ k := by decide)
    (ht : eval (.Call (.Attribute o m apos) [] [] pos) X.env = (do
      let ov ← eval o X.env
      standAt apos.atName
      let (f, first) ← holding [ov] (getMethod ov m pl)
      callWith pos f first (backTo pos (starEach [] X.env)) (backToKw pos (keywordEach [] X.env))) := by rfl) :
    PE X (.Call (.Attribute o m apos) [] [] pos) (tMethK X.K sp ta tNil) := by
  intro pins s σ H Q I h
  refine PySem.W.methodCall_KW (pl := pl) (thn (he pins s σ H _ I h) fun u s1 ⟨x, H1, I1, rx, kd, a, ex, ⟨dx, ea⟩, q⟩ => ?_) ht
  subst ex
  obtain rfl : u = Value.ref a := rx
  obtain ⟨f, fd, F, hm, hb⟩ := (D kd).ex
  refine getmeth_ok I1 ea (hc kd) hm rfl ?_
  exact PySem.W.callWith_K0 (first := [.ref a]) I1.kIn hm.kp (run_fn (us := [.ref a]) (vs := [.ref a]) (dvs := []) (ds := []) F (hr.mono hj) (.all hb) .nil pass0 I1 (.cons rfl .nil) q)
end
/-! ### the facts, by the class's name -/
section
variable {K : PySem.W.Frag} {x : Str} {C f : Addr}
theorem cls_mk (a : PySem.W.nsIn K mainGlobals x = some (some (.ref C))) (h1 : PySem.W.plainGet K C Str.empty = true) (h2 : PySem.W.hasDictIn K C = true) (h3 : PySem.W.plainOver K C = true) (h4 : PySem.W.findIn K (.ref C) "__setattr__" = some (some (.builtin "object.__setattr__"))) : Cls K (cA K x) := by
  rw [cA_of a]; exact ⟨h1, h2, h3, h4⟩
theorem mk0_mk (a : PySem.W.nsIn K mainGlobals x = some (some (.ref C))) (h1 : PySem.W.makesIn K C = true) (h2 : PySem.W.findIn K (.ref C) "__init__" = some (some (.builtin "object.__init__"))) (h3 : PySem.W.keepIn K (.ref C) = true) : Mk0 K (cA K x) := by
  rw [cA_of a]; exact ⟨h1, h2, h3⟩
theorem meth_mk {m qual : Str} {st : Stmt} {ps : List Str} {oc : Value} {od an : Option Addr} {osl : Array (Option Value)} {kV doc pm cdv ct : Value} (a : PySem.W.nsIn K mainGlobals x = some (some (.ref C))) (hi : PySem.W.findIn K (.ref C) m = some (some (.ref f))) (hf : PySem.W.isFn K (.ref f) = true)
    (fk : PySem.W.keepIn K (.ref f) = true) (fl : K.lookup f = some ⟨oc, od, .func (PySem.W.fnOf m qual (defArgs st) (defBody st) (defScope st) .none kV doc pm an cdv ct), osl⟩) (fc : PySem.W.codeIn K cdv qual = true)
    (hb : ∀ us : List Value, us.length = ps.length → bindArgs (PySem.W.fnOf m qual (defArgs st) (defBody st) (defScope st) .none kV doc pm an cdv ct) ⟨us, []⟩ = pure (ps.zip us)) : MethS K (cA K x) m qual st ps := by
  rw [cA_of a]; exact ⟨f, _, fun_mk fl fc fk, ⟨hi, hf, fk⟩, hb⟩
end
end L2
namespace L2
open PySem
theorem new_cnt {K : PySem.W.Frag} {H : Hp} {x dx : Addr} (kd : Kd) (nx : H x = none) (nd : H dx = none) (ne : dx ≠ x) : Same H (upd (upd H dx (.own x)) x (.ins (cA K kd.cls) dx [])) ∧ IsCnt K (upd (upd H dx (.own x)) x (.ins (cA K kd.cls) dx [])) x kd :=
  ⟨(same_new nd _).trans (same_new (by rw [upd_ne ne.symm]; exact nx) _), dx, upd_same⟩
end L2
namespace L2
end L2
namespace L2
open PySem PySem.Spec PyProof.Rows
end L2
namespace L2
open PySem PySem.Spec PyProof.Rows
/-! ### comprehensions with two names: [elt for x, y in iter] -/
def Cx.block2 (X : Cx) (sc : Scope) (x y0 : Str) (ix : List Nat) (b : Blk) : Cx where
  prog := X.prog
  w := X.w
  K := X.K
  mg := X.mg
  base := X.base
  A := X.A
  N := x :: y0 :: ix.map fun i => X.N.getD i x
  s₀ := b.s
  H₀ := b.H
  env := compEnvC sc (closOf sc X.env) b.C X.env
  outer := X.stack
  stack := X.stack
  ex := b.ex
  fn := fun _ => false
  calm := X.calm
  pn := b.pn
  xe := fun _ _ => False
structure CompOk2 (X : Cx) (sc : Scope) (x y0 : Str) (ix : List Nat) : Prop where
  clos : closureFor sc X.env = pure (closOf sc X.env)
  cell : ∀ y ∈ sc.names, y.2 ≠ .cell
  kind : sc.kind = .function
  names : ∀ y ∈ sc.names, y.2 = .local → sc.names.lookup y.1 = some .local
  var : sc.names.lookup x = some .local
  var2 : sc.names.lookup y0 = some .local
  nd : (x :: y0 :: ix.map fun i => X.N.getD i x).Nodup
  cap : CapsOk X sc x ix
  sub : SubOk X.env.cells (closOf sc X.env)
  has : HasOk (closOf sc X.env) (relabel sc X.env).names
section
variable {X : Cx} {pins : List (Addr × Obj)} {σ : St} {H : Hp} {s : Shared} {sc : Scope} {x y0 : Str} {ix : List Nat} {fp : List Addr}
theorem block_ok2 (I : Inv X pins σ H s) (O : CompOk2 X sc x y0 ix) (hf : ∀ b ∈ fp, FpOk X pins H b) (hx : ∀ b ∈ fp, ∃ o, s.heap.get? b = some o) : (X.block2 sc x y0 ix ⟨s.heap.objs.size, s, H, X.pn ++ pins, fp⟩).Ok where
  mod := I.ok.mod
  kind := O.kind
  glob := I.ok.glob
  blt := I.ok.blt
  above := Nat.le_refl _
  inj := fun y z c h1 h2 => I.ok.inj y z c (O.sub.get y c h1) (O.sub.get z c h2)
  has := fun y h => by
    have h' : (relabel sc X.env).names.lookup y = some .cell ∨ (relabel sc X.env).names.lookup y = some .free := h
    rcases h' with h' | h'
    · exact O.has.get _ (PySem.mem_of_lookup h') (.inl rfl)
    · exact O.has.get _ (PySem.mem_of_lookup h') (.inr rfl)
  cab := fun _ _ h => absurd (show false = true from h) Bool.false_ne_true
  hd := I.ok.hd
  frames := I.ok.frames
  stk := .inl rfl
  exf := fun b hb => by
    obtain ⟨o, e⟩ := hx b hb
    exact ⟨Nat.ne_of_lt (Heap.lt_size e), fun y c h => (hf b hb).2.2.2.2.1 y c (O.sub.get y c h)⟩
  bs := I.bs
  bsz := Nat.le_trans I.ok.bsz I.sz
  noex := fun b o e hb => by
    rcases (hf b hb).2.2.2.1 with z | z
    · exact I.ok.noex b o e z
    · exact absurd (Nat.lt_of_lt_of_le (Heap.lt_size e) (Nat.le_trans I.ok.bsz z)) (Nat.lt_irrefl _)
  exfs := fun b hb z => (List.mem_cons.mp (I.stkSub b z)).elim (hf b hb).2.1 (hf b hb).2.2.1
  funs := I.stack
  frf := I.stkFree
theorem block_inv2 {h₁ : Heap} {m : Str → Option Value} {tk : Nat} (I : Inv X pins σ H s) (O : CompOk2 X sc x y0 ix) (hf : ∀ b ∈ fp, FpOk X pins H b) (hx : ∀ b ∈ fp, ∃ o, s.heap.get? b = some o)
    (hn : h₁.Ns s.heap.objs.size m) (keep : ∀ b o, s.heap.get? b = some o → h₁.get? b = some o) :
    Inv (X.block2 sc x y0 ix ⟨s.heap.objs.size, s, H, X.pn ++ pins, fp⟩) [] (none :: none :: capts σ ix) H { s with heap := h₁, toks := tk } := by
  refine ⟨block_ok2 I O hf hx, rfl, I.bare, Un.kept keep, ⟨m, hn, fun i y v e1 e2 _ => ?_⟩, fun y c h => ?_, I.hok.fresh (Nat.le_refl _), fun y c h => I.freeC y c (O.sub.get y c h), fun p hp => ?_, I.hok.kept keep, ?_⟩
  · cases i with
    | zero => cases e2
    | succ j' =>
     cases j' with
     | zero => cases e2
     | succ j =>
      have e1' : (ix.map fun i => X.N.getD i x)[j]? = some y := e1
      have e2' : (capts σ ix)[j]? = some (some v) := e2
      unfold capts at e2'
      rw [List.getElem?_map] at e1' e2'
      cases q : ix[j]? with
      | none => rw [q] at e1'; cases e1'
      | some i =>
        rw [q] at e1' e2'
        have e3 : X.N.getD i x = y := Option.some.inj e1'
        have e4 : σ.getD i none = some v := Option.some.inj e2'
        obtain ⟨c1, c2, c3⟩ := O.cap.get i (List.mem_of_getElem? q)
        rw [e3] at c1 c2 c3
        have e5 : σ[i]? = some (some v) := by
          rw [List.getD_eq_getElem?_getD] at e4
          cases z : σ[i]? with
          | none => rw [z] at e4; cases e4
          | some a => rw [z] at e4; exact congrArg some e4
        have hl : i < X.N.length := by
          rw [← I.len]
          exact (List.getElem?_eq_some_iff.mp e5).1
        have e6 : X.N[i]? = some y := by
          rw [List.getD_eq_getElem?_getD, List.getElem?_eq_getElem hl] at e3
          rw [List.getElem?_eq_getElem hl]
          exact congrArg some e3
        obtain ⟨m0, _, l0⟩ := I.loc
        have vis : Vis X.env.scope y := by
          rcases c1 with z | z
          · exact .inr (.inl z)
          · exact .inr (.inr z)
        obtain ⟨u, ru, lu⟩ := l0 i y v e6 e5 vis
        refine ⟨u, ru, ?_⟩
        rcases lu with ⟨k, _⟩ | ⟨_, c, hc, o, ho, hd⟩
        · rcases c1 with z | z
          · rw [z] at k; cases k
          · rw [z] at k; cases k
        · exact .inr ⟨c2, c, c3.trans hc, o, keep c o ho, hd⟩
  · obtain ⟨v, o, ho, hd⟩ := I.cell y c (O.sub.get y c h)
    exact ⟨v, o, keep c o ho, hd⟩
  · have hp' : p ∈ X.pn ++ pins := by
      rcases List.mem_append.mp hp with z | z
      · exact z
      · cases z
    obtain ⟨e, n, ne, nf, d⟩ := I.pin p hp'
    exact ⟨keep _ _ e, n, Nat.ne_of_lt (Heap.lt_size e), fun z => (List.mem_cons.mp (I.stkSub _ z)).elim ne nf, d⟩
  · show (none :: none :: capts σ ix).length = (x :: y0 :: ix.map fun i => X.N.getD i x).length
    simp [capts]
theorem block_back2 {pins' : List (Addr × Obj)} {σ' : St} {H' : Hp} {s' : Shared} (I : Inv X pins σ H s) (hf : ∀ b ∈ fp, FpOk X pins H b) (J : Inv (X.block2 sc x y0 ix ⟨s.heap.objs.size, s, H, X.pn ++ pins, fp⟩) pins' σ' H' s') : Inv X pins σ H' s' :=
  I.call' J.os J.base J.hok J.bare fun b hb => ⟨(hf b hb).2.2.2.1, (hf b hb).2.1, (hf b hb).2.2.2.2.1, (hf b hb).2.2.2.2.2⟩
end
def Turns2 (K0 : PySem.W.Frag) (ix : List Nat) (te : TE) (σ : St) (J : It) (l : Addr) (R : Hp → Prop) (W : Nat → Nat → List V → Hp → Prop) : Prop :=
  ∀ i m xs H', W i m xs H' → H' l = some (.lst xs) ∧ ((J.stop i H' ∧ R H') ∨ (J.go i H' ∧ xs.length < sizeLine ∧ ∀ x H2, J.yld i H' x H2 → ∃ p v1 v2, x = .ref p ∧ SqT K0 H2 p [v1, v2] ∧
    te (some v1 :: some v2 :: capts σ ix) H2 fun v H3 => H3 l = some (.lst xs) ∧ ∃ m', m' < m ∧ W (i + 1) m' (xs ++ [v]) (upd H3 l (.lst (xs ++ [v])))))
def tComp2 (K0 : PySem.W.Frag) (ix : List Nat) (wi : TI) (te : TE) : TE := fun σ H Q => wi σ H fun J H1 => ∀ l, H1 l = none → ∃ W : Nat → Nat → List V → Hp → Prop, (∃ m, W 0 m [] (upd H1 l (.lst []))) ∧ Turns2 K0 ix te σ J l (Q (.ref l)) W
section
variable {X : Cx} {pins : List (Addr × Obj)} {σ : St} {H : Hp} {s : Shared} {sc : Scope} {x y0 : Str} {ix : List Nat} {fp : List Addr} {elt iter : Expr} {te : TE} {wi : TI} {px py0 pt0 pos : Pos} {kt0 : Nat}
theorem comp_core2 {it : Addr} {tn : Nat → Heap → Prop} {J : It} {use : Option (Value → Sem Unit)} {Q : Value → Shared → Prop} {E : Value → Shared → Prop} (O : CompOk2 X sc x y0 ix) (hel : ∀ b, PE (X.block2 sc x y0 ix b) elt te) (hc : X.calm = true)
    (I : Inv X pins σ H s) (T : Turn X.prog X.w X.K (.Tuple [.Name x px, .Name y0 py0] kt0 pt0) J fp it tn) (st : tn 0 s.heap) (hf : ∀ b ∈ fp, FpOk X pins H b) (R : Addr → Hp → Prop)
    (h : ∀ l, H l = none → ∃ W : Nat → Nat → List V → Hp → Prop, (∃ m, W 0 m [] (upd H l (.lst []))) ∧ Turns2 X.K ix te σ J l (R l) W)
    (fin : ∀ l C m s' H', Inv X pins σ H' s' → s'.heap.Ns C m → FpOk X pins H' C → R l H' → compPost (model X.prog X.w) X.A E use Q (.ref l) C (.ok .next) s') :
    wpAny (model X.prog X.w) X.A (newList []) (fun acc s₃ => wpAny (model X.prog X.w) X.A (newFunctionEnv sc X.env.globals (closOf sc X.env) [] X.env.qual none .none (some X.env)) (fun cenv s₄ =>
      codeAny (model X.prog X.w) X.A (.compStart (.ListComp elt [⟨.Tuple [.Name x px, .Name y0 py0] kt0 pt0, iter, [], 0⟩] sc pos) 0 (.ref it) acc { cenv with scope := relabel sc X.env }) (compPost (model X.prog X.w) X.A E use Q acc cenv.locals) s₄) E s₃) E s := by
  refine wpAny_newObj_type (wpAny_newFunctionEnv O.cell (by intro y hy; simp at hy) (fun h₁ hns hsb => ?_) O.kind)
  dsimp only at hns hsb ⊢
  have hl0 : H s.heap.objs.size = none := I.hok.fresh (Nat.le_refl _)
  obtain ⟨W, ⟨m0, w0⟩, tr⟩ := h s.heap.objs.size hl0
  have I3 : Inv X pins σ (upd H s.heap.objs.size (.lst [])) { s with heap := s.heap.push { cls := .type "list", dict := none, data := .seq ([] : List Value).toArray } } :=
    I.laid (t' := s.toks) (fun b o e => Heap.get?_push_of_some _ e) (Nat.le_refl _) ⟨Nat.zero_le _, [], 0, .nil, Heap.get?_push_size _ rfl⟩
  have ofp : ∀ b ∈ fp, ∃ o, s.heap.get? b = some o := fun b hb => by
    obtain ⟨o, e, _⟩ := T.obj 0 _ st b hb
    exact ⟨o, e⟩
  generalize e3 : s.heap.push { cls := .type "list", dict := none, data := .seq ([] : List Value).toArray } = G at I3 hns hsb ⊢
  have ofp3 : ∀ b ∈ fp, ∃ o, G.get? b = some o := fun b hb => by
    obtain ⟨o, e⟩ := ofp b hb
    exact ⟨o, by rw [← e3]; exact Heap.get?_push_of_some _ e⟩
  have nl : ∀ b ∈ fp, b ≠ s.heap.objs.size := fun b hb => by
    obtain ⟨o, e⟩ := ofp b hb
    exact Nat.ne_of_lt (Heap.lt_size e)
  have hf3 : ∀ b ∈ fp, FpOk X pins (upd H s.heap.objs.size (.lst [])) b := fun b hb => ⟨by rw [upd_ne (nl b hb)]; exact (hf b hb).1, (hf b hb).2⟩
  have keep3 : ∀ b o, G.get? b = some o → h₁.get? b = some o := fun b o e => hsb.extBut b o (Nat.ne_of_lt (Heap.lt_size e)) (Heap.get?_push_of_some _ e)
  have stk : tn 0 h₁ := T.keep _ _ _ st fun b hb o e => keep3 b o (by rw [← e3]; exact Heap.get?_push_of_some _ e)
  have J0 := block_inv2 (tk := s.toks + ([] : List (Str × Value)).length) I3 O hf3 ofp3 hns keep3
  -- what stays true of the iterator
  have stat : ∀ {H' : Hp}, (∀ b ∈ fp, H' b = none) → ∀ b ∈ fp, FpOk (X.block2 sc x y0 ix ⟨G.objs.size, { s with heap := G }, upd H s.heap.objs.size (.lst []), X.pn ++ pins, fp⟩) [] H' b := fun hn b hb => by
    obtain ⟨o, e⟩ := ofp3 b hb
    refine ⟨hn b hb, Nat.ne_of_lt (Heap.lt_size e), fun z => (List.mem_cons.mp (I3.stkSub _ z)).elim (hf b hb).2.1 (hf b hb).2.2.1, .inl hb, fun y c q => (hf b hb).2.2.2.2.1 y c (O.sub.get y c q), fun p hp => ?_⟩
    have hp' : p ∈ X.pn ++ pins := by
      rcases List.mem_append.mp hp with z | z
      · exact z
      · cases z
    exact (hf b hb).2.2.2.2.2 p hp'
  have loop : ∀ s4 : Shared, s4 = { s with heap := h₁, toks := s.toks + ([] : List (Str × Value)).length } →
      codeAny (model X.prog X.w) X.A (.compLoop (.ListComp elt [⟨.Tuple [.Name x px, .Name y0 py0] kt0 pt0, iter, [], 0⟩] sc pos) 0 (.ref it) (.ref s.heap.objs.size) (compEnvC sc (closOf sc X.env) G.objs.size X.env))
        (compPost (model X.prog X.w) X.A E use Q (.ref s.heap.objs.size) G.objs.size) s4 := by
    rintro s4 rfl
    refine comp_loop (fun n s' => ∃ i xs H' z z', Inv (X.block2 sc x y0 ix ⟨G.objs.size, { s with heap := G }, upd H s.heap.objs.size (.lst []), X.pn ++ pins, fp⟩) [] (z :: z' :: capts σ ix) H' s' ∧ tn i s'.heap ∧ (∀ b ∈ fp, H' b = none) ∧ W i n xs H') ?_ m0
      ⟨0, [], _, none, none, J0, stk, fun b hb => (hf3 b hb).1, w0⟩
    rintro n s5 ⟨i, xs, H5, z, z', I5, st5, fr5, w5⟩
    obtain ⟨hl5, h5⟩ := tr i n xs H5 w5
    rcases h5 with ⟨stop, r5⟩ | ⟨go, hz, step⟩
    · refine thn (T.done (X.block2 sc x y0 ix ⟨G.objs.size, { s with heap := G }, upd H s.heap.objs.size (.lst []), X.pn ++ pins, fp⟩) rfl rfl rfl hc i [] s5 _ H5 _ I5 (stat fr5) st5 stop) fun r s6 ⟨hr, I6⟩ => ?_
      subst hr
      obtain ⟨m6, hn6, _⟩ := I6.loc
      refine fin _ _ m6 s6 H5 (block_back2 I3 hf3 I6) hn6 ?_ r5
      exact I3.fpOk (Nat.le_refl _) I6.free
    · refine thn (T.item (X.block2 sc x y0 ix ⟨G.objs.size, { s with heap := G }, upd H s.heap.objs.size (.lst []), X.pn ++ pins, fp⟩) rfl rfl rfl hc i [] s5 _ H5 _ I5 (stat fr5) st5 go) fun r s6 ⟨u, hr, h6⟩ => ?_
      subst hr
      refine thn h6 fun _ s7 ⟨y, H7, I7, r7, y7, st7, fr7⟩ => ?_
      have I7' := I7.pinned (stat fr7) (T.obj _ _ st7)
      have lx : (relabel sc X.env).names.lookup x = some .local := lookup_relabel_local O.var
      have ly : (relabel sc X.env).names.lookup y0 = some .local := lookup_relabel_local O.var2
      obtain ⟨tp, v1, v2, ey, hT, step⟩ := step y H7 y7
      refine thn ((pg_tup hc (pgs_cons (pg_name (i := 0) O.nd rfl (Or.inl lx) (Or.inr lx)) (pgs_cons (pg_name (i := 1) O.nd rfl (Or.inl ly) (Or.inr ly)) pgs_nil)) : PG (X.block2 sc x y0 ix ⟨G.objs.size, { s with heap := G }, upd H s.heap.objs.size (.lst []), X.pn ++ pins, fp⟩) (.Tuple [.Name x px, .Name y0 py0] kt0 pt0) (gTup X.K 2 (gCons (gName 0) (gCons (gName 1) gNil)))) _ s7 _ H7 y u (fun σ' H' => σ' = some v1 :: some v2 :: capts σ ix ∧ H' = H7) I7' r7 ⟨tp, [v1, v2], ey, hT, rfl, _, _, rfl, _, _, rfl, rfl, rfl, rfl⟩) fun _ s8 ⟨σ8, H8, I8, e8, e8'⟩ => ?_
      subst e8 e8'
      refine thn (hel _ _ s8 _ H8 _ I8 step) fun v9 s9 ⟨v, H9, I9, r9, hl9, m', hm, w9⟩ => ?_
      refine thn (mt_append _ s9 _ H9 (.ref s.heap.objs.size) [v] (.ref s.heap.objs.size) [v9] (fun _ H' => H' = upd H9 s.heap.objs.size (.lst (xs ++ [v]))) I9 rfl (.cons r9 .nil) ⟨_, xs, v, rfl, rfl, hl9, hz, rfl⟩) fun _ s10 ⟨_, H10, I10, _, e10⟩ => ?_
      subst e10
      refine ⟨m', hm, i + 1, xs ++ [v], _, some v1, some v2, I10.unpinned, T.keep _ _ _ st7 fun b hb o e => (I10.pin (b, o) (List.mem_append_right _ (List.mem_append_right _ (mem_pinsAt hb e)))).1, fun b hb => ?_, w9⟩
      obtain ⟨o, e, d⟩ := T.obj _ _ st7 b hb
      exact (I10.pin (b, o) (List.mem_append_right _ (List.mem_append_right _ (mem_pinsAt hb e)))).2.1
  exact codeAny_compStart_list (loop _ rfl) (T.self _ 0 _ _ _ stk (loop _ rfl))
theorem ps_setc2 {y : Str} {i : Nat} {py spos : Pos} (hN : X.N.Nodup) (hiy : X.N[i]? = some y) (hy : X.env.scope.names.lookup y = some .local) (O : CompOk2 X sc x y0 ix) (hi : PI X (.Tuple [.Name x px, .Name y0 py0] kt0 pt0) iter wi) (hel : ∀ b, PE (X.block2 sc x y0 ix b) elt te)
    (hc : X.calm = true := by rfl) (hs : ∀ v, foldedSetIterable iter X.env v = pure v := by intro _; rfl) (hsw : swapsWith (.ListComp elt [⟨.Tuple [.Name x px, .Name y0 py0] kt0 pt0, iter, [], 0⟩] sc pos) (some (.Name y py)) spos.line X.env = pure true := by rfl) :
    PS X (.Assign [.Name y py] (.ListComp elt [⟨.Tuple [.Name x px, .Name y0 py0] kt0 pt0, iter, [], 0⟩] sc pos) spos) (tAsg (tComp2 X.K ix wi te) (gName i)) := by
  intro pins s σ H D I h
  rw [exec_Assign_Name_used _ _ _ _ hsw]
  refine wpAny_bind (wpAny_standAt (wpAny_bind ?_))
  show wpAny _ X.A (do let _ ← comprehension (.ListComp elt [⟨.Tuple [.Name x px, .Name y0 py0] kt0 pt0, iter, [], 0⟩] sc pos) sc X.env _ (newList []) false (eval iter X.env) (some (assign (.Name y py) X.env))) _ _ s
  refine wpAny_bind (wpAny_mono (wpAny_comprehension_free (use := some (assign (.Name y py) X.env)) (Q := fun _ s' => SP X pins D .next s') rfl hs O.clos O.kind O.names
    (thn (hi pins s σ H _ I h) fun xv s1 h1 => thn h1 fun itv s2 h2 => ?_)) (fun _ s' hq => wpAny_pure (wpAny_pure hq)) fun _ _ e => e)
  obtain ⟨it, fp, tn, J, H2, e, I2, T, st2, f2, hq⟩ := h2
  subst e
  refine comp_core2 O hel hc I2 T st2 f2 (fun l H' => D.nx (σ.set i (some (.ref l))) H') hq ?_
  intro l C m s' H' I' hn hf r
  obtain ⟨o, es, ep, ho, hd, hr⟩ := id hn
  have Ip := I'.addpin ho hf.1 hf.2.1 hf.2.2.1 (by intro v z; rw [hd] at z; cases z)
  refine thn ((pg_name (i := i) hN hiy (Or.inl hy) (Or.inr hy) : PG X (.Name y py) (gName i)) _ s' σ H' (.ref l) (.ref l) (fun σ' H'' => σ' = σ.set i (some (.ref l)) ∧ H'' = H') Ip rfl ⟨rfl, rfl⟩) fun _ s'' ⟨σ'', H'', I'', e1, e2⟩ => ?_
  subst e1 e2
  have pc := (I''.pin (C, o) (List.mem_append_right _ (List.mem_append_right _ List.mem_cons_self))).1
  refine ⟨m, ⟨o, es, ep, pc, hd, hr⟩, fun h' hb => ⟨_, _, ?_, r⟩⟩
  exact I''.unpinned.turned (t' := s''.toks) (fun b o hne e => hb.extBut b o hne e) hf.1 hf.2.1 hf.2.2.2.1 hf.2.2.2.2.1 hf.2.2.2.2.2
end
/-- each item by a word of it that new objects don't touch -/
theorem comp_any2 {K0 : PySem.W.Frag} {J : It} {ix : List Nat} {te : TE} {σ : St} {l : Addr} {xs : List V} {pr : List (V × V)} {H : Hp} {R : Hp → Prop} (Y : WalkOf J H xs) (items : ∀ (i : Nat) x, xs[i]? = some x → ∃ p v1 v2, x = .ref p ∧ H p = some (.tup [v1, v2]) ∧ pr[i]? = some (v1, v2)) (hl : H l = none) (hz : xs.length ≤ sizeLine) (P : Nat → V → Hp → Prop)
    (mono : ∀ i v H1 H2, Same H1 H2 → P i v H1 → P i v H2) (put : ∀ i v H1 ys zs, H1 l = some (.lst ys) → P i v H1 → P i v (upd H1 l (.lst zs)))
    (hel : ∀ (i : Nat) v1 v2 H' Q', pr[i]? = some (v1, v2) → Same H H' → (∀ v H2, Same H' H2 → P i v H2 → Q' v H2) → te (some v1 :: some v2 :: capts σ ix) H' Q')
    (fin : ∀ ys H', Same H H' → H' l = some (.lst ys) → ys.length = xs.length → (∀ (j : Nat) v, ys[j]? = some v → P j v H') → R H') :
    ∃ W : Nat → Nat → List V → Hp → Prop, (∃ m, W 0 m [] (upd H l (.lst []))) ∧ Turns2 K0 ix te σ J l R W := by
  refine ⟨fun i m ys H' => m = xs.length - i ∧ i ≤ xs.length ∧ ys.length = i ∧ (∀ (j : Nat) v, ys[j]? = some v → P j v H') ∧ Same H H' ∧ H' l = some (.lst ys), ⟨xs.length, by simp, Nat.zero_le _, rfl, (fun j v e => by simp at e), same_new hl _, upd_same⟩, ?_⟩
  rintro i m ys H' ⟨rfl, hi, hx, hp, sH, hL⟩
  refine ⟨hL, ?_⟩
  by_cases hlt : i < xs.length
  · refine .inr ⟨Y.go i H' sH hlt, by omega, fun x H2 y => ?_⟩
    obtain ⟨rfl, e2⟩ := Y.yld i H' x H2 sH y
    obtain ⟨p, v1, v2, rfl, ht, epr⟩ := items i x e2
    refine ⟨p, v1, v2, rfl, SqT.of (sH _ _ ht), ?_⟩
    refine hel i v1 v2 _ _ epr sH fun v H3 s3 hv => ⟨s3 _ _ hL, xs.length - (i + 1), by omega, rfl, hlt, by rw [List.length_append, hx]; rfl, fun j w e => ?_, same_put (sH.trans s3) hl, upd_same⟩
    by_cases hj : j < ys.length
    · rw [List.getElem?_append_left hj] at e
      exact put _ _ _ _ _ (s3 _ _ hL) (mono _ _ _ _ s3 (hp j w e))
    · by_cases hj2 : j = ys.length
      · subst hj2
        rw [List.getElem?_append_right (Nat.le_refl _), Nat.sub_self] at e
        cases e
        rw [hx]
        exact put _ _ _ _ _ (s3 _ _ hL) hv
      · rw [List.getElem?_eq_none (by rw [List.length_append, List.length_singleton]; omega)] at e
        cases e
  · exact .inl ⟨Y.stop i H' sH (by omega), fin ys H' sH hL (by omega) hp⟩
end L2
/-! The library's sorting of few items, as a tree of questions, told by an order. -/
namespace SortT
open PySem PySem.W PyProof.Rows
variable {N : Nat} {lt : Nat → Nat → Bool}
end SortT
namespace SortT
open PySem PySem.W PyProof.Rows PySem.Calls
section
variable {prog : Program} {w : World} {A : Around} {E : Value → Shared → Prop} {s : Shared}
end
end SortT
namespace L2
open PySem PySem.Spec PyProof.Rows
section
variable {X : Cx} {e k : Expr} {te : TE} {p2 pos : Pos} {lo hi : Option Expr} {tl th : TO}
end
end L2
namespace L2
open PySem PySem.Spec PyProof.Rows
/-! ### "keys" is no attribute of a list -/
theorem lk_list_keys : typeLookup (.type "list") "keys" = pure none := by rw [typeLookup_type, builtinLookup_eq_fast]; kernel_rfl
theorem no_keys_list {prog : Program} {w : World} {A : Around} {E : Value → Shared → Prop} {s : Shared} {a : Addr} {xs : Array Value} {k : Nat} {Q : Option Value → Shared → Prop}
    (hx : s.heap.get? a = some { cls := .type "list", dict := none, data := .seq xs k, slots := #[] }) (hA : A.handled = none)
    (h : ∀ h' tk, (∀ b o, s.heap.get? b = some o → h'.get? b = some o) → Q none { s with heap := h', toks := tk }) :
    wpAny (model prog w) A (getAttr? (.ref a) "keys") Q E s := by
  obtain ⟨hp, g, d, tk, os⟩ := s
  have hT : ∀ tk', (⟨hp, g, d, tk', os⟩ : Shared).TypeIs (.ref a) "list" := fun _ => ⟨_, hx, rfl⟩
  have f1 := sub_AttributeError
  have f3 := F.slot_list_getattribute.lookup
  have f4 := F.slot_list_getattribute.bind (.ref a)
  have f5 := am_list_getattr_none
  unfold getAttr? getAttrBy? getAttrBy
  repeat (any_goals (first | assumption | exact hT _ | ((with_reducible show wpAny _ _ (call (Value.builtin "list.__getattribute__") _ _) _ _ _); refine call_meets F.slot_list_getattribute (hT _) am_entry_list_getattribute (F.args_list_getattribute_2 _ _) (meets_getattribute_miss_list a xs k #[] "keys" _ lk_list_keys (by decide +kernel) (by size_fits)) ⟨hx, hA, fun h' tk' e hx' => ?_⟩) | wp_step))
  obtain ⟨t', u', he⟩ := hx'.there
  show wpAny _ _ (getattributeRaised _ _ _ _ _ _ _) _ _ _
  unfold getattributeRaised
  repeat (any_goals (first | assumption | wp_step))
  exact h _ _ hx'.keeps
/-! ### dict(xs), xs a list of tuples of two whole numbers -/
theorem entry_upd_loop : entryFor table "dict.update.loop" = some Builtin.«dict.update.loop» := entryFor_of_tree (by kernel_rfl)
theorem plain_upd_loop : plainId "dict.update.loop" = true := by decide +kernel
section
variable {prog : Program} {w : World} {A : Around} {s : Shared} {R : Result → Shared → Prop}
theorem dictOf_keep {h h' : Heap} {d : Addr} {kvs : List (Int × Value)} (x : h.DictOf (intKind prog w) d kvs) (k : ∀ o, h.get? d = some o → h'.get? d = some o) : h'.DictOf (intKind prog w) d kvs := by
  obtain ⟨o, es, ep, e, r⟩ := x
  exact ⟨o, es, ep, k o e, r⟩
end
section
variable {X : Cx} {pins : List (Addr × Obj)} {σ : St} {H : Hp} {s : Shared}
end
end L2
/-! a debt: its principal m and its units n, and what a deed makes of them; no Python -/
namespace Dbt
def mx (a b : Int) : Int := if b > a then b else a
def mn (a b : Int) : Int := if b < a then b else a
theorem mx_le {a b : Int} : a ≤ mx a b ∧ b ≤ mx a b ∧ (mx a b = a ∨ mx a b = b) := by unfold mx; split <;> omega
theorem mn_le {a b : Int} : mn a b ≤ a ∧ mn a b ≤ b ∧ (mn a b = a ∨ mn a b = b) := by unfold mn; split <;> omega
inductive Wd where
  | lend | fee | turn | take | grow
def step (u : Int) (w : Wd) (x m n : Int) : Int × Int :=
  match w with
  | .lend => (mn (m + x) (mx 0 ((n + u * x) / u)), n + u * x)
  | .fee => (mn m (mx 0 ((n + u * x) / u)), n + u * x)
  | .take => (mn m (mx 0 ((n + u * -x) / u)), n + u * -x)
  | .turn => (mx 0 (n / u), n)
  | .grow => (m, n + x)
/-- the number of a deed: what is lent and what is grown is from 0 on -/
def Okd : Wd → Int → Prop
  | .lend, x => 0 ≤ x
  | .grow, x => 0 ≤ x
  | _, _ => True
def Good (u m n : Int) : Prop := 0 ≤ m ∧ m ≤ mx 0 (n / u)
theorem good0 (u : Int) : Good u 0 0 := ⟨Int.le_refl _, mx_le.1⟩
theorem good_step {u : Int} {w : Wd} {x m n : Int} (hu : 0 < u) (ok : Okd w x) (g : Good u m n) : Good u (step u w x m n).1 (step u w x m n).2 := by
  obtain ⟨g0, g1⟩ := g
  cases w with
  | lend =>
    have h0 : 0 ≤ x := ok
    have := mx_le (a := 0) (b := (n + u * x) / u)
    have := mn_le (a := m + x) (b := mx 0 ((n + u * x) / u))
    show 0 ≤ mn (m + x) (mx 0 ((n + u * x) / u)) ∧ mn (m + x) (mx 0 ((n + u * x) / u)) ≤ mx 0 ((n + u * x) / u)
    omega
  | fee =>
    have := mx_le (a := 0) (b := (n + u * x) / u)
    have := mn_le (a := m) (b := mx 0 ((n + u * x) / u))
    show 0 ≤ mn m (mx 0 ((n + u * x) / u)) ∧ mn m (mx 0 ((n + u * x) / u)) ≤ mx 0 ((n + u * x) / u)
    omega
  | take =>
    have := mx_le (a := 0) (b := (n + u * -x) / u)
    have := mn_le (a := m) (b := mx 0 ((n + u * -x) / u))
    show 0 ≤ mn m (mx 0 ((n + u * -x) / u)) ∧ mn m (mx 0 ((n + u * -x) / u)) ≤ mx 0 ((n + u * -x) / u)
    omega
  | turn =>
    have := mx_le (a := 0) (b := n / u)
    show 0 ≤ mx 0 (n / u) ∧ mx 0 (n / u) ≤ mx 0 (n / u)
    omega
  | grow =>
    have h0 : 0 ≤ x := ok
    have h1 : n / u ≤ (n + x) / u := Int.ediv_le_ediv hu (by omega)
    have := mx_le (a := 0) (b := n / u)
    have := mx_le (a := 0) (b := (n + x) / u)
    show 0 ≤ m ∧ m ≤ mx 0 ((n + x) / u)
    omega
variable {u s0 s1 m1 n1 m2 n2 x y : Int}
def t1 (s1 : Int) : Option (Wd × Int) → Wd × Int → Int
  | some (.fee, x), (.fee, y) => s1 + y - x
  | _, _ => s1
end Dbt
namespace L2
open PySem PySem.Spec PyProof.Rows
/-! ### greater divisors and factors -/
def CDivW (i j : Int) : Prop := 0 < j ∧ j < 1152921504606846976
section
variable {X : Cx}
theorem op_fdivW : OpR X (binaryOp .FloorDiv) (rI CDivW fun i j => .int (i / j)) := opI fun i j _ _ _ _ _ hc q => by
  have h1 : (0 : Int) < j := hc.1
  have h2 : j < 1152921504606846976 := hc.2
  refine floordiv_int (by omega) (by rw [Int.fdiv_eq_ediv_of_nonneg i (by omega)]; exact q) (.inl (PyProof.noPylong_of_log2 ?_))
  have h0 : j.natAbs ≠ 0 := by omega
  have : j.natAbs.log2 < 60 := (Nat.log2_lt h0).mpr (show j.natAbs < 1152921504606846976 by omega)
  omega
end
/-! ### a class of one's own with fields: C(..), o.f, o.f = e, o.m(..) -/
structure MkI (K : PySem.W.Frag) (C : Addr) : Prop where
  makes : PySem.W.makesIn K C = true
  kp : PySem.W.keepIn K (.ref C) = true
def tFldC (C : Addr) (f : Str) (ta : TE) : TE := fun σ H Q => ta σ H fun x H1 => ∃ a dx fs v, x = .ref a ∧ H1 a = some (.ins C dx fs) ∧ fs.lookup f = some v ∧ Q v H1
def sFldC (C : Addr) (f : Str) (ta tv : TE) : TS := fun D σ H => tv σ H fun y H1 => ta σ H1 fun x H2 => ∃ a dx fs, x = .ref a ∧ H2 a = some (.ins C dx fs) ∧ fs.length < 1000 ∧ D.nx σ (upd H2 a (.ins C dx (putF f y fs)))
section
variable {X : Cx} {C : Addr} {x m f : Str} {p pos pos' apos : Pos} {e o value : Expr} {es : List Expr} {ta tv : TE} {t : TA} {j k : Nat} {ps : List Str} {sp : Sp}
theorem pe_fldC (hc : Cls X.K C) (hn : NoAttr X.K C f) (he : PE X e ta) (hb : attributeBase e f X.env (eval e X.env) = eval e X.env := by rfl) : PE X (.Attribute e f pos) (tFldC C f ta) := by
  intro pins s σ H Q I h
  refine attr_of hb (thn (he pins s σ H _ I h) fun u s1 ⟨x, H1, I1, rx, a, dx, fs, v, ex, ea, l, q⟩ => ?_)
  subst ex
  obtain rfl : u = Value.ref a := rx
  exact getattr_ok I1 ea hc hn l fun u' s2 I2 ru => ⟨v, H1, I2, ru, q⟩
theorem ps_fldC (hc : Cls X.K C) (hn : NoAttr X.K C f) (ha : PE X o ta) (hv : PE X value tv) (hs : swapsWith value (some (.Attribute o f pos')) pos.line X.env = pure false := by rfl) : PS X (.Assign [.Attribute o f pos'] value pos) (sFldC C f ta tv) := by
  intro pins s σ H D I h
  refine plainObj_wpAny_Assign_Attribute (thn (hv pins s σ H _ I h) fun u s1 ⟨y, H1, I1, ry, q⟩ => thn (ha pins s1 σ H1 _ I1 q) fun ov s2 ⟨x, H2, I2, rx, a, dx, fs, ex, ea, l, q2⟩ => ?_) hs
  subst ex
  obtain rfl : ov = Value.ref a := rx
  exact setattr_ok I2 ea hc hn l ry fun s3 I3 => ⟨σ, _, I3, q2⟩
theorem pe_methC {pl : Sem Bool} (D : DefM X.prog X.w X.K X.mg X.base j C m ps sp) (hc : Cls X.K C) (hr : Room k X.A) (he : PE X o ta) (ha : PA X (e :: es) t) (hj : j ≤ k := by decide)
    (hst : starEach (e :: es) X.env = (false, eval e X.env) :: starEach es X.env := by rfl) (hpl : (backTo pos (starEach es X.env)).any (·.1) = false := by rfl)
    (ht : eval (.Call (.Attribute o m apos) (e :: es) [] pos) X.env = (do
      let ov ← eval o X.env
      standAt apos.atName
      let (f, first) ← holding [ov] (getMethod ov m pl)
      callWith pos f first (backTo pos (starEach (e :: es) X.env)) (backToKw pos (keywordEach [] X.env))) := by rfl) :
    PE X (.Call (.Attribute o m apos) (e :: es) [] pos) (tMeth C m sp [] E0 ta t) := by
  obtain ⟨f, fd, F, hm, hb⟩ := D.ex
  exact pe_meth (pl := pl) he hc hm F (hr.mono hj) (.all hb) .nil pass0 ha hst hpl ht
theorem pe_makeC (M : MkI X.K C) (D : DefM X.prog X.w X.K X.mg X.base j C "__init__" ps sp) (hr : Room k X.A) (hm : X.mg x = some (.ref C)) (ha : PA X (e :: es) t) (hj : j + 1 ≤ k := by decide) (hg : Gl X x := by rfl)
    (hdb : (x == ("__debug__" : Str)) = false := by decide) (he : starEach (e :: es) X.env = (false, eval e X.env) :: starEach es X.env := by rfl) (hpl : (backTo pos (starEach es X.env)).any (·.1) = false := by rfl) :
    PE X (.Call (.Name x p) (e :: es) [] pos) (tMake C sp [] E0 t) := by
  obtain ⟨f, fd, F, hme, hb⟩ := D.ex
  exact pe_make ⟨M.makes, hme.at_, hme.fn, M.kp⟩ F (hr.mono hj) hg hm (.all hb) .nil pass0 ha hdb he hpl
end
section
variable {K : PySem.W.Frag} {x : Str} {C f : Addr}
theorem mki_mk (a : PySem.W.nsIn K mainGlobals x = some (some (.ref C))) (h1 : PySem.W.makesIn K C = true) (h3 : PySem.W.keepIn K (.ref C) = true) : MkI K (cA K x) := by
  rw [cA_of a]; exact ⟨h1, h3⟩
end
theorem at_new {H : Hp} {p : Addr} (o : HO) (_h : H p = none) : (upd H p o) p = some o := upd_same
section
variable {H H' : Hp} {xs ys zs : List V} {l r : List (Dbt.Wd × Int)} {p : Addr} {d : Dbt.Wd × Int}
end
/-! ### isinstance of an instance of one's own -/
structure InsK (K : PySem.W.Frag) (C : Addr) : Prop where
  ha : PySem.W.findIn K (.ref C) "__class__" = some (some (.builtin "object.__class__"))
  hn : PySem.W.specialIn K (.builtin "object.__class__") "__get__" = some (some (.builtin "getset_descriptor.__get__"))
  htk : PySem.W.takesIn K (.builtin "object.__class__") = some true
  hm : PySem.W.mroIn K C (.type "object") = some true
theorem insk_mk {K : PySem.W.Frag} {x : Str} {C : Addr} (a : PySem.W.nsIn K mainGlobals x = some (some (.ref C))) (h1 : PySem.W.findIn K (.ref C) "__class__" = some (some (.builtin "object.__class__")))
    (h2 : PySem.W.specialIn K (.builtin "object.__class__") "__get__" = some (some (.builtin "getset_descriptor.__get__"))) (h3 : PySem.W.takesIn K (.builtin "object.__class__") = some true) (h4 : PySem.W.mroIn K C (.type "object") = some true) : InsK K (cA K x) := by
  rw [cA_of a]; exact ⟨h1, h2, h3, h4⟩
theorem call_isiI {X : Cx} : CallR X (.builtin "isinstance") (fun xs H Q => ∃ x t D b, xs = [x, .ref D] ∧ TyOf X.K H x t ∧ PySem.W.kitOne X.K t (.ref D) = some b ∧ Q (.bl b) H) := by
  intro pins s σ H xs us Q I r h
  obtain ⟨x, t, D, b, rfl, ty, e, q⟩ := h
  obtain ⟨u, w', rfl, rx, rn⟩ := vals2 r
  cases rn
  exact isinst_ok I rx ty e fun tk => ⟨.bl b, H, I.tok tk, rfl, q⟩
/-! ### tests of texts -/
theorem ifST {s : Str} {A B : Prop} (h : A) : if decide (V.str s = V.str s) = true then A else B := by rw [if_pos (by simp)]; exact h
theorem ifSF {s t : Str} {A B : Prop} (ne : s ≠ t) (h : B) : if decide (V.str s = V.str t) = true then A else B := by rw [if_neg (by simpa using ne)]; exact h
end L2
namespace L2
open PySem PySem.Spec PyProof.Rows
/-! ### C.m(..): a method taken of its class -/
structure UnbS (K : PySem.W.Frag) (C : Addr) (m qual : Str) (st : Stmt) (ps : List Str) : Prop where
  ex : ∃ (f : Addr) (fd : FuncData), Fun K m qual st f fd ∧ (PySem.W.specialIn K (.ref C) "__getattribute__" = some (some (.builtin "type.__getattribute__")) ∧ PySem.W.readsIn K C (.type "type") = true ∧
    PySem.W.findCls K (.ref C) (.type "type") m = some (.val (.ref f)) ∧ PySem.W.handedIn (.ref f) = true) ∧ ∀ us : List Value, us.length = ps.length → bindArgs fd ⟨us, []⟩ = pure (ps.zip us)
structure DefU (P : Program) (w : World) (K : PySem.W.Frag) (mg : Str → Option Value) (base : Heap) (k : Nat) (C : Addr) (m : Str) (ps : List Str) (sp : Sp) : Prop where
  ex : ∃ (f : Addr) (fd : FuncData), FnOk P w K mg base CX0 k f fd ps sp ∧ (PySem.W.specialIn K (.ref C) "__getattribute__" = some (some (.builtin "type.__getattribute__")) ∧ PySem.W.readsIn K C (.type "type") = true ∧
    PySem.W.findCls K (.ref C) (.type "type") m = some (.val (.ref f)) ∧ PySem.W.handedIn (.ref f) = true) ∧ PySem.W.keepIn K (.ref f) = true ∧ ∀ us : List Value, us.length = ps.length → bindArgs fd ⟨us, []⟩ = pure (ps.zip us)
theorem UnbS.ok {P : Program} {w : World} {K : PySem.W.Frag} {mg : Str → Option Value} {base : Heap} {C : Addr} {m qual : Str} {st : Stmt} {N ps : List Str} {k : Nat} {sp : Sp} (S : UnbS K C m qual st ps) (sc : FnScope N ps (defScope st)) (len : ∀ vs H Q E, sp vs H Q E → vs.length = ps.length)
    (hbody : ∀ (f : Addr) (cdv : Value) (A : Around) (outer : List Env) (s : Shared) (H : Hp) (vs : List V) (Q : VK) (E : XK), Room k (A.deeper (envOfC qual (defScope st) s.heap.objs.size f cdv)) → sp vs H Q E →
      ∃ t, PSs (cxOf CX0 P w K mg base N qual (defScope st) f cdv A outer s H E).nox (defBody st) t ∧ t { nx := fun _ H' => Q .non H', rt := Q } (start N vs) H) : DefU P w K mg base (k + 1) C m ps sp := by
  obtain ⟨f, fd, F, hm, hb⟩ := S.ex
  exact ⟨f, fd, F.ok sc len (fun cdv => hbody f cdv), hm, F.kp, hb⟩
section
variable {X : Cx} {C : Addr} {x m : Str} {p pos apos : Pos} {e o : Expr} {es : List Expr} {t : TA} {j k : Nat} {ps : List Str} {sp : Sp}
theorem pe_unb {pl : Sem Bool} (D : DefU X.prog X.w X.K X.mg X.base j C m ps sp) (he : PE X o (tC (.ref C))) (hr : Room k X.A) (ha : PA X (e :: es) t) (hj : j ≤ k := by decide)
    (hst : starEach (e :: es) X.env = (false, eval e X.env) :: starEach es X.env := by rfl) (hpl : (backTo pos (starEach es X.env)).any (·.1) = false := by rfl)
    (ht : eval (.Call (.Attribute o m apos) (e :: es) [] pos) X.env = (do
      let ov ← eval o X.env
      standAt apos.atName
      let (f, first) ← holding [ov] (getMethod ov m pl)
      callWith pos f first (backTo pos (starEach (e :: es) X.env)) (backToKw pos (keywordEach [] X.env))) := by rfl) :
    PE X (.Call (.Attribute o m apos) (e :: es) [] pos) (tCall sp [] E0 t) := by
  intro pins s σ H Q I h
  obtain ⟨f, fd, F, ⟨h1, h2, h3, h4⟩, kp, hb⟩ := D.ex
  refine PySem.W.methodCall_KW (pl := pl) (thn (he pins s σ H (fun v H1 => v = .ref C ∧ H1 = H) I ⟨rfl, rfl⟩) fun u s1 ⟨y, H1, I1, ry, e1, e2⟩ => ?_) ht
  subst e1 e2
  obtain rfl : u = Value.ref C := ry
  refine PySem.W.method_cls I1.kIn h1 (PySem.W.cls_value I1.kIn h2 h3 h4 ?_)
  have I2 := I1.tok (s1.toks + 1)
  refine PySem.W.callWith_K (first := []) (h₀ := X.base) I.ok.mod.kin kp (thn (ha pos pins _ σ _ _ I2 h) fun us s2 ⟨vs, H2, I3, r, q2⟩ => ⟨I3.kIn, ?_⟩) hst hpl
  exact run_fn (us := us) (vs := vs) (dvs := []) (ds := []) F (hr.mono hj) (.all hb) .nil pass0 I3 r q2
end
/-! ### all(xs), xs a list of truths -/
theorem boolsAre_vals : ∀ {bs : List Bool} {us : List Value}, Vals (bs.map V.bl) us → LSm.BoolsAre us bs
  | [], _, .nil => .nil
  | b :: bs, _, .cons r rs => by
    cases r
    exact .cons b (boolsAre_vals rs)
theorem call_allB {X : Cx} (hc : X.calm = true) : CallR X (.builtin "all") (fun xs H Q => ∃ (p : Addr) (bs : List Bool), xs = [.ref p] ∧ SqL X.K H p (bs.map V.bl) ∧ Q (.bl (bs.all id)) H) := by
  intro pins s σ H xs us Q I r h
  obtain ⟨p, bs, rfl, hq, q⟩ := h
  obtain ⟨u, rfl, rx⟩ := vals1 r
  cases rx
  obtain ⟨vs, rv, pl, hz⟩ := I.list hq
  have hb := boolsAre_vals rv
  have hl := pl.isList
  have hlt : p < s.heap.objs.size := by obtain ⟨_, e, _⟩ := hl; exact Heap.lt_size e
  refine PySem.call_all_walk (wpAny_pyIter_list hl ?_)
  refine ⟨s.heap.objs.size, [s.heap.objs.size, p], [s.heap.objs.size], vs.toArray.size, _, _, fun i => (bs[i]?).getD true, rfl, Walks.list (A := X.A.in1) (I.ok.hd hc) _ p (Nat.ne_of_lt hlt) vs.toArray,
    ⟨⟨_, Heap.get?_push_size _ rfl, rfl, rfl⟩, hl.push _⟩, fun i v s' Q' E' hP hQ => ?_, fun h' tk hk => ?_⟩
  · obtain ⟨b, e, rfl⟩ := hb.get i v (by simpa using hP)
    simp only [e, Option.getD_some] at hQ
    exact wpAny_truthy_bool hQ
  · have e : ((List.range vs.toArray.size).all fun i => (bs[i]?).getD true) = bs.all id := by
      rw [← LSm.range_all, List.size_toArray, hb.length]
    rw [e]
    exact ⟨.bl _, H, I.kept (LSm.kept_iter hk), rfl, q⟩
/-! ### nine classes, one above all others -/
inductive Ek where
  | out | fee | pay | due | turn | rate | late | still | base
def Ek.cls : Ek → Str
  | .out => "Out"
  | .fee => "Fee"
  | .pay => "Pay"
  | .due => "Due"
  | .turn => "Turn"
  | .rate => "Rate"
  | .late => "Late"
  | .still => "Still"
  | .base => "Entry"
def Ek.word : Ek → Str
  | .out => "out"
  | .fee => "fee"
  | .pay => "pay"
  | .due => "due"
  | .turn => "turn"
  | .rate => "rate"
  | .late => "late"
  | .still => "still"
  | .base => ""
/-- the fields of an entry -/
def entF : Ek → Int → Int → List (Str × V)
  | .turn, d, _ => [("day", .int d)]
  | .base, d, _ => [("day", .int d)]
  | .rate, d, x => [("day", .int d), ("rate", .int x)]
  | .late, d, x => [("day", .int d), ("rate", .int x)]
  | .still, d, x => [("day", .int d), ("until", .int x)]
  | .out, d, x => [("day", .int d), ("amount", .int x)]
  | .fee, d, x => [("day", .int d), ("amount", .int x)]
  | .pay, d, x => [("day", .int d), ("amount", .int x)]
  | .due, d, x => [("day", .int d), ("amount", .int x)]
/-- its row -/
def rowV : Ek → Int → Int → List V
  | .turn, d, _ => [.str "turn", .int d]
  | .base, d, _ => [.str "", .int d]
  | k, d, x => [.str k.word, .int d, .int x]
abbrev IsEnt (K : PySem.W.Frag) (H : Hp) (a dx : Addr) (k : Ek) (d x : Int) : Prop := H a = some (.ins (cA K k.cls) dx (entF k d x))
theorem entF_word (k : Ek) (d x : Int) : List.lookup ("word" : Str) (entF k d x) = none := by cases k <;> rfl
theorem entF_row (k : Ek) (d x : Int) : List.lookup ("row" : Str) (entF k d x) = none := by cases k <;> rfl
/-- whether the one stands under the other -/
def subE : Ek → Ek → Bool
  | _, .base => true
  | .out, .out => true
  | .fee, .fee => true
  | .pay, .pay => true
  | .due, .due => true
  | .turn, .turn => true
  | .rate, .rate => true
  | .late, .late => true
  | .still, .still => true
  | _, _ => false
/-- what the third thing of a row must be -/
def ThirdOk : Ek → Int → Int → Prop
  | .fee, _, x => -1000000000000 ≤ x ∧ x ≤ 1000000000000
  | .rate, _, x => 0 ≤ x ∧ x ≤ 1000000
  | .late, _, x => 0 ≤ x ∧ x ≤ 1000000
  | .still, d, x => d + 1 ≤ x ∧ x ≤ 1000000
  | .turn, _, _ => True
  | .base, _, _ => False
  | .out, _, x => 1 ≤ x ∧ x ≤ 1000000000000
  | .pay, _, x => 1 ≤ x ∧ x ≤ 1000000000000
  | .due, _, x => 1 ≤ x ∧ x ≤ 1000000000000
def GoodRow (k : Ek) (d x : Int) : Prop := (0 ≤ d ∧ d ≤ 999999) ∧ ThirdOk k d x
def rowDt : Ek → Int → Int → List PyData
  | .turn, d, _ => [.str "turn", .int d]
  | .base, d, _ => [.str "", .int d]
  | k, d, x => [.str k.word, .int d, .int x]
theorem rd_row {K : PySem.W.Frag} {H : Hp} (k : Ek) (d x : Int) : RdVs K H (rowV k d x) (rowDt k d x) := by
  cases k with
  | turn => exact .cons (.str _) (.cons (.int _) .nil)
  | base => exact .cons (.str _) (.cons (.int _) .nil)
  | _ => exact .cons (.str _) (.cons (.int _) (.cons (.int _) .nil))
theorem eqv_row (k : Ek) (d x : Int) : PyData.eqv (.tuple (rowDt k d x)) (.tuple (rowDt k d x)) = true := by
  cases k <;> simp [rowDt, PyData.eqv, PyData.eqvAll]
def tMethE (K : PySem.W.Frag) (m : Str) (sp : Ek → Sp) (ta : TE) (t : TA) : TE := fun σ H Q => ta σ H fun x H1 => ∃ (k : Ek) (a dx : Addr) (fs : List (Str × V)), x = .ref a ∧ H1 a = some (.ins (cA K k.cls) dx fs) ∧ fs.lookup m = none ∧ t σ H1 fun vs H2 => sp k (x :: vs) H2 Q E0
section
variable {X : Cx} {C : Addr} {x m : Str} {p pos apos : Pos} {e o : Expr} {es : List Expr} {ta : TE} {t : TA} {j k : Nat} {ps : List Str}
theorem pe_methE0 {pl : Sem Bool} {sp : Ek → Sp} (D : ∀ k : Ek, DefM X.prog X.w X.K X.mg X.base j (cA X.K k.cls) m ps (sp k)) (hc : ∀ k : Ek, Cls X.K (cA X.K k.cls)) (hr : Room k X.A) (he : PE X o ta) (hj : j ≤ k := by decide)
    (ht : eval (.Call (.Attribute o m apos) [] [] pos) X.env = (do
      let ov ← eval o X.env
      standAt apos.atName
      let (f, first) ← holding [ov] (getMethod ov m pl)
      callWith pos f first (backTo pos (starEach [] X.env)) (backToKw pos (keywordEach [] X.env))) := by rfl) :
    PE X (.Call (.Attribute o m apos) [] [] pos) (tMethE X.K m sp ta tNil) := by
  intro pins s σ H Q I h
  refine PySem.W.methodCall_KW (pl := pl) (thn (he pins s σ H _ I h) fun u s1 ⟨x, H1, I1, rx, kd, a, dx, fs, ex, ea, l, q⟩ => ?_) ht
  subst ex
  obtain rfl : u = Value.ref a := rx
  obtain ⟨f, fd, F, hm, hb⟩ := (D kd).ex
  refine getmeth_ok I1 ea (hc kd) hm l ?_
  exact PySem.W.callWith_K0 (first := [.ref a]) I1.kIn hm.kp (run_fn (us := [.ref a]) (vs := [.ref a]) (dvs := []) (ds := []) F (hr.mono hj) (.all hb) .nil pass0 I1 (.cons rfl .nil) q)
end
section
variable {K : PySem.W.Frag} {x : Str} {C f : Addr}
theorem unb_mk {m qual : Str} {st : Stmt} {ps : List Str} {oc : Value} {od an : Option Addr} {osl : Array (Option Value)} {kV doc pm cdv ct : Value} (a : PySem.W.nsIn K mainGlobals x = some (some (.ref C))) (h1 : PySem.W.specialIn K (.ref C) "__getattribute__" = some (some (.builtin "type.__getattribute__")))
    (h2 : PySem.W.readsIn K C (.type "type") = true) (h3 : PySem.W.findCls K (.ref C) (.type "type") m = some (.val (.ref f))) (h4 : PySem.W.handedIn (.ref f) = true)
    (fk : PySem.W.keepIn K (.ref f) = true) (fl : K.lookup f = some ⟨oc, od, .func (PySem.W.fnOf m qual (defArgs st) (defBody st) (defScope st) .none kV doc pm an cdv ct), osl⟩) (fc : PySem.W.codeIn K cdv qual = true)
    (hb : ∀ us : List Value, us.length = ps.length → bindArgs (PySem.W.fnOf m qual (defArgs st) (defBody st) (defScope st) .none kV doc pm an cdv ct) ⟨us, []⟩ = pure (ps.zip us)) : UnbS K (cA K x) m qual st ps := by
  rw [cA_of a]; exact ⟨f, _, fun_mk fl fc fk, ⟨h1, h2, h3, h4⟩, hb⟩
end
end L2
namespace L2
open PySem PySem.Spec PyProof.Rows
/-! ### texts: slices, upper; a call in a try whose value is dropped -/
section
variable {X : Cx}
end
end L2
namespace L2
open PySem
end L2
namespace L2
def eqK : Kd → Kd → Bool
  | .plain, .plain => true
  | .bank, .bank => true
  | .thirty, .thirty => true
  | .exact, .exact => true
  | _, _ => false
def subK (k : Kd) : Kd → Bool
  | .plain => true
  | .bank => eqK k .bank
  | .thirty => eqK k .thirty
  | .exact => eqK k .exact
end L2
namespace L2
open PySem PySem.Spec PyProof.Rows
section
variable {M : Model} {A : Around} {E : Value → Shared → Prop} {s : Shared} {B : Heap} {v : Env} {out : List Env} {L e d : Addr} {Q : Unit → Shared → Prop}
end
section
variable {X : Cx} {pins : List (Addr × Obj)} {σ : St} {H : Hp} {s : Shared} {e : Addr} {φ : Heap → Prop}
end
section
variable {P : Program} {w : World} {K : PySem.W.Frag} {mg : Str → Option Value} {base : Heap} {N : List Str} {qual : Str} {scope : Scope} {f : Addr} {cd : Value} {A : Around} {outer : List Env} {s₀ : Shared} {H₀ : Hp} {E : XK}
end
/-! ### raise C(v), C with an __init__ that keeps v -/
section
variable {M : Model} {A : Around} {E : Value → Shared → Prop} {env : Env} {nm q : Str} {C N : Addr} {bs bm : List Value} {hdct : Bool} {sn : List Str} {sub : List Value} {ab : Bool} {col : Option Bool} {dd : Option Addr} {k0 k1 k2 k3 k5 : Option Value} {newId : String}
end
section
variable {X : Cx} {x : Str} {np pos : Pos} {e0 : Expr} {t : TA} {C f : Addr} {fd : FuncData} {ps : List Str} {name : Str} {j k : Nat}
end
section
variable {X : Cx} {x : Str} {np cpos pos : Pos} {e0 : Expr} {t : TA} {name : Str} {j k : Nat} {E : XK}
end
section
variable {X : Cx} {o value : Expr} {name : Str} {pos pos' : Pos} {ta tv : TE} {C : Addr}
end
end L2
namespace L2
open PySem PySem.Spec PyProof.Rows
/-! ### a list of things and what is known of each -/
inductive LL {α : Type} (R : V → α → Prop) : List V → List α → Prop
  | nil : LL R [] []
  | cons {v : V} {e : α} {vs : List V} {es : List α} : R v e → LL R vs es → LL R (v :: vs) (e :: es)
section
variable {α : Type} {R S : V → α → Prop} {vs ws : List V} {es fs : List α}
theorem LL.length (h : LL R vs es) : vs.length = es.length := by
  induction h with
  | nil => rfl
  | cons _ _ ih => simp [ih]
theorem LL.imp (f : ∀ v e, R v e → S v e) (h : LL R vs es) : LL S vs es := by
  induction h with
  | nil => exact .nil
  | cons h _ ih => exact .cons (f _ _ h) ih
theorem LL.append (h : LL R vs es) (k : LL R ws fs) : LL R (vs ++ ws) (es ++ fs) := by
  induction h with
  | nil => exact k
  | cons h _ ih => exact .cons h ih
theorem LL.push {v : V} {e : α} (h : LL R vs es) (k : R v e) : LL R (vs ++ [v]) (es ++ [e]) := h.append (.cons k .nil)
theorem LL.take (h : LL R vs es) : ∀ n, LL R (vs.take n) (es.take n) := by
  induction h with
  | nil => intro n; simp; exact .nil
  | cons h _ ih =>
    intro n
    cases n with
    | zero => exact .nil
    | succ n => exact .cons h (ih n)
theorem LL.get (h : LL R vs es) : ∀ {i : Nat} {v : V}, vs[i]? = some v → ∃ e, es[i]? = some e ∧ R v e := by
  induction h with
  | nil => intro i v e; simp at e
  | cons h _ ih =>
    intro i v e
    cases i with
    | zero => cases e; exact ⟨_, rfl, h⟩
    | succ i => exact ih e
theorem LL.eqm {g : α → V} (h : LL (fun v e => v = g e) vs es) : vs = es.map g := by
  induction h with
  | nil => rfl
  | cons h _ ih => rw [h, ih]; rfl
end
/-! ### comprehensions with a test whose items make things -/
theorem comp_sel {α : Type} {J : It} {ix : List Nat} {tt : TT} {te : TE} {σ : St} {l : Addr} {xs : List V} {H : Hp} {R : Hp → Prop} (Y : WalkOf J H xs) (hl : H l = none) (hz : xs.length ≤ sizeLine) (es : List α) (len : es.length = xs.length)
    (f : α → Bool) (P : Hp → V → α → Prop) (mono : ∀ v e H1 H2, Same H1 H2 → P H1 v e → P H2 v e) (put : ∀ v e H1 ys zs, H1 l = some (.lst ys) → P H1 v e → P (upd H1 l (.lst zs)) v e)
    (ht : ∀ (i : Nat) x e H' Q', xs[i]? = some x → es[i]? = some e → Same H H' → Q' (f e) H' → tt (some x :: capts σ ix) H' Q')
    (he : ∀ (i : Nat) x e H' Q', xs[i]? = some x → es[i]? = some e → f e = true → Same H H' → (∀ v H2, Same H' H2 → P H2 v e → Q' v H2) → te (some x :: capts σ ix) H' Q')
    (fin : ∀ ys H', Same H H' → H' l = some (.lst ys) → LL (P H') ys (es.filter f) → R H') :
    ∃ W : Nat → Nat → List V → Hp → Prop, (∃ m, W 0 m [] (upd H l (.lst []))) ∧ TurnsIf ix tt te σ J l R W := by
  refine ⟨fun i m ys H' => m = xs.length - i ∧ i ≤ xs.length ∧ LL (P H') ys ((es.take i).filter f) ∧ Same H H' ∧ H' l = some (.lst ys), ⟨xs.length, by simp, Nat.zero_le _, by simp; exact .nil, same_new hl _, upd_same⟩, ?_⟩
  rintro i m ys H' ⟨rfl, hi, hy, sH, hL⟩
  refine ⟨hL, ?_⟩
  by_cases hlt : i < xs.length
  · have yl : ys.length ≤ i := by
      rw [hy.length]
      exact Nat.le_trans (List.length_filter_le _ _) (by rw [List.length_take]; omega)
    have eP : es[i]? = some (es[i]'(by omega)) := List.getElem?_eq_getElem (by omega)
    generalize es[i]'(by omega) = e at eP
    have tk : es.take (i + 1) = es.take i ++ [e] := by rw [List.take_add_one, eP]; rfl
    refine .inr ⟨Y.go i H' sH hlt, by omega, fun x H2 y => ?_⟩
    obtain ⟨rfl, e2⟩ := Y.yld i H' x H2 sH y
    refine ht i x e _ _ e2 eP sH ?_
    cases b : f e with
    | true =>
      rw [if_pos rfl]
      refine he i x e _ _ e2 eP b sH fun v H3 s3 pv => ?_
      have hL3 := s3 _ _ hL
      refine ⟨hL3, xs.length - (i + 1), by omega, rfl, hlt, ?_, same_put (sH.trans s3) hl, upd_same⟩
      rw [tk, List.filter_append, List.filter_cons_of_pos b]
      exact ((hy.imp fun v e q => put v e H3 ys _ hL3 (mono v e _ _ s3 q)).push (put v e H3 ys _ hL3 pv))
    | false =>
      rw [if_neg Bool.false_ne_true]
      refine ⟨xs.length - (i + 1), by omega, rfl, hlt, ?_, sH, hL⟩
      rw [tk, List.filter_append, List.filter_cons_of_neg (by rw [b]; decide)]
      simpa using hy
  · rw [List.take_of_length_le (by omega)] at hy
    exact .inl ⟨Y.stop i H' sH (by omega), fin ys H' sH hL hy⟩
/-! ### a dict of whole numbers that is filled: {}, d.get(k, v), d[k] = v -/
theorem isI {P : Program} {w : World} {k : Int} {t : Tok} : (intKind P w).is k (.int k t) = true := by first | (simp [intKind, Value.isInt]; done) | exact beq_self_eq_true _
section
variable {X : Cx} {pins : List (Addr × Obj)} {σ : St} {H : Hp} {s : Shared} {o i e f value : Expr} {pos pos' apos cpos : Pos} {td ty tx tv : TE}
end
/-! ### fields and methods of entries within comprehensions -/
section
variable {X : Cx} {m f : Str} {pos apos : Pos} {o e : Expr} {ta : TE} {j k : Nat} {ps : List Str}
theorem pe_methE0K (K : PySem.W.Frag) {pl : Sem Bool} {sp : Ek → Sp} (D : ∀ k : Ek, DefM X.prog X.w X.K X.mg X.base j (cA X.K k.cls) m ps (sp k)) (hc : ∀ k : Ek, Cls X.K (cA X.K k.cls)) (hr : Room k X.A) (he : PE X o ta) (hj : j ≤ k := by decide)
    (ht : eval (.Call (.Attribute o m apos) [] [] pos) X.env = (do
      let ov ← eval o X.env
      standAt apos.atName
      let (f, first) ← holding [ov] (getMethod ov m pl)
      callWith pos f first (backTo pos (starEach [] X.env)) (backToKw pos (keywordEach [] X.env))) := by rfl) (hK : X.K = K := by rfl) :
    PE X (.Call (.Attribute o m apos) [] [] pos) (tMethE K m sp ta tNil) := by
  subst hK
  exact pe_methE0 (pl := pl) D hc hr he hj ht
end
end L2
namespace L2
open PySem PySem.Spec PyProof.Rows
/-! ### a dict of any things by whole numbers -/
def storedV (l : List (Int × V)) (k : Int) (y : V) : List (Int × V) := if l.any (fun p => p.1 = k) then l.map (fun p => if p.1 = k then (p.1, y) else p) else l ++ [(k, y)]
def dctV (l : List (Int × V)) : List (Int × V) := l.foldl (fun acc s => storedV acc s.1 s.2) []
def lkV (l : List (Int × V)) (k : Int) : Option V := (l.find? fun p => p.1 = k).map (·.2)
inductive KU : List (Int × Value) → List (Int × V) → Prop
  | nil : KU [] []
  | cons {k : Int} {v : V} {u : Value} {r : List (Int × Value)} {l : List (Int × V)} : RelV v u → KU r l → KU ((k, u) :: r) ((k, v) :: l)
theorem KU.length {r : List (Int × Value)} {l : List (Int × V)} (h : KU r l) : r.length = l.length := by
  induction h with
  | nil => rfl
  | cons _ _ ih => simp [ih]
theorem KU.any {r : List (Int × Value)} {l : List (Int × V)} {k : Int} (h : KU r l) : r.any (fun kv => kv.1 = k) = l.any (fun p => p.1 = k) := by
  induction h with
  | nil => rfl
  | cons _ _ ih => rw [List.any_cons, List.any_cons, ih]
theorem KU.snoc {r : List (Int × Value)} {l : List (Int × V)} {k : Int} {v : V} {u : Value} (h : KU r l) (rv : RelV v u) : KU (r ++ [(k, u)]) (l ++ [(k, v)]) := by
  induction h with
  | nil => exact .cons rv .nil
  | cons r' _ ih => exact .cons r' ih
theorem KU.map {r : List (Int × Value)} {l : List (Int × V)} {k : Int} {v : V} {u : Value} (h : KU r l) (rv : RelV v u) : KU (r.map fun kv => if kv.1 = k then (kv.1, u) else kv) (l.map fun p => if p.1 = k then (p.1, v) else p) := by
  induction h with
  | nil => exact .nil
  | @cons k' v' u' r l r' _ ih =>
    rw [List.map_cons, List.map_cons]
    by_cases e : k' = k
    · rw [if_pos e, if_pos e]; exact .cons rv ih
    · rw [if_neg e, if_neg e]; exact .cons r' ih
theorem KU.stored {r : List (Int × Value)} {l : List (Int × V)} {k : Int} {v : V} {u : Value} (h : KU r l) (rv : RelV v u) : KU (stored r k u) (storedV l k v) := by
  unfold PySem.stored storedV
  rw [h.any]
  split
  · exact h.map rv
  · exact h.snoc rv
theorem KU.look {r : List (Int × Value)} {l : List (Int × V)} {k : Int} {v : V} {u : Value} (rv : RelV v u) (h : KU r l) : RelV ((lkV l k).getD v) ((valueAt r k).getD u) := by
  induction h with
  | nil => exact rv
  | @cons k' v' u' r l r' _ ih =>
    unfold lkV PySem.valueAt at *
    by_cases e : k' = k
    · rw [List.find?_cons_of_pos (by simpa using e), List.find?_cons_of_pos (by simpa using e)]
      exact r'
    · rw [List.find?_cons_of_neg (by simpa using e), List.find?_cons_of_neg (by simpa using e)]
      exact ih
theorem KU.lookS {r : List (Int × Value)} {l : List (Int × V)} {k : Int} {v : V} (h : KU r l) (e : lkV l k = some v) : ∃ u, valueAt r k = some u ∧ RelV v u := by
  induction h with
  | nil => cases e
  | @cons k' v' u' r l r' _ ih =>
    unfold lkV PySem.valueAt at *
    by_cases c : k' = k
    · rw [List.find?_cons_of_pos (by simpa using c)] at e ⊢
      cases e
      exact ⟨_, rfl, r'⟩
    · rw [List.find?_cons_of_neg (by simpa using c)] at e ⊢
      exact ih e
theorem KU.lookN {r : List (Int × Value)} {l : List (Int × V)} {k : Int} (h : KU r l) : (valueAt r k).isSome = (lkV l k).isSome := by
  induction h with
  | nil => rfl
  | @cons k' v' u' r l r' _ ih =>
    unfold lkV PySem.valueAt at *
    by_cases c : k' = k
    · rw [List.find?_cons_of_pos (by simpa using c), List.find?_cons_of_pos (by simpa using c)]; rfl
    · rw [List.find?_cons_of_neg (by simpa using c), List.find?_cons_of_neg (by simpa using c)]
      exact ih
theorem storedV_length (l : List (Int × V)) (k : Int) (y : V) : (storedV l k y).length ≤ l.length + 1 := by
  unfold storedV
  split
  · rw [List.length_map]; omega
  · simp
theorem lkV_stored (l : List (Int × V)) (k j : Int) (y : V) : lkV (storedV l k y) j = if j = k then some y else lkV l j := by
  unfold storedV lkV
  induction l with
  | nil =>
    by_cases c : j = k
    · subst c; simp
    · have c' : ¬ k = j := fun z => c z.symm
      simp [c, c']
  | cons p l ih =>
    by_cases a : p.1 = k
    · have h1 : (p :: l).any (fun p => decide (p.1 = k)) = true := by rw [List.any_cons, decide_eq_true a]; rfl
      rw [if_pos h1, List.map_cons, if_pos a]
      by_cases c : j = k
      · rw [if_pos c, List.find?_cons_of_pos (by simp; omega)]; rfl
      · rw [if_neg c, List.find?_cons_of_neg (by simp; omega), List.find?_cons_of_neg (by simp; omega)]
        congr 1
        clear ih h1
        induction l with
        | nil => rfl
        | cons q l ih2 =>
          rw [List.map_cons]
          by_cases e : q.1 = k
          · rw [if_pos e, List.find?_cons_of_neg (by simp; omega), List.find?_cons_of_neg (by simp; omega)]; exact ih2
          · rw [if_neg e]
            by_cases e2 : q.1 = j
            · rw [List.find?_cons_of_pos (by simpa using e2), List.find?_cons_of_pos (by simpa using e2)]
            · rw [List.find?_cons_of_neg (by simpa using e2), List.find?_cons_of_neg (by simpa using e2)]; exact ih2
    · have h1 : (p :: l).any (fun p => decide (p.1 = k)) = l.any (fun p => decide (p.1 = k)) := by rw [List.any_cons, decide_eq_false a]; rfl
      rw [h1]
      have st : (if l.any (fun p => decide (p.1 = k)) = true then (p :: l).map (fun p => if p.1 = k then (p.1, y) else p) else p :: l ++ [(k, y)]) = p :: (if l.any (fun p => decide (p.1 = k)) = true then l.map (fun p => if p.1 = k then (p.1, y) else p) else l ++ [(k, y)]) := by
        split
        · rw [List.map_cons, if_neg a]
        · rfl
      rw [st]
      by_cases e : p.1 = j
      · rw [List.find?_cons_of_pos (by simpa using e), List.find?_cons_of_pos (by simpa using e), if_neg (by omega)]
      · rw [List.find?_cons_of_neg (by simpa using e), List.find?_cons_of_neg (by simpa using e)]
        exact ih
def DictV (P : Program) (w : World) (d : Addr) (l : List (Int × V)) : HO := .ext fun h => (d == sysModules) = false ∧ ∃ kvs, h.DictOf (intKind P w) d kvs ∧ KU kvs l
section
variable {X : Cx} {pins : List (Addr × Obj)} {σ : St} {H : Hp} {s : Shared} {o i e f value : Expr} {pos pos' apos cpos : Pos} {td ty tx tv : TE}
theorem dictV_ok {P : Program} {w : World} {H : Hp} {h : Heap} {d : Addr} {kvs : List (Int × Value)} {l : List (Int × V)} (lo : (d == sysModules) = false) (hd : h.DictOf (intKind P w) d kvs) (hk : KU kvs l) : ObjOk P w H h d (DictV P w d l) :=
  ⟨⟨lo, kvs, hd, hk⟩, (let ⟨o, _, _, e, _⟩ := hd; ⟨o, e⟩), fun h1 h2 ⟨lo', kv, x, y⟩ e => ⟨lo', kv, dictOf_keep x e, y⟩⟩
def tDNewV (P : Program) (w : World) : TE := fun _ H Q => ∀ p, H p = none → Q (.ref p) (upd H p (DictV P w p []))
theorem pe_dnewV : PE X (.Dict [] [] pos) (tDNewV X.prog X.w) := fun pins s σ H Q I h => by
  have big : sysModules < s.heap.objs.size := Nat.lt_trans (by decide) (show mainGlobals < s.heap.objs.size from (I.mod.glob.keeps I.bk).lt)
  have new : ObjOk X.prog X.w (upd H s.heap.objs.size (DictV X.prog X.w s.heap.objs.size [])) (s.heap.push { cls := .type "dict", data := .dict #[] }) s.heap.objs.size (DictV X.prog X.w s.heap.objs.size []) :=
    dictV_ok (beq_eq_false_iff_ne.mpr (Ne.symm (Nat.ne_of_lt big))) (Heap.DictOf.new s.heap) .nil
  exact wpAny_Dict_empty ⟨.ref s.heap.objs.size, _, I.laid (t' := s.toks) (fun _ _ q => Heap.get?_push_of_some _ q) (Nat.le_refl _) new, rfl, h _ (I.hok.fresh (Nat.le_refl _))⟩
def tGetV (P : Program) (w : World) (td ty tx : TE) : TE := fun σ H Q => td σ H fun x H1 => ∃ (d : Addr) (l : List (Int × V)), x = .ref d ∧ H1 d = some (DictV P w d l) ∧ ty σ H1 fun y H2 => tx σ H2 fun z H3 => ∃ (k : Int), y = .int k ∧ H3 d = some (DictV P w d l) ∧ Q ((lkV l k).getD z) H3
theorem pe_getV (ho : PE X o td) (he : PE X e ty) (hf : PE X f tx) (hb : attributeBase o "get" X.env (eval o X.env) = eval o X.env := by rfl)
    (few : ((backTo cpos (starEach [e, f] X.env)).all (fun x => !x.1) && (backToKw cpos (keywordEach [] X.env)).all (fun x => x.1.isSome)
      && decide (([e, f] : List Expr).length + ([] : List Keyword).length + (if ([] : List Keyword).isEmpty then 0 else 1) < 30)) = true := by rfl)
    (line : (apos.endLine == cpos.line) = true := by rfl) (trees : backTo cpos (starEach [e, f] X.env) = [(false, eval e X.env), (false, eval f X.env)] := by rfl) : PE X (.Call (.Attribute o "get" apos) [e, f] [] cpos) (tGetV X.prog X.w td ty tx) := by
  intro pins s σ H Q I h
  refine wpAny_Call_method hb few line PySem.F.plainAttrs_dict PySem.F.slot_dict_get PySem.F.type_dict_get (thn (ho pins s σ H _ I h) fun u s1 ⟨x, H1, I1, rx, d, l, ex, hd, q1⟩ => ?_)
  subst ex
  obtain rfl : u = Value.ref d := rx
  obtain ⟨lo, kvs, hD, hk⟩ := (I1.hok d _ hd).1
  refine ⟨hD.typeIs, hD.mapOf.noDict, ?_⟩
  rw [trees]
  refine Calls.callWith_builtin rfl (Calls.evalArgs_plain (Calls.spliced_cons (thn (he pins s1 σ H1 _ I1 q1) fun iv s2 ⟨y, H2, I2, ry, q2⟩ =>
    Calls.spliced_cons (thn (hf pins s2 σ H2 _ I2 q2) fun fv s3 ⟨z, H3, I3, rz, k, ek, hd3, q3⟩ => Calls.spliced_nil ?_))))
  subst ek
  obtain ⟨t, rfl⟩ := ry
  obtain ⟨lo3, kvs3, hD3, hk3⟩ := (I3.hok d _ hd3).1
  exact call_meetsIn PySem.F.slot_dict_get hD3.typeIs PySem.F.entry_dict_get (PySem.F.args_dict_get_3 _ _ _) (meets_dict_get_default (intKind X.prog X.w) d isI lo3 fv) ⟨_, hD3.mapOf, _, H3, I3.tok _, hk3.look rz, q3⟩
def sPutV (P : Program) (w : World) (td ty tv : TE) : TS := fun D σ H => tv σ H fun v H1 => td σ H1 fun x H2 => ty σ H2 fun y H3 => ∃ (d : Addr) (l : List (Int × V)) (k : Int), x = .ref d ∧ y = .int k ∧ H3 d = some (DictV P w d l) ∧ l.length ≤ 1000 ∧ D.nx σ (upd H3 d (DictV P w d (storedV l k v)))
theorem ps_putV (ho : PE X o td) (hi : PE X i ty) (hv : PE X value tv) (hs : swapsWith value (some (.Subscript o i pos')) pos.line X.env = pure false := by rfl) : PS X (.Assign [.Subscript o i pos'] value pos) (sPutV X.prog X.w td ty tv) := by
  intro pins s σ H D I h
  refine wpAny_Assign_Subscript (thn (hv pins s σ H _ I h) fun r s1 ⟨v, H1, I1, rv, q1⟩ => thn (ho pins s1 σ H1 _ I1 q1) fun u s2 ⟨x, H2, I2, rx, q2⟩ => thn (hi pins s2 σ H2 _ I2 q2) fun iv s3 ⟨y, H3, I3, ry, d, l, k, ex, ey, hd, hl, q3⟩ => ?_) hs
  subst ex ey
  obtain rfl : u = Value.ref d := rx
  obtain ⟨t, rfl⟩ := ry
  obtain ⟨lo, kvs, hD, hk⟩ := (I3.hok d _ hd).1
  have sz := sizeLine_eq
  refine wpAny_setItem_pairs (knd := intKind X.prog X.w) (k := k) (hsz := by rw [hk.length]; omega) isI hD fun h' hD' hs' => ?_
  have he : ∃ q, h'.get? d = some q := let ⟨q, _, _, hq, _⟩ := hD'; ⟨q, hq⟩
  exact ⟨σ, _, I3.write (x := d) (e := d) (by rw [hd]; exact True.intro) (.inl rfl) (fun b q hb z => (hs'.2 b hb).trans z) he (dictV_ok lo hD' (hk.stored rv)), q3⟩
def rIxV (P : Program) (w : World) : R2 := fun x y H Q => ∃ d l k v, x = .ref d ∧ y = .int k ∧ H d = some (DictV P w d l) ∧ lkV l k = some v ∧ Q v H
theorem ix_dictV {X : Cx} : IxR X (rIxV X.prog X.w) := by
  intro value slice pins s σ H x y v u Q I rx ry h hs
  obtain ⟨d, l, k, z, rfl, rfl, hd, hl, q⟩ := h
  obtain rfl : v = Value.ref d := rx
  obtain ⟨t, rfl⟩ := ry
  obtain ⟨lo, kvs, hD, hk⟩ := (I.hok d _ hd).1
  obtain ⟨u', e, ru⟩ := hk.lookS hl
  exact subscriptTail_builtinR (x := u') hD.typeIs slot_dict_getitem.lookup
    (wpAny_getItem_of (Q := fun r s' => r = u' ∧ EP X pins σ Q r s') (knd := intKind X.prog X.w) (k := k) isI hD.mapOf e ⟨rfl, z, H, I.tok _, ru, q⟩) hs
theorem ix_dictVK {X : Cx} (P : Program) (w : World) (hP : X.prog = P := by rfl) (hw : X.w = w := by rfl) : IxR X (rIxV P w) := by subst hP hw; exact ix_dictV
end
/-! ### dict(xs), xs a list of tuples (whole number, thing) -/
def PairV (h : Heap) (v : Value) (x : Int × Value) : Prop := ∃ a o n t, v = .ref a ∧ h.get? a = some o ∧ o.cls = .type "tuple" ∧ o.data = .seq #[.int x.1 t, x.2] n
theorem PairV.keep {h h' : Heap} {v : Value} {x : Int × Value} (p : PairV h v x) (k : ∀ a o, v = .ref a → h.get? a = some o → h'.get? a = some o) : PairV h' v x := by
  obtain ⟨a, o, n, t, rfl, e, r⟩ := p
  exact ⟨a, o, n, t, rfl, k a o rfl e, r⟩
def foldU (l : List (Int × Value)) : List (Int × Value) := l.foldl (fun acc s => stored acc s.1 s.2) []
theorem stored_length (l : List (Int × Value)) (k : Int) (y : Value) : (stored l k y).length ≤ l.length + 1 := by
  unfold PySem.stored
  split
  · rw [List.length_map]; omega
  · simp
theorem foldU_length (l acc : List (Int × Value)) : (l.foldl (fun acc s => stored acc s.1 s.2) acc).length ≤ acc.length + l.length := by
  induction l generalizing acc with
  | nil => simp
  | cons s l ih =>
    rw [List.foldl_cons]
    have := ih (stored acc s.1 s.2)
    have := stored_length acc s.1 s.2
    rw [List.length_cons]
    omega
section
variable {prog : Program} {w : World} {A : Around} {s : Shared} {R : Result → Shared → Prop}
theorem upd_loopV {d it p : Addr} {its : List Value} {l : List (Int × Value)} {h₁ : Heap} (hh : A.handled = none) (ndi : d ≠ it) (ndp : d ≠ p) (nip : it ≠ p) (len : its.length = l.length) (h64 : its.length < 1000)
    (hR : ∀ h' tk, (∀ b o, b ≠ d → b ≠ it → h₁.get? b = some o → h'.get? b = some o) → h'.DictOf (intKind prog w) d (foldU l) → R (.ok (.ret .none)) { s with heap := h', toks := tk }) :
    ∀ (k i : Nat) (h : Heap) (tk : Nat), its.length - i = k → i ≤ its.length → h.IsListIter it p i → h.IsList p its.toArray → (∀ j, j < its.length → PairV h (its.getD j .none) (l.getD j (0, .none))) →
      h.DictOf (intKind prog w) d (foldU (l.take i)) → (∀ b o, b ≠ d → b ≠ it → h₁.get? b = some o → h.get? b = some o) →
      codeAny (model prog w) A (.builtin "dict.update.loop" ⟨[.ref d, .ref it, rawInt i, .none], []⟩) R { s with heap := h, toks := tk } := by
  intro k
  induction k with
  | zero =>
    intro i h tk hk hi hit hl hp hd hkeep
    have hin : i = its.length := by omega
    refine codeAny_builtin entry_upd_loop ?_
    rw [Around.under_plainId plain_upd_loop _]
    show wpAny _ A.in1 (pyNext (.ref it) >>= _) _ _ _
    refine wpAny_bind (wpAny_pyNext_list_end (s := { s with heap := h, toks := tk }) (A := A.in1) hh hit hl (by simp; omega) fun h' he => ?_)
    show wpAny _ _ (Builtin.Dict.addKeywords d [] >>= _) _ _ _
    refine wpAny_bind (wpAny_pure (wpAny_pure ?_))
    rw [hin, len, List.take_length] at hd
    exact hR h' tk (fun b o b1 b2 e => he b o b2 (hkeep b o b1 b2 e)) (dictOf_keep hd fun o e => he d o ndi e)
  | succ k ih =>
    intro i h tk hk hi hit hl hp hd hkeep
    have hlt : i < its.length := by omega
    obtain ⟨a, oa, n, t, ea, eo, oc, odt⟩ := hp i hlt
    have hx : its[i]? = some (.ref a) := by
      rw [List.getD_eq_getElem?_getD, List.getElem?_eq_getElem hlt] at ea
      rw [List.getElem?_eq_getElem hlt]
      exact congrArg some ea
    refine codeAny_builtin entry_upd_loop ?_
    rw [Around.under_plainId plain_upd_loop _]
    show wpAny _ A.in1 (pyNext (.ref it) >>= _) _ _ _
    refine wpAny_bind (wpAny_pyNext_list_item (s := { s with heap := h, toks := tk }) (A := A.in1) hit hl (x := .ref a) (by simpa using hx) fun h' hit' sb => ?_)
    have ait : a ≠ it := fun z => by
      obtain ⟨o, ho, hc, _⟩ := hit
      rw [z, ho] at eo
      cases eo
      rw [hc] at oc
      exact absurd oc (by decide)
    have eo' : h'.get? a = some oa := (sb.2 a ait).trans eo
    have hT : ({ s with heap := h', toks := tk } : Shared).TypeIs (.ref a) "tuple" := ⟨oa, eo', oc⟩
    have hd' : h'.DictOf (intKind prog w) d (foldU (l.take i)) := dictOf_keep hd fun o e => (sb.2 d ndi).trans e
    show wpAny _ _ (holding [Value.ref a] _ >>= _) _ _ _
    refine wpAny_bind (wpAny_holding ?_)
    refine wpAny_bind (wpAny_tryCatch ?_)
    unfold Builtin.Dict.pairItems
    refine wpAny_bind (wpAny_typeOf hT ?_)
    rw [if_pos (by decide)]
    refine wpAny_bind (wpAny_seqItems eo' odt ?_)
    refine wpAny_pure ?_
    show wpAny _ _ (holding [Value.int (l.getD i (0, .none)).1 t, (l.getD i (0, .none)).2] (dictSet d (Value.int (l.getD i (0, .none)).1 t) (l.getD i (0, .none)).2)) _ _ _
    refine wpAny_holding ?_
    have fl := foldU_length (l.take i) []
    rw [List.length_take] at fl
    refine wpAny_dictSet_pairs (knd := intKind prog w) (k := (l.getD i (0, .none)).1) (by first | exact Value.isInt_int _ _ | (simp [intKind, Value.isInt]; done) | exact beq_self_eq_true _) hd' (fun h2 hd2 sb2 => ?_) (by rw [sizeLine_eq]; unfold foldU; simp at fl; omega)
    refine wpAny_pure ⟨plainId_quiet plain_upd_loop _, ?_⟩
    have k2 : ∀ b o, b ≠ d → b ≠ it → h.get? b = some o → h2.get? b = some o := fun b o b1 b2 e => (sb2.2 b b1).trans ((sb.2 b b2).trans e)
    refine ih (i + 1) h2 _ (by omega) (by omega) (hit'.at fun o e => (sb2.2 it ndi.symm).trans e) ?_ (fun j hj => (hp j hj).keep fun b o eb e => k2 b o ?_ ?_ e) ?_ fun b o b1 b2 e => k2 b o b1 b2 (hkeep b o b1 b2 e)
    · obtain ⟨o, e, r⟩ := hl
      exact ⟨o, k2 p o ndp.symm nip.symm e, r⟩
    · intro z
      obtain ⟨b', o', n', t', e1, e2, e3, _⟩ := hp j hj
      rw [eb] at e1
      cases e1
      obtain ⟨od, es, ep, ho, hc, _⟩ := id hd
      rw [z, ho] at e2
      cases e2
      rw [hc.1] at e3
      exact absurd e3 (by decide)
    · intro z
      obtain ⟨b', o', n', t', e1, e2, e3, _⟩ := hp j hj
      rw [eb] at e1
      cases e1
      obtain ⟨oi, ho, hc, _⟩ := id hit
      rw [z, ho] at e2
      cases e2
      rw [hc] at e3
      exact absurd e3 (by decide)
    · have tk : l.take (i + 1) = l.take i ++ [l.getD i (0, .none)] := by
        rw [List.take_add_one, List.getElem?_eq_getElem (by omega), List.getD_eq_getElem?_getD, List.getElem?_eq_getElem (by omega)]
        rfl
      have : foldU (l.take (i + 1)) = stored (foldU (l.take i)) (l.getD i (0, .none)).1 (l.getD i (0, .none)).2 := by
        unfold foldU
        rw [tk, List.foldl_append]
        rfl
      rw [this]
      exact hd2
theorem dict_of_pairsV {E : Value → Shared → Prop} {p : Addr} {its : List Value} {n : Nat} {l : List (Int × Value)} {Q : Value → Shared → Prop} (hh : A.handled = none) (hl : s.heap.get? p = some { cls := .type "list", dict := none, data := .seq its.toArray n, slots := #[] }) (len : its.length = l.length) (h64 : its.length < 1000)
    (hp : ∀ j, j < its.length → PairV s.heap (its.getD j .none) (l.getD j (0, .none)))
    (h : ∀ h' tk, (∀ b o, s.heap.get? b = some o → h'.get? b = some o) → h'.DictOf (intKind prog w) s.heap.objs.size (foldU l) → Q (.ref s.heap.objs.size) { s with heap := h', toks := tk }) :
    wpAny (model prog w) A (call (.type "dict") [.ref p]) Q E s := by
  have hlt : p < s.heap.objs.size := Heap.lt_size hl
  refine callType_codes (Q₁ := fun obj s₁ => obj = .ref s.heap.objs.size ∧ s₁ = { s with heap := s.heap.push { cls := .type "dict", data := .dict #[] } }) F.kt_called_dict (F.kt_typeCall_dict_1 _) F.entry_dict_init (kt_code_dict_new _ ⟨rfl, rfl⟩) ?_
  rintro obj s₁ ⟨rfl, rfl⟩
  have hnew : (s.heap.push { cls := .type "dict", data := .dict #[] }).DictOf (intKind prog w) s.heap.objs.size [] := Heap.DictOf.new s.heap
  have hl1 : (s.heap.push { cls := .type "dict", data := .dict #[] }).get? p = some { cls := .type "list", dict := none, data := .seq its.toArray n, slots := #[] } := Heap.get?_push_of_some _ hl
  refine ⟨hnew.typeIs, F.args_dict_init_2 _ _, ?_⟩
  unfold Builtin.«dict.__init__»
  refine wpAny_bind ?_
  unfold Builtin.Dict.selfAndRest
  refine wpAny_bind (wpAny_notOrdered_dict hnew.typeIs ?_)
  show wpAny _ _ (pure (s.heap.objs.size, [Value.ref p])) _ _ _
  refine wpAny_pure ?_
  show wpAny _ _ (Builtin.Dict.updateFrom "dict.__init__" s.heap.objs.size (.ref p) [] .none) _ _ _
  unfold Builtin.Dict.updateFrom
  refine wpAny_bind (wpAny_typeOf (T := "list") ⟨_, hl1, rfl⟩ ?_)
  rw [if_pos (by decide)]
  refine wpAny_bind (no_keys_list (s := { s with heap := s.heap.push { cls := .type "dict", data := .dict #[] } }) hl1 hh fun h2 tk2 k2 => ?_)
  rw [if_pos (show (none : Option Value).isNone = true from rfl)]
  refine wpAny_bind (wpAny_rule ?_)
  have hl2 := k2 p _ hl1
  have hd2 := dictOf_keep (h' := h2) hnew fun o e => k2 _ o e
  have lt2 : s.heap.objs.size < h2.objs.size := by
    obtain ⟨o, es, ep, e, _⟩ := hd2
    exact Heap.lt_size e
  have hlL : h2.IsList p its.toArray := ⟨_, hl2, rfl, n, rfl⟩
  refine wpAny_bind (wpAny_pyIter_list hlL ?_)
  refine wpAny_pure ⟨plainId_quiet plain_upd_loop _, ?_⟩
  refine upd_loopV (s := s) (A := A.in1) (h₁ := h2) (d := s.heap.objs.size) (it := h2.objs.size) (p := p) (its := its) (l := l) hh (Nat.ne_of_lt lt2) (Nat.ne_of_gt hlt) (Nat.ne_of_gt (Nat.lt_trans hlt lt2)) len h64 (fun h' tk kp hd' => ?_)
    its.length 0 _ tk2 (Nat.sub_zero _) (Nat.zero_le _) ⟨_, Heap.get?_push_size _ rfl, rfl, rfl⟩ (hlL.push _) (fun j hj => (hp j hj).keep fun a o _ e => Heap.get?_push_of_some _ (k2 a o (Heap.get?_push_of_some _ e))) (dictOf_keep hd2 fun o e => Heap.get?_push_of_some _ e) fun b o b1 b2 e => Heap.get?_push_of_some _ e
  refine ⟨rfl, h h' tk (fun b o e => kp b o (Nat.ne_of_lt (Heap.lt_size e)) (Nat.ne_of_lt (Nat.lt_trans (Heap.lt_size e) lt2)) (k2 b o (Heap.get?_push_of_some _ e))) hd'⟩
end
/-- rows (whole number, thing) -/
def RowsV (K : PySem.W.Frag) (H : Hp) : List V → List (Int × V) → Prop := LL fun v s => ∃ t, v = .ref t ∧ H t = some (.tup [.int s.1, s.2])
theorem KU.fold {us : List (Int × Value)} {l : List (Int × V)} (h : KU us l) : ∀ {acc : List (Int × Value)} {acl : List (Int × V)}, KU acc acl → KU (us.foldl (fun acc s => PySem.stored acc s.1 s.2) acc) (l.foldl (fun acc s => storedV acc s.1 s.2) acl) := by
  induction h with
  | nil => exact fun h => h
  | cons r _ ih => exact fun h => ih (h.stored r)
section
variable {X : Cx} {pins : List (Addr × Obj)} {σ : St} {H : Hp} {s : Shared}
theorem rows_pairV (I : Inv X pins σ H s) : ∀ {vs : List V} {l : List (Int × V)} {its : List Value}, RowsV X.K H vs l → Vals vs its → ∃ us : List (Int × Value), KU us l ∧ its.length = us.length ∧ ∀ i, i < its.length → PairV s.heap (its.getD i .none) (us.getD i (0, .none))
  | _, _, _, .nil, .nil => ⟨[], .nil, rfl, fun i hi => absurd hi (Nat.not_lt_zero _)⟩
  | _, _, _, .cons (e := e) h t, .cons r rs => by
    obtain ⟨us, k, len, hp⟩ := rows_pairV I t rs
    obtain ⟨a, rfl, ea⟩ := h
    cases r
    obtain ⟨ts, tv, tp, _⟩ := I.tuple (SqT.of ea)
    cases tv with
    | cons t1 tv =>
      cases tv with
      | @cons _ u2 _ _ t2 tv =>
        cases tv
        obtain ⟨t, rfl⟩ := t1
        obtain ⟨o, eo, oc, n, od⟩ := (show s.heap.IsTuple a _ from tp)
        refine ⟨(e.1, u2) :: us, .cons t2 k, by simp [len], fun i hi => ?_⟩
        cases i with
        | zero => exact ⟨a, o, n, t, rfl, eo, oc, od⟩
        | succ i =>
          have := hp i (by simpa using hi)
          simpa using this
theorem call_dictPV (hc : X.calm = true) : CallR X (.type "dict") (fun xs H Q => ∃ (p : Addr) (vs : List V) (l : List (Int × V)), xs = [.ref p] ∧ H p = some (.lst vs) ∧ RowsV X.K H vs l ∧ l.length < 1000 ∧
    ∀ (d : Addr), H d = none → Q (.ref d) (upd H d (DictV X.prog X.w d (dctV l)))) := by
  intro pins s σ H xs us Q I r h
  obtain ⟨p, vs, l, rfl, hp, hR, hl, q⟩ := h
  obtain ⟨u, rfl, rx⟩ := vals1 r
  cases rx
  obtain ⟨z, its, n, rv, e'⟩ := (show ObjOk X.prog X.w H s.heap p (.lst vs) from I.hok p _ hp)
  obtain ⟨us, ku, len, pr⟩ := rows_pairV I hR rv
  have kl := ku.length
  have big : sysModules < s.heap.objs.size := Nat.lt_trans (by decide) (show mainGlobals < s.heap.objs.size from (I.mod.glob.keeps I.bk).lt)
  have lo : (s.heap.objs.size == sysModules) = false := beq_eq_false_iff_ne.mpr (Ne.symm (Nat.ne_of_lt big))
  refine dict_of_pairsV (I.ok.hd hc) e' len (by omega) pr fun h' tk kp hd => ?_
  exact ⟨.ref s.heap.objs.size, _, I.laid (o := DictV X.prog X.w s.heap.objs.size (dctV l)) kp (Nat.le_refl _) (dictV_ok lo hd (ku.fold .nil)), rfl, q _ (I.hok.fresh (Nat.le_refl _))⟩
end
section
variable {X : Cx} {o e f : Expr} {apos cpos : Pos} {td ty tx : TE}
end
section
variable {X : Cx} {e k : Expr} {te : TE} {p2 pos : Pos} {lo hi : Option Expr} {tl th : TO}
end
end L2
namespace L2
open PySem PySem.Spec PyProof.Rows
section
variable {X : Cx} {pins : List (Addr × Obj)} {σ : St} {H : Hp} {s : Shared} {o i e f value : Expr} {pos pos' apos cpos : Pos} {td ty tx tv : TE}
end
section
variable {X : Cx}
end
end L2
namespace L2
open PySem PySem.Spec PyProof.Rows
section
variable {X : Cx} {pins : List (Addr × Obj)} {σ : St} {H : Hp} {s : Shared} {sc : Scope} {x y0 y1 : Str} {ix : List Nat} {fp : List Addr}
end
section
variable {X : Cx} {pins : List (Addr × Obj)} {σ : St} {H : Hp} {s : Shared} {sc : Scope} {x y0 y1 : Str} {ix : List Nat} {fp : List Addr} {elt iter c : Expr} {te : TE} {tt : TT} {wi : TI} {px py0 py1 pt0 pos : Pos} {kt0 : Nat}
end
end L2
namespace L2
open PySem PySem.Spec PyProof.Rows
/-! ### a, b, c = a list of that length -/
section
variable {prog : Program} {w : World} {A : Around} {E : Value → Shared → Prop} {s : Shared}
end
end L2
/-! sums by keys; no Python -/
namespace Sby
open L2
abbrev Pl := List (Int × Int)
def sm (l : Pl) (k : Int) : Int := ((l.filter fun p => p.1 = k).map (·.2)).sum
theorem up_of {ns : List Int} (nd : ns.Nodup) (up : ns.Pairwise (· ≤ ·)) : ns.Pairwise (· < ·) := by
  induction ns with
  | nil => exact .nil
  | cons n ns ih =>
    obtain ⟨n1, n2⟩ := List.pairwise_cons.mp nd
    obtain ⟨u1, u2⟩ := List.pairwise_cons.mp up
    refine List.pairwise_cons.mpr ⟨fun a ha => ?_, ih n2 u2⟩
    have := u1 a ha
    have := n1 a ha
    omega
end Sby
/-! entries and rows by what they are; no Python -/
namespace L2
open PySem
abbrev Er := Ek × Int × Int
def isW (w : Str) (e : Er) : Bool := decide (V.str e.1.word = V.str w)
def prs (w : Str) (es : List Er) : List (Int × Int) := (es.filter (isW w)).map (·.2)
def dys (w : Str) (es : List Er) : List Int := (es.filter (isW w)).map (·.2.1)
end L2
namespace L2
open PySem
end L2
namespace L2
open PySem
end L2
namespace L2
open PySem
end L2
namespace L2
open PySem
end L2
namespace L2
open PySem
theorem LL.of {α : Type} {R : V → α → Prop} : ∀ {vs : List V} {es : List α}, vs.length = es.length → (∀ (j : Nat) v, vs[j]? = some v → ∃ e, es[j]? = some e ∧ R v e) → LL R vs es
  | [], [], _, _ => .nil
  | [], _ :: _, h, _ => by simp at h
  | _ :: _, [], h, _ => by simp at h
  | v :: vs, e :: es, h, p => by
    obtain ⟨e', he, hr⟩ := p 0 v rfl
    cases he
    exact .cons hr (LL.of (by simpa using h) fun j w hw => p (j + 1) w hw)
end L2
/-! Spans of days: what joined lists are, and how the least one is told by the days on which a span begins or ends. No Python here. -/
namespace Spans
abbrev Sp := List (Int × Int)
structure Joined (l : Sp) : Prop where
  up : ∀ s ∈ l, s.1 < s.2
  apart : l.Pairwise fun s t => s.2 < t.1
/-! ### the least list, by the days on which a span begins or ends -/
def isIn (l : Sp) (d : Int) : Bool := l.any fun s => decide (s.1 ≤ d) && decide (d < s.2)
/-- one edge: what was found so far, and the day from which on all is covered -/
def step (l : Sp) (st : Sp × Int) (e : Int) : Sp × Int :=
  let f := if isIn l e && !isIn l (e - 1) then e else st.2
  (if isIn l e then st.1 else st.1 ++ [(f, e)], f)
def least (l : Sp) (es : List Int) : Sp := (es.foldl (step l) ([], 0)).1
end Spans
/-! Sums over days, and the value that holds on a day. No Python here. -/
namespace Sums
/-- f over the days from a on that are below b -/
def S (f : Int → Int) (a : Int) : Nat → Int
  | 0 => 0
  | n + 1 => S f a n + f (a + n)
def sum (f : Int → Int) (a b : Int) : Int := S f a (b - a).toNat
theorem sum_le {f : Int → Int} {a b : Int} (h : b ≤ a) : sum f a b = 0 := by
  unfold sum
  rw [show (b - a).toNat = 0 by omega]
  rfl
theorem S_append (f : Int → Int) (a : Int) (n : Nat) : ∀ m, S f a (n + m) = S f a n + S f (a + n) m
  | 0 => by simp [S]
  | m + 1 => by
    show S f a (n + m) + f (a + ((n + m : Nat) : Int)) = S f a n + (S f (a + n) m + f (a + n + m))
    rw [S_append f a n m, show a + ((n + m : Nat) : Int) = a + n + m by omega]
    omega
theorem sum_add {f : Int → Int} {a b c : Int} (h1 : a ≤ c) (h2 : c ≤ b) : sum f a b = sum f a c + sum f c b := by
  unfold sum
  rw [show (b - a).toNat = (c - a).toNat + (b - c).toNat by omega, S_append, show a + ((c - a).toNat : Int) = c by omega]
/-! ### tables -/
abbrev Tab := List (Int × Int)
/-- v is the value of the last row of the latest day that is not behind d; 0 where there is none -/
def Val (t : Tab) (d v : Int) : Prop := (v = 0 ∧ ∀ r ∈ t, d < r.1) ∨ ∃ i : Nat, ∃ b : Int, t[i]? = some (b, v) ∧ b ≤ d ∧ ∀ (j : Nat) (r : Int × Int), t[j]? = some r → r.1 ≤ d → r.1 < b ∨ (r.1 = b ∧ j ≤ i)
/-- one row, as a walk over all rows sees it -/
def vstep (d : Int) (st : Int × Int) (r : Int × Int) : Int × Int := if st.1 ≤ r.1 ∧ r.1 ≤ d then r else st
def valOf (t : Tab) (d : Int) : Int := (t.foldl (vstep d) (-1, 0)).2
theorem valOf_ok {t : Tab} (h0 : ∀ r ∈ t, 0 ≤ r.1) (d : Int) : Val t d (valOf t d) := by
  suffices q : ∀ (pre rest : Tab) (st : Int × Int), pre ++ rest = t → ((st = (-1, 0) ∧ ∀ r ∈ pre, d < r.1) ∨ ∃ i : Nat, pre[i]? = some st ∧ st.1 ≤ d ∧ ∀ (j : Nat) (r : Int × Int), pre[j]? = some r → r.1 ≤ d → r.1 < st.1 ∨ (r.1 = st.1 ∧ j ≤ i)) →
      Val t d (rest.foldl (vstep d) st).2 from q [] t (-1, 0) rfl (.inl ⟨rfl, fun r hr => by cases hr⟩)
  intro pre rest
  induction rest generalizing pre with
  | nil =>
    intro st e h
    rw [List.append_nil] at e
    subst e
    rcases h with ⟨rfl, h⟩ | ⟨i, e, le, h⟩
    · exact .inl ⟨rfl, h⟩
    · exact .inr ⟨i, st.1, e, le, h⟩
  | cons r rest ih =>
    intro st e h
    have hr : 0 ≤ r.1 := h0 r (by rw [← e]; simp)
    refine ih (pre ++ [r]) (vstep d st r) (by rw [List.append_assoc]; exact e) ?_
    have last : ∀ (j : Nat) (x : Int × Int), (pre ++ [r])[j]? = some x → pre[j]? = some x ∨ (j = pre.length ∧ x = r) := fun j x hx => by
      by_cases hj : j < pre.length
      · rw [List.getElem?_append_left hj] at hx
        exact .inl hx
      · by_cases hj2 : j = pre.length
        · subst hj2
          rw [List.getElem?_append_right (Nat.le_refl _), Nat.sub_self] at hx
          exact .inr ⟨rfl, (by cases hx; rfl)⟩
        · rw [List.getElem?_eq_none (by rw [List.length_append, List.length_singleton]; omega)] at hx
          cases hx
    unfold vstep
    by_cases c : st.1 ≤ r.1 ∧ r.1 ≤ d
    · rw [if_pos c]
      refine .inr ⟨pre.length, by rw [List.getElem?_append_right (Nat.le_refl _), Nat.sub_self]; rfl, c.2, fun j x hx hd => ?_⟩
      rcases last j x hx with hx | ⟨rfl, rfl⟩
      · have hj : j < pre.length := (List.getElem?_eq_some_iff.mp hx).1
        rcases h with ⟨_, h⟩ | ⟨i, _, _, h⟩
        · have := h x (List.mem_of_getElem? hx)
          omega
        · rcases h j x hx hd with z | z
          · exact .inl (by omega)
          · by_cases w : x.1 = r.1
            · exact .inr ⟨w, by omega⟩
            · exact .inl (by omega)
      · exact .inr ⟨rfl, Nat.le_refl _⟩
    · rw [if_neg c]
      rcases h with ⟨rfl, h⟩ | ⟨i, ei, le, h⟩
      · refine .inl ⟨rfl, fun x hx => ?_⟩
        rcases List.mem_append.mp hx with hx | hx
        · exact h x hx
        · have : x = r := by simpa using hx
          rw [this]
          exact Int.not_le.mp fun q => c ⟨by show (-1 : Int) ≤ r.1; omega, q⟩
      · refine .inr ⟨i, ?_, le, fun j x hx hd => ?_⟩
        · rw [List.getElem?_append_left (List.getElem?_eq_some_iff.mp ei).1]; exact ei
        · rcases last j x hx with hx | ⟨rfl, rfl⟩
          · exact h j x hx hd
          · exact .inl (Int.not_le.mp fun q => c ⟨q, hd⟩)
end Sums
/-! Days that stand still, told by joined spans and by the spans as they were drawn; values between breaks. No Python here. -/
namespace Stills
open Spans Sums
def part (a b : Int) (s : Int × Int) : Int := if (if b < s.2 then b else s.2) - (if a > s.1 then a else s.1) > 0 then (if b < s.2 then b else s.2) - (if a > s.1 then a else s.1) else 0
end Stills
namespace Stills
open Spans Sums
end Stills
namespace Stills
open Spans Sums
end Stills
namespace Stills
open Spans Sums
end Stills
namespace Stills
open Spans Sums
end Stills
namespace Stills
open Spans Sums
end Stills
namespace Stills
end Stills
namespace Stills
open Spans Sums
end Stills
namespace Stills
open Spans Sums
end Stills
namespace Stills
end Stills
namespace Stills
open Spans Sums
end Stills
/-! the dict of a list of pairs, and its table -/
namespace Dct
open L2
end Dct
/-! a book: the fields of its instance, and what the arrears reckon of rows -/
namespace L2
open PySem
def upto (l : List (Int × Int)) (d : Int) : Int := ((l.filter fun s => decide (s.1 ≤ d)).map (·.2)).sum
/-- what a book tells -/
structure BkT where
  (kd : Kd) (g : Int) (es : List Er) (outs fees pays : List (Int × Int)) (turns : List Int) (rates lates spans dues : List (Int × Int))
theorem tyC {K : PySem.W.Frag} {H : Hp} {a : Addr} {kd : Kd} (cl : Cls K (cA K kd.cls)) (I : InsK K (cA K kd.cls)) (h : IsCnt K H a kd) : TyOf K H (.ref a) (.ref (cA K kd.cls)) := by
  obtain ⟨dx, e⟩ := h
  exact .ins e cl I.ha I.hn I.htk I.hm
theorem comp_map {α : Type} {J : It} {ix : List Nat} {te : TE} {σ : St} {l : Addr} {xs : List V} {H : Hp} {R : Hp → Prop} (Y : WalkOf J H xs) (hl : H l = none) (hz : xs.length ≤ sizeLine) (es : List α) (len : es.length = xs.length)
    (P : Hp → V → α → Prop) (mono : ∀ v e H1 H2, Same H1 H2 → P H1 v e → P H2 v e) (put : ∀ v e H1 ys zs, H1 l = some (.lst ys) → P H1 v e → P (upd H1 l (.lst zs)) v e)
    (he : ∀ (i : Nat) x e H' Q', xs[i]? = some x → es[i]? = some e → Same H H' → (∀ v H2, Same H' H2 → P H2 v e → Q' v H2) → te (some x :: capts σ ix) H' Q')
    (fin : ∀ ys H', Same H H' → H' l = some (.lst ys) → LL (P H') ys es → R H') :
    ∃ W : Nat → Nat → List V → Hp → Prop, (∃ m, W 0 m [] (upd H l (.lst []))) ∧ Turns ix te σ J l R W := by
  refine comp_any Y hl hz (fun i v H' => ∃ e, es[i]? = some e ∧ P H' v e) (fun i v H1 H2 s ⟨e, e1, e2⟩ => ⟨e, e1, mono v e _ _ s e2⟩) (fun i v H1 ys zs hL ⟨e, e1, e2⟩ => ⟨e, e1, put v e _ _ _ hL e2⟩) ?_ ?_
  · intro i x H' Q' hx sH hq
    have il : i < es.length := by rw [len]; exact (List.getElem?_eq_some_iff.mp hx).1
    have eP : es[i]? = some (es[i]'il) := List.getElem?_eq_getElem il
    exact he i x _ H' Q' hx eP sH fun v H2 s2 pv => hq v H2 s2 ⟨_, eP, pv⟩
  · intro ys H' sH eL yl hp
    exact fin ys H' sH eL (LL.of (by omega) hp)
end L2
/-! open dues, and rows of three numbers -/
namespace L2
open PySem
abbrev T3 := Int × Int × Int
/-! what is open -/
def mn (a b : Int) : Int := if b < a then b else a
def opOne (day paid t : Int) (s : Int × Int) : List T3 := if s.1 ≤ day ∧ mn s.2 (t + s.2 - paid) > 0 then [(s.1, s.2, mn s.2 (t + s.2 - paid))] else []
def opn (day paid : Int) : Int → List (Int × Int) → List T3
  | _, [] => []
  | t, s :: l => opOne day paid t s ++ opn day paid (t + s.2) l
def p0 (a : Int) : Int := if a > 0 then a else 0
end L2
/-! when a due is met -/
namespace L2
open PySem
/-! running sums -/
def runs : Int → List (Int × Int) → List (Int × Int)
  | _, [] => []
  | t, s :: l => (s.1, t + s.2) :: runs (t + s.2) l
end L2
namespace L2
open PySem PySem.Spec PyProof.Rows
open AutoSeq1 (wpAny_loadPart')
end L2
/-! what a book charges, day by day -/
namespace L2
open PySem
def csum (U f : Int → Int) (a b : Int) : Int := Sums.sum (fun d => (U (d + 1) - U d) * f d) a b
theorem csum_add {U f : Int → Int} {a b c : Int} (h1 : a ≤ c) (h2 : c ≤ b) : csum U f a b = csum U f a c + csum U f c b := Sums.sum_add h1 h2
theorem csum_le {U f : Int → Int} {a b : Int} (h : b ≤ a) : csum U f a b = 0 := Sums.sum_le h
def rtOf (b : BkT) (d : Int) : Int := if Spans.isIn b.spans d then 0 else Sums.valOf b.rates d
def ltOf (b : BkT) (d : Int) : Int := if Spans.isIn b.spans d then 0 else Sums.valOf b.lates d
def lkOf (b : BkT) (d : Int) : Int := if Spans.isIn b.spans d then 0 else p0 (upto b.dues (d - b.g) - upto b.pays d)
def dayC (b : BkT) (P d : Int) : Int := rtOf b d * P + ltOf b d * mn P (lkOf b d)
structure BOk (b : BkT) : Prop where
  ru : b.rates.Pairwise fun s t => s.1 < t.1
  rn : ∀ s ∈ b.rates, 0 ≤ s.1 ∧ 0 ≤ s.2 ∧ s.2 ≤ 1000000
  lu : b.lates.Pairwise fun s t => s.1 < t.1
  ln : ∀ s ∈ b.lates, 0 ≤ s.1 ∧ 0 ≤ s.2 ∧ s.2 ≤ 1000000
  pu : (b.pays.map (·.1)).Pairwise (· < ·)
  pn : ∀ s ∈ b.pays, 0 ≤ s.1
  du : (b.dues.map (·.1)).Pairwise (· < ·)
  dn : ∀ s ∈ b.dues, 0 ≤ s.1
  jn : Spans.Joined b.spans
  sn : ∀ s ∈ b.spans, 0 ≤ s.1
  g0 : 0 ≤ b.g
  sz : b.rates.length + b.lates.length + b.pays.length + b.dues.length + 2 * b.spans.length < 63
theorem val_in {t : List (Int × Int)} (h : ∀ s ∈ t, 0 ≤ s.1 ∧ 0 ≤ s.2 ∧ s.2 ≤ 1000000) (d : Int) : 0 ≤ Sums.valOf t d ∧ Sums.valOf t d ≤ 1000000 := by
  rcases Sums.valOf_ok (fun s hs => (h s hs).1) d with ⟨e, _⟩ | ⟨i, x, e, _⟩
  · rw [e]; exact ⟨Int.le_refl _, by decide⟩
  · exact (h _ (List.mem_of_getElem? e)).2
theorem BOk.rt {b : BkT} (O : BOk b) (d : Int) : 0 ≤ rtOf b d ∧ rtOf b d ≤ 1000000 := by
  unfold rtOf
  split
  · exact ⟨Int.le_refl _, by decide⟩
  · exact val_in O.rn d
theorem BOk.lt {b : BkT} (O : BOk b) (d : Int) : 0 ≤ ltOf b d ∧ ltOf b d ≤ 1000000 := by
  unfold ltOf
  split
  · exact ⟨Int.le_refl _, by decide⟩
  · exact val_in O.ln d
end L2
/-! day by day -/
namespace L2
open PySem
end L2
/-! the account of a book, day by day -/
namespace L2
open PySem
/-- what is lent, charged, turned and paid on a day -/
abbrev Q4 := Int × Int × Int × Int
def ddE (es : List Er) (d : Int) : Q4 := (Sby.sm (prs "out" es) d, Sby.sm (prs "fee" es) d, if d ∈ dys "turn" es then 1 else 0, Sby.sm (prs "pay" es) d)
def ddo (b : BkT) (d : Int) : Q4 := ddE b.es d
def doD (u : Int) (q : Q4) (s : Int × Int) : Int × Int :=
  let s1 := Dbt.step u .lend q.1 s.1 s.2
  let s2 := Dbt.step u .fee q.2.1 s1.1 s1.2
  let s3 := if q.2.2.1 = 1 then Dbt.step u .turn 0 s2.1 s2.2 else s2
  Dbt.step u .take q.2.2.2 s3.1 s3.2
theorem doD_good {u : Int} {q : Q4} {s : Int × Int} (hu : 0 < u) (l0 : 0 ≤ q.1) (g : Dbt.Good u s.1 s.2) : Dbt.Good u (doD u q s).1 (doD u q s).2 := by
  unfold doD
  have g1 := Dbt.good_step (w := .lend) hu (show Dbt.Okd .lend q.1 from l0) g
  have g2 := Dbt.good_step (w := .fee) (x := q.2.1) hu True.intro g1
  dsimp only
  split
  · exact Dbt.good_step (w := .take) hu True.intro (Dbt.good_step (w := .turn) (x := 0) hu True.intro g2)
  · exact Dbt.good_step (w := .take) hu True.intro g2
theorem clamp {u m n : Int} (g : Dbt.Good u m n) : Dbt.mn m (Dbt.mx 0 (n / u)) = m := by
  have h := g.2
  unfold Dbt.mn
  rw [if_neg (by omega)]
theorem doD_zero {u : Int} {s : Int × Int} (g : Dbt.Good u s.1 s.2) : doD u (0, 0, 0, 0) s = s := by
  obtain ⟨m, n⟩ := s
  have c : Dbt.mn m (Dbt.mx 0 (n / u)) = m := clamp g
  simp [doD, Dbt.step, c]
section
variable (U : Int → Int) (u : Int) (b : BkT)
/-- ahead of a day's deeds -/
def stB : Nat → Int × Int
  | 0 => (0, 0)
  | k + 1 => let s := doD u (ddo b k) (stB k); (s.1, s.2 + (U (k + 1) - U k) * dayC b s.1 k)
/-- behind them -/
def stA (k : Nat) : Int × Int := doD u (ddo b k) (stB U u b k)
def noDo (d : Int) : Prop := ddo b d = (0, 0, 0, 0)
end
/-- what a book must be for its account -/
structure AOk (U : Int → Int) (u : Int) (b : BkT) : Prop where
  hu : 0 < u
  out0 : ∀ d, 0 ≤ Sby.sm (prs "out" b.es) d
  up : ∀ d : Nat, U d ≤ U (d + 1)
  ok : BOk b
section
variable {U : Int → Int} {u : Int} {b : BkT}
theorem lk0 (d : Int) : 0 ≤ lkOf b d := by
  unfold lkOf p0
  split
  · exact Int.le_refl _
  · split <;> omega
theorem dayC0 (O : BOk b) {P : Int} (p : 0 ≤ P) (d : Int) : 0 ≤ dayC b P d := by
  unfold dayC
  have h1 := O.rt d
  have h2 := O.lt d
  have h3 := lk0 (b := b) d
  have h4 : 0 ≤ mn P (lkOf b d) := by unfold mn; split <;> omega
  have := Int.mul_nonneg h1.1 p
  have := Int.mul_nonneg h2.1 h4
  omega
theorem good_stB (A : AOk U u b) : ∀ k, Dbt.Good u (stB U u b k).1 (stB U u b k).2
  | 0 => Dbt.good0 u
  | k + 1 => by
    have g := doD_good (q := ddo b k) A.hu (A.out0 k) (good_stB A k)
    have w : 0 ≤ (U (k + 1) - U k) * dayC b (doD u (ddo b k) (stB U u b k)).1 k := Int.mul_nonneg (by have := A.up k; omega) (dayC0 A.ok g.1 k)
    exact Dbt.good_step (w := .grow) A.hu (show Dbt.Okd .grow _ from w) g
theorem stA_none (A : AOk U u b) {k : Nat} (h : noDo b k) : stA U u b k = stB U u b k := by
  unfold stA
  rw [h]
  exact doD_zero (good_stB A k)
theorem stB_succ (k : Nat) : stB U u b (k + 1) = ((stA U u b k).1, (stA U u b k).2 + (U (k + 1) - U k) * dayC b (stA U u b k).1 k) := rfl
theorem csum_one (f : Int → Int) (a : Int) : csum U f a (a + 1) = (U (a + 1) - U a) * f a := by
  unfold csum Sums.sum
  rw [show (a + 1 - a).toNat = 1 by omega]
  simp [Sums.S]
/-- days without deeds -/
theorem run (A : AOk U u b) (s : Nat) : ∀ n : Nat, (∀ k : Nat, s ≤ k → k < s + n → noDo b k) → stB U u b (s + n) = ((stB U u b s).1, (stB U u b s).2 + csum U (dayC b (stB U u b s).1) s (s + n : Nat))
  | 0, _ => by rw [csum_le (by omega)]; simp
  | n + 1, h => by
    have ih := run A s n fun k h1 h2 => h k h1 (by omega)
    rw [show s + (n + 1) = (s + n) + 1 from rfl, stB_succ, stA_none A (h (s + n) (by omega) (by omega)), ih]
    have e2 : csum U (dayC b (stB U u b s).1) s (((s + n) + 1 : Nat) : Int) = csum U (dayC b (stB U u b s).1) s ((s + n : Nat) : Int) + (U (((s + n : Nat) : Int) + 1) - U ((s + n : Nat) : Int)) * dayC b (stB U u b s).1 ((s + n : Nat) : Int) := by
      rw [show (((s + n) + 1 : Nat) : Int) = ((s + n : Nat) : Int) + 1 by omega, csum_add (a := (s : Int)) (b := ((s + n : Nat) : Int) + 1) (c := ((s + n : Nat) : Int)) (by omega) (by omega), csum_one]
    rw [e2]
    exact Prod.ext rfl (Int.add_assoc ..)
theorem first (A : AOk U u b) {e : Int} (e0 : 0 ≤ e) (h : ∀ d, 0 ≤ d → d < e → noDo b d) : stB U u b e.toNat = (0, 0 + csum U (dayC b 0) 0 e) := by
  have r := run A 0 e.toNat fun k _ h2 => h k (by omega) (by omega)
  rw [show ((0 + e.toNat : Nat) : Int) = e by omega, Nat.zero_add] at r
  exact r
end
/-- a dict of new keys -/
theorem storedV_new {l : List (Int × V)} {k : Int} {y : V} (h : k ∉ l.map (·.1)) : storedV l k y = l ++ [(k, y)] := by
  unfold storedV
  rw [if_neg]
  intro z
  obtain ⟨p, hp, e⟩ := List.any_eq_true.mp z
  exact h (List.mem_map.mpr ⟨p, hp, by simpa using e⟩)
theorem dctV_nd : ∀ (l acc : List (Int × V)), ((acc ++ l).map (·.1)).Nodup → l.foldl (fun acc s => storedV acc s.1 s.2) acc = acc ++ l
  | [], acc, _ => by simp
  | s :: l, acc, h => by
    rw [List.foldl_cons, storedV_new]
    · rw [dctV_nd l (acc ++ [(s.1, s.2)]) (by simpa using h)]
      simp
    · intro z
      rw [List.map_append, List.nodup_append] at h
      exact h.2.2 s.1 z s.1 (by simp) rfl
theorem dctV_self {l : List (Int × V)} (h : (l.map (·.1)).Nodup) : dctV l = l := by
  have := dctV_nd l [] (by simpa using h)
  simpa [dctV] using this
theorem inV_int (d : Int) : ∀ ns : List Int, inV (.int d) (ns.map V.int) = decide (d ∈ ns)
  | [] => rfl
  | n :: ns => by
    have e1 : inV (.int d) ((n :: ns).map V.int) = (eqV (.int n) (.int d) || inV (.int d) (ns.map V.int)) := rfl
    have e2 : eqV (.int n) (.int d) = decide (n = d) := by first | rfl | simp [eqV]
    rw [e1, e2, inV_int d ns]
    by_cases c : n = d
    · subst c; simp
    · have c' : ¬ d = n := fun z => c z.symm
      simp [c, c']
theorem all_flat (ns : List Int) : (ns.map V.int).all flatV = true := List.all_eq_true.mpr fun v hv => by
  obtain ⟨n, _, rfl⟩ := List.mem_map.mp hv
  rfl
end L2
/-! statements: rows of seven -/
namespace L2
open PySem PySem.Spec PyProof.Rows
/-- list(d) of a dict of things: its keys -/
theorem KU.key {r : List (Int × Value)} {l : List (Int × V)} (h : KU r l) : ∀ {i : Nat} {k : Int} {v : Value}, r[i]? = some (k, v) → ∃ s, l[i]? = some s ∧ s.1 = k := by
  induction h with
  | nil => intro i k v e; simp at e
  | cons _ _ ih =>
    intro i k v e
    cases i with
    | zero => cases e; exact ⟨_, rfl, rfl⟩
    | succ i => exact ih e
theorem keys_ofV {P : Program} {w : World} {kvs : List (Int × Value)} {l : List (Int × V)} {vs : List Value} (hk : KU kvs l) (len : vs.length = l.length) (h : ∀ (j : Nat) (v : Value), vs[j]? = some v → ∃ k x, kvs[j]? = some (k, x) ∧ (intKind P w).is k v = true) : IntsAre vs (l.map (·.1)) := by
  have e1 : IntsAre vs (vs.map SetL.intOf) := SetL.ints_of fun v hv => by
    obtain ⟨j, hj⟩ := List.mem_iff_getElem?.mp hv
    obtain ⟨k, x, _, e2⟩ := h j v hj
    obtain ⟨t, rfl⟩ := Value.isInt_shape (show Value.isInt k v = true from e2)
    exact ⟨k, t, rfl⟩
  have e2 : vs.map SetL.intOf = l.map (·.1) := by
    apply List.ext_getElem?
    intro j
    rw [List.getElem?_map, List.getElem?_map]
    cases e : vs[j]? with
    | none =>
      have : l[j]? = none := List.getElem?_eq_none (by have := List.getElem?_eq_none_iff.mp e; omega)
      rw [this]; rfl
    | some v =>
      obtain ⟨k, x, e3, e4⟩ := h j v e
      obtain ⟨s, e5, e6⟩ := hk.key e3
      obtain ⟨t, rfl⟩ := Value.isInt_shape (show Value.isInt k v = true from e4)
      rw [e5]
      show some k = some s.1
      rw [e6]
  rw [← e2]
  exact e1
theorem call_listDV {X : Cx} (hc : X.calm = true) (hex : X.ex = [] := by rfl) : CallR X (.type "list") (fun xs H Q => ∃ (d : Addr) (l : List (Int × V)), xs = [.ref d] ∧ H d = some (DictV X.prog X.w d l) ∧ l.length ≤ 1000 ∧
    ∀ (q : Addr), H q = none → Q (.ref q) (upd H q (.lst ((l.map (·.1)).map V.int)))) := by
  intro pins s σ H xs us Q I r h
  obtain ⟨d, l, rfl, hd, hl, q⟩ := h
  obtain ⟨u, rfl, rx⟩ := vals1 r
  cases rx
  obtain ⟨lo, kvs, hO, hk⟩ := (I.hok d _ hd).1
  obtain ⟨ep, hD⟩ := hO.dictAt
  have kl := hk.length
  refine PySem.W.kdl_call (PySem.W.kdl_dict (knd := intKind X.prog X.w) (kvs := kvs) (ep := ep) lo) (I.ok.hd hc) hD (by rw [sizeLine_eq]; omega) fun h1 tk acc c kp at_ hacc => ?_
  have al : acc.toList.length = l.length := by rw [Array.length_toList, hacc.1, kl]
  have vi : IntsAre acc.toList (l.map (·.1)) := keys_ofV hk al fun j v e => hacc.2 j v (by rw [← Array.getElem?_toList]; exact e)
  have v2 : Vals ((l.map (·.1)).map V.int) acc.toList := vals_ints vi
  have new : s.heap.get? s.heap.objs.size = none := Heap.get?_none_of_le (Nat.le_refl _)
  have nl : ((l.map (·.1)).map V.int).length ≤ sizeLine := by rw [List.length_map, List.length_map, sizeLine_eq]; omega
  exact ⟨.ref s.heap.objs.size, _, I.trackNew (o := .lst ((l.map (·.1)).map V.int)) kp new hex ⟨nl, acc.toList, c, v2, by simpa [seqObj] using at_⟩, rfl, q _ (I.hok.gone new)⟩
theorem lkV_mem {l : List (Int × V)} {k : Int} : (lkV l k).isSome = true ↔ k ∈ l.map (·.1) := by
  unfold lkV
  constructor
  · intro h
    cases e : l.find? (fun p => p.1 = k) with
    | none => rw [e] at h; cases h
    | some p => exact List.mem_map.mpr ⟨p, List.mem_of_find?_eq_some e, by simpa using List.find?_some e⟩
  · intro h
    obtain ⟨p, hp, e⟩ := List.mem_map.mp h
    cases e2 : l.find? (fun p => p.1 = k) with
    | none => exact absurd (by simpa using e) (List.find?_eq_none.mp e2 p hp)
    | some _ => rfl
end L2
/-! ### sets of whole numbers: laid anew, put together -/
namespace L2
open PySem PySem.Spec PyProof.Rows
namespace SetL
def orb (M : Nat) : Nat → Nat → Nat
  | 0, x => x
  | n + 1, x => orb M n ((x * 5 + 1) % M)
theorem orb_add (M : Nat) : ∀ m n x, orb M (m + n) x = orb M n (orb M m x)
  | 0, n, x => by rw [Nat.zero_add]; rfl
  | m + 1, n, x => by rw [Nat.add_right_comm]; exact orb_add M m n _
/-- the sizes of tables that come up here -/
def Sz (M : Nat) : Prop := M = 8 ∨ M = 16 ∨ M = 32 ∨ M = 64 ∨ M = 128
theorem orb_all {M : Nat} (h : Sz M) : (∀ e, e < M → ∃ m, m < M ∧ orb M m 0 = e) ∧ orb M M 0 = 0 := by
  have k : ∀ M : Nat, ((List.range M).all fun e => (List.range M).any fun m => orb M m 0 == e) = true → ∀ e, e < M → ∃ m, m < M ∧ orb M m 0 = e := fun M q e he => by
    have := List.all_eq_true.mp q e (List.mem_range.mpr he)
    obtain ⟨m, hm, z⟩ := List.any_eq_true.mp this
    exact ⟨m, List.mem_range.mp hm, by simpa using z⟩
  rcases h with rfl | rfl | rfl | rfl | rfl
  · exact ⟨k 8 (by decide +kernel), by decide +kernel⟩
  · exact ⟨k 16 (by decide +kernel), by decide +kernel⟩
  · exact ⟨k 32 (by decide +kernel), by decide +kernel⟩
  · exact ⟨k 64 (by decide +kernel), by decide +kernel⟩
  · exact ⟨k 128 (by decide +kernel), by decide +kernel⟩
theorem orb_to {M : Nat} (h : Sz M) {x e : Nat} (hx : x < M) (he : e < M) : ∃ m, m < M ∧ orb M m x = e := by
  obtain ⟨A, B⟩ := orb_all h
  obtain ⟨m1, h1, e1⟩ := A x hx
  obtain ⟨m2, h2, e2⟩ := A e he
  by_cases c : m1 ≤ m2
  · refine ⟨m2 - m1, by omega, ?_⟩
    rw [← e1, ← orb_add, show m1 + (m2 - m1) = m2 by omega]
    exact e2
  · refine ⟨M - m1 + m2, by omega, ?_⟩
    rw [← e1, ← orb_add, show m1 + (M - m1 + m2) = M + m2 by omega, orb_add, B]
    exact e2
/-- leaps, one behind the other -/
def itl (mask : Nat) : Nat → Nat → Nat → Nat × Nat
  | 0, i, p => (i, p)
  | m + 1, i, p => itl mask m (SetTable.leap mask i p).1 (SetTable.leap mask i p).2
theorem itl_add (mask : Nat) : ∀ m n i p, itl mask (m + n) i p = itl mask n (itl mask m i p).1 (itl mask m i p).2
  | 0, n, i, p => by rw [Nat.zero_add]; rfl
  | m + 1, n, i, p => by rw [Nat.add_right_comm]; exact itl_add mask m n _ _
theorem itl_zero (mask : Nat) : ∀ m i, itl mask m i 0 = (orb (mask + 1) m i, 0)
  | 0, i => rfl
  | m + 1, i => by
    have := itl_zero mask m ((i * 5 + 1) % (mask + 1))
    show itl mask m (SetTable.leap mask i 0).1 (SetTable.leap mask i 0).2 = _
    have e : SetTable.leap mask i 0 = ((i * 5 + 1) % (mask + 1), 0) := by simp [SetTable.leap]
    rw [e]
    exact this
theorem itl_shift (mask : Nat) : ∀ m i p, (itl mask m i p).2 = p / 32 ^ m ∧ (i ≤ mask → (itl mask m i p).1 ≤ mask)
  | 0, i, p => ⟨by show p = _; simp, fun h => h⟩
  | m + 1, i, p => by
    obtain ⟨a, b⟩ := itl_shift mask m (SetTable.leap mask i p).1 (SetTable.leap mask i p).2
    refine ⟨?_, fun _ => b ?_⟩
    · show (itl mask m (SetTable.leap mask i p).1 (SetTable.leap mask i p).2).2 = _
      rw [a]
      show p / 32 / 32 ^ m = _
      rw [Nat.div_div_eq_div_mul, Nat.pow_succ, Nat.mul_comm]
    · exact Nat.le_of_lt_succ (Nat.mod_lt _ (Nat.succ_pos _))
theorem free_hit {mask : Nat} {owner : Array (Option Nat)} {e : Nat} (he : owner.getD e (some 0) = none) : ∀ (m fuel i p : Nat), m < fuel → (itl mask m i p).1 = e → ∃ j, SetTable.layClean.free mask owner fuel i p = some j ∧ owner.getD j (some 0) = none
  | m, 0, i, p, hm, _ => absurd hm (Nat.not_lt_zero _)
  | m, fuel + 1, i, p, hm, hi => by
    unfold SetTable.layClean.free
    cases q : (List.range (SetTable.runEnd mask i + 1 - i)).find? fun k => (owner.getD (i + k) (some 0)).isNone with
    | some k =>
      have := List.find?_some q
      exact ⟨i + k, rfl, by simpa using this⟩
    | none =>
      dsimp only
      cases m with
      | zero =>
        exfalso
        have ie : i = e := hi
        have := List.find?_eq_none.mp q 0 (List.mem_range.mpr (by unfold SetTable.runEnd; split <;> omega))
        rw [Nat.add_zero, ie, he] at this
        exact this rfl
      | succ m => exact free_hit he m fuel _ _ (by omega) hi
theorem free_some {M : Nat} (h : Sz M) {owner : Array (Option Nat)} {e i p : Nat} (he : owner.getD e (some 0) = none) (el : e < M) (hi : i < M) (hp : p < 2 ^ 64) : ∃ j, SetTable.layClean.free (M - 1) owner (SetTable.turns (M - 1)) i p = some j ∧ owner.getD j (some 0) = none := by
  have M0 : M - 1 + 1 = M := by rcases h with rfl | rfl | rfl | rfl | rfl <;> rfl
  obtain ⟨a, b⟩ := itl_shift (M - 1) 13 i p
  have z : p / 32 ^ 13 = 0 := Nat.div_eq_of_lt (Nat.lt_of_lt_of_le hp (by decide))
  rw [z] at a
  have i13 := b (by omega)
  obtain ⟨m, hm, hr⟩ := orb_to h (x := (itl (M - 1) 13 i p).1) (e := e) (by omega) el
  refine free_hit he (13 + m) _ i p (by unfold SetTable.turns; omega) ?_
  rw [itl_add, a, itl_zero, M0]
  exact hr
theorem filt_set {l : List (Option Nat)} {j k : Nat} (h : l[j]? = some none) : ((l.set j (some k)).filterMap id).Perm (l.filterMap id ++ [k]) := by
  induction l generalizing j with
  | nil => simp at h
  | cons a l ih =>
    cases j with
    | zero =>
      obtain rfl : a = none := by simpa using h
      simp only [List.set_cons_zero, List.filterMap_cons, id]
      exact (List.perm_append_comm (l₁ := [k]) (l₂ := l.filterMap id))
    | succ j =>
      have := ih (j := j) (by simpa using h)
      rw [List.set_cons_succ]
      cases a with
      | none => simpa [List.filterMap_cons] using this
      | some x => simpa [List.filterMap_cons] using this.cons x
theorem exists_none {l : List (Option Nat)} (h : (l.filterMap id).length < l.length) : ∃ e, e < l.length ∧ l[e]? = some none := by
  induction l with
  | nil => simp at h
  | cons a l ih =>
    cases a with
    | none => exact ⟨0, by simp, rfl⟩
    | some x =>
      obtain ⟨e, h1, h2⟩ := ih (by simpa [List.filterMap_cons] using h)
      exact ⟨e + 1, by simpa using h1, by simpa using h2⟩
theorem getD_none {owner : Array (Option Nat)} {j : Nat} : owner.getD j (some 0) = none ↔ owner.toList[j]? = some none := by
  rw [Array.getElem?_toList]
  by_cases h : j < owner.size
  · simp [Array.getD, h]
  · simp [Array.getD, h]
theorem bits_lt (h : Int) : SetTable.bits h < 2 ^ 64 := by
  unfold SetTable.bits
  have := Int.emod_lt_of_pos h (show (0 : Int) < 2 ^ 64 by decide)
  have := Int.emod_nonneg h (show (2 ^ 64 : Int) ≠ 0 by decide)
  omega
theorem clean_some {M : Nat} (h : Sz M) (hs : Array Int) (hn : hs.size ≤ M) : ∃ owner, SetTable.layClean (M - 1) hs = some owner ∧ owner.size = M ∧ (owner.toList.filterMap id).Perm (List.range hs.size) := by
  have M0 : M - 1 + 1 = M := by rcases h with rfl | rfl | rfl | rfl | rfl <;> rfl
  have gen : ∀ (l : List Int) (owner : Array (Option Nat)) (k : Nat), owner.size = M → (owner.toList.filterMap id).Perm (List.range k) → k + l.length ≤ M →
      ∃ ow', l.foldl (fun (acc : Option (Array (Option Nat) × Nat)) h => acc.bind fun r => (SetTable.layClean.free (M - 1) r.1 (SetTable.turns (M - 1)) (SetTable.bits h % M) (SetTable.bits h)).bind fun j => some (r.1.setIfInBounds j (some r.2), r.2 + 1)) (some (owner, k)) = some (ow', k + l.length) ∧ ow'.size = M ∧ (ow'.toList.filterMap id).Perm (List.range (k + l.length)) := by
    intro l
    induction l with
    | nil => intro owner k so pm _; exact ⟨owner, rfl, so, pm⟩
    | cons a l ih =>
      intro owner k so pm hk
      rw [List.length_cons] at hk
      obtain ⟨e, el, hee⟩ := exists_none (l := owner.toList) (by rw [pm.length_eq, List.length_range, Array.length_toList]; omega)
      rw [Array.length_toList] at el
      obtain ⟨j, hj, hjn⟩ := free_some h (i := SetTable.bits a % M) (getD_none.mpr hee) (by omega) (Nat.mod_lt _ (by rcases h with rfl | rfl | rfl | rfl | rfl <;> decide)) (bits_lt a)
      obtain ⟨ow', e1, e2, e3⟩ := ih (owner.setIfInBounds j (some k)) (k + 1) (by simpa using so) (by
        rw [Array.toList_setIfInBounds, List.range_succ]
        exact (filt_set (getD_none.mp hjn)).trans (pm.append_right [k])) (by omega)
      refine ⟨ow', ?_, e2, ?_⟩
      · rw [List.foldl_cons]
        simp only [Option.bind_some, hj]
        rw [e1, List.length_cons, show k + 1 + l.length = k + (l.length + 1) by omega]
      · rw [List.length_cons, show k + (l.length + 1) = k + 1 + l.length by omega]
        exact e3
  obtain ⟨ow, e1, e2, e3⟩ := gen hs.toList (Array.replicate M none) 0 (by simp) (by
    rw [Array.toList_replicate]
    have : (List.replicate M (none : Option Nat)).filterMap id = [] := by
      rw [List.filterMap_eq_nil_iff]
      intro a ha
      exact List.eq_of_mem_replicate ha
    rw [this]
    exact .nil) (by rw [Array.length_toList]; omega)
  refine ⟨ow, ?_, e2, ?_⟩
  · unfold SetTable.layClean
    rw [← Array.foldl_toList, M0]
    have e1' := congrArg (Option.map Prod.fst) e1
    exact e1'
  · rw [Nat.zero_add, Array.length_toList] at e3
    exact e3
theorem live_two (owner : Array (Option Nat)) (m : Nat) (hm : owner.size = m) : (((List.range m).filterMap fun j => (owner.getD j none).map (fun k => (j, k))).map (·.2)) = owner.toList.filterMap id := by
  rw [List.map_filterMap]
  have e : (fun j => Option.map (fun x : Nat × Nat => x.2) ((owner.getD j none).map fun k => (j, k))) = fun j => owner.getD j none := by
    funext j
    cases owner.getD j none <;> rfl
  rw [e]
  subst hm
  have g : ∀ (l : List (Option Nat)), (List.range l.length).filterMap (fun j => l.getD j none) = l.filterMap id := fun l => by
    induction l with
    | nil => rfl
    | cons a l ih =>
      rw [List.length_cons, List.range_succ_eq_map, List.filterMap_cons, List.filterMap_map, List.filterMap_cons]
      have : ((fun j => (a :: l).getD j none) ∘ Nat.succ) = fun j => l.getD j none := by funext j; simp
      rw [this, ih]
      rfl
  have := g owner.toList
  rw [Array.length_toList] at this
  rw [← this]
  congr 1
  funext j
  by_cases h : j < owner.size
  · simp [Array.getD, h, List.getD]
  · simp [Array.getD, h, List.getD]
/-- a table laid anew has all -/
theorem laid_some {M : Nat} (h : Sz M) {finger moves : Nat} {led plain : Bool} (hs : Array Int) (hn : hs.size < M) : ∃ t order, SetTable.laid (M - 1) finger moves led plain hs = some (t, order) ∧ order.toList.Perm (List.range hs.size) ∧ t.fits hs.size = true ∧ t.led = led ∧ t.dummies = #[] ∧ Up t.place ∧ t.mask = M - 1 := by
  have M0 : M - 1 + 1 = M := by rcases h with rfl | rfl | rfl | rfl | rfl <;> rfl
  obtain ⟨ow, e1, e2, e3⟩ := clean_some h hs (by omega)
  unfold SetTable.laid
  rw [e1, M0]
  have l2 := live_two ow M e2
  refine ⟨_, _, rfl, ?_, ?_, rfl, rfl, ?_, rfl⟩
  · rw [List.toList_toArray, l2]
    exact e3
  · have len : ((List.range M).filterMap fun j => (ow.getD j none).map (fun k => (j, k))).length = hs.size := by
      have := congrArg List.length l2
      rw [List.length_map, e3.length_eq, List.length_range] at this
      exact this
    simp only [SetTable.fits, SetTable.fill, List.size_toArray, List.length_map, Bool.and_eq_true, beq_iff_eq, decide_eq_true_eq]
    refine ⟨len, ?_⟩
    rw [List.length_nil, Nat.add_zero, len]
    omega
  · unfold Up
    rw [List.toList_toArray]
    exact up_live ow M
theorem order_perm {es : Array (Int × Value)} {order : Array Nat} (h : order.toList.Perm (List.range es.size)) : (order.filterMap (es[·]?)).toList.Perm es.toList := by
  rw [Array.toList_filterMap, ← filterMap_getElem?_range es]
  exact h.filterMap _
theorem sz_above {n : Nat} (h : n < 128) : Sz (SetTable.sizeAbove n) ∧ n < SetTable.sizeAbove n := by
  have all : ((List.range 128).all fun n => decide ((SetTable.sizeAbove n = 8 ∨ SetTable.sizeAbove n = 16 ∨ SetTable.sizeAbove n = 32 ∨ SetTable.sizeAbove n = 64 ∨ SetTable.sizeAbove n = 128) ∧ n < SetTable.sizeAbove n)) = true := by decide +kernel
  have := List.all_eq_true.mp all n (List.mem_range.mpr h)
  simpa [Sz] using this
end SetL
end L2
namespace L2
open PySem PySem.Spec PyProof.Rows
namespace SetL
section
variable {prog : Program} {w : World} {A : Around} {E : Value → Shared → Prop} {s : Shared} {a b : Addr} {ms ns : List Int}
theorem put_at {h : Heap} {o1 : Obj} {e1 : Array (Int × Value)} {p1 : Nat} {u1 : SetTable} (q1 : h.get? a = some o1) (q3 : o1.data = .set e1 p1 u1) (e2 : Array (Int × Value)) (u2 : SetTable) : (h.update a (Obj.putSet e2 u2)).get? a = some { o1 with data := .set e2 (p1 + 1) u2 } := by
  have z := Heap.get?_update_self (Obj.putSet e2 u2) q1 (by rw [putSet_of e2 u2 q3]; rfl)
  rw [putSet_of e2 u2 q3] at z
  exact z
theorem setI_put {h : Heap} {o : Obj} {es es2 : Array (Int × Value)} {ep : Nat} {t t2 : SetTable} (ho : h.get? a = some o) (hex : o.ExactSet) (hd : o.data = .set es ep t) (hel : ElemsOf (intKind prog w) es2.toList) (hb : es2.size < scanBound) (hf : t2.fits es2.size = true) (T : Tab (w.params.followText "set-order") t2) (nd : (es2.toList.map fun e => intOf e.2).Nodup) : SetI prog w (h.update a (Obj.putSet es2 t2)) a (es2.toList.map fun e => intOf e.2) :=
  ⟨⟨_, es2, ep + 1, t2, ⟨put_at ho hd es2 t2, hex, rfl⟩, ⟨hel, hb, hf⟩, T, rfl⟩, nd⟩
theorem relay_ok {Q : Unit → Shared → Prop} {wanted : Nat} (S : SetI prog w s.heap a ms) (hw : wanted < 128) (hm : ms.length ≤ wanted)
    (hQ : ∀ h' ms', Heap.SameBut a s.heap h' → SetI prog w h' a ms' → ms'.Perm ms → Q () { s with heap := h' }) : wpAny (model prog w) A (setRelay a wanted) Q E s := by
  obtain ⟨⟨o, es, ep, t, ⟨ho, hex, hd⟩, ⟨hel, hb, hf⟩, T, rfl⟩, nd⟩ := S
  rw [List.length_map, Array.length_toList] at hm
  obtain ⟨sz, lt⟩ := sz_above hw
  obtain ⟨t', order, e1, e2, e3, e4, e5, e6, e7⟩ := laid_some (finger := t.finger) (moves := t.movedTo (SetTable.sizeAbove wanted - 1)) (led := t.led) (plain := t.plain) sz (es.map (·.1)) (by rw [Array.size_map]; omega)
  rw [Array.size_map] at e2 e3
  have pm := order_perm e2
  have zz : (order.filterMap (es[·]?)).size = es.size := by have := pm.length_eq; rwa [Array.length_toList, Array.length_toList] at this
  unfold setRelay
  refine wpAny_bind (wpAny_setState_of ho hd hf ?_)
  dsimp only
  refine wp_ifn (by rcases sz with e | e | e | e | e <;> rw [e, sizeLine_eq] <;> decide) (wpAny_bind ?_)
  unfold SetTable.relaid
  rw [e1]
  change wpAny _ _ (ite _ _ _) _ _ _
  refine wp_ifn (by rw [zz]; simp) (wpAny_pure ?_)
  refine wpAny_storeSet_of ho hd ?_ (by rw [zz]; exact fits_of_scanBound hb)
  have q2 := pm.map fun e => intOf e.2
  refine hQ _ _ (Heap.SameBut.update _ a _) (setI_put ho hex hd (hel.perm pm) (by rw [zz]; exact hb) (by rw [zz]; exact e3) ⟨by rw [e4]; exact T.led, e5, fun _ => e6⟩ (q2.nodup_iff.mpr nd)) q2
/-- a new set -/
def FreshAt (w : World) (h : Heap) (a : Addr) (M : Nat) : Prop := ∃ o ep t, (h.get? a = some o ∧ o.ExactSet ∧ o.data = .set #[] ep t) ∧ t.fits 0 = true ∧ Tab (w.params.followText "set-order") t ∧ t.mask = M - 1 ∧ Sz M
theorem FreshAt.setI {h : Heap} {M : Nat} (F : FreshAt w h a M) : SetI prog w h a [] := by
  obtain ⟨o, ep, t, h1, h2, h3, h4, h5⟩ := F
  exact ⟨⟨o, #[], ep, t, h1, ⟨fun e he => by simp at he, by decide, h2⟩, h3, rfl⟩, List.Pairwise.nil⟩
theorem relay_fresh {Q : Unit → Shared → Prop} {wanted M : Nat} (F : FreshAt w s.heap a M) (hw : wanted < 128) (hQ : ∀ h', Heap.SameBut a s.heap h' → FreshAt w h' a (SetTable.sizeAbove wanted) → Q () { s with heap := h' }) : wpAny (model prog w) A (setRelay a wanted) Q E s := by
  obtain ⟨o, ep, t, ⟨ho, hex, hd⟩, hf, T, hm, sM⟩ := F
  obtain ⟨sz, lt⟩ := sz_above hw
  obtain ⟨t', order, e1, e2, e3, e4, e5, e6, e7⟩ := laid_some (finger := t.finger) (moves := t.movedTo (SetTable.sizeAbove wanted - 1)) (led := t.led) (plain := t.plain) sz ((#[] : Array (Int × Value)).map (·.1)) (by rw [Array.size_map]; exact Nat.lt_of_le_of_lt (Nat.zero_le _) lt)
  rw [Array.size_map] at e2 e3
  have pm := order_perm (es := #[]) e2
  have zz : order.filterMap ((#[] : Array (Int × Value))[·]?) = #[] := by
    have := pm.eq_nil
    exact Array.toList_inj.mp this
  unfold setRelay
  refine wpAny_bind (wpAny_setState_of ho hd hf ?_)
  dsimp only
  refine wp_ifn (by rcases sz with e | e | e | e | e <;> rw [e, sizeLine_eq] <;> decide) (wpAny_bind ?_)
  unfold SetTable.relaid
  rw [e1]
  change wpAny _ _ (ite _ _ _) _ _ _
  refine wp_ifn (by rw [zz]; simp) (wpAny_pure ?_)
  rw [zz]
  refine wpAny_storeSet_of ho hd ?_ (Nat.zero_le _)
  exact hQ _ (Heap.SameBut.update _ a _) ⟨_, ep + 1, t', ⟨put_at ho hd #[] t', hex, rfl⟩, e3, ⟨by rw [e4]; exact T.led, e5, fun _ => e6⟩, e7, sz⟩
/-- room for more in a new set -/
theorem room_fresh {Q : Unit → Shared → Prop} {M n : Nat} (F : FreshAt w s.heap a M) (hn : n < 64) (hQ : ∀ h' M', Heap.SameBut a s.heap h' → FreshAt w h' a M' → n < M' → Q () { s with heap := h' }) : wpAny (model prog w) A (setRoomFor a n) Q E s := by
  obtain ⟨o, ep, t, ⟨ho, hex, hd⟩, hf, T, hm, sz⟩ := id F
  unfold setRoomFor
  refine wpAny_bind (wpAny_setState_of ho hd hf ?_)
  dsimp only
  have pl : t.place.size = 0 := by
    simp only [SetTable.fits, Bool.and_eq_true, beq_iff_eq] at hf
    exact hf.1
  have fl : t.fill = 0 := by
    unfold SetTable.fill
    rw [pl, T.dum]
    rfl
  unfold SetTable.roomFor
  rw [fl, pl, hm]
  by_cases c : (0 + n) * 5 ≥ (M - 1) * 3
  · rw [if_pos c]
    refine relay_fresh F (by omega) fun h' sb F' => hQ h' _ sb F' ?_
    have := (sz_above (n := (0 + n) * 2) (by omega)).2
    omega
  · rw [if_neg c]
    exact wpAny_pure (hQ s.heap M (Heap.SameBut.refl a s.heap) F (by omega))
/-- room for more in any -/
theorem room_any {Q : Unit → Shared → Prop} {n : Nat} (S : SetI prog w s.heap a ms) (hn : ms.length + n < 64) (hQ : ∀ h' ms', Heap.SameBut a s.heap h' → SetI prog w h' a ms' → ms'.Perm ms → Q () { s with heap := h' }) : wpAny (model prog w) A (setRoomFor a n) Q E s := by
  obtain ⟨⟨o, es, ep, t, ⟨ho, hex, hd⟩, ⟨hel, hb, hf⟩, T, e0⟩, nd⟩ := id S
  unfold setRoomFor
  refine wpAny_bind (wpAny_setState_of ho hd hf ?_)
  dsimp only
  have pl : t.place.size = ms.length := by
    simp only [SetTable.fits, Bool.and_eq_true, beq_iff_eq] at hf
    rw [hf.1, ← e0, List.length_map, Array.length_toList]
  unfold SetTable.roomFor
  rw [pl]
  split
  · rename_i wanted q
    split at q
    · obtain rfl := Option.some.inj q
      exact relay_ok S (by omega) (by omega) hQ
    · cases q
  · exact wpAny_pure (hQ s.heap ms (Heap.SameBut.refl a s.heap) S (.refl _))
/-- a new set takes over another one -/
theorem merge_fresh {Q : Unit → Shared → Prop} {each : Sem Unit} {M : Nat} (F : FreshAt w s.heap a M) (S : SetI prog w s.heap b ms) (ne : a ≠ b) (hm : ms.length < 64)
    (hQ : ∀ h' ms', Heap.SameBut a s.heap h' → SetI prog w h' a ms' → ms'.Perm ms → Q () { s with heap := h' }) : wpAny (model prog w) A (setMerge a b each) Q E s := by
  obtain ⟨⟨o, es, ep, t, ⟨ho, hex, hd⟩, ⟨hel, hb, hf⟩, T, rfl⟩, nd⟩ := id S
  rw [List.length_map, Array.length_toList] at hm
  unfold setMerge
  refine wp_ifn (by simpa using ne) ?_
  refine wpAny_bind (wpAny_setState_of ho hd hf ?_)
  dsimp only
  by_cases em : es.isEmpty
  · refine wp_if em (wpAny_pure ?_)
    have e0 : es = #[] := by simpa using em
    subst e0
    exact hQ s.heap [] (Heap.SameBut.refl a s.heap) F.setI (.refl _)
  · refine wp_ifn em (wpAny_bind (room_fresh F hm fun h' M' sb F' lt => ?_))
    obtain ⟨o1, ep1, t1, ⟨ho1, hex1, hd1⟩, hf1, T1, hm1, sz1⟩ := F'
    refine wpAny_bind (wpAny_setState_of ho1 hd1 hf1 ?_)
    dsimp only
    have pl : t1.place.size = 0 := by
      simp only [SetTable.fits, Bool.and_eq_true, beq_iff_eq] at hf1
      exact hf1.1
    have fl : t1.fill = 0 := by
      unfold SetTable.fill
      rw [pl, T1.dum]
      rfl
    have rd : t1.road t ≠ .oneByOne := by
      unfold SetTable.road
      rw [fl]
      simp only [bne_self_eq_false, Bool.false_eq_true, ↓reduceIte]
      split <;> (intro z; cases z)
    cases q : t1.road t with
    | oneByOne => exact absurd q rd
    | slotForSlot =>
      dsimp only
      refine wpAny_storeSet_of ho1 hd1 ?_ (fits_of_scanBound hb)
      refine hQ _ _ (sb.trans (Heap.SameBut.update _ a _)) (setI_put ho1 hex1 hd1 hel hb hf ⟨?_, T.dum, fun z => T.up ?_⟩ nd) (.refl _)
      · show (t1.led && t.led) = _
        rw [T1.led, T.led, Bool.and_self]
      · have : (t1.plain && t.plain) = true := z
        simp only [Bool.and_eq_true] at this
        exact this.2
    | clean =>
      dsimp only
      obtain ⟨t', order, e1, e2, e3, e4, e5, e6, e7⟩ := laid_some (finger := t1.finger) (moves := t1.moves) (led := t1.led && t.led) (plain := t1.plain && t.plain) sz1 (es.map (·.1)) (by rw [Array.size_map]; exact lt)
      rw [Array.size_map] at e2 e3
      have pm := order_perm e2
      have zz : (order.filterMap (es[·]?)).size = es.size := by have := pm.length_eq; rwa [Array.length_toList, Array.length_toList] at this
      rw [hm1, e1]
      refine wpAny_bind ?_
      change wpAny _ _ (ite _ _ _) _ _ _
      refine wp_ifn (by rw [zz]; simp) (wpAny_pure ?_)
      refine wpAny_storeSet_of ho1 hd1 ?_ (by rw [zz]; exact fits_of_scanBound hb)
      have q2 := pm.map fun e => intOf e.2
      refine hQ _ _ (sb.trans (Heap.SameBut.update _ a _)) (setI_put ho1 hex1 hd1 (hel.perm pm) (by rw [zz]; exact hb) (by rw [zz]; exact e3) ⟨by rw [e4, T1.led, T.led, Bool.and_self], e5, fun _ => e6⟩ (q2.nodup_iff.mpr nd)) q2
end
end SetL
end L2
namespace L2
open PySem PySem.Spec PyProof.Rows
namespace SetL
section
variable {prog : Program} {w : World} {A : Around} {E : Value → Shared → Prop} {s : Shared} {a b : Addr} {ms ns : List Int}
theorem wp_forC {M : Model} {α β : Type} {l : List α} {b : β} {f : α → β → Sem (ForInStep β)} {Q : β → Shared → Prop} (h : ∀ x ∈ l, f x b = pure (.yield b)) (q : Q b s) : wpAny M A (forIn l b f) Q E s := by
  induction l with
  | nil => exact wpAny_pure q
  | cons x l ih =>
    rw [List.forIn_cons]
    refine wpAny_bind ?_
    rw [h x List.mem_cons_self]
    exact wpAny_pure (ih fun y hy => h y (List.mem_cons_of_mem _ hy))
theorem walk_any {Q : Array (Int × Value) → Shared → Prop} {o : Obj} {es : Array (Int × Value)} {ep : Nat} {t : SetTable} (ho : s.heap.get? b = some o) (hd : o.data = .set es ep t) (hf : t.fits es.size = true) (T : Tab (w.params.followText "set-order") t)
    (hQ : ∀ es' d, es'.toList.Perm es.toList → Q es' { s with drawn := d }) : wpAny (model prog w) A (setWalk b) Q E s := by
  unfold setWalk
  refine wpAny_bind (wpAny_setState_of ho hd hf ?_)
  unfold setsByText
  refine wpAny_bind (wpAny_bind (wpAny_askSetting (wpAny_pure ?_)))
  cases hb : w.params.followText "set-order" with
  | true =>
    rw [show (model prog w).w.params.followText "set-order" = true from hb, if_pos rfl]
    refine wpAny_bind (wpAny_askSetting (wpAny_pure ?_))
    exact hQ _ s.drawn (pick_perm _ _)
  | false =>
    rw [show (model prog w).w.params.followText "set-order" = false from hb, if_neg (by simp)]
    split
    · refine wpAny_bind (draw_perm es.size es.toList s _ (Array.length_toList) fun l d pm => wpAny_pure ?_)
      exact hQ l.toArray d (by rw [List.toList_toArray]; exact pm)
    · refine wpAny_bind ?_
      change wpAny _ _ (ite _ _ _) _ _ _
      have hl : t.led = true := by rw [T.led, hb]; rfl
      refine wp_ifn (by rw [hl]; simp) (wpAny_pure (wpAny_pure ?_))
      exact hQ es s.drawn (.refl _)
theorem walk_unseen {Q : Array (Int × Value) → Shared → Prop} {o : Obj} {es : Array (Int × Value)} {ep : Nat} {t : SetTable} (S : SetI prog w s.heap a ms) (ho : s.heap.get? b = some o) (hd : o.data = .set es ep t) (hf : t.fits es.size = true) (hel : ElemsOf (intKind prog w) es.toList) (T : Tab (w.params.followText "set-order") t)
    (hQ : ∀ es' h' d, es'.toList.Perm es.toList → Heap.SameBut a s.heap h' → SetI prog w h' a ms → Q es' { s with heap := h', drawn := d }) : wpAny (model prog w) A (setWalkUnseen b [a] (some a)) Q E s := by
  unfold setWalkUnseen
  refine wpAny_bind (wpAny_setState_of ho hd hf ?_)
  unfold setsByText
  refine wpAny_bind (wpAny_bind (wpAny_askSetting (wpAny_pure ?_)))
  dsimp only
  split
  · exact walk_any ho hd hf T fun es' d pm => hQ es' s.heap d pm (Heap.SameBut.refl a s.heap) S
  · rename_i hc
    obtain ⟨⟨o1, es1, ep1, t1, ⟨ho1, hex1, hd1⟩, ⟨hel1, hb1, hf1⟩, T1, rfl⟩, nd1⟩ := id S
    have quiet : ∀ {es : Array (Int × Value)}, ElemsOf (intKind prog w) es.toList → ∀ e ∈ es.toList, ∃ h k t, e = (h, Value.int k t) := fun hel e he => by
      obtain ⟨⟨k, hk, _⟩, _⟩ := hel e he
      obtain ⟨t, q⟩ := Value.isInt_shape (show Value.isInt k e.2 = true from hk)
      exact ⟨e.1, k, t, by rw [← q]⟩
    unfold setsQuiet
    refine wpAny_bind (wpAny_bind ?_)
    rw [List.forIn_cons]
    refine wpAny_bind (wpAny_bind (wpAny_setEntries_of ho hd hf (wpAny_bind ?_)))
    rw [← Array.forIn_toList]
    refine wp_forC (fun e he => ?_) ?_
    · obtain ⟨h, k, t, rfl⟩ := quiet hel e he
      rfl
    refine wpAny_pure ?_
    dsimp only
    rw [List.forIn_cons]
    refine wpAny_bind (wpAny_bind (wpAny_setEntries_of ho1 hd1 hf1 (wpAny_bind ?_)))
    rw [← Array.forIn_toList]
    refine wp_forC (fun e he => ?_) ?_
    · obtain ⟨h, k, t, rfl⟩ := quiet hel1 e he
      rfl
    refine wpAny_pure (wpAny_pure (wpAny_pure ?_))
    refine wp_ifn (by simp) (wpAny_bind (wpAny_rule (wpAny_bind (wpAny_setState_of ho1 hd1 hf1 ?_))))
    dsimp only
    split
    · refine wpAny_bind (wpAny_storeSet_of ho1 hd1 (wpAny_pure ?_) (fits_of_scanBound hb1))
      refine hQ es _ s.drawn (.refl _) (Heap.SameBut.update _ a _) (setI_put ho1 hex1 hd1 hel1 hb1 hf1 ⟨?_, T1.dum, fun z => T1.up ?_⟩ nd1)
      · show (t1.led && t.led) = _
        rw [T1.led, T.led, Bool.and_self]
      · have : (t1.plain && t.plain) = true := z
        simp only [Bool.and_eq_true] at this
        exact this.1
    · exact wpAny_pure (hQ es s.heap s.drawn (.refl _) (Heap.SameBut.refl a s.heap) S)
/-- another one's numbers, one behind the other -/
theorem merge_more {Q : Unit → Shared → Prop} {each : Sem Unit} (S : SetI prog w s.heap a ms) (nn : ms ≠ []) (B : SetI prog w s.heap b ns) (ne : a ≠ b) (hm : ms.length + ns.length < 64)
    (he : ∀ (s1 : Shared) (o : Obj) (Q' : Unit → Shared → Prop), s.heap.get? b = some o → s1.heap.get? b = some o → Q' () s1 → wpAny (model prog w) A each Q' E s1)
    (hQ : ∀ h' d ms', Heap.SameBut a s.heap h' → SetI prog w h' a ms' → (∀ m, m ∈ ms' ↔ m ∈ ms ∨ m ∈ ns) → ms'.length ≤ ms.length + ns.length → Q () { s with heap := h', drawn := d }) : wpAny (model prog w) A (setMerge a b each) Q E s := by
  obtain ⟨⟨o, es, ep, t, ⟨ho, hex, hd⟩, ⟨hel, hb, hf⟩, T, rfl⟩, nd⟩ := id B
  rw [List.length_map, Array.length_toList] at hm hQ
  unfold setMerge
  refine wp_ifn (by simpa using ne) ?_
  refine wpAny_bind (wpAny_setState_of ho hd hf ?_)
  dsimp only
  by_cases em : es.isEmpty
  · refine wp_if em (wpAny_pure ?_)
    have e0 : es = #[] := by simpa using em
    subst e0
    exact hQ s.heap s.drawn ms (Heap.SameBut.refl a s.heap) S (fun m => by simp) (Nat.le_add_right _ _)
  · refine wp_ifn em (wpAny_bind (room_any S hm fun h1 ms1 sb1 S1 pm1 => ?_))
    obtain ⟨⟨o1, es1, ep1, t1, ⟨ho1, hex1, hd1⟩, ⟨hel1, hb1, hf1⟩, T1, e1⟩, nd1⟩ := id S1
    refine wpAny_bind (wpAny_setState_of ho1 hd1 hf1 ?_)
    dsimp only
    have l1 : ms1.length = es1.size := by rw [← e1, List.length_map, Array.length_toList]
    have l2 : 0 < ms1.length := by
      rw [pm1.length_eq]
      exact List.length_pos_iff.mpr nn
    have rd : t1.road t = .oneByOne := by
      unfold SetTable.road
      rw [if_pos]
      simp only [SetTable.fits, Bool.and_eq_true, beq_iff_eq] at hf1
      simp only [bne_iff_ne, ne_eq]
      unfold SetTable.fill
      omega
    rw [rd]
    dsimp only
    have hob : h1.get? b = some o := by rw [sb1.2 b ne.symm]; exact ho
    refine wpAny_bind (walk_unseen (s := { s with heap := h1 }) (E := E) S1 hob hd hf hel T fun es' h2 d pm2 sb2 S2 => ?_)
    have hel' : ElemsOf (intKind prog w) es'.toList := hel.perm pm2
    rw [← Array.forIn_toList]
    have loop : ∀ (Q : PUnit → Shared → Prop) (l : List (Int × Value)) (h2 : Heap) (ms2 : List Int), ElemsOf (intKind prog w) l → Heap.SameBut a s.heap h2 → SetI prog w h2 a ms2 → ms2.length + l.length < 64 → (∀ h' ms', Heap.SameBut a s.heap h' → SetI prog w h' a ms' → (∀ m, m ∈ ms' ↔ m ∈ ms2 ∨ m ∈ l.map fun e => intOf e.2) → ms'.length ≤ ms2.length + l.length → Q () { s with heap := h', drawn := d }) →
        wpAny (model prog w) A (forIn l PUnit.unit fun x (_ : PUnit) => do
          let _ ← holding [x.2] (setAddHashed a x.2 x.1)
          each
          let r ← setState b
          if r.2.1 != ep then do
            unsupported "set.changed-during-merge"
            pure (ForInStep.yield PUnit.unit)
          else pure (ForInStep.yield PUnit.unit)) Q E { s with heap := h2, drawn := d } := by
      intro Q l
      induction l with
      | nil =>
        intro h2 ms2 _ sb S2 _ hq
        exact wpAny_pure (hq h2 ms2 sb S2 (fun m => by simp) (by simp))
      | cons e l ih =>
        intro h2 ms2 hl sb S2 len hq
        rw [List.length_cons] at len
        rw [List.forIn_cons]
        obtain ⟨⟨k, hk, hh⟩, _⟩ := hl.head
        obtain ⟨tk, q⟩ := Value.isInt_shape (show Value.isInt k e.2 = true from hk)
        obtain ⟨eh, ev⟩ := e
        dsimp only at q hh
        subst q
        subst hh
        refine wpAny_bind (wpAny_bind (wpAny_holding (xadd (s := { s with heap := h2, drawn := d }) (ms := ms2) (k := k) S2 (by show _ < 4096; omega) fun _ h3 ms3 sb3 S3 mm3 l3 => ?_)))
        have sb' := sb.trans sb3
        have hob3 : h3.get? b = some o := by rw [sb'.2 b ne.symm]; exact ho
        refine wpAny_bind (he _ o _ ho hob3 (wpAny_bind (wpAny_setState_of hob3 hd hf ?_)))
        refine wp_ifn (by simp) (wpAny_pure ?_)
        refine ih h3 ms3 hl.tail sb' S3 (by omega) fun h' ms' sb4 S4 mm4 l4 => hq h' ms' sb4 S4 (fun m => ?_) (by rw [List.length_cons]; omega)
        rw [mm4, mm3, List.map_cons, List.mem_cons]
        show (m ∈ ms2 ∨ m = k) ∨ _ ↔ m ∈ ms2 ∨ m = k ∨ _
        exact or_assoc
    have len' : es'.toList.length = es.size := by rw [pm2.length_eq, Array.length_toList]
    refine wpAny_bind (loop _ es'.toList h2 ms1 hel' (sb1.trans sb2) S2 (by rw [pm1.length_eq, len']; exact hm) fun h' ms' sb S' mm l => wpAny_pure (hQ h' d ms' sb S' (fun m => ?_) (by rw [pm1.length_eq, len'] at l; exact l)))
    rw [mm, pm1.mem_iff, (pm2.map fun e => intOf e.2).mem_iff]
end
end SetL
end L2
namespace L2
open PySem PySem.Spec PyProof.Rows
namespace SetL
theorem SetI.ty {prog : Program} {w : World} {s : Shared} {a : Addr} {ms : List Int} (S : SetI prog w s.heap a ms) : s.TypeIs (.ref a) "set" := by
  obtain ⟨⟨o, es, ep, t, ⟨ho, hex, hd⟩, _⟩, _⟩ := S
  exact ⟨o, ho, hex.1⟩
theorem en_or : entryFor table "set.__or__" = some Builtin.«frozenset.__or__» := entryFor_alias (id' := "frozenset.__or__") (by kernel_rfl) rfl (by decide +kernel) (by kernel_rfl)
section
variable {prog : Program} {w : World} {A : Around} {E : Value → Shared → Prop} {s : Shared} {a b : Addr} {ms ns : List Int}
theorem any_set {Q : Bool → Shared → Prop} (ty : s.TypeIs (.ref a) "set") (q : Q true s) : wpAny (model prog w) A (Builtin.Frozenset.isAnySet (.ref a)) Q E s := by
  unfold Builtin.Frozenset.isAnySet
  refine wpAny_bind (wpAny_isInstance (b := true) ty sub_set_self ?_)
  exact wpAny_pure q
theorem fresh_new {Q : Value → Shared → Prop} (h : FreshAt w (s.heap.push (empty w)) s.heap.objs.size 8 → Q (.ref s.heap.objs.size) { s with heap := s.heap.push (empty w) }) : wpAny (model prog w) A (newSet (.type "set")) Q E s := by
  unfold newSet setsByText
  refine wpAny_bind (wpAny_bind (wpAny_askSetting (wpAny_pure ?_)))
  dsimp only
  simp only [newObj]
  refine wpAny_bind (wpAny_alloc (wpAny_pure (h ?_)))
  exact ⟨_, 0, _, ⟨Heap.get?_push_size _ rfl, ⟨rfl, rfl, rfl⟩, rfl⟩, rfl, tab_fresh _, rfl, .inl rfl⟩
theorem copy_set {Q : Value → Shared → Prop} (S : SetI prog w s.heap a ms) (hm : ms.length < 64)
    (hQ : ∀ h' ms', (∀ c o, s.heap.get? c = some o → h'.get? c = some o) → SetI prog w h' s.heap.objs.size ms' → ms'.Perm ms → (ms = [] → FreshAt w h' s.heap.objs.size 8) → Q (.ref s.heap.objs.size) { s with heap := h' }) : wpAny (model prog w) A (Builtin.Frozenset.copyOf a) Q E s := by
  obtain ⟨oa, hoa⟩ := S.obj
  have lt := Heap.lt_size hoa
  unfold Builtin.Frozenset.copyOf Builtin.Frozenset.baseOf
  refine wpAny_bind (wpAny_bind (wpAny_isInstance (b := true) S.ty sub_set_self (wpAny_pure ?_)))
  refine wpAny_bind (fresh_new fun F => ?_)
  have S' : SetI prog w (s.heap.push (empty w)) a ms := S.keep fun o e => Heap.get?_push_of_some _ e
  show wpAny _ _ (pure s.heap.objs.size >>= _) _ _ _
  refine wpAny_bind (wpAny_pure (wpAny_bind ?_))
  have kp0 : ∀ c o, s.heap.get? c = some o → (s.heap.push (empty w)).get? c = some o := fun c o e => Heap.get?_push_of_some _ e
  by_cases e0 : ms = []
  · subst e0
    obtain ⟨⟨o, es, ep, t, ⟨ho, hex, hd⟩, ⟨hel, hb, hf⟩, T, em⟩, nd⟩ := id S'
    have ee : es = #[] := by
      have := congrArg List.length em
      rw [List.length_map, Array.length_toList] at this
      exact Array.size_eq_zero_iff.mp this
    subst ee
    unfold setMerge
    refine wp_ifn (by simpa using (Nat.ne_of_gt lt)) ?_
    refine wpAny_bind (wpAny_setState_of ho hd hf ?_)
    refine wp_if (by rfl) (wpAny_pure (wpAny_pure ?_))
    exact hQ _ [] kp0 F.setI (.refl _) fun _ => F
  · refine merge_fresh (s := { s with heap := s.heap.push (empty w) }) F S' (Nat.ne_of_gt lt) hm fun h' ms' sb S2 pm => wpAny_pure ?_
    refine hQ h' ms' (fun c o e => ?_) S2 pm fun z => absurd z e0
    rw [sb.2 c (Nat.ne_of_lt (Heap.lt_size e))]
    exact kp0 c o e
/-- one set and another one, together -/
theorem or_set {Q : Value → Shared → Prop} (S : SetI prog w s.heap a ms) (B : SetI prog w s.heap b ns) (hm : ms.length + ns.length < 64) (hab : a = b → ms = ns)
    (hQ : ∀ h' d ms', (∀ c o, s.heap.get? c = some o → h'.get? c = some o) → SetI prog w h' s.heap.objs.size ms' → (∀ m, m ∈ ms' ↔ m ∈ ms ∨ m ∈ ns) → ms'.length ≤ ms.length + ns.length → Q (.ref s.heap.objs.size) { s with heap := h', drawn := d }) : wpAny (model prog w) A (binaryOp .BitOr (.ref a) (.ref b)) Q E s := by
  refine wpAny_binaryOp_same (op := .BitOr) (T := "set") S.ty B.ty PySem.F.fills_set_or PySem.F.slot_set_or (wpAny_call_entry PySem.F.slot_set_or S.ty en_or ?_ (PySem.F.args_set_or_2 _ _))
  unfold Builtin.«frozenset.__or__»
  obtain ⟨ob, hob⟩ := B.obj
  have ltb := Heap.lt_size hob
  change wpAny _ _ (Builtin.Frozenset.slot1 "__or__" _ >>= _) _ _ _
  refine wpAny_bind (wpAny_of_eq (show Builtin.Frozenset.slot1 "__or__" { pos := [Value.ref a, Value.ref b] } = pure (.ref a, .ref b) from rfl) ?_)
  change wpAny _ _ ((_ <&&> _) >>= _) _ _ _
  refine wpAny_bind (wpAny_bind (any_set S.ty (any_set B.ty ?_)))
  refine wp_ifn (by simp) (wpAny_bind (wpAny_pure (wpAny_bind ?_)))
  change wpAny _ _ (Builtin.Frozenset.copyOf a >>= _) _ _ _
  refine wpAny_bind (copy_set S (by omega) fun h1 ms1 kp1 S1 pm1 fr => ?_)
  by_cases ab : b = a
  · have hmn := hab ab.symm
    subst hmn
    subst ab
    refine wp_ifn (by simp) (wpAny_pure (wpAny_pure ⟨_, rfl, by simp, ?_⟩))
    exact hQ h1 s.drawn ms1 kp1 S1 (fun m => by rw [pm1.mem_iff]; exact (or_self_iff).symm) (by rw [pm1.length_eq]; omega)
  · refine wp_if (by simpa using ab) (wpAny_bind (wpAny_pure (wpAny_bind (wpAny_holding ?_))))
    have B1 : SetI prog w h1 b ns := B.keep fun o e => kp1 b o e
    obtain ⟨⟨o, es, ep, t, ⟨ho, hex, hd⟩, ⟨hel, hb, hf⟩, T, em⟩, nd⟩ := id B1
    have nb : s.heap.objs.size ≠ b := Nat.ne_of_gt ltb
    unfold Builtin.Frozenset.updateFrom
    refine wpAny_bind (any_set (s := { s with heap := h1 }) B1.ty (wp_if rfl (wpAny_bind (wpAny_pure ?_))))
    unfold Builtin.Frozenset.merge
    refine wpAny_bind (wpAny_setEpoch_of ho hd hf ?_)
    have kpb : ∀ {h' : Heap}, Heap.SameBut s.heap.objs.size h1 h' → ∀ c o, s.heap.get? c = some o → h'.get? c = some o := fun sb c o e => by
      rw [sb.2 c (Nat.ne_of_lt (Heap.lt_size e))]
      exact kp1 c o e
    by_cases e0 : ms = []
    · refine merge_fresh (s := { s with heap := h1 }) (fr e0) B1 nb (by omega) fun h' ms' sb S2 pm => wpAny_pure (wpAny_pure ⟨_, rfl, by simp, ?_⟩)
      refine hQ h' s.drawn ms' (kpb sb) S2 (fun m => ?_) (by rw [pm.length_eq]; omega)
      rw [pm.mem_iff, e0]
      simp
    · refine merge_more (s := { s with heap := h1 }) S1 (fun z => e0 (by rw [z] at pm1; exact pm1.symm.eq_nil)) B1 nb (by rw [pm1.length_eq]; exact hm) (fun s1 o1 Q' hb0 hb1 q => ?_) fun h' d ms' sb S2 mm len => wpAny_pure (wpAny_pure ⟨_, rfl, by simp, ?_⟩)
      · obtain rfl : o = o1 := Option.some.inj (ho.symm.trans hb0)
        unfold Builtin.Frozenset.unchanged
        refine wpAny_bind (wpAny_setEpoch_of hb1 hd hf ?_)
        exact wp_ifn (by simp) (wpAny_pure q)
      · exact hQ h' d ms' (kpb sb) S2 (fun m => by rw [mm, pm1.mem_iff]) (by rw [pm1.length_eq] at len; exact len)
end
end SetL
end L2
namespace L2
open PySem PySem.Spec PyProof.Rows
namespace SetL
section
variable {prog : Program} {w : World} {A : Around} {E : Value → Shared → Prop} {s : Shared}
theorem pairs_keys {es : List DictEntry} {kvs : List (Int × Value)} (h : Pairs (intKind prog w) es kvs) : es.map (fun e => intOf e.key) = kvs.map (·.1) := by
  induction h with
  | nil => rfl
  | cons h1 h2 _ ih =>
    rw [List.map_cons, List.map_cons, ih, intOf_is (show Value.isInt _ _ = true from h1)]
theorem init_dict {d : Addr} {kvs : List (Int × Value)} (lo : (d == sysModules) = false) (hO : s.heap.DictOf (intKind prog w) d kvs) (hl : kvs.length < 64) {R : Result → Shared → Prop}
    (h : ∀ h' ms, SetI prog w h' s.heap.objs.size ms → (∀ m, m ∈ ms ↔ m ∈ kvs.map (·.1)) → ms.length ≤ kvs.length → (∀ b o, b < s.heap.objs.size → s.heap.get? b = some o → h'.get? b = some o) → R (.ok (.ret .none)) { s with heap := h' }) :
    codeAny (model prog w) A (.call (.builtin "set.__init__") ⟨[.ref s.heap.objs.size, .ref d], []⟩) R { s with heap := s.heap.push (empty w) } := by
  have at0 : (s.heap.push (empty w)).get? s.heap.objs.size = some (empty w) := Heap.get?_push_size _ rfl
  have ty : Shared.TypeIs { s with heap := s.heap.push (empty w) } (.ref s.heap.objs.size) "set" := ⟨_, at0, rfl⟩
  refine codeAny_call_builtin PySem.F.called_set.init.plain PySem.F.entry_set_init (check_set_init_1 ty ?_)
  obtain ⟨o, es, ep, ho, hx, hd, hk, hp, nd⟩ := hO
  have dS : d < s.heap.objs.size := Heap.lt_size ho
  have ho' := Heap.get?_push_of_some (empty w) ho
  have n1 := PySem.F.sub_dict_set
  have n2 := PySem.F.sub_dict_frozenset
  have F : FreshAt w (s.heap.push (empty w)) s.heap.objs.size 8 := ⟨_, 0, _, ⟨at0, ⟨rfl, rfl, rfl⟩, rfl⟩, rfl, tab_fresh _, rfl, .inl rfl⟩
  have td : Shared.TypeIs { s with heap := s.heap.push (empty w) } (.ref d) "dict" := ⟨o, ho', hx.1⟩
  unfold Builtin.«set.__init__» noKeywords Builtin.Frozenset.updateFrom
  generalize hPI : pyIter = PI
  generalize hRF : setRoomFor = RF
  wp_walk
  subst hRF
  rw [hd]
  refine wpAny_pure ?_
  have hkeys := pairs_keys hp
  have hn : es.size = kvs.length := by rw [← Array.length_toList, hp.length]
  refine wpAny_bind (wpAny_dictEntries ho' hd (wpAny_bind (room_fresh (s := { s with heap := s.heap.push (empty w) }) F (by omega) fun h1 M1 sb1 F1 lt1 => ?_)))
  have kp : ∀ {h' : Heap}, Heap.SameBut s.heap.objs.size (s.heap.push (empty w)) h' → ∀ b o, b < s.heap.objs.size → s.heap.get? b = some o → h'.get? b = some o := fun sb b o lt e => by
    rw [sb.2 b (Nat.ne_of_lt lt)]
    exact Heap.get?_push_of_some _ e
  refine wpAny_bind (wpAny_dictEntries (kp sb1 d o dS ho) hd (wpAny_bind ?_))
  rw [Std.Legacy.Range.forIn_eq_forIn_range']
  have loop : ∀ (Q : PUnit → Shared → Prop) (E : Value → Shared → Prop) (k i : Nat) (h2 : Heap) (ms : List Int), i + k = es.size → Heap.SameBut s.heap.objs.size (s.heap.push (empty w)) h2 → SetI prog w h2 s.heap.objs.size ms → (∀ m, m ∈ ms ↔ m ∈ (es.toList.take i).map fun e => intOf e.key) → ms.length ≤ i →
      (∀ h' ms', Heap.SameBut s.heap.objs.size (s.heap.push (empty w)) h' → SetI prog w h' s.heap.objs.size ms' → (∀ m, m ∈ ms' ↔ m ∈ es.toList.map fun e => intOf e.key) → ms'.length ≤ es.size → Q PUnit.unit { s with heap := h' }) →
      wpAny (model prog w) A.in1 (forIn (List.range' i k 1) PUnit.unit fun i (_ : PUnit) => do
        let r ← dictEntries d
        match r[i]? with
        | some e => do
          let _ ← holding [e.key] (setAddHashed s.heap.objs.size e.key e.hash)
          let q ← dictEpoch d
          if (q != ep) = true then do
            unsupported (toString "set.__init__" ++ toString ":changed-during-callback")
            pure (ForInStep.yield PUnit.unit)
          else pure (ForInStep.yield PUnit.unit)
        | x => do
          unsupported "internal:set-from-dict"
          pure (ForInStep.yield PUnit.unit)) Q E { s with heap := h2 } := by
    intro Q E k
    induction k with
    | zero =>
      intro i h2 ms hi sb S mm len hq
      refine wpAny_pure (hq h2 ms sb S (fun m => ?_) (by omega))
      rw [mm, List.take_of_length_le (by rw [Array.length_toList]; omega)]
    | succ k ih =>
      intro i h2 ms hi sb S mm len hq
      rw [List.range'_succ, List.forIn_cons]
      have hod := kp sb d o dS ho
      refine wpAny_bind (wpAny_bind (wpAny_dictEntries hod hd ?_))
      have lt : i < es.size := by omega
      rw [Array.getElem?_eq_getElem lt]
      dsimp only
      obtain ⟨k0, hk0, hh⟩ := hk es[i] (Array.getElem_mem lt)
      obtain ⟨tk, q⟩ := Value.isInt_shape (show Value.isInt k0 es[i].key = true from hk0)
      rw [q, hh]
      refine wpAny_bind (wpAny_holding (xadd (s := { s with heap := h2 }) (ms := ms) (k := k0) S (by show _ < 4096; omega) fun _ h3 ms3 sb3 S3 mm3 l3 => ?_))
      have sb' := sb.trans sb3
      refine wpAny_bind (wpAny_dictEpoch (kp sb' d o dS ho) hd ?_)
      refine wp_ifn (by simp) (wpAny_pure ?_)
      refine ih (i + 1) h3 ms3 (by omega) sb' S3 (fun m => ?_) (by omega) hq
      have tk : es.toList.take (i + 1) = es.toList.take i ++ [es[i]] := by
        rw [List.take_add_one, Array.getElem?_toList, Array.getElem?_eq_getElem lt]
        rfl
      rw [mm3, mm, tk, List.map_append, List.mem_append]
      show _ ∨ m = k0 ↔ _ ∨ m ∈ [intOf es[i].key]
      rw [q, List.mem_singleton]
      rfl
  refine loop _ _ _ 0 h1 [] (by simp [Std.Legacy.Range.size]) sb1 F1.setI (fun m => by simp) (Nat.le_refl _) fun h' ms' sb S mm len => wpAny_pure (wpAny_pure ?_)
  exact h h' ms' S (fun m => by rw [mm, hkeys]) (by omega) (kp sb)
set_option maxHeartbeats 3200000 in
theorem set_of_dict {d : Addr} {kvs : List (Int × Value)} (lo : (d == sysModules) = false) (hO : s.heap.DictOf (intKind prog w) d kvs) (hl : kvs.length < 64) {Q : Value → Shared → Prop}
    (h : ∀ h' ms, SetI prog w h' s.heap.objs.size ms → (∀ m, m ∈ ms ↔ m ∈ kvs.map (·.1)) → ms.length ≤ kvs.length → (∀ b o, b < s.heap.objs.size → s.heap.get? b = some o → h'.get? b = some o) → Q (.ref s.heap.objs.size) { s with heap := h' }) :
    wpAny (model prog w) A (call (.type "set") [.ref d]) Q E s := by
  obtain ⟨c, tl, hmro⟩ := PySem.F.called_set.mro
  have m1 := PySem.F.called_set.made
  have m2 := PySem.F.called_set.sub
  have m3 := PySem.F.called_set.notType
  have m4 := PySem.F.called_set.canCreate
  have m5 := PySem.F.typeCall_set_1 (.ref d)
  refine wpAny_call (codeAny_of_tree ?_)
  show wpAny _ _ (callAny (.type "set") _) _ _ _
  refine wpAny_pure ⟨Code.quiet_builtin _ (by decide +kernel), codeAny_builtin PySem.F.entry_type_call ?_⟩
  rw [Around.under_plain (weight_type_call_type "set" [.ref d] []) rfl]
  repeat (any_goals (first | assumption | wp_step))
  refine new1 (.ref d) ?_
  have at0 : (s.heap.push (empty w)).get? s.heap.objs.size = some (empty w) := Heap.get?_push_size _ rfl
  have ty : Shared.TypeIs { s with heap := s.heap.push (empty w) } (.ref s.heap.objs.size) "set" := ⟨_, at0, rfl⟩
  have i1 := PySem.F.called_set.init.lookup
  have i2 := PySem.F.called_set.init.bind (.ref s.heap.objs.size)
  show wpAny _ _ _ _ _ _
  repeat (any_goals (first | assumption | wp_step))
  refine init_dict lo hO hl fun h' ms S mm len kp => ?_
  show wpAny _ _ _ _ _ _
  repeat (any_goals (first | assumption | wp_step))
  exact h _ _ S mm len kp
end
end SetL
section
variable {X : Cx}
/-- set(d), d a dict by whole numbers -/
theorem call_setD : CallR X (.type "set") (fun xs H Q => ∃ (d : Addr) (l : List (Int × V)), xs = [.ref d] ∧ H d = some (DictV X.prog X.w d l) ∧ l.length < 64 ∧
    ∀ (p : Addr) (H' : Hp) (ms : List Int), H p = none → Same H H' → H' p = some (SetO X.prog X.w p ms) → ms.Nodup → (∀ m, m ∈ ms ↔ m ∈ l.map (·.1)) → ms.length ≤ l.length → Q (.ref p) H') := by
  intro pins s σ H xs us Q I r h
  obtain ⟨d, l, rfl, hd, hl, q⟩ := h
  obtain ⟨u, rfl, rx⟩ := vals1 r
  cases rx
  obtain ⟨lo, kvs, hO, hk⟩ := (I.hok d _ hd).1
  have kl := hk.length
  have ke : kvs.map (·.1) = l.map (·.1) := by
    clear hO hd q hl kl
    induction hk with
    | nil => rfl
    | cons _ _ ih => rw [List.map_cons, List.map_cons, ih]
  refine SetL.set_of_dict lo hO (by omega) fun h' ms S mm lm kp => ?_
  have k : ∀ b o, s.heap.get? b = some o → h'.get? b = some o := fun b o e => kp b o (Heap.lt_size e) e
  refine ⟨.ref s.heap.objs.size, _, I.laid (o := SetO X.prog X.w s.heap.objs.size ms) k (Nat.le_refl _) ⟨S, S.obj, fun h1 h2 p e => p.keep e⟩, rfl, q _ _ ms (I.hok.fresh (Nat.le_refl _)) (same_new (I.hok.fresh (Nat.le_refl _)) _) upd_same S.nd (fun m => by rw [mm, ke]) (by omega)⟩
def rSetOr (P : Program) (w : World) : R2 := fun x y H Q => ∃ a b ms ns, x = .ref a ∧ y = .ref b ∧ H a = some (SetO P w a ms) ∧ H b = some (SetO P w b ns) ∧ ms.length + ns.length < 64 ∧
  ∀ (p : Addr) (H' : Hp) (ls : List Int), H p = none → Same H H' → H' p = some (SetO P w p ls) → ls.Nodup → (∀ m, m ∈ ls ↔ m ∈ ms ∨ m ∈ ns) → ls.length ≤ ms.length + ns.length → Q (.ref p) H'
theorem setI_det {P : Program} {w : World} {h : Heap} {a : Addr} {ms ns : List Int} (S : SetL.SetI P w h a ms) (T : SetL.SetI P w h a ns) : ms = ns := by
  obtain ⟨⟨o, es, ep, t, ⟨ho, hex, hd⟩, _, _, rfl⟩, nd⟩ := S
  obtain ⟨⟨o', es', ep', t', ⟨ho', hex', hd'⟩, _, _, rfl⟩, nd'⟩ := T
  obtain rfl : o = o' := Option.some.inj (ho.symm.trans ho')
  rw [hd] at hd'
  cases hd'
  rfl
theorem op_setOr : OpR X (binaryOp .BitOr) (rSetOr X.prog X.w) := by
  intro pins s σ H x y v u Q I rx ry h
  obtain ⟨a, b, ms, ns, rfl, rfl, ha, hb, hl, q⟩ := h
  cases rx
  cases ry
  have S := (I.hok a _ ha).1
  have B := (I.hok b _ hb).1
  refine SetL.or_set S B hl (fun e => by subst e; exact setI_det S B) fun h' d ls kp S' mm len => ?_
  have I1 := I.laid (o := SetO X.prog X.w s.heap.objs.size ls) (t' := s.toks) kp (Nat.le_refl _) ⟨S', S'.obj, fun h1 h2 p e => p.keep e⟩
  exact ⟨.ref s.heap.objs.size, _, I1.drew d, rfl, q _ _ ls (I.hok.fresh (Nat.le_refl _)) (same_new (I.hok.fresh (Nat.le_refl _)) _) upd_same S'.nd mm len⟩
end
section
variable {X : Cx} {o e : Expr} {apos cpos : Pos} {td ty : TE}
theorem op_neDK (K : PySem.W.Frag) (hu : X.A.units + 64 < cLine) (hK : X.K = K := by rfl) : OpR X (compareOp .NotEq) (rNeD K) := by
  subst hK
  exact op_neD hu
/-- d.get(k) -/
def tGet1V (P : Program) (w : World) (td ty : TE) : TE := fun σ H Q => td σ H fun x H1 => ∃ (d : Addr) (l : List (Int × V)), x = .ref d ∧ H1 d = some (DictV P w d l) ∧ ty σ H1 fun y H2 => ∃ (k : Int), y = .int k ∧ H2 d = some (DictV P w d l) ∧ Q ((lkV l k).getD .non) H2
theorem pe_get1V (P : Program) (w : World) (ho : PE X o td) (he : PE X e ty) (hb : attributeBase o "get" X.env (eval o X.env) = eval o X.env := by rfl)
    (few : ((backTo cpos (starEach [e] X.env)).all (fun x => !x.1) && (backToKw cpos (keywordEach [] X.env)).all (fun x => x.1.isSome)
      && decide (([e] : List Expr).length + ([] : List Keyword).length + (if ([] : List Keyword).isEmpty then 0 else 1) < 30)) = true := by rfl)
    (line : (apos.endLine == cpos.line) = true := by rfl) (trees : backTo cpos (starEach [e] X.env) = [(false, eval e X.env)] := by rfl) (hP : X.prog = P := by rfl) (hw : X.w = w := by rfl) : PE X (.Call (.Attribute o "get" apos) [e] [] cpos) (tGet1V P w td ty) := by
  subst hP hw
  intro pins s σ H Q I h
  refine wpAny_Call_method hb few line PySem.F.plainAttrs_dict PySem.F.slot_dict_get PySem.F.type_dict_get (thn (ho pins s σ H _ I h) fun u s1 ⟨x, H1, I1, rx, d, l, ex, hd, q1⟩ => ?_)
  subst ex
  obtain rfl : u = Value.ref d := rx
  obtain ⟨lo, kvs, hD, hk⟩ := (I1.hok d _ hd).1
  refine ⟨hD.typeIs, hD.mapOf.noDict, ?_⟩
  rw [trees]
  refine Calls.callWith_builtin rfl (Calls.evalArgs_plain (Calls.spliced_cons (thn (he pins s1 σ H1 _ I1 q1) fun iv s2 ⟨y, H2, I2, ry, k, ek, hd3, q3⟩ => Calls.spliced_nil ?_)))
  subst ek
  obtain ⟨t, rfl⟩ := ry
  obtain ⟨lo3, kvs3, hD3, hk3⟩ := (I2.hok d _ hd3).1
  exact call_meetsIn PySem.F.slot_dict_get hD3.typeIs PySem.F.entry_dict_get (PySem.F.args_dict_get_2 _ _) (meets_dict_get (intKind X.prog X.w) d isI lo3) ⟨_, hD3.mapOf, _, H2, I2.tok _, hk3.look (show RelV .non Value.none from rfl), q3⟩
end
end L2
/-! ### rolls: deeds, what stands -/
namespace L2
open PySem PySem.Spec PyProof.Rows
section
variable {X : Cx}
theorem call_sortedKV (hc : X.calm = true) (hex : X.ex = [] := by rfl) : CallR X (.builtin "sorted") (fun xs H Q => ∃ (d : Addr) (l : List (Int × V)), xs = [.ref d] ∧ H d = some (DictV X.prog X.w d l) ∧ l.length < 64 ∧
    ∀ (q : Addr) (H' : Hp) (ns : List Int), H q = none → Same H H' → H' q = some (.lst (ns.map V.int)) → ns.Perm (l.map (·.1)) → ns.Pairwise (· ≤ ·) → Q (.ref q) H') := by
  intro pins s σ H xs us Q I r h
  obtain ⟨d, l, rfl, hd, hl, q⟩ := h
  obtain ⟨u, rfl, rx⟩ := vals1 r
  cases rx
  obtain ⟨lo, kvs, hO, hk⟩ := (I.hok d _ hd).1
  obtain ⟨ep, hD⟩ := hO.dictAt
  have kl := hk.length
  refine Calls.call_function_entry kind_sorted plain_sorted entry_sorted (args_sorted1 _) ?_
  unfold Builtin.«sorted»
  refine wpAny_bind (m := checkCount "sorted" 1 1 _) (wpAny_pure ?_)
  refine wpAny_bind (PySem.W.kdu_collect (A := X.A.in1) (PySem.W.kdl_dict (knd := intKind X.prog X.w) (kvs := kvs) (ep := ep) lo) (I.ok.hd hc) hD (by rw [sizeLine_eq]; omega) fun h1 tk acc kp hacc => ?_)
  have al : acc.toList.length = l.length := by rw [Array.length_toList, hacc.1, kl]
  have vi : IntsAre acc.toList (l.map (·.1)) := keys_ofV hk al fun j v e => hacc.2 j v (by rw [← Array.getElem?_toList]; exact e)
  have vl : acc.toList.length < 64 := by omega
  have sl : acc.toList.length ≤ sizeLine := by rw [sizeLine_eq]; omega
  refine wpAny_bind (wpAny_newList ?_ (by first | exact sl | simpa using sl))
  have g0 : (h1.push (seqObj "list" acc.toList.toArray 0)).get? h1.objs.size = some (seqObj "list" acc.toList.toArray 0) := Heap.get?_push_size _ rfl
  have ol : s.heap.get? h1.objs.size = none := by
    cases q : s.heap.get? h1.objs.size with
    | none => rfl
    | some u => exact absurd (Heap.lt_size (kp _ _ q)) (Nat.lt_irrefl _)
  show wpAny _ _ _ _ _ { s with heap := h1.push (seqObj "list" acc.toList.toArray 0), toks := tk }
  refine wpAny_bind (wpAny_holding (wpAny_call_entry slot_list_sort ⟨_, g0, rfl⟩ entry_list_sort (list_sort_tree g0 vi vl fun out ns' a1 a2 a3 => ⟨_, rfl, ?_⟩) (args_list_sort _)))
  obtain ⟨n, g1⟩ := sortedHeap_at (out := out) g0
  refine wpAny_pure ⟨_, rfl, ?_⟩
  have keep : ∀ b u, s.heap.get? b = some u → (sortedHeap (h1.push (seqObj "list" acc.toList.toArray 0)) h1.objs.size acc.toList out).get? b = some u := fun b u e => by
    have e1 := kp b u e
    have lt := Heap.lt_size e1
    rw [sortedHeap_old (Nat.ne_of_lt lt) (by rw [size_push']; exact Nat.lt_succ_of_lt lt)]
    exact Heap.get?_push_of_some _ e1
  have v2 : Vals (ns'.map V.int) out.toList := vals_ints a1
  have nl : (ns'.map V.int).length ≤ sizeLine := by rw [List.length_map, a2.length_eq, List.length_map, sizeLine_eq]; omega
  exact ⟨.ref h1.objs.size, _, I.trackNew (o := .lst (ns'.map V.int)) keep ol hex ⟨nl, out.toList, n, v2, by simpa [seqObj] using g1⟩, rfl, q _ _ ns' (I.hok.gone ol) (same_new (I.hok.gone ol) _) upd_same a2 a3⟩
def rNotInV (P : Program) (w : World) : R2 := fun x y H Q => ∃ d l k, x = .int k ∧ y = .ref d ∧ H d = some (DictV P w d l) ∧ Q (.bl (!(lkV l k).isSome)) H
theorem op_notIn_dictV {X : Cx} : OpR X (compareOp .NotIn) (rNotInV X.prog X.w) := by
  intro pins s σ H x y v u Q I rx ry h
  obtain ⟨d, l, k, rfl, rfl, hd, q⟩ := h
  cases ry
  obtain ⟨t, rfl⟩ := rx
  obtain ⟨lo, kvs, hD, hk⟩ := (I.hok d _ hd).1
  refine wpAny_notIn_of (knd := intKind X.prog X.w) isI lo hD.mapOf ⟨.bl _, H, I.tok _, rfl, ?_⟩
  rw [hk.lookN]
  exact q
end
/-! deeds: a day of knowing, a number, an entry or none -/
abbrev Dd := Int × Int × Option Er
/-- the last deed of a number as known on a day -/
def lastD (ds : List Dd) (k n : Int) : Option (Option Er) := ds.foldl (fun acc d => if d.1 ≤ k ∧ d.2.1 = n then some d.2.2 else acc) none
theorem lastD_nil (k n : Int) : lastD [] k n = none := rfl
theorem lastD_snoc (ds : List Dd) (d : Dd) (k n : Int) : lastD (ds ++ [d]) k n = if d.1 ≤ k ∧ d.2.1 = n then some d.2.2 else lastD ds k n := by
  unfold lastD
  rw [List.foldl_append]
  rfl
theorem lastD_later {ds : List Dd} {k k' n : Int} (h : ∀ d ∈ ds, d.1 ≤ k) (le : k ≤ k') : lastD ds k' n = lastD ds k n := by
  unfold lastD
  generalize (none : Option (Option Er)) = z
  induction ds generalizing z with
  | nil => rfl
  | cons d ds ih =>
    have h1 := h d List.mem_cons_self
    simp only [List.foldl_cons]
    have e : (if d.1 ≤ k' ∧ d.2.1 = n then some d.2.2 else z) = if d.1 ≤ k ∧ d.2.1 = n then some d.2.2 else z := by
      by_cases c : d.2.1 = n
      · rw [if_pos ⟨by omega, c⟩, if_pos ⟨h1, c⟩]
      · rw [if_neg fun q => c q.2, if_neg fun q => c q.2]
    rw [e]
    exact ih (fun e he => h e (List.mem_cons_of_mem _ he)) _
/-- what stands: numbers rising, each with its entry -/
structure Stn (ds : List Dd) (k : Int) (l : List (Int × Option Er)) : Prop where
  up : l.Pairwise (fun a b => a.1 < b.1)
  mem : ∀ s, s ∈ l ↔ (lastD ds k s.1 = some s.2 ∧ s.2.isSome = true)
theorem up_pair {α : Type} {l m : List (Int × α)} (hl : l.Pairwise (fun a b => a.1 < b.1)) (hm : m.Pairwise (fun a b => a.1 < b.1)) (h : ∀ s, s ∈ l ↔ s ∈ m) : l = m := by
  induction l generalizing m with
  | nil =>
    cases m with
    | nil => rfl
    | cons b m => exact absurd ((h b).mpr List.mem_cons_self) (by simp)
  | cons a l ih =>
    cases m with
    | nil => exact absurd ((h a).mp List.mem_cons_self) (by simp)
    | cons b m =>
      obtain ⟨a1, a2⟩ := List.pairwise_cons.mp hl
      obtain ⟨b1, b2⟩ := List.pairwise_cons.mp hm
      have ab : a = b := by
        rcases List.mem_cons.mp ((h a).mp List.mem_cons_self) with e | e
        · exact e
        · rcases List.mem_cons.mp ((h b).mpr List.mem_cons_self) with e' | e'
          · exact e'.symm
          · have := b1 a e
            have := a1 b e'
            omega
      subst ab
      rw [ih a2 b2 fun s => ?_]
      constructor
      · intro hs
        rcases List.mem_cons.mp ((h s).mp (List.mem_cons_of_mem _ hs)) with e | e
        · subst e
          exact absurd (a1 s hs) (Int.lt_irrefl _)
        · exact e
      · intro hs
        rcases List.mem_cons.mp ((h s).mpr (List.mem_cons_of_mem _ hs)) with e | e
        · subst e
          exact absurd (b1 s hs) (Int.lt_irrefl _)
        · exact e
/-- a dict of what stands, while it is filled -/
def Rop (R : V → Option Er → Prop) : Option V → Option (Option Er) → Prop
  | some v, some o => R v o
  | none, none => True
  | _, _ => False
structure Tld (R : V → Option Er → Prop) (l : List (Int × V)) (ds : List Dd) (k : Int) : Prop where
  nd : (l.map (·.1)).Nodup
  lk : ∀ n, Rop R (lkV l n) (lastD ds k n)
  len : l.length ≤ ds.length
theorem Tld.nil {R : V → Option Er → Prop} {k : Int} : Tld R [] [] k := ⟨.nil, fun n => trivial, Nat.le_refl _⟩
theorem storedV_nodup {l : List (Int × V)} {n : Int} {v : V} (h : (l.map (·.1)).Nodup) : ((storedV l n v).map (·.1)).Nodup := by
  unfold storedV
  split
  · rw [List.map_map]
    rw [show ((fun s : Int × V => s.1) ∘ fun p => if p.1 = n then (p.1, v) else p) = fun s : Int × V => s.1 from funext fun p => by show (if p.1 = n then (p.1, v) else p).1 = p.1; split <;> rfl]
    exact h
  · rename_i z
    rw [List.map_append, List.nodup_append]
    refine ⟨h, by simp, fun a ha b hb => ?_⟩
    simp at hb
    subst hb
    intro e
    subst e
    obtain ⟨p, hp, e⟩ := List.mem_map.mp ha
    exact z (List.any_eq_true.mpr ⟨p, hp, by simpa using e⟩)
theorem Tld.step {R : V → Option Er → Prop} {l : List (Int × V)} {ds : List Dd} {k : Int} {d : Dd} {v : V} (h : Tld R l ds k) (c : d.1 ≤ k) (r : R v d.2.2) : Tld R (storedV l d.2.1 v) (ds ++ [d]) k := ⟨storedV_nodup h.nd, fun n => by
  rw [lkV_stored, lastD_snoc]
  by_cases e : n = d.2.1
  · rw [if_pos e, if_pos ⟨c, e.symm⟩]; exact r
  · rw [if_neg e, if_neg (fun z => e z.2.symm)]; exact h.lk n, by
  have := storedV_length l d.2.1 v
  rw [List.length_append, List.length_singleton]
  have := h.len
  omega⟩
theorem Tld.skip {R : V → Option Er → Prop} {l : List (Int × V)} {ds : List Dd} {k : Int} {d : Dd} (h : Tld R l ds k) (c : ¬ d.1 ≤ k) : Tld R l (ds ++ [d]) k := ⟨h.nd, fun n => by
  rw [lastD_snoc, if_neg fun z => c z.1]; exact h.lk n, by
  rw [List.length_append]
  have := h.len
  omega⟩
/-- by number: what its last deed tells, none where there is none -/
def lastO (ds : List Dd) (k n : Int) : Option Er := (lastD ds k n).getD none
theorem Tld.get {R : V → Option Er → Prop} {l : List (Int × V)} {ds : List Dd} {k n : Int} (h : Tld R l ds k) (hn : n ∈ l.map (·.1)) : ∃ v, lkV l n = some v ∧ lastD ds k n = some (lastO ds k n) ∧ R v (lastO ds k n) := by
  have a := lkV_mem.mpr hn
  have b := h.lk n
  unfold lastO
  cases e : lkV l n with
  | none => rw [e] at a; cases a
  | some v =>
    rw [e] at b
    cases e2 : lastD ds k n with
    | none => rw [e2] at b; exact b.elim
    | some o => rw [e2] at b; exact ⟨v, rfl, rfl, b⟩
theorem Tld.stn {R : V → Option Er → Prop} {l : List (Int × V)} {ds : List Dd} {k : Int} {ns : List Int} (h : Tld R l ds k) (pm : ns.Perm (l.map (·.1))) (up : ns.Pairwise (· ≤ ·)) : Stn ds k ((ns.map fun n => (n, lastO ds k n)).filter fun s => s.2.isSome) := by
  have lt := Sby.up_of (pm.nodup_iff.mpr h.nd) up
  refine ⟨List.Pairwise.filter _ (List.pairwise_map.mpr lt), fun s => ?_⟩
  rw [List.mem_filter, List.mem_map]
  constructor
  · rintro ⟨⟨n, hn, rfl⟩, hs⟩
    obtain ⟨v, _, e, _⟩ := h.get (pm.mem_iff.mp hn)
    exact ⟨e, hs⟩
  · rintro ⟨e, hs⟩
    refine ⟨⟨s.1, ?_, ?_⟩, hs⟩
    · rw [pm.mem_iff]
      refine lkV_mem.mp ?_
      have b := h.lk s.1
      rw [e] at b
      cases e2 : lkV l s.1 with
      | none => rw [e2] at b; exact b.elim
      | some v => rfl
    · unfold lastO
      rw [e]
      rfl
/-! on the heap -/
def EntV (K : PySem.W.Frag) (H : Hp) (u : V) : Option Er → Prop
  | none => u = .non
  | some e => ∃ a dx, u = .ref a ∧ IsEnt K H a dx e.1 e.2.1 e.2.2
def RowV (H : Hp) (u : V) : Option Er → Prop
  | none => u = .non
  | some e => ∃ r, u = .ref r ∧ H r = some (.tup (rowV e.1 e.2.1 e.2.2))
theorem EntV.same {K : PySem.W.Frag} {H H' : Hp} {u : V} {o : Option Er} (h : EntV K H u o) (s : Same H H') : EntV K H' u o := by
  cases o with
  | none => exact h
  | some e => obtain ⟨a, dx, e1, e2⟩ := h; exact ⟨a, dx, e1, s _ _ e2⟩
theorem RowV.same {H H' : Hp} {u : V} {o : Option Er} (h : RowV H u o) (s : Same H H') : RowV H' u o := by
  cases o with
  | none => exact h
  | some e => obtain ⟨a, e1, e2⟩ := h; exact ⟨a, e1, s _ _ e2⟩
theorem EntV.putL {K : PySem.W.Frag} {H : Hp} {u : V} {o : Option Er} {l : Addr} {xs : List V} {z : HO} (h : EntV K H u o) (e : H l = some (.lst xs)) : EntV K (upd H l z) u o := by
  cases o with
  | none => exact h
  | some e' => obtain ⟨a, dx, e1, e2⟩ := h; exact ⟨a, dx, e1, by show (upd H l z) a = _; rw [upd_ne (ne_of e2 e (by intro z; cases z))]; exact e2⟩
theorem RowV.putL {H : Hp} {u : V} {o : Option Er} {l : Addr} {xs : List V} {z : HO} (h : RowV H u o) (e : H l = some (.lst xs)) : RowV (upd H l z) u o := by
  cases o with
  | none => exact h
  | some e' => obtain ⟨a, e1, e2⟩ := h; exact ⟨a, e1, by rw [upd_ne (ne_of e2 e (by intro z; cases z))]; exact e2⟩
/-- a tuple of a number and a thing -/
def P2E (K : PySem.W.Frag) (H : Hp) (v : V) (s : Int × Option Er) : Prop := ∃ t u, v = .ref t ∧ H t = some (.tup [.int s.1, u]) ∧ EntV K H u s.2
def P2R (H : Hp) (v : V) (s : Int × Option Er) : Prop := ∃ t u, v = .ref t ∧ H t = some (.tup [.int s.1, u]) ∧ RowV H u s.2
def P3E (K : PySem.W.Frag) (H : Hp) (v : V) (d : Dd) : Prop := ∃ t u, v = .ref t ∧ H t = some (.tup [.int d.1, .int d.2.1, u]) ∧ EntV K H u d.2.2
def P3R (H : Hp) (v : V) (d : Dd) : Prop := ∃ t u, v = .ref t ∧ H t = some (.tup [.int d.1, .int d.2.1, u]) ∧ RowV H u d.2.2
section
variable {K : PySem.W.Frag} {H H' : Hp} {v : V} {l : Addr} {xs : List V} {z : HO}
theorem P2E.same {s : Int × Option Er} (h : P2E K H v s) (q : Same H H') : P2E K H' v s := let ⟨t, u, a, b, c⟩ := h; ⟨t, u, a, q _ _ b, c.same q⟩
theorem P2R.same {s : Int × Option Er} (h : P2R H v s) (q : Same H H') : P2R H' v s := let ⟨t, u, a, b, c⟩ := h; ⟨t, u, a, q _ _ b, c.same q⟩
theorem P3E.same {s : Dd} (h : P3E K H v s) (q : Same H H') : P3E K H' v s := let ⟨t, u, a, b, c⟩ := h; ⟨t, u, a, q _ _ b, c.same q⟩
theorem P3R.same {s : Dd} (h : P3R H v s) (q : Same H H') : P3R H' v s := let ⟨t, u, a, b, c⟩ := h; ⟨t, u, a, q _ _ b, c.same q⟩
theorem P2E.putL {s : Int × Option Er} (h : P2E K H v s) (e : H l = some (.lst xs)) : P2E K (upd H l z) v s := let ⟨t, u, a, b, c⟩ := h; ⟨t, u, a, by rw [upd_ne (ne_of b e (by intro z; cases z))]; exact b, c.putL e⟩
theorem P2R.putL {s : Int × Option Er} (h : P2R H v s) (e : H l = some (.lst xs)) : P2R (upd H l z) v s := let ⟨t, u, a, b, c⟩ := h; ⟨t, u, a, by rw [upd_ne (ne_of b e (by intro z; cases z))]; exact b, c.putL e⟩
theorem P3E.putL {s : Dd} (h : P3E K H v s) (e : H l = some (.lst xs)) : P3E K (upd H l z) v s := let ⟨t, u, a, b, c⟩ := h; ⟨t, u, a, by rw [upd_ne (ne_of b e (by intro z; cases z))]; exact b, c.putL e⟩
theorem P3R.putL {s : Dd} (h : P3R H v s) (e : H l = some (.lst xs)) : P3R (upd H l z) v s := let ⟨t, u, a, b, c⟩ := h; ⟨t, u, a, by rw [upd_ne (ne_of b e (by intro z; cases z))]; exact b, c.putL e⟩
end
/-- the roll -/
def rolF (c : Addr) (g : Int) (l : Addr) : List (Str × V) := [("own_count", .ref c), ("own_grace", .int g), ("deeds", .ref l)]
structure RolAt (K : PySem.W.Frag) (H : Hp) (r dx c l : Addr) (kd : Kd) (g : Int) (ds : List Dd) : Prop where
  ins : H r = some (.ins (cA K "Roll") dx (rolF c g l))
  cnt : IsCnt K H c kd
  lst : ∃ vs, H l = some (.lst vs) ∧ LL (P3E K H) vs ds
theorem RolAt.same {K : PySem.W.Frag} {H H' : Hp} {r dx c l : Addr} {kd : Kd} {g : Int} {ds : List Dd} (h : RolAt K H r dx c l kd g ds) (s : Same H H') : RolAt K H' r dx c l kd g ds := ⟨s _ _ h.ins, h.cnt.same s, let ⟨vs, a, b⟩ := h.lst; ⟨vs, s _ _ a, b.imp fun v d q => q.same s⟩⟩
theorem RolAt.put {K : PySem.W.Frag} {H : Hp} {r dx c l : Addr} {kd : Kd} {g : Int} {ds : List Dd} {vs : List V} {v : V} {d : Dd} (h : RolAt K H r dx c l kd g ds) (e : H l = some (.lst vs)) (q : LL (P3E K H) vs ds) (p : P3E K H v d) : RolAt K (upd H l (.lst (vs ++ [v]))) r dx c l kd g (ds ++ [d]) := by
  refine ⟨by rw [upd_ne (ne_of h.ins e (by intro z; cases z))]; exact h.ins, ?_, vs ++ [v], upd_same, (q.imp fun v d q => q.putL e).push (p.putL e)⟩
  obtain ⟨dy, hc⟩ := h.cnt
  exact ⟨dy, by rw [upd_ne (ne_of hc e (by intro z; cases z))]; exact hc⟩
/-! such rows, as data -/
def oDR : Option Er → PyData
  | none => .none
  | some e => .tuple (rowDt e.1 e.2.1 e.2.2)
def p2DR (s : Int × Option Er) : PyData := .tuple [.int s.1, oDR s.2]
theorem rd_oR {K : PySem.W.Frag} {H : Hp} {u : V} {o : Option Er} (h : RowV H u o) : RdV K H u (oDR o) := by
  cases o with
  | none => obtain rfl : u = .non := h; exact .non
  | some e => obtain ⟨r, rfl, hr⟩ := h; exact .tup (SqT.of hr) (rd_row _ _ _)
theorem rd_p2R {K : PySem.W.Frag} {H : Hp} {vs : List V} {l : List (Int × Option Er)} (h : LL (P2R H) vs l) : RdVs K H vs (l.map p2DR) := by
  induction h with
  | nil => exact .nil
  | cons h _ ih =>
    obtain ⟨t, u, rfl, ht, hu⟩ := h
    exact .cons (.tup (SqT.of ht) (.cons (.int _) (.cons (rd_oR hu) .nil))) ih
theorem canLay_oR (o : Option Er) : PyData.canLay0 (oDR o) = true := by
  cases o with
  | none => rfl
  | some e => obtain ⟨k, d, x⟩ := e; cases k <;> simp [oDR, rowDt, PyData.canLay0, PyData.canLayAll0] <;> decide +kernel
theorem depth_oR (o : Option Er) : PyData.depth (oDR o) ≤ 3 := by
  cases o with
  | none => simp [oDR, PyData.depth]
  | some e => obtain ⟨k, d, x⟩ := e; cases k <;> simp [oDR, rowDt, PyData.depth, PyData.depthAll]
theorem canLay_p2R : ∀ l : List (Int × Option Er), PyData.canLayAll0 (l.map p2DR) = true
  | [] => by simp [PyData.canLayAll0]
  | s :: l => by simp [PyData.canLayAll0, PyData.canLay0, p2DR, canLay_oR, canLay_p2R l]
theorem depth_p2R : ∀ l : List (Int × Option Er), PyData.depthAll (l.map p2DR) ≤ 5
  | [] => by simp [PyData.depthAll]
  | s :: l => by
    have h1 := depth_p2R l
    have h2 := depth_oR s.2
    simp only [List.map_cons, PyData.depthAll, p2DR, PyData.depth]
    omega
theorem shaped_p2R (l : List (Int × Option Er)) : SeqAt.shaped (.list (l.map p2DR)) = true := by
  have := depth_p2R l
  simp [SeqAt.shaped, PyData.canLay0, PyData.depth, canLay_p2R]
  omega
theorem eqv_oR (o : Option Er) : PyData.eqv (oDR o) (oDR o) = true := by
  cases o with
  | none => simp [oDR, PyData.eqv]
  | some e => exact eqv_row _ _ _
theorem nodup_leR : ∀ {xs ys : List Int}, xs.Nodup → (∀ x ∈ xs, x ∈ ys) → xs.length ≤ ys.length
  | [], _, _, _ => Nat.zero_le _
  | x :: xs, ys, nd, h => by
    have hx := h x List.mem_cons_self
    obtain ⟨nx, nd'⟩ := List.nodup_cons.mp nd
    have := nodup_leR (ys := ys.erase x) nd' fun z hz => (List.mem_erase_of_ne (fun (q : z = x) => nx (by rw [← q]; exact hz))).mpr (h z (List.mem_cons_of_mem _ hz))
    rw [List.length_erase_of_mem hx] at this
    have := List.length_pos_of_mem hx
    rw [List.length_cons]
    omega
theorem Stn.has {ds : List Dd} {k n : Int} {m : List (Int × Option Er)} (h : Stn ds k m) (hn : n ∈ m.map (·.1)) : ∃ e, lastD ds k n = some (some e) := by
  obtain ⟨s, hs, rfl⟩ := List.mem_map.mp hn
  obtain ⟨a, b⟩ := (h.mem s).mp hs
  cases e : s.2 with
  | none => rw [e] at b; cases b
  | some e' => exact ⟨e', by rw [a, e]⟩
theorem Stn.len {ds : List Dd} {k : Int} {m : List (Int × Option Er)} (h : Stn ds k m) : m.length ≤ ds.length := by
  have nd : (m.map (·.1)).Nodup := (List.pairwise_map.mpr (h.up.imp fun q => (Int.ne_of_lt q)))
  have sub : ∀ n ∈ m.map (·.1), n ∈ ds.map (·.2.1) := fun n hn => by
    obtain ⟨e, he⟩ := h.has hn
    refine Classical.byContradiction fun z => ?_
    have gen : ∀ (l : List Dd), (∀ d ∈ l, d.2.1 ≠ n) → ∀ z, l.foldl (fun acc d => if d.1 ≤ k ∧ d.2.1 = n then some d.2.2 else acc) z = z := by
      intro l
      induction l with
      | nil => intro _ z; rfl
      | cons d l ih =>
        intro hl z
        rw [List.foldl_cons, if_neg (fun q => hl d List.mem_cons_self q.2)]
        exact ih (fun d hd => hl d (List.mem_cons_of_mem _ hd)) z
    have := gen ds (fun d hd q => z (List.mem_map.mpr ⟨d, hd, q⟩)) none
    unfold lastD at he
    rw [this] at he
    cases he
  have := nodup_leR nd sub
  rwa [List.length_map, List.length_map] at this
end L2
/-! ### rolls: few numbers, what is changed -/
namespace L2
open PySem PySem.Spec PyProof.Rows
theorem lastD_mem {ds : List Dd} {k n : Int} {o : Option Er} (h : lastD ds k n = some o) : ∃ d ∈ ds, d.1 ≤ k ∧ d.2.1 = n ∧ d.2.2 = o := by
  have gen : ∀ (l : List Dd) (z : Option (Option Er)), l.foldl (fun acc d => if d.1 ≤ k ∧ d.2.1 = n then some d.2.2 else acc) z = some o → z = some o ∨ ∃ d ∈ l, d.1 ≤ k ∧ d.2.1 = n ∧ d.2.2 = o := by
    intro l
    induction l with
    | nil => intro z e; exact .inl e
    | cons d l ih =>
      intro z e
      rcases ih _ e with q | ⟨d', h', r⟩
      · dsimp only at q
        by_cases c : d.1 ≤ k ∧ d.2.1 = n
        · rw [if_pos c] at q
          exact .inr ⟨d, List.mem_cons_self, c.1, c.2, Option.some.inj q⟩
        · rw [if_neg c] at q
          exact .inl q
      · exact .inr ⟨d', List.mem_cons_of_mem _ h', r⟩
  rcases gen ds none h with q | q
  · cases q
  · exact q
theorem lastD_in {ds : List Dd} {k n : Int} {o : Option Er} {ms : List Int} (h : lastD ds k n = some o) (hm : ∀ d ∈ ds, d.2.1 ∈ ms) : n ∈ ms := by
  obtain ⟨d, hd, _, e, _⟩ := lastD_mem h
  rw [← e]
  exact hm d hd
theorem Tld.few {R : V → Option Er → Prop} {l : List (Int × V)} {ds : List Dd} {k : Int} {ms : List Int} (h : Tld R l ds k) (hm : ∀ d ∈ ds, d.2.1 ∈ ms) : l.length ≤ ms.length := by
  have := nodup_leR h.nd (ys := ms) fun n hn => by
    obtain ⟨v, _, e, _⟩ := h.get hn
    exact lastD_in e hm
  rwa [List.length_map] at this
theorem Stn.few {ds : List Dd} {k : Int} {m : List (Int × Option Er)} {ms : List Int} (h : Stn ds k m) (hm : ∀ d ∈ ds, d.2.1 ∈ ms) : m.length ≤ ms.length := by
  have nd : (m.map (·.1)).Nodup := (List.pairwise_map.mpr (h.up.imp fun q => (Int.ne_of_lt q)))
  have := nodup_leR nd (ys := ms) fun n hn => by
    obtain ⟨e, he⟩ := h.has hn
    exact lastD_in he hm
  rwa [List.length_map] at this
/-- a dict of rows by number -/
structure RnIs (H : Hp) (t : List (Int × V)) (ds : List Dd) (k : Int) : Prop where
  lk : ∀ n, RowV H ((lkV t n).getD .non) (lastO ds k n)
  ky : ∀ n, n ∈ t.map (·.1) ↔ (lastO ds k n).isSome = true
theorem RnIs.same {H H' : Hp} {t : List (Int × V)} {ds : List Dd} {k : Int} (h : RnIs H t ds k) (s : Same H H') : RnIs H' t ds k := ⟨fun n => (h.lk n).same s, h.ky⟩
theorem lkV_cons (a : Int) (u : V) (t : List (Int × V)) (n : Int) : lkV ((a, u) :: t) n = if a = n then some u else lkV t n := by
  unfold lkV
  by_cases c : a = n
  · rw [if_pos c, List.find?_cons_of_pos (by simpa using c)]
    rfl
  · rw [if_neg c, List.find?_cons_of_neg (by simpa using c)]
/-- pairs of a number and a row, in turn -/
inductive PR (H : Hp) : List (Int × V) → List (Int × Option Er) → Prop
  | nil : PR H [] []
  | cons {p : Int × V} {s : Int × Option Er} {t : List (Int × V)} {m : List (Int × Option Er)} : (p.1 = s.1 ∧ RowV H p.2 s.2) → PR H t m → PR H (p :: t) (s :: m)
theorem PR.lkv {H : Hp} {t : List (Int × V)} {m : List (Int × Option Er)} (h : PR H t m) (n : Int) : (∃ u s, lkV t n = some u ∧ s ∈ m ∧ s.1 = n ∧ RowV H u s.2) ∨ (lkV t n = none ∧ ∀ s ∈ m, s.1 ≠ n) := by
  induction h with
  | nil => exact .inr ⟨rfl, fun s hs => by cases hs⟩
  | @cons p s t m h _ ih =>
    obtain ⟨a, u⟩ := p
    obtain ⟨h1, h2⟩ := h
    rw [lkV_cons]
    by_cases c : a = n
    · rw [if_pos c]
      exact .inl ⟨u, s, rfl, List.mem_cons_self, by rw [← h1]; exact c, h2⟩
    · rw [if_neg c]
      rcases ih with ⟨u', s', e, hs, r⟩ | ⟨e, r⟩
      · exact .inl ⟨u', s', e, List.mem_cons_of_mem _ hs, r⟩
      · refine .inr ⟨e, fun s' hs => ?_⟩
        rcases List.mem_cons.mp hs with rfl | hs
        · rw [← h1]; exact c
        · exact r s' hs
theorem Stn.lastO {ds : List Dd} {k : Int} {m : List (Int × Option Er)} (st : Stn ds k m) {s : Int × Option Er} (hs : s ∈ m) : L2.lastO ds k s.1 = s.2 ∧ s.2.isSome = true := by
  obtain ⟨a, b⟩ := (st.mem s).mp hs
  unfold L2.lastO
  rw [a]
  exact ⟨rfl, b⟩
theorem Stn.lastN {ds : List Dd} {k n : Int} {m : List (Int × Option Er)} (st : Stn ds k m) (h : ∀ s ∈ m, s.1 ≠ n) : L2.lastO ds k n = none := by
  unfold L2.lastO
  cases e : lastD ds k n with
  | none => rfl
  | some o =>
    cases o with
    | none => rfl
    | some x => exact absurd rfl (h (n, some x) ((st.mem _).mpr ⟨e, rfl⟩))
theorem RnIs.of {H : Hp} {t : List (Int × V)} {m : List (Int × Option Er)} {ds : List Dd} {k : Int} (h : PR H t m) (st : Stn ds k m) : RnIs H t ds k := by
  refine ⟨fun n => ?_, fun n => ?_⟩
  · rcases h.lkv n with ⟨u, s, e, hs, rfl, hr⟩ | ⟨e, hn⟩
    · rw [e, (st.lastO hs).1]
      exact hr
    · rw [e, st.lastN hn]
      rfl
  · rw [← lkV_mem]
    rcases h.lkv n with ⟨u, s, e, hs, rfl, hr⟩ | ⟨e, hn⟩
    · obtain ⟨a, b⟩ := st.lastO hs
      rw [e, a, b]
      exact ⟨fun _ => rfl, fun _ => rfl⟩
    · rw [e, st.lastN hn]
      exact ⟨fun z => (by cases z), fun z => (by cases z)⟩
theorem rowsV2 {K : PySem.W.Frag} {H : Hp} {ys : List V} {m : List (Int × Option Er)} (h : LL (P2R H) ys m) : ∃ l : List (Int × V), RowsV K H ys l ∧ PR H l m := by
  induction h with
  | nil => exact ⟨[], .nil, .nil⟩
  | cons h _ ih =>
    obtain ⟨l, a, b⟩ := ih
    obtain ⟨t, u, rfl, ht, hu⟩ := h
    exact ⟨(_, u) :: l, .cons ⟨t, rfl, ht⟩ a, .cons ⟨rfl, hu⟩ b⟩
theorem PR.keys {H : Hp} {t : List (Int × V)} {m : List (Int × Option Er)} (h : PR H t m) : t.map (·.1) = m.map (·.1) := by
  induction h with
  | nil => rfl
  | cons h _ ih => rw [List.map_cons, List.map_cons, ih, h.1]
theorem Stn.nodup {ds : List Dd} {k : Int} {m : List (Int × Option Er)} (h : Stn ds k m) : (m.map (·.1)).Nodup := List.pairwise_map.mpr (h.up.imp fun q => (Int.ne_of_lt q))
/-! what is changed -/
def isCh (ds : List Dd) (a b n : Int) : Bool := !PyData.eqv (oDR (lastO ds a n)) (oDR (lastO ds b n))
structure ChgIs (ds : List Dd) (a b : Int) (ns : List Int) : Prop where
  up : ns.Pairwise (· < ·)
  mem : ∀ n, n ∈ ns ↔ isCh ds a b n = true
theorem up_int {l m : List Int} (hl : l.Pairwise (· < ·)) (hm : m.Pairwise (· < ·)) (h : ∀ s, s ∈ l ↔ s ∈ m) : l = m := by
  have := up_pair (l := l.map fun n => (n, ())) (m := m.map fun n => (n, ())) (List.pairwise_map.mpr hl) (List.pairwise_map.mpr hm) fun s => by
    obtain ⟨s, ⟨⟩⟩ := s
    simpa using h s
  have := congrArg (List.map Prod.fst) this
  simpa [List.map_map, Function.comp_def] using this
theorem ChgIs.eq {ds : List Dd} {a b : Int} {l m : List Int} (h : ChgIs ds a b l) (g : ChgIs ds a b m) : l = m := up_int h.up g.up fun n => (h.mem n).trans (g.mem n).symm
theorem eqv_oR_comm (o p : Option Er) : PyData.eqv (oDR o) (oDR p) = PyData.eqv (oDR p) (oDR o) := by
  cases o with
  | none => cases p <;> simp [oDR, PyData.eqv]
  | some e =>
    cases p with
    | none => simp [oDR, PyData.eqv]
    | some f =>
      obtain ⟨k, d, x⟩ := e
      obtain ⟨k', d', x'⟩ := f
      cases k <;> cases k' <;> simp [oDR, rowDt, PyData.eqv, PyData.eqvAll, Bool.beq_comm, BEq.comm]
theorem ChgIs.symm {ds : List Dd} {a b : Int} {l : List Int} (h : ChgIs ds a b l) : ChgIs ds b a l := ⟨h.up, fun n => by rw [h.mem]; unfold isCh; rw [eqv_oR_comm]⟩
theorem ChgIs.of {H1 H2 : Hp} {t1 t2 : List (Int × V)} {ds : List Dd} {a b : Int} {nums : List Int} (r1 : RnIs H1 t1 ds a) (r2 : RnIs H2 t2 ds b) (up : nums.Pairwise (· < ·)) (hm : ∀ n, n ∈ nums ↔ n ∈ t1.map (·.1) ∨ n ∈ t2.map (·.1)) : ChgIs ds a b (nums.filter (isCh ds a b)) := by
  refine ⟨List.Pairwise.filter _ up, fun n => ?_⟩
  rw [List.mem_filter]
  refine ⟨fun h => h.2, fun h => ⟨?_, h⟩⟩
  rw [hm, r1.ky, r2.ky]
  unfold isCh at h
  cases e1 : lastO ds a n with
  | some _ => exact .inl rfl
  | none =>
    cases e2 : lastO ds b n with
    | some _ => exact .inr rfl
    | none =>
      rw [e1, e2, eqv_oR] at h
      cases h
/-- rows, or () where there is none -/
def oDE : Option Er → PyData
  | none => .tuple []
  | some e => .tuple (rowDt e.1 e.2.1 e.2.2)
theorem eqv_oE (o p : Option Er) : PyData.eqv (oDE o) (oDE p) = PyData.eqv (oDR o) (oDR p) := by
  cases o with
  | none =>
    cases p with
    | none => simp [oDE, oDR, PyData.eqv, PyData.eqvAll]
    | some f =>
      obtain ⟨k', d', x'⟩ := f
      cases k' <;> simp [oDE, oDR, rowDt, PyData.eqv, PyData.eqvAll]
  | some e =>
    cases p with
    | none =>
      obtain ⟨k', d', x'⟩ := e
      cases k' <;> simp [oDE, oDR, rowDt, PyData.eqv, PyData.eqvAll]
    | some f => rfl
theorem shaped_oR (o : Option Er) : SeqAt.shaped (oDR o) = true := by
  have := depth_oR o
  simp [SeqAt.shaped, canLay_oR]
  omega
theorem shaped_oE (o : Option Er) : SeqAt.shaped (oDE o) = true := by
  cases o with
  | none => simp [SeqAt.shaped, oDE, PyData.canLay0, PyData.canLayAll0, PyData.depth, PyData.depthAll]
  | some e => exact shaped_oR (some e)
theorem RnIs.rdR {K : PySem.W.Frag} {H : Hp} {t : List (Int × V)} {ds : List Dd} {k : Int} (h : RnIs H t ds k) (n : Int) : RdV K H ((lkV t n).getD .non) (oDR (lastO ds k n)) := rd_oR (h.lk n)
theorem RnIs.rdE {K : PySem.W.Frag} {H : Hp} {t : List (Int × V)} {ds : List Dd} {k : Int} {p : Addr} (h : RnIs H t ds k) (hp : H p = some (.tup [])) (n : Int) : RdV K H ((lkV t n).getD (.ref p)) (oDE (lastO ds k n)) := by
  have a := h.lk n
  have b := h.ky n
  rw [← lkV_mem] at b
  cases e : lkV t n with
  | none =>
    rw [e] at a b
    cases e2 : lastO ds k n with
    | none => exact .tup (SqT.of hp) .nil
    | some x => rw [e2] at b; exact absurd (b.mpr rfl) (by simp)
  | some u =>
    rw [e] at a b
    cases e2 : lastO ds k n with
    | none => rw [e2] at b; exact absurd (b.mp rfl) (by simp)
    | some x =>
      rw [e2] at a
      exact rd_oR a
/-- deeds as they are drawn, some of them told again -/
structure DdsA (b m : Int) (ds : List Dd) : Prop where
  kn : ∀ d ∈ ds, 0 ≤ d.1 ∧ d.1 ≤ 999999
  up : ds.Pairwise (fun a b => a.1 ≤ b.1)
  mb : 1 ≤ m ∧ m ≤ 1000000000
  nr : ∀ d ∈ ds, d.2.1 ∈ [1, 2, 3, m, 7, 1000000000, 8, 20]
  row : ∀ d ∈ ds, ∀ e, d.2.2 = some e → e.1 ≠ .base ∧ GoodRow e.1 e.2.1 e.2.2 ∧ (b ≤ e.2.1 ∧ e.2.1 < b + 120) ∧ (e.1 = .still → e.2.2 ≤ e.2.1 + 40)
  str : ∀ (i : Nat) d, ds[i]? = some d → d.2.2 = none → ∃ e, lastD (ds.take i) d.1 d.2.1 = some (some e)
theorem DdsA.num {b m : Int} {ds : List Dd} (h : DdsA b m ds) : ∀ d ∈ ds, 1 ≤ d.2.1 ∧ d.2.1 ≤ 1000000000 := fun d hd => by
  have ⟨m0, m1⟩ := h.mb
  have := h.nr d hd
  simp only [List.mem_cons, List.not_mem_nil, or_false] at this
  omega
theorem DdsA.nil {b m : Int} (mb : 1 ≤ m ∧ m ≤ 1000000000) : DdsA b m [] := ⟨fun d hd => by (cases hd), .nil, mb, fun d hd => by (cases hd), fun d hd => by (cases hd), fun i d hd => by simp at hd⟩
theorem DdsA.snoc {b m : Int} {ds : List Dd} {d : Dd} (h : DdsA b m ds) (hk : ∀ e ∈ ds, e.1 ≤ d.1) (d0 : 0 ≤ d.1 ∧ d.1 ≤ 999999) (hn : d.2.1 ∈ [1, 2, 3, m, 7, 1000000000, 8, 20])
    (hr : ∀ e, d.2.2 = some e → e.1 ≠ .base ∧ GoodRow e.1 e.2.1 e.2.2 ∧ (b ≤ e.2.1 ∧ e.2.1 < b + 120) ∧ (e.1 = .still → e.2.2 ≤ e.2.1 + 40)) (hs : d.2.2 = none → ∃ e, lastD ds d.1 d.2.1 = some (some e)) : DdsA b m (ds ++ [d]) := by
  have mem : ∀ {p : Dd → Prop}, (∀ e ∈ ds, p e) → p d → ∀ e ∈ ds ++ [d], p e := fun h1 h2 e he => by
    rcases List.mem_append.mp he with he | he
    · exact h1 e he
    · obtain rfl : e = d := by simpa using he
      exact h2
  refine ⟨mem h.kn d0, ?_, h.mb, mem h.nr hn, mem h.row hr, fun i c hc hn => ?_⟩
  · rw [List.pairwise_append]
    refine ⟨h.up, by simp, fun a ha c hc => ?_⟩
    obtain rfl : c = d := by simpa using hc
    exact hk a ha
  · by_cases hi : i < ds.length
    · rw [List.getElem?_append_left hi] at hc
      rw [List.take_append_of_le_length (Nat.le_of_lt hi)]
      exact h.str i c hc hn
    · have : i = ds.length := by
        have := (List.getElem?_eq_some_iff.mp hc).1
        rw [List.length_append, List.length_singleton] at this
        omega
      subst this
      rw [List.getElem?_append_right (Nat.le_refl _), Nat.sub_self] at hc
      obtain rfl : d = c := by simpa using hc
      rw [List.take_left]
      exact hs hn
theorem DdsA.le {b m : Int} {ds : List Dd} (h : DdsA b m ds) {i : Nat} {d : Dd} (hd : ds[i]? = some d) : ∀ e ∈ ds.take i, e.1 ≤ d.1 := fun e he => by
  have pw := h.up
  rw [(List.take_append_drop i ds).symm, List.pairwise_append] at pw
  exact pw.2.2 e he d (List.mem_iff_getElem?.mpr ⟨0, by rw [List.getElem?_drop]; simpa using hd⟩)
end L2
namespace Cal
def leap (y : Int) : Bool := decide (y % 4 = 0) && (!decide (y % 100 = 0) || decide (y % 400 = 0))
def lp (y : Int) : Int := if leap y = true then 1 else 0
def mlen (y m : Int) : Int := if m = 2 then 28 + lp y else 31 - (m - 1) % 7 % 2
def ny (y : Int) : Int := 365 * (y - 2000) + (y - 2000 + 3) / 4 - (y - 2000 + 99) / 100 + (y - 2000 + 399) / 400
def cum (y m : Int) : Int :=
  if m = 1 then 0 else if m = 2 then 31 else
  lp y + (if m = 3 then 59 else if m = 4 then 90 else if m = 5 then 120 else if m = 6 then 151 else if m = 7 then 181 else if m = 8 then 212
    else if m = 9 then 243 else if m = 10 then 273 else if m = 11 then 304 else 334)
def num (y m d : Int) : Int := ny y + cum y m + d - 1
structure IsDate (y m d : Int) : Prop where
  m1 : 1 ≤ m
  m2 : m ≤ 12
  d1 : 1 ≤ d
  d2 : d ≤ mlen y m

theorem st4 (y : Int) : (y + 1 - 2000 + 3) / 4 = (y - 2000 + 3) / 4 + (if y % 4 = 0 then 1 else 0) := by split <;> omega
theorem st100 (y : Int) : (y + 1 - 2000 + 99) / 100 = (y - 2000 + 99) / 100 + (if y % 100 = 0 then 1 else 0) := by split <;> omega
theorem st400 (y : Int) : (y + 1 - 2000 + 399) / 400 = (y - 2000 + 399) / 400 + (if y % 400 = 0 then 1 else 0) := by split <;> omega
theorem ny_lin {y b d f p q r : Int} : 365 * (y + 1 - 2000) + (b + p) - (d + q) + (f + r) = 365 * (y - 2000) + b - d + f + 365 + (p - q + r) := by omega
theorem lp_eq (y : Int) : lp y = (if y % 4 = 0 then 1 else 0) - (if y % 100 = 0 then 1 else 0) + (if y % 400 = 0 then 1 else 0) := by
  have h1 : y % 100 = 0 → y % 4 = 0 := by omega
  have h2 : y % 400 = 0 → y % 100 = 0 := by omega
  unfold lp leap
  by_cases a : y % 4 = 0
  · by_cases b : y % 100 = 0
    · by_cases c : y % 400 = 0
      · rw [if_pos a, if_pos b, if_pos c, decide_eq_true a, decide_eq_true b, decide_eq_true c]; rfl
      · rw [if_pos a, if_pos b, if_neg c, decide_eq_true a, decide_eq_true b, decide_eq_false c]; rfl
    · rw [if_pos a, if_neg b, if_neg (fun c => b (h2 c)), decide_eq_true a, decide_eq_false b]; rfl
  · rw [if_neg a, if_neg (fun b => a (h1 b)), if_neg (fun c => a (h1 (h2 c))), decide_eq_false a]; rfl
theorem ny_succ (y : Int) : ny (y + 1) = ny y + 365 + lp y := by
  unfold ny
  rw [st4, st100, st400, lp_eq]
  exact ny_lin
def cumL (l m : Int) : Int :=
  if m = 1 then 0 else if m = 2 then 31 else
  l + (if m = 3 then 59 else if m = 4 then 90 else if m = 5 then 120 else if m = 6 then 151 else if m = 7 then 181 else if m = 8 then 212
    else if m = 9 then 243 else if m = 10 then 273 else if m = 11 then 304 else 334)
def mlenL (l m : Int) : Int := if m = 2 then 28 + l else 31 - (m - 1) % 7 % 2
theorem tabL : ∀ l : Bool, ∀ k : Fin 12, (28 ≤ mlenL l.toInt (k.val + 1) ∧ mlenL l.toInt (k.val + 1) ≤ 31) ∧
    (0 ≤ cumL l.toInt (k.val + 1) ∧ cumL l.toInt (k.val + 1) + mlenL l.toInt (k.val + 1) ≤ 365 + l.toInt) ∧
    (k.val < 11 → cumL l.toInt (k.val + 1 + 1) = cumL l.toInt (k.val + 1) + mlenL l.toInt (k.val + 1)) ∧ cumL l.toInt 12 + mlenL l.toInt 12 = 365 + l.toInt := by decide
theorem lpB (y : Int) : lp y = (leap y).toInt := by unfold lp; cases leap y <;> rfl
theorem monB {m : Int} (h1 : 1 ≤ m) (h2 : m ≤ 12) : ∃ k : Fin 12, m = k.val + 1 := ⟨⟨(m - 1).toNat, by omega⟩, by show m = ((m - 1).toNat : Int) + 1; omega⟩
theorem cumE (y m : Int) : cum y m = cumL (leap y).toInt m := by rw [← lpB]; rfl
theorem mlenE (y m : Int) : mlen y m = mlenL (leap y).toInt m := by rw [← lpB]; rfl
theorem cum_succ {y m : Int} (h1 : 1 ≤ m) (h2 : m ≤ 11) : cum y (m + 1) = cum y m + mlen y m := by
  obtain ⟨k, rfl⟩ := monB h1 (Int.le_trans h2 (by decide))
  rw [cumE, cumE, mlenE]
  exact (tabL (leap y) k).2.2.1 (by omega)
theorem mlen_in {y m : Int} (h1 : 1 ≤ m) (h2 : m ≤ 12) : 28 ≤ mlen y m ∧ mlen y m ≤ 31 := by
  obtain ⟨k, rfl⟩ := monB h1 h2
  rw [mlenE]
  exact (tabL (leap y) k).1
theorem cum_12 (y : Int) : cum y 12 + mlen y 12 = 365 + lp y := by
  rw [cumE, mlenE, lpB]
  exact (tabL (leap y) 0).2.2.2
def ms (M : Int) : Int := ny (M / 12) + cum (M / 12) (M % 12 + 1)
def ml (M : Int) : Int := mlen (M / 12) (M % 12 + 1)
theorem ml_in (M : Int) : 28 ≤ ml M ∧ ml M ≤ 31 := mlen_in (by omega) (by omega)
theorem ms_succ (M : Int) : ms (M + 1) = ms M + ml M := by
  unfold ms ml
  by_cases h : M % 12 = 11
  · have e1 : (M + 1) / 12 = M / 12 + 1 := by omega
    have e2 : (M + 1) % 12 = 0 := by omega
    rw [e1, e2, h, ny_succ]
    have := cum_12 (M / 12)
    simp only [show (11 : Int) + 1 = 12 by rfl]
    have e3 : cum (M / 12 + 1) (0 + 1) = 0 := by simp [cum]
    omega
  · have e1 : (M + 1) / 12 = M / 12 := by omega
    have e2 : (M + 1) % 12 = M % 12 + 1 := by omega
    rw [e1, e2, cum_succ (by omega) (by omega)]
    omega
theorem ms_add (M : Int) : ∀ k : Nat, ms M + k ≤ ms (M + k)
  | 0 => by simp
  | k + 1 => by
    have h := ms_add M k
    have h2 := ms_succ (M + k)
    have h3 := ml_in (M + k)
    have e : M + ((k + 1 : Nat) : Int) = M + k + 1 := by omega
    rw [e, h2]; omega
theorem ms_mono {M N : Int} (h : M ≤ N) : ms M + (N - M) ≤ ms N := by
  have := ms_add M (N - M).toNat
  have e : M + ((N - M).toNat : Int) = N := by omega
  rw [e] at this; omega
theorem ms_lt {M N : Int} (h : M < N) : ms M + ml M ≤ ms N := by
  have := ms_mono (show M + 1 ≤ N by omega)
  rw [ms_succ] at this; omega
theorem num_ms {y m d : Int} (h1 : 1 ≤ m) (h2 : m ≤ 12) : num y m d = ms (12 * y + m - 1) + d - 1 := by
  unfold num ms
  rw [show (12 * y + m - 1) / 12 = y by omega, show (12 * y + m - 1) % 12 + 1 = m by omega]
theorem ml_y {y m : Int} (h1 : 1 ≤ m) (h2 : m ≤ 12) : ml (12 * y + m - 1) = mlen y m := by
  unfold ml
  rw [show (12 * y + m - 1) / 12 = y by omega, show (12 * y + m - 1) % 12 + 1 = m by omega]
/-- months between: the end's month by its index, less one where the day is not reached -/
theorem between {y1 m1 d1 y2 m2 d2 k : Int} (h1 : IsDate y1 m1 d1) (h2 : IsDate y2 m2 d2) (le : num y1 m1 d1 ≤ num y2 m2 d2)
    (hk : k = if (if mlen y2 m2 < d1 then mlen y2 m2 else d1) > d2 then 12 * (y2 - y1) + m2 - m1 - 1 else 12 * (y2 - y1) + m2 - m1) :
    0 ≤ k ∧ ∀ (P P' L L' : Int), P = 12 * y1 + m1 - 1 + k → P' = P + 1 → (L = if ml P < d1 then ml P else d1) → (L' = if ml P' < d1 then ml P' else d1) →
      ms P + L - 1 ≤ num y2 m2 d2 ∧ num y2 m2 d2 < ms P' + L' - 1 := by
  obtain ⟨a1, b1, c1, e1⟩ := h1
  obtain ⟨a2, b2, c2, e2⟩ := h2
  rw [num_ms a1 b1, num_ms a2 b2] at le
  rw [num_ms a2 b2]
  rw [← ml_y a1 b1] at e1
  rw [← ml_y a2 b2] at e2 hk
  generalize hM1 : 12 * y1 + m1 - 1 = M1 at *
  generalize hM2 : 12 * y2 + m2 - 1 = M2 at *
  have hk' : k = if (if ml M2 < d1 then ml M2 else d1) > d2 then M2 - M1 - 1 else M2 - M1 := by
    rw [hk]; split <;> omega
  have hle : M1 ≤ M2 := by
    by_cases q : M1 ≤ M2
    · exact q
    · have := ms_lt (show M2 < M1 by omega); omega
  have g : M1 < M2 ∨ M1 = M2 := by omega
  have b2' := ml_in M2
  constructor
  · rcases g with g | g
    · rw [hk']; split <;> omega
    · subst g
      rw [hk', if_neg]
      · omega
      · split <;> omega
  · intro P P' L L' hP hP' hL hL'
    have bP := ml_in P
    have bP' := ml_in P'
    have hL1 : 1 ≤ L ∧ L ≤ ml P := by rw [hL]; split <;> omega
    have hL1' : 1 ≤ L' ∧ L' ≤ ml P' := by rw [hL']; split <;> omega
    by_cases q : (if ml M2 < d1 then ml M2 else d1) > d2
    · rw [if_pos q] at hk'
      have eP : P = M2 - 1 := by omega
      have eP' : P' = M2 := by omega
      have := ms_lt (show P < M2 by omega)
      rw [eP'] at hL' ⊢
      constructor
      · omega
      · rw [hL']; omega
    · rw [if_neg q] at hk'
      have eP : P = M2 := by omega
      have eP' : P' = M2 + 1 := by omega
      have := ms_lt (show M2 < P' by omega)
      rw [eP] at hL ⊢
      constructor
      · rw [hL]; omega
      · omega
end Cal
/-! What stands up to a day by months of 30 days, and exact. No Python here. -/
namespace Cnt
open Cal
def each (y : Int) : Int := if leap y = true then 365 else 366
end Cnt
namespace Cnt
open Cal
end Cnt
namespace Cnt
open Cal
end Cnt
namespace Cnt
open Cal
end Cnt
namespace Cnt
open Cal
end Cnt
/-! the reading, step by step -/
theorem L2.us1 {α : Type} {P : List α → Prop} (h : ∀ a, P [a]) : ∀ us : List α, us.length = 1 → P us
  | [a], _ => h a
theorem L2.us2 {α : Type} {P : List α → Prop} (h : ∀ a b, P [a, b]) : ∀ us : List α, us.length = 2 → P us
  | [a, b], _ => h a b
theorem L2.us3 {α : Type} {P : List α → Prop} (h : ∀ a b c, P [a, b, c]) : ∀ us : List α, us.length = 3 → P us
  | [a, b, c], _ => h a b c
theorem L2.us4 {α : Type} {P : List α → Prop} (h : ∀ a b c d, P [a, b, c, d]) : ∀ us : List α, us.length = 4 → P us
  | [a, b, c, d], _ => h a b c d
theorem L2.us5 {α : Type} {P : List α → Prop} (h : ∀ a b c d e, P [a, b, c, d, e]) : ∀ us : List α, us.length = 5 → P us
  | [a, b, c, d, e], _ => h a b c d e
theorem L2.qb {Q : L2.VK} {H : L2.Hp} {a b : Bool} (h : Q (.bl a) H) (e : a = b) : Q (.bl b) H := e ▸ h
local macro_rules | `(tactic| walk_at "cap") => `(tactic| repeat (first | exact trivial | refine ⟨⟨by first | exact Or.inl rfl | exact Or.inr rfl, by first | exact Or.inl rfl | exact Or.inr rfl, rfl⟩, ?_⟩))
local macro_rules | `(tactic| walk_at "sub") => `(tactic| repeat (first | exact trivial | refine ⟨rfl, ?_⟩))
local macro_rules | `(tactic| walk_at "has") => `(tactic| repeat (first | exact trivial | refine ⟨fun _ => ⟨_, rfl⟩, ?_⟩ | refine ⟨(fun z => by (rcases z with z | z <;> first | cases (show PySem.NameKind.local = PySem.NameKind.cell from z) | cases (show PySem.NameKind.local = PySem.NameKind.free from z) | cases (show PySem.NameKind.globalImplicit = PySem.NameKind.cell from z) | cases (show PySem.NameKind.globalImplicit = PySem.NameKind.free from z))), ?_⟩))
local macro_rules | `(tactic| walk_at "rd1") => `(tactic| first
  | with_reducible refine L2.iteT ?_
  | with_reducible refine L2.iteF ?_
  | refine ⟨_, rfl, ?_⟩
  | refine ⟨_, _, rfl, rfl, ?_⟩
  | refine ⟨_, _, rfl, ?_⟩
  | refine ⟨_, _, _, rfl, ?_⟩
  | refine ⟨rfl, ?_⟩
  | refine ⟨(⟨by decide, by decide⟩ : L2.CDiv _ _), ?_⟩
  | refine ⟨(show (0 : Int) < _ by first | decide | omega), ?_⟩
  | refine ⟨(⟨by decide, by decide, by decide⟩ : L2.CPow _ _), ?_⟩
  | refine ⟨(Or.inl ⟨by first | decide | omega, by first | decide | omega⟩ : L2.CMul _ _), ?_⟩
  | refine ⟨(Or.inr ⟨by first | decide | omega, by first | decide | omega⟩ : L2.CMul _ _), ?_⟩
  | refine ⟨_, _, rfl, .inl (by assumption), ?_⟩
  | refine ⟨_, _, _, _, rfl, rfl, L2.SqT.of (by assumption), rfl, ?_⟩
  | (refine ⟨_, _, _, _, rfl, (by assumption), (by first | omega | decide), (by first | omega | decide), (by first | omega | decide), ?_⟩; intro r' r0' r1')
  | (refine ⟨_, _, _, rfl, (by assumption), (by omega), (by omega), ?_⟩; intro r' r0' r1')
  | refine And.intro (by omega) ?_
  | refine And.intro (Nat.le_of_ble_eq_true rfl) ?_
  | with_reducible refine L2.iteNF ?_
  | with_reducible refine L2.iteNT ?_
  | with_reducible refine L2.ifI (fun _ => ?_) (fun _ => ?_)
  | with_reducible refine L2.ifNI (fun _ => ?_) (fun _ => ?_)
  | with_reducible refine L2.ifD (fun _ => ?_) (fun _ => ?_)
  | with_reducible refine L2.ifND (fun _ => ?_) (fun _ => ?_))
local macro_rules | `(tactic| walk_at "rd") => `(tactic| repeat' walk_at "rd1")
seal L2.PSs L2.PS L2.PE L2.PT L2.PA L2.PI L2.PG L2.PGs L2.PW L2.PC L2.PO
local macro_rules | `(tactic| walk_at "rd1") => `(tactic| first
  | with_reducible refine L2.ifST ?_
  | with_reducible refine L2.ifSF (by decide) ?_
  | with_reducible refine L2.ifSNT ?_
  | with_reducible refine L2.ifSNF (by decide) ?_
  | ((with_reducible refine And.intro (a := L2.CDivW _ _) ?_ ?_); (exact ⟨by first | decide | omega, by first | decide | omega⟩))
  | fail)
local macro_rules | `(tactic| walk_at "rd1") => `(tactic| ((with_reducible refine L2.sqG ?_); (first | (with_reducible refine L2.sqN10 ?_) | (with_reducible refine L2.sqN9 ?_) | (with_reducible refine L2.sqN8 ?_) | (with_reducible refine L2.sqN7 ?_) | (with_reducible refine L2.sqN6 ?_) | (with_reducible refine L2.sqN5 ?_) | (with_reducible refine L2.sqN4 ?_) | (with_reducible refine L2.sqN3 ?_) | (with_reducible refine L2.sqN2 ?_)); intros))
local macro_rules | `(tactic| walk_at "s1") => `(tactic| first | exact L2.us1 (fun _ => rfl) | exact L2.us2 (fun _ _ => rfl) | exact L2.us3 (fun _ _ _ => rfl) | exact L2.us4 (fun _ _ _ _ => rfl) | exact L2.us5 (fun _ _ _ _ _ => rfl) | k_is | rfl)
namespace My
open PySem L2
def top (i : Nat) : Stmt := PySem.Challenge.pw_loanroll_k86_what_is_changed.main.body.getD i (.Pass ⟨0, 0, 0, 0⟩)
structure Txt (K : PySem.W.Frag) (mg : Str → Option Value) : Prop where
  n_all : mg "all" = none
  n_bool : mg "bool" = none
  n_dict : mg "dict" = none
  n_int : mg "int" = none
  n_isinstance : mg "isinstance" = none
  n_len : mg "len" = none
  n_list : mg "list" = none
  n_max : mg "max" = none
  n_min : mg "min" = none
  n_range : mg "range" = none
  n_set : mg "set" = none
  n_sorted : mg "sorted" = none
  n_str : mg "str" = none
  n_tuple : mg "tuple" = none
  cls : ∀ kd : Kd, Cls K (cA K kd.cls)
  mk0 : ∀ kd : Kd, Mk0 K (cA K kd.cls)
  ikK : ∀ kd : Kd, InsK K (cA K kd.cls)
  kitK : ∀ k c : Kd, PySem.W.kitOne K (.ref (cA K k.cls)) (.ref (cA K c.cls)) = some (subK k c)
  kitS : ∀ k : Kd, PySem.W.kitOne K (.ref (cA K k.cls)) (.type "str") = some false
  m_Bank : mg "Bank" = some (.ref (cA K "Bank"))
  m_Count : mg "Count" = some (.ref (cA K "Count"))
  m_Due : mg "Due" = some (.ref (cA K "Due"))
  m_Entry : mg "Entry" = some (.ref (cA K "Entry"))
  m_Exact : mg "Exact" = some (.ref (cA K "Exact"))
  m_Fee : mg "Fee" = some (.ref (cA K "Fee"))
  m_Late : mg "Late" = some (.ref (cA K "Late"))
  m_Out : mg "Out" = some (.ref (cA K "Out"))
  m_Pay : mg "Pay" = some (.ref (cA K "Pay"))
  m_Rate : mg "Rate" = some (.ref (cA K "Rate"))
  m_Roll : mg "Roll" = some (.ref (cA K "Roll"))
  m_Still : mg "Still" = some (.ref (cA K "Still"))
  m_Thirty : mg "Thirty" = some (.ref (cA K "Thirty"))
  m_Turn : mg "Turn" = some (.ref (cA K "Turn"))
  cl_Roll : Cls K (cA K "Roll")
  mi_Roll : MkI K (cA K "Roll")
  clE : ∀ k : Ek, Cls K (cA K k.cls)
  naE_amount : ∀ k : Ek, NoAttr K (cA K k.cls) "amount"
  naE_day : ∀ k : Ek, NoAttr K (cA K k.cls) "day"
  naE_rate : ∀ k : Ek, NoAttr K (cA K k.cls) "rate"
  naE_until : ∀ k : Ek, NoAttr K (cA K k.cls) "until"
  mi_Due : MkI K (cA K "Due")
  mi_Fee : MkI K (cA K "Fee")
  mi_Late : MkI K (cA K "Late")
  mi_Out : MkI K (cA K "Out")
  mi_Pay : MkI K (cA K "Pay")
  mi_Rate : MkI K (cA K "Rate")
  mi_Still : MkI K (cA K "Still")
  mi_Turn : MkI K (cA K "Turn")
  ikE : ∀ k : Ek, InsK K (cA K k.cls)
  kitE : ∀ k c : Ek, PySem.W.kitOne K (.ref (cA K k.cls)) (.ref (cA K c.cls)) = some (subE k c)
  na_Roll_deeds : NoAttr K (cA K "Roll") "deeds"
  na_Roll_own_count : NoAttr K (cA K "Roll") "own_count"
  na_Roll_own_grace : NoAttr K (cA K "Roll") "own_grace"
  g_LAST_DAY : ∃ t, mg "LAST_DAY" = some (.int 999999 t)
  g_MOST_AMOUNT : ∃ t, mg "MOST_AMOUNT" = some (.int 1000000000000 t)
  g_MOST_DEEDS : ∃ t, mg "MOST_DEEDS" = some (.int 500 t)
  g_MOST_GRACE : ∃ t, mg "MOST_GRACE" = some (.int 366 t)
  g_MOST_NUMBER : ∃ t, mg "MOST_NUMBER" = some (.int 1000000000 t)
  g_MOST_RATE : ∃ t, mg "MOST_RATE" = some (.int 1000000 t)
  g_WORDS : ∃ a, mg "WORDS" = some (.ref a) ∧ ∀ H, SqT K H a [.str "out", .str "fee", .str "turn", .str "pay", .str "due", .str "rate", .str "late", .str "still"]
abbrev s_is_whole : Stmt := top 12
abbrev s_Count_name : Stmt := inClass (top 15) 0
abbrev s_Bank_name : Stmt := inClass (top 16) 0
abbrev s_Thirty_name : Stmt := inClass (top 17) 0
abbrev s_Exact_name : Stmt := inClass (top 18) 0
abbrev s_Entry_init : Stmt := inClass (top 24) 0
abbrev s_Entry_word : Stmt := inClass (top 24) 1
abbrev s_Out_word : Stmt := inClass (top 27) 0
abbrev s_Fee_word : Stmt := inClass (top 28) 0
abbrev s_Pay_word : Stmt := inClass (top 29) 0
abbrev s_Due_word : Stmt := inClass (top 30) 0
abbrev s_Turn_word : Stmt := inClass (top 31) 0
abbrev s_Rate_word : Stmt := inClass (top 32) 0
abbrev s_Late_word : Stmt := inClass (top 33) 0
abbrev s_Still_word : Stmt := inClass (top 34) 1
abbrev s_has_form : Stmt := top 35
abbrev s_Roll_keep : Stmt := inClass (top 51) 9
abbrev s_Roll_standing : Stmt := inClass (top 51) 3
abbrev s__law_draw : Stmt := top 53
abbrev s__law_draws : Stmt := top 55
abbrev s__law_whole : Stmt := top 57
abbrev s__law_stands : Stmt := top 60
abbrev s_is_day : Stmt := top 13
abbrev s_count_named : Stmt := top 19
abbrev s_Entry_row : Stmt := inClass (top 24) 2
abbrev s_AmountEntry_init : Stmt := inClass (top 25) 0
abbrev s_AmountEntry_row : Stmt := inClass (top 25) 1
abbrev s_RateEntry_init : Stmt := inClass (top 26) 0
abbrev s_RateEntry_row : Stmt := inClass (top 26) 1
abbrev s_Still_init : Stmt := inClass (top 34) 0
abbrev s_Still_row : Stmt := inClass (top 34) 2
abbrev s_is_within : Stmt := top 36
abbrev s__law_cell : Stmt := top 54
abbrev s__law_pick : Stmt := top 56
abbrev s__law_base : Stmt := top 61
abbrev s__law_grace : Stmt := top 65
abbrev s__law_again : Stmt := top 66
abbrev s__law_due : Stmt := top 67
abbrev s_is_third : Stmt := top 37
abbrev s_check_terms : Stmt := top 42
abbrev s_rows_by_number : Stmt := top 44
abbrev s_check_number : Stmt := top 49
abbrev s_Roll_check_known : Stmt := inClass (top 51) 8
abbrev s__law_row : Stmt := top 58
abbrev s__law_count : Stmt := top 64
abbrev s_made : Stmt := top 38
abbrev s_changed : Stmt := top 45
abbrev s_Roll_init : Stmt := inClass (top 51) 0
abbrev s_Roll_strike : Stmt := inClass (top 51) 2
abbrev s__law_made : Stmt := top 59
abbrev s__law_deeds : Stmt := top 62
abbrev s_entry_of : Stmt := top 39
abbrev s_check_entry : Stmt := top 50
abbrev s_Roll_put : Stmt := inClass (top 51) 1
abbrev s__law_came : Stmt := top 63
abbrev s_law : Stmt := top 68
section
variable {P : Program} {w : World} {K : PySem.W.Frag} {mg : Str → Option Value} {base : Heap}
--@ is_whole
def sp_is_whole (K : PySem.W.Frag) : Sp := fun vs H Q _ => ∃ x T, vs = [x] ∧ IsKind K H x T ∧ Q (.bl (decide (T = "int"))) H
theorem sc_is_whole : FnScope ["thing"] ["thing"] (defScope s_is_whole) := ⟨rfl, rfl, rfl, by decide +kernel, rfl, by decide +kernel, by decide +kernel⟩
theorem d_is_whole (S : Src K mg "is_whole" s_is_whole ["thing"]) (T : Txt K mg)  : Def P w K mg base 1 "is_whole" ["thing"] (sp_is_whole K) := by
  refine S.ok sc_is_whole (fun vs H Q E h => ?_) (fun f cdv A outer s H vs Q E hr h => ?_)
  · obtain ⟨x, Tk, rfl, hk, h⟩ := h
    rfl
  obtain ⟨x, Tk, rfl, hk, h⟩ := h
  refine ⟨_, (pss_one (ps_ret (pe_and (pe_callB call_isinst rfl T.n_isinstance PyProof.Rows.boot_isinstance (pa_cons (pv 0) (pa_cons (pe_bltn (v := .ty "int") rfl T.n_int PyProof.Rows.boot_int rfl) pa_nil))) (pe_one (pe_not (pe_callB call_isinst rfl T.n_isinstance PyProof.Rows.boot_isinstance (pa_cons (pv 0) (pa_cons (pe_bltn (v := .ty "bool") rfl T.n_bool PyProof.Rows.boot_bool rfl) pa_nil)))))))), ?_⟩
  walk_at "rd"
  refine ⟨_, _, _, _, rfl, hk.1, kit_int hk.2, ?_⟩
  walk_at "rd"
  · refine ⟨_, _, _, _, rfl, hk.1, kit_bool hk.2, ?_⟩
    walk_at "rd"
    rename_i z
    exact qb h (by rcases z with rfl | rfl <;> decide)
  · rename_i z
    exact qb h (decide_eq_false fun q => z (.inl q))
--@ Count_name
def nm : Kd → Str
  | .plain => "plain"
  | .bank => "bank"
  | .thirty => "thirty"
  | .exact => "exact"
def sp_m_name (kd : Kd) (K : PySem.W.Frag) : Sp := fun vs H Q _ => ∃ (a : Addr), vs = [.ref a] ∧ Q (.str (nm kd)) H
theorem sc_Count_name : FnScope ["self"] ["self"] (defScope s_Count_name) := ⟨rfl, rfl, rfl, by decide +kernel, rfl, by decide +kernel, by decide +kernel⟩
theorem d_Count_name (kd : Kd) (hk : kd = .plain) (S : MethS K (cA K kd.cls) "name" "Count.name" s_Count_name ["self"]) (T : Txt K mg)  : DefM P w K mg base 1 (cA K kd.cls) "name" ["self"] (sp_m_name kd K) := by
  subst hk
  refine S.ok sc_Count_name (fun vs H Q E h => ?_) (fun f cdv A outer s H vs Q E hr h => ?_)
  · obtain ⟨a, rfl, h⟩ := h
    rfl
  obtain ⟨a, rfl, h⟩ := h
  refine ⟨_, (pss_one (ps_ret pe_str)), ?_⟩
  walk_at "rd"
  exact h
--@ Bank_name

theorem sc_Bank_name : FnScope ["self"] ["self"] (defScope s_Bank_name) := ⟨rfl, rfl, rfl, by decide +kernel, rfl, by decide +kernel, by decide +kernel⟩
theorem d_Bank_name (kd : Kd) (hk : kd = .bank) (S : MethS K (cA K kd.cls) "name" "Bank.name" s_Bank_name ["self"]) (T : Txt K mg)  : DefM P w K mg base 1 (cA K kd.cls) "name" ["self"] (sp_m_name kd K) := by
  subst hk
  refine S.ok sc_Bank_name (fun vs H Q E h => ?_) (fun f cdv A outer s H vs Q E hr h => ?_)
  · obtain ⟨a, rfl, h⟩ := h
    rfl
  obtain ⟨a, rfl, h⟩ := h
  refine ⟨_, (pss_one (ps_ret pe_str)), ?_⟩
  walk_at "rd"
  exact h
--@ Thirty_name

theorem sc_Thirty_name : FnScope ["self"] ["self"] (defScope s_Thirty_name) := ⟨rfl, rfl, rfl, by decide +kernel, rfl, by decide +kernel, by decide +kernel⟩
theorem d_Thirty_name (kd : Kd) (hk : kd = .thirty) (S : MethS K (cA K kd.cls) "name" "Thirty.name" s_Thirty_name ["self"]) (T : Txt K mg)  : DefM P w K mg base 1 (cA K kd.cls) "name" ["self"] (sp_m_name kd K) := by
  subst hk
  refine S.ok sc_Thirty_name (fun vs H Q E h => ?_) (fun f cdv A outer s H vs Q E hr h => ?_)
  · obtain ⟨a, rfl, h⟩ := h
    rfl
  obtain ⟨a, rfl, h⟩ := h
  refine ⟨_, (pss_one (ps_ret pe_str)), ?_⟩
  walk_at "rd"
  exact h
--@ Exact_name

theorem sc_Exact_name : FnScope ["self"] ["self"] (defScope s_Exact_name) := ⟨rfl, rfl, rfl, by decide +kernel, rfl, by decide +kernel, by decide +kernel⟩
theorem d_Exact_name (kd : Kd) (hk : kd = .exact) (S : MethS K (cA K kd.cls) "name" "Exact.name" s_Exact_name ["self"]) (T : Txt K mg)  : DefM P w K mg base 1 (cA K kd.cls) "name" ["self"] (sp_m_name kd K) := by
  subst hk
  refine S.ok sc_Exact_name (fun vs H Q E h => ?_) (fun f cdv A outer s H vs Q E hr h => ?_)
  · obtain ⟨a, rfl, h⟩ := h
    rfl
  obtain ⟨a, rfl, h⟩ := h
  refine ⟨_, (pss_one (ps_ret pe_str)), ?_⟩
  walk_at "rd"
  exact h
--@ Entry_init
def sp_Entry_init (K : PySem.W.Frag) : Sp := fun vs H Q _ => L2.Ee5 fun (p C dx : Addr) (fs : List (Str × V)) (d : Int) => L2.Aa6 (vs = [.ref p, .int d]) (H p = some (.ins C dx fs)) (Cls K C) (NoAttr K C "day") (fs.length < 1000) (Q .non (upd H p (.ins C dx (putF "day" (.int d) fs))))
theorem sc_Entry_init : FnScope ["self", "day"] ["self", "day"] (defScope s_Entry_init) := ⟨rfl, rfl, rfl, by decide +kernel, rfl, by decide +kernel, by decide +kernel⟩
theorem d_Entry_init (x : Str) (S : MethS K (cA K x) "__init__" "Entry.__init__" s_Entry_init ["self", "day"]) (T : Txt K mg)  : DefM P w K mg base 1 (cA K x) "__init__" ["self", "day"] (sp_Entry_init K) := by

  refine S.ok sc_Entry_init (fun vs H Q E h => ?_) (fun f cdv A outer s H vs Q E hr h => ?_)
  · obtain ⟨p, C, dx, fs, d, rfl, e, hc, hn, hl, h⟩ := h
    rfl
  obtain ⟨p, C, dx, fs, d, rfl, e, hc, hn, hl, h⟩ := h
  refine ⟨_, (pss_one (ps_fld (pv 0) (pv 1) rfl)), ?_⟩
  walk_at "rd"
  refine ⟨p, C, dx, fs, rfl, e, hc, hn, hl, ?_⟩
  exact h
theorem dU_Entry_init (S : UnbS K (cA K "Entry") "__init__" "Entry.__init__" s_Entry_init ["self", "day"]) (T : Txt K mg)  : DefU P w K mg base 1 (cA K "Entry") "__init__" ["self", "day"] (sp_Entry_init K) := by

  refine S.ok sc_Entry_init (fun vs H Q E h => ?_) (fun f cdv A outer s H vs Q E hr h => ?_)
  · obtain ⟨p, C, dx, fs, d, rfl, e, hc, hn, hl, h⟩ := h
    rfl
  obtain ⟨p, C, dx, fs, d, rfl, e, hc, hn, hl, h⟩ := h
  refine ⟨_, (pss_one (ps_fld (pv 0) (pv 1) rfl)), ?_⟩
  walk_at "rd"
  refine ⟨p, C, dx, fs, rfl, e, hc, hn, hl, ?_⟩
  exact h
--@ Entry_word
def sp_e_word (k : Ek) (K : PySem.W.Frag) : Sp := fun vs H Q _ => ∃ (a : Addr), vs = [.ref a] ∧ Q (.str k.word) H
theorem sc_Entry_word : FnScope ["self"] ["self"] (defScope s_Entry_word) := ⟨rfl, rfl, rfl, by decide +kernel, rfl, by decide +kernel, by decide +kernel⟩
theorem d_Entry_word (kd : Ek) (hk : kd = .base) (S : MethS K (cA K kd.cls) "word" "Entry.word" s_Entry_word ["self"]) (T : Txt K mg)  : DefM P w K mg base 1 (cA K kd.cls) "word" ["self"] (sp_e_word kd K) := by
  subst hk
  refine S.ok sc_Entry_word (fun vs H Q E h => ?_) (fun f cdv A outer s H vs Q E hr h => ?_)
  · obtain ⟨a, rfl, h⟩ := h
    rfl
  obtain ⟨a, rfl, h⟩ := h
  refine ⟨_, (pss_one (ps_ret pe_str)), ?_⟩
  walk_at "rd"
  exact h
--@ Out_word

theorem sc_Out_word : FnScope ["self"] ["self"] (defScope s_Out_word) := ⟨rfl, rfl, rfl, by decide +kernel, rfl, by decide +kernel, by decide +kernel⟩
theorem d_Out_word (kd : Ek) (hk : kd = .out) (S : MethS K (cA K kd.cls) "word" "Out.word" s_Out_word ["self"]) (T : Txt K mg)  : DefM P w K mg base 1 (cA K kd.cls) "word" ["self"] (sp_e_word kd K) := by
  subst hk
  refine S.ok sc_Out_word (fun vs H Q E h => ?_) (fun f cdv A outer s H vs Q E hr h => ?_)
  · obtain ⟨a, rfl, h⟩ := h
    rfl
  obtain ⟨a, rfl, h⟩ := h
  refine ⟨_, (pss_one (ps_ret pe_str)), ?_⟩
  walk_at "rd"
  exact h
--@ Fee_word

theorem sc_Fee_word : FnScope ["self"] ["self"] (defScope s_Fee_word) := ⟨rfl, rfl, rfl, by decide +kernel, rfl, by decide +kernel, by decide +kernel⟩
theorem d_Fee_word (kd : Ek) (hk : kd = .fee) (S : MethS K (cA K kd.cls) "word" "Fee.word" s_Fee_word ["self"]) (T : Txt K mg)  : DefM P w K mg base 1 (cA K kd.cls) "word" ["self"] (sp_e_word kd K) := by
  subst hk
  refine S.ok sc_Fee_word (fun vs H Q E h => ?_) (fun f cdv A outer s H vs Q E hr h => ?_)
  · obtain ⟨a, rfl, h⟩ := h
    rfl
  obtain ⟨a, rfl, h⟩ := h
  refine ⟨_, (pss_one (ps_ret pe_str)), ?_⟩
  walk_at "rd"
  exact h
--@ Pay_word

theorem sc_Pay_word : FnScope ["self"] ["self"] (defScope s_Pay_word) := ⟨rfl, rfl, rfl, by decide +kernel, rfl, by decide +kernel, by decide +kernel⟩
theorem d_Pay_word (kd : Ek) (hk : kd = .pay) (S : MethS K (cA K kd.cls) "word" "Pay.word" s_Pay_word ["self"]) (T : Txt K mg)  : DefM P w K mg base 1 (cA K kd.cls) "word" ["self"] (sp_e_word kd K) := by
  subst hk
  refine S.ok sc_Pay_word (fun vs H Q E h => ?_) (fun f cdv A outer s H vs Q E hr h => ?_)
  · obtain ⟨a, rfl, h⟩ := h
    rfl
  obtain ⟨a, rfl, h⟩ := h
  refine ⟨_, (pss_one (ps_ret pe_str)), ?_⟩
  walk_at "rd"
  exact h
--@ Due_word

theorem sc_Due_word : FnScope ["self"] ["self"] (defScope s_Due_word) := ⟨rfl, rfl, rfl, by decide +kernel, rfl, by decide +kernel, by decide +kernel⟩
theorem d_Due_word (kd : Ek) (hk : kd = .due) (S : MethS K (cA K kd.cls) "word" "Due.word" s_Due_word ["self"]) (T : Txt K mg)  : DefM P w K mg base 1 (cA K kd.cls) "word" ["self"] (sp_e_word kd K) := by
  subst hk
  refine S.ok sc_Due_word (fun vs H Q E h => ?_) (fun f cdv A outer s H vs Q E hr h => ?_)
  · obtain ⟨a, rfl, h⟩ := h
    rfl
  obtain ⟨a, rfl, h⟩ := h
  refine ⟨_, (pss_one (ps_ret pe_str)), ?_⟩
  walk_at "rd"
  exact h
--@ Turn_word

theorem sc_Turn_word : FnScope ["self"] ["self"] (defScope s_Turn_word) := ⟨rfl, rfl, rfl, by decide +kernel, rfl, by decide +kernel, by decide +kernel⟩
theorem d_Turn_word (kd : Ek) (hk : kd = .turn) (S : MethS K (cA K kd.cls) "word" "Turn.word" s_Turn_word ["self"]) (T : Txt K mg)  : DefM P w K mg base 1 (cA K kd.cls) "word" ["self"] (sp_e_word kd K) := by
  subst hk
  refine S.ok sc_Turn_word (fun vs H Q E h => ?_) (fun f cdv A outer s H vs Q E hr h => ?_)
  · obtain ⟨a, rfl, h⟩ := h
    rfl
  obtain ⟨a, rfl, h⟩ := h
  refine ⟨_, (pss_one (ps_ret pe_str)), ?_⟩
  walk_at "rd"
  exact h
--@ Rate_word

theorem sc_Rate_word : FnScope ["self"] ["self"] (defScope s_Rate_word) := ⟨rfl, rfl, rfl, by decide +kernel, rfl, by decide +kernel, by decide +kernel⟩
theorem d_Rate_word (kd : Ek) (hk : kd = .rate) (S : MethS K (cA K kd.cls) "word" "Rate.word" s_Rate_word ["self"]) (T : Txt K mg)  : DefM P w K mg base 1 (cA K kd.cls) "word" ["self"] (sp_e_word kd K) := by
  subst hk
  refine S.ok sc_Rate_word (fun vs H Q E h => ?_) (fun f cdv A outer s H vs Q E hr h => ?_)
  · obtain ⟨a, rfl, h⟩ := h
    rfl
  obtain ⟨a, rfl, h⟩ := h
  refine ⟨_, (pss_one (ps_ret pe_str)), ?_⟩
  walk_at "rd"
  exact h
--@ Late_word

theorem sc_Late_word : FnScope ["self"] ["self"] (defScope s_Late_word) := ⟨rfl, rfl, rfl, by decide +kernel, rfl, by decide +kernel, by decide +kernel⟩
theorem d_Late_word (kd : Ek) (hk : kd = .late) (S : MethS K (cA K kd.cls) "word" "Late.word" s_Late_word ["self"]) (T : Txt K mg)  : DefM P w K mg base 1 (cA K kd.cls) "word" ["self"] (sp_e_word kd K) := by
  subst hk
  refine S.ok sc_Late_word (fun vs H Q E h => ?_) (fun f cdv A outer s H vs Q E hr h => ?_)
  · obtain ⟨a, rfl, h⟩ := h
    rfl
  obtain ⟨a, rfl, h⟩ := h
  refine ⟨_, (pss_one (ps_ret pe_str)), ?_⟩
  walk_at "rd"
  exact h
--@ Still_word

theorem sc_Still_word : FnScope ["self"] ["self"] (defScope s_Still_word) := ⟨rfl, rfl, rfl, by decide +kernel, rfl, by decide +kernel, by decide +kernel⟩
theorem d_Still_word (kd : Ek) (hk : kd = .still) (S : MethS K (cA K kd.cls) "word" "Still.word" s_Still_word ["self"]) (T : Txt K mg)  : DefM P w K mg base 1 (cA K kd.cls) "word" ["self"] (sp_e_word kd K) := by
  subst hk
  refine S.ok sc_Still_word (fun vs H Q E h => ?_) (fun f cdv A outer s H vs Q E hr h => ?_)
  · obtain ⟨a, rfl, h⟩ := h
    rfl
  obtain ⟨a, rfl, h⟩ := h
  refine ⟨_, (pss_one (ps_ret pe_str)), ?_⟩
  walk_at "rd"
  exact h
--@ has_form
def sp_has_form (K : PySem.W.Frag) : Sp := fun vs H Q _ => L2.Ee4 fun (r : Addr) (k : Ek) (d x : Int) => L2.Aa4 (vs = [.ref r]) (H r = some (.tup (rowV k d x))) (k ≠ .base) (Q (.bl true) H)
theorem sc_has_form : FnScope ["row", "word"] ["row"] (defScope s_has_form) := ⟨rfl, rfl, rfl, by decide +kernel, rfl, by decide +kernel, by decide +kernel⟩
theorem d_has_form (S : Src K mg "has_form" s_has_form ["row"]) (T : Txt K mg)  : Def P w K mg base 1 "has_form" ["row"] (sp_has_form K) := by
  refine S.ok sc_has_form (fun vs H Q E h => ?_) (fun f cdv A outer s H vs Q E hr h => ?_)
  · obtain ⟨r, k, d, x, rfl, e, hk, h⟩ := h
    rfl
  obtain ⟨r, k, d, x, rfl, e, hk, h⟩ := h
  refine ⟨_, (pss_consN (ps_if (PW.pt (pw_or (pt_not (pt_val (pe_callB call_isinst rfl T.n_isinstance PyProof.Rows.boot_isinstance (pa_cons (pv 0) (pa_cons (pe_bltn (v := .ty "tuple") rfl T.n_tuple PyProof.Rows.boot_tuple rfl) pa_nil))))) (pw_or1 (pt_cmpR op_eq (pe_callB call_len_seq rfl T.n_len PySem.boot_len (pa_cons (pv 0) pa_nil)) pe_int (nomark _)))))
      (pss_one (ps_ret pe_bl))
      pss_nil)
      (pss_consN (ps_set (i := 1) sc_has_form.nd rfl (by first | exact Or.inl rfl | exact Or.inr rfl) (pe_ix ix_tup (pv 0) pe_int (fun _ _ => rfl)))
      (pss_consN (ps_if (PW.pt (pw_or (pt_not (pt_val (pe_callB call_isinst rfl T.n_isinstance PyProof.Rows.boot_isinstance (pa_cons (pv 1) (pa_cons (pe_bltn (v := .ty "str") rfl T.n_str PyProof.Rows.boot_str rfl) pa_nil))))) (pw_or1 (pt_cmpR op_notIn_seq (pv 1) (pe_gtup T.g_WORDS) (by with_unfolding_all rfl)))))
      (pss_one (ps_ret pe_bl))
      pss_nil)
      (pss_one (ps_ret (pe_cmpR op_eq (pe_callB call_len_seq rfl T.n_len PySem.boot_len (pa_cons (pv 0) pa_nil)) (pe_ifExp (pt_cmpR op_eq (pv 1) pe_str (nomark _)) pe_int pe_int) (nomark _))))))), ?_⟩
  cases k with
  | base => exact absurd rfl hk
  | _ =>
    dsimp only [rowV, Ek.word] at e
    walk_at "rd"
    refine ⟨_, _, _, _, rfl, .tup e, rfl, ?_⟩
    walk_at "rd"
    refine ⟨r, _, rfl, .inr (SqT.of e), ?_⟩
    walk_at "rd"
    refine ⟨_, _, _, _, rfl, .str _, rfl, ?_⟩
    walk_at "rd"
    intro w0 hw
    refine ⟨w0, _, rfl, .inr (hw _), rfl, rfl, ?_⟩
    refine ⟨_, rfl, ?_⟩
    refine ifB (fun z => absurd z (by decide)) (fun z => ?_)
    walk_at "rd"
    refine ⟨r, _, rfl, .inr (SqT.of e), ?_⟩
    walk_at "rd"
    first | exact h | (refine qb h ?_; simp)
--@ Roll_keep
def sp_Roll_keep (K : PySem.W.Frag) : Sp := fun vs H Q _ => L2.Ee11 fun (r dx c l : Addr) (kd : Kd) (g k n : Int) (ds : List Dd) (u : V) (o : Option Er) => L2.Aa5 (vs = [.ref r, .int k, .int n, u]) (RolAt K H r dx c l kd g ds) (EntV K H u o) (ds.length < 500) (∀ (H' : Hp), (∀ G, Same G H → G l = none → Same G H') → RolAt K H' r dx c l kd g (ds ++ [(k, n, o)]) → Q .non H')
theorem sc_Roll_keep : FnScope ["self", "known", "number", "entry"] ["self", "known", "number", "entry"] (defScope s_Roll_keep) := ⟨rfl, rfl, rfl, by decide +kernel, rfl, by decide +kernel, by decide +kernel⟩
theorem d_Roll_keep (S : MethS K (cA K "Roll") "keep" "Roll.keep" s_Roll_keep ["self", "known", "number", "entry"]) (T : Txt K mg)  : DefM P w K mg base 1 (cA K "Roll") "keep" ["self", "known", "number", "entry"] (sp_Roll_keep K) := by
  refine S.ok sc_Roll_keep (fun vs H Q E h => ?_) (fun f cdv A outer s H vs Q E hr h => ?_)
  · obtain ⟨r, dx, c, l, kd, g, k, n, ds, u, o, rfl, B, hu, dl, h⟩ := h
    rfl
  obtain ⟨r, dx, c, l, kd, g, k, n, ds, u, o, rfl, B, hu, dl, h⟩ := h
  refine ⟨_, (pss_consN (ps_if (pt_cmpR op_ge (pe_callB call_len_seq rfl T.n_len PySem.boot_len (pa_cons (pe_fldC T.cl_Roll T.na_Roll_deeds (pv 0)) pa_nil)) (pe_gint T.g_MOST_DEEDS) (nomark _))
      pss_never
      pss_nil)
      (pss_one (ps_expr (pe_bm PySem.F.plainAttrs_list PySem.F.slot_list_append PySem.F.type_list_append mt_append (pe_fldC T.cl_Roll T.na_Roll_deeds (pv 0)) (pa_cons (pe_tup (pa_cons (pv 1) (pa_cons (pv 2) (pa_cons (pv 3) pa_nil)))) pa_nil))))), ?_⟩
  have sz := sizeLine_eq
  obtain ⟨vs, eL, hD⟩ := B.lst
  have vl := hD.length
  walk_at "rd"
  refine ⟨r, dx, _, _, rfl, B.ins, rfl, ?_⟩
  walk_at "rd"
  refine ⟨l, vs, rfl, .inl (SqL.of eL), ?_⟩
  walk_at "rd"
  · exfalso; omega
  refine ⟨r, dx, _, _, rfl, B.ins, rfl, ?_⟩
  walk_at "rd"
  refine ⟨.inl ⟨rfl, _, SqL.of eL⟩, ?_⟩
  walk_at "rd"
  intro t nt
  have st := same_new nt (.tup [.int k, .int n, u])
  have et := at_new (.tup [.int k, .int n, u]) nt
  refine ⟨l, _, _, rfl, rfl, st _ _ eL, by omega, ?_⟩
  exact h _ (fun G sG nG => same_put (sG.trans st) nG) ((B.same st).put (st _ _ eL) (hD.imp fun v d q => q.same st) ⟨t, u, rfl, et, hu.same st⟩)
--@ Roll_standing
def sp_Roll_standing (K : PySem.W.Frag) : Sp := fun vs H Q _ => L2.Ee9 fun (r dx c l : Addr) (kd : Kd) (g k : Int) (ds : List Dd) (ms : List Int) => L2.Aa6 (vs = [.ref r, .int k]) (RolAt K H r dx c l kd g ds) ((∀ d ∈ ds, d.2.1 ∈ ms)) (ms.length < 64) (ds.length ≤ 1000) (∀ (q : Addr) (ys : List V) (m : List (Int × Option Er)) (H' : Hp), H q = none → Same H H' → H' q = some (.lst ys) → LL (P2E K H') ys m → Stn ds k m → Q (.ref q) H')
theorem sc_Roll_standing : FnScope ["self", "known", "told", "deed"] ["self", "known"] (defScope s_Roll_standing) := ⟨rfl, rfl, rfl, by decide +kernel, rfl, by decide +kernel, by decide +kernel⟩
theorem d_Roll_standing (S : MethS K (cA K "Roll") "standing" "Roll.standing" s_Roll_standing ["self", "known"]) (T : Txt K mg)  : DefM P w K mg base 1 (cA K "Roll") "standing" ["self", "known"] (sp_Roll_standing K) := by
  refine S.ok sc_Roll_standing (fun vs H Q E h => ?_) (fun f cdv A outer s H vs Q E hr h => ?_)
  · obtain ⟨r, dx, c, l, kd, g, k, ds, ms, rfl, B, hm, ml, dl, h⟩ := h
    rfl
  obtain ⟨r, dx, c, l, kd, g, k, ds, ms, rfl, B, hm, ml, dl, h⟩ := h
  refine ⟨_, (pss_consN (ps_set (i := 2) sc_Roll_standing.nd rfl (by first | exact Or.inl rfl | exact Or.inr rfl) pe_dnewV)
      (pss_consN (ps_for PassesOwn.never rfl (pi_list (pe_fldC T.cl_Roll T.na_Roll_deeds (pv 0))) (pg_name (i := 3) sc_Roll_standing.nd rfl (by first | exact Or.inl rfl | exact Or.inr rfl))
      (pss_one (ps_if (pt_cmpR op_le (pe_ix ix_tup (pv 3) pe_int (fun _ _ => rfl)) (pv 1) (nomark _))
      (pss_one (ps_putV (pv 2) (pe_ix ix_tup (pv 3) pe_int (fun _ _ => rfl)) (pe_ix ix_tup (pv 3) pe_int (fun _ _ => rfl))))
      pss_nil)))
      (pss_one (ps_ret (pe_compIf (ix := [2]) ⟨rfl, by decide +kernel, rfl, by decide +kernel, rfl, (show (["number", "told"] : List Str).Nodup by decide +kernel), by walk_at "cap", by walk_at "sub", by walk_at "has"⟩ (pi_list (pe_callB (call_sortedKV rfl) rfl T.n_sorted PyProof.Rows.boot_sorted (pa_cons (pv 2) pa_nil))) (fun b => (pt_cmp (pc_notN (pe_ix (ix_dictVK P w) (pv 1) (pv 0) (fun _ _ => rfl))))) (fun b => (pe_tup (pa_cons (pv 0) (pa_cons (pe_ix (ix_dictVK P w) (pv 1) (pv 0) (fun _ _ => rfl)) pa_nil))))))))), ?_⟩
  have sz := sizeLine_eq
  obtain ⟨vs, eL, hD⟩ := B.lst
  have vl := hD.length
  walk_at "rd"
  intro d nd
  have sd := same_new nd (DictV P w d [])
  have ed := at_new (DictV P w d []) nd
  walk_at "rd"
  refine ⟨r, dx, _, _, rfl, sd _ _ B.ins, rfl, ?_⟩
  refine ⟨_, rfl, ⟨_, SqL.of (sd _ _ eL)⟩, for_list (xs := vs) (fun i σ H' => ∃ (t : List (Int × V)) (z : Option V), (Same H H' ∧ H' d = some (DictV P w d t)) ∧ Tld (EntV K H) t (ds.take i) k ∧ σ = [some (.ref r), some (.int k), some (.ref d), z]) ⟨[], _, ⟨sd, ed⟩, by rw [List.take_zero]; exact Tld.nil, rfl⟩ ?_ ?_ ?_⟩
  · rintro i σ H' _ ⟨t, z, ⟨sH, _⟩, _⟩
    exact SqL.of (sH _ _ eL)
  · rintro i x σ H' hx ⟨t, z, ⟨sH, eD⟩, tt, rfl⟩
    obtain ⟨dd, hd, ta, u, rfl, ht, hu⟩ := hD.get hx
    have il : i < vs.length := (List.getElem?_eq_some_iff.mp hx).1
    have ht' := sH _ _ ht
    have tk : ds.take (i + 1) = ds.take i ++ [dd] := by rw [List.take_add_one, hd]; rfl
    have tl := tt.len
    have tl2 := List.length_take_le i ds
    rw [tk]
    walk_at "rd"
    · rename_i cc
      refine ⟨d, t, dd.2.1, rfl, rfl, eD, by omega, ?_⟩
      exact ⟨_, _, ⟨same_put sH nd, upd_same⟩, tt.step cc hu, rfl⟩
    · rename_i cc
      exact ⟨_, _, ⟨sH, eD⟩, tt.skip cc, rfl⟩
  · rintro σ H' ⟨t, z, ⟨sH, eD⟩, tt, rfl⟩
    rw [vl, List.take_length] at tt
    have tl := tt.few hm
    walk_at "rd"
    refine ⟨d, t, rfl, eD, by omega, fun q1 H1 ns nq1 s1 eq1 pm up => ?_⟩
    walk_at "rd"
    refine ⟨⟨_, SqL.of eq1⟩, fun l2 nl2 => ?_⟩
    have eD1 := s1 _ _ eD
    have nsl : ns.length = t.length := by rw [pm.length_eq, List.length_map]
    refine comp_sel (walk_list (SqL.of eq1)) nl2 (by rw [List.length_map]; omega) (ns.map fun n => (n, lastO ds k n)) (by rw [List.length_map, List.length_map]) (fun s => s.2.isSome) (P2E K) (fun v e H1 H2 s q => q.same s) (fun v e H1 ys zs hL q => q.putL hL) ?_ ?_ ?_
    · rintro i x s H2 Q' hx hs sH2 hq
      rw [List.getElem?_map] at hx hs
      obtain ⟨n, hn, rfl⟩ := Option.map_eq_some_iff.mp hx
      rw [hn] at hs
      obtain rfl : (n, lastO ds k n) = s := Option.some.inj hs
      obtain ⟨v, lv, _, hv⟩ := tt.get (pm.mem_iff.mp (List.mem_of_getElem? hn))
      walk_at "rd"
      refine ⟨d, t, n, v, rfl, rfl, sH2 _ _ eD1, lv, ?_⟩
      refine ⟨_, rfl, ?_⟩
      have eb : (!decide (v = V.non)) = (lastO ds k n).isSome := by
        revert hv
        cases lastO ds k n with
        | none => intro hv; obtain rfl : v = .non := hv; rfl
        | some e => rintro ⟨a, dy, rfl, _⟩; rfl
      rw [eb]
      exact hq
    · rintro i x s H2 Q' hx hs fs sH2 hq
      rw [List.getElem?_map] at hx hs
      obtain ⟨n, hn, rfl⟩ := Option.map_eq_some_iff.mp hx
      rw [hn] at hs
      obtain rfl : (n, lastO ds k n) = s := Option.some.inj hs
      obtain ⟨v, lv, _, hv⟩ := tt.get (pm.mem_iff.mp (List.mem_of_getElem? hn))
      walk_at "rd"
      refine ⟨d, t, n, v, rfl, rfl, sH2 _ _ eD1, lv, ?_⟩
      walk_at "rd"
      intro tp ntp
      have st := same_new ntp (.tup [.int n, v])
      exact hq _ _ st ⟨tp, v, rfl, upd_same, hv.same (sH.trans (s1.trans (sH2.trans st)))⟩
    · rintro ys H2 sH2 eL2 hL2
      exact h l2 ys _ H2 (same_gone sH (same_gone s1 nl2)) (sH.trans (s1.trans sH2)) eL2 hL2 (tt.stn pm up)
--@ _law_draw
def sp__law_draw (K : PySem.W.Frag) : Sp := fun vs H Q _ => L2.Ee4 fun (a : Addr) (ns : List Int) (k m : Int) => L2.Aa6 (vs = [.ref a, .int k, .int m]) (SqL K H a (ns.map V.int)) (0 ≤ k) (k ≤ 1000000) (0 < m) (∀ r, 0 ≤ r → r < m → Q (.int r) H)
theorem sc__law_draw : FnScope ["_law_script", "_law_k", "_law_many", "_law_cell_here", "_law_one", "_law_other"] ["_law_script", "_law_k", "_law_many"] (defScope s__law_draw) := ⟨rfl, rfl, rfl, by decide +kernel, rfl, by decide +kernel, by decide +kernel⟩
theorem d__law_draw (S : Src K mg "_law_draw" s__law_draw ["_law_script", "_law_k", "_law_many"]) (T : Txt K mg)  : Def P w K mg base 1 "_law_draw" ["_law_script", "_law_k", "_law_many"] (sp__law_draw K) := by
  refine S.ok sc__law_draw (fun vs H Q E h => ?_) (fun f cdv A outer s H vs Q E hr h => ?_)
  · obtain ⟨a, ns, k, m, rfl, hS, h0, h1, hm, h⟩ := h
    rfl
  obtain ⟨a, ns, k, m, rfl, hS, h0, h1, hm, h⟩ := h
  refine ⟨_, (pss_consN (ps_set (i := 3) sc__law_draw.nd rfl (by first | exact Or.inl rfl | exact Or.inr rfl) pe_int)
      (pss_consN (ps_if (pt_cmpR op_gt (pe_callB call_len_seq rfl T.n_len PySem.boot_len (pa_cons (pv 0) pa_nil)) pe_int (nomark _))
      (pss_one (ps_set (i := 3) sc__law_draw.nd rfl (by first | exact Or.inl rfl | exact Or.inr rfl) (pe_ix ix_list (pv 0) (pe_op op_mod (pv 1) (pe_callB call_len_seq rfl T.n_len PySem.boot_len (pa_cons (pv 0) pa_nil))) (fun _ _ => rfl))))
      pss_nil)
      (pss_consN (ps_if (PW.pt (pw_and (pt_cmpR op_gt (pv 3) (pe_powc (v := 1000000000000000000) (by decide +kernel) ⟨by decide, by decide, by decide⟩) (nomark _)) (pw_and (pt_cmpR op_eq (pe_op op_mod (pv 3) pe_int) pe_int (nomark _)) (pw_and1 (pt_cmpR op_lt (pv 1) (pe_callB call_len_seq rfl T.n_len PySem.boot_len (pa_cons (pv 0) pa_nil)) (nomark _))))))
      (pss_one (ps_ret (pe_op op_mod (pe_op op_fdiv (pv 3) pe_int) (pv 2))))
      pss_nil)
      (pss_consN (ps_set (i := 4) sc__law_draw.nd rfl (by first | exact Or.inl rfl | exact Or.inr rfl) (pe_op op_mod (pe_op op_mul (pe_op op_add (pe_op op_mod (pv 3) pe_int) pe_int) (pe_op op_add pe_int (pe_op op_mul (pe_op op_mul pe_int (pv 1)) (pe_op op_add (pv 1) pe_int)))) pe_int))
      (pss_consN (ps_set (i := 5) sc__law_draw.nd rfl (by first | exact Or.inl rfl | exact Or.inr rfl) (pe_op op_mod (pe_op op_add (pe_op op_mul (pv 4) (pv 4)) pe_int) pe_int))
      (pss_one (ps_ret (pe_op op_mod (pe_op op_fdiv (pe_op op_mod (pe_op op_add (pv 4) (pe_op op_mul (pv 5) pe_int)) pe_int) pe_int) (pv 2))))))))), ?_⟩
  have fin : ∀ r : Int, Q (.int (r % m)) H := fun r => h _ (Int.emod_nonneg r (by omega)) (Int.emod_lt_of_pos r hm)
  walk_at "rd"
  · have hl : 0 < (ns.length : Int) := by
      have e := List.length_map (f := V.int) (as := ns)
      omega
    have e : k % ((ns.map V.int).length : Int) = k % (ns.length : Int) := by rw [List.length_map]
    refine ⟨a, _, _, _, rfl, rfl, hS, (by rw [e]; exact at_ints (Int.emod_nonneg k (by omega)) (Int.emod_lt_of_pos k hl)), ?_⟩
    walk_at "rd"
    all_goals exact fin _
  · walk_at "rd"
    all_goals exact fin _
--@ _law_draws
def sp__law_draws (K : PySem.W.Frag) : Sp := fun vs H Q _ => ∃ (c k : Int), vs = [.int c, .int k] ∧ 0 ≤ k ∧ k ≤ 30 ∧ ∀ (p : Addr) (ns : List Int) (H' : Hp), Same H H' → H p = none → H' p = some (.lst (ns.map V.int)) → (ns.length : Int) = k → (∀ x ∈ ns, (0 : Int) ≤ x) → Q (.ref p) H'
theorem sc__law_draws : FnScope ["_law_cell_here", "_law_many", "_law_found", "_law_number", "_law_one", "_law_other", "_law_k"] ["_law_cell_here", "_law_many"] (defScope s__law_draws) := ⟨rfl, rfl, rfl, by decide +kernel, rfl, by decide +kernel, by decide +kernel⟩
theorem d__law_draws (S : Src K mg "_law_draws" s__law_draws ["_law_cell_here", "_law_many"]) (T : Txt K mg)  : Def P w K mg base 1 "_law_draws" ["_law_cell_here", "_law_many"] (sp__law_draws K) := by
  refine S.ok sc__law_draws (fun vs H Q E h => ?_) (fun f cdv A outer s H vs Q E hr h => ?_)
  · obtain ⟨c, k, rfl, k0, k1, h⟩ := h
    rfl
  obtain ⟨c, k, rfl, k0, k1, h⟩ := h
  refine ⟨_, (pss_consN (ps_set (i := 2) sc__law_draws.nd rfl (by first | exact Or.inl rfl | exact Or.inr rfl) (pe_lst pa_nil))
      (pss_consN (ps_set (i := 3) sc__law_draws.nd rfl (by first | exact Or.inl rfl | exact Or.inr rfl) (pe_op op_fdiv (pv 0) pe_int))
      (pss_consN (ps_set (i := 4) sc__law_draws.nd rfl (by first | exact Or.inl rfl | exact Or.inr rfl) (pe_op op_add (pe_op op_mod (pv 0) pe_int) pe_int))
      (pss_consN (ps_set (i := 5) sc__law_draws.nd rfl (by first | exact Or.inl rfl | exact Or.inr rfl) (pe_op op_add (pe_op op_mod (pv 0) pe_int) pe_int))
      (pss_consN (ps_for PassesOwn.never rfl (pi_range1 rfl T.n_range (pa_cons (pv 1) pa_nil)) (pg_name (i := 6) sc__law_draws.nd rfl (by first | exact Or.inl rfl | exact Or.inr rfl))
      (pss_consN (ps_set (i := 4) sc__law_draws.nd rfl (by first | exact Or.inl rfl | exact Or.inr rfl) (pe_op op_mod (pe_op op_mul (pv 4) pe_int) pe_int))
      (pss_consN (ps_set (i := 5) sc__law_draws.nd rfl (by first | exact Or.inl rfl | exact Or.inr rfl) (pe_op op_mod (pe_op op_add (pe_op op_mul (pv 5) (pv 5)) (pv 4)) pe_int))
      (pss_one (ps_if (PW.pt (pw_and (pt_cmpR op_gt (pv 0) (pe_powc (v := 1000000000000000000) (by decide +kernel) ⟨by decide, by decide, by decide⟩) (nomark _)) (pw_and (pt_cmpR op_eq (pe_op op_mod (pv 0) pe_int) pe_int (nomark _)) (pw_and1 (pt_cmpR op_gt (pv 3) pe_int (nomark _))))))
      (pss_consN (ps_expr (pe_bm PySem.F.plainAttrs_list PySem.F.slot_list_append PySem.F.type_list_append mt_append (pv 2) (pa_cons (pe_op op_mod (pv 3) (pe_powc (v := 10000000000000) (by decide +kernel) ⟨by decide, by decide, by decide⟩)) pa_nil)))
      (pss_one (ps_set (i := 3) sc__law_draws.nd rfl (by first | exact Or.inl rfl | exact Or.inr rfl) (pe_op op_fdivW (pv 3) (pe_powc (v := 10000000000000) (by decide +kernel) ⟨by decide, by decide, by decide⟩)))))
      (pss_one (ps_expr (pe_bm PySem.F.plainAttrs_list PySem.F.slot_list_append PySem.F.type_list_append mt_append (pv 2) (pa_cons (pe_op op_fdiv (pe_op op_mod (pe_op op_add (pv 4) (pe_op op_mul (pv 5) pe_int)) pe_int) pe_int) pa_nil)))))))))
      (pss_one (ps_ret (pv 2)))))))), ?_⟩
  have sz := sizeLine_eq
  walk_at "rd"
  intro p np
  have sp := same_new np (.lst [])
  walk_at "rd"
  have o0 : 0 ≤ c % 2147483647 := Int.emod_nonneg _ (by decide)
  have o1 : c % 2147483647 < 2147483647 := Int.emod_lt_of_pos _ (by decide)
  have p0 : 0 ≤ c % 998244353 := Int.emod_nonneg _ (by decide)
  have p1 : c % 998244353 < 998244353 := Int.emod_lt_of_pos _ (by decide)
  refine for_range (fun i σ H' => ∃ (ns : List Int) (a b e : Int) (z : Option V), (Same H H' ∧ H' p = some (.lst (ns.map V.int))) ∧ ns.length = i ∧ (∀ x ∈ ns, (0 : Int) ≤ x) ∧ (0 ≤ a ∧ a < 4294967296 ∧ 0 ≤ b ∧ b < 4294967296) ∧ σ = [some (.int c), some (.int k), some (.ref p), some (.int e), some (.int a), some (.int b), z])
    ⟨[], _, _, _, _, ⟨sp, upd_same⟩, rfl, fun x hx => (by cases hx), ⟨by omega, by omega, by omega, by omega⟩, rfl⟩ ?_ ?_
  · rintro i σ H' hi ⟨ns, a, b, e, z, ⟨sH, eP⟩, nl, nn, ⟨a0, a1, b0, b1⟩, rfl⟩
    have ab := Int.emod_nonneg (a * 48271) (show (2147483647 : Int) ≠ 0 by decide)
    have ab1 := Int.emod_lt_of_pos (a * 48271) (show (0 : Int) < 2147483647 by decide)
    have bb := Int.emod_nonneg (b * b + a * 48271 % 2147483647) (show (998244353 : Int) ≠ 0 by decide)
    have bb1 := Int.emod_lt_of_pos (b * b + a * 48271 % 2147483647) (show (0 : Int) < 998244353 by decide)
    have snoc : ∀ y : Int, 0 ≤ y → ∀ x ∈ ns ++ [y], (0 : Int) ≤ x := fun y hy x hx => by
      rcases List.mem_append.mp hx with hx | hx
      · exact nn x hx
      · obtain rfl : x = y := by simpa using hx
        exact hy
    have eP' : ∀ y : Int, (upd H' p (.lst (ns.map V.int ++ [.int y]))) p = some (.lst ((ns ++ [y]).map V.int)) := fun y => by rw [List.map_append]; exact upd_same
    have i20 : i < 30 := by omega
    walk_at "rd"
    · refine ⟨.inl ⟨rfl, _, SqL.of eP⟩, ?_⟩
      walk_at "rd"
      refine ⟨p, _, _, rfl, rfl, eP, by rw [List.length_map]; omega, ?_⟩
      walk_at "rd"
      exact ⟨ns ++ [_], _, _, _, _, ⟨same_put sH np, eP' _⟩, by rw [List.length_append, nl]; rfl, snoc _ (Int.emod_nonneg _ (by decide)), ⟨ab, by omega, bb, by omega⟩, rfl⟩
    all_goals
      refine ⟨.inl ⟨rfl, _, SqL.of eP⟩, ?_⟩
      walk_at "rd"
      refine ⟨p, _, _, rfl, rfl, eP, by rw [List.length_map]; omega, ?_⟩
      exact ⟨ns ++ [_], _, _, _, _, ⟨same_put sH np, eP' _⟩, by rw [List.length_append, nl]; rfl, snoc _ (Int.ediv_nonneg (Int.emod_nonneg _ (by decide)) (by decide)), ⟨ab, by omega, bb, by omega⟩, rfl⟩
  · rintro σ H' ⟨ns, a, b, e, z, ⟨sH, eP⟩, nl, nn, _, rfl⟩
    walk_at "rd"
    exact h p ns H' sH np eP (by omega) nn
--@ _law_whole
def sp__law_whole (K : PySem.W.Frag) : Sp := fun vs H Q _ => ∃ i, vs = [.int i] ∧ Q (.bl true) H
theorem sc__law_whole : FnScope ["_law_found"] ["_law_found"] (defScope s__law_whole) := ⟨rfl, rfl, rfl, by decide +kernel, rfl, by decide +kernel, by decide +kernel⟩
theorem d__law_whole (S : Src K mg "_law_whole" s__law_whole ["_law_found"]) (T : Txt K mg)  : Def P w K mg base 1 "_law_whole" ["_law_found"] (sp__law_whole K) := by
  refine S.ok sc__law_whole (fun vs H Q E h => ?_) (fun f cdv A outer s H vs Q E hr h => ?_)
  · obtain ⟨i, rfl, h⟩ := h
    rfl
  obtain ⟨i, rfl, h⟩ := h
  refine ⟨_, (pss_one (ps_ret (pe_and (pe_callB call_isinst rfl T.n_isinstance PyProof.Rows.boot_isinstance (pa_cons (pv 0) (pa_cons (pe_bltn (v := .ty "int") rfl T.n_int PyProof.Rows.boot_int rfl) pa_nil))) (pe_one (pe_not (pe_callB call_isinst rfl T.n_isinstance PyProof.Rows.boot_isinstance (pa_cons (pv 0) (pa_cons (pe_bltn (v := .ty "bool") rfl T.n_bool PyProof.Rows.boot_bool rfl) pa_nil)))))))), ?_⟩
  walk_at "rd"
  refine ⟨_, _, _, _, rfl, .int i, kit_ii, ?_⟩
  walk_at "rd"
  refine ⟨_, _, _, _, rfl, .int i, kit_ib, ?_⟩
  walk_at "rd"
  exact h
--@ _law_stands
def sp__law_stands (K : PySem.W.Frag) : Sp := fun vs H Q _ => L2.Ee5 fun (p : Addr) (k : Int) (ws : List V) (ds : List Dd) (ms : List Int) => L2.Aa7 (vs = [.ref p, .int k]) (H p = some (.lst ws)) (LL (P3R H) ws ds) ((∀ d ∈ ds, d.2.1 ∈ ms)) (ms.length < 64) (ds.length ≤ 1000) (∀ (q : Addr) (ys : List V) (m : List (Int × Option Er)) (H' : Hp), H q = none → Same H H' → H' q = some (.lst ys) → LL (P2R H') ys m → Stn ds k m → Q (.ref q) H')
theorem sc__law_stands : FnScope ["_law_deeds_here", "_law_known", "_law_last", "_law_at", "_law_number", "_law_row_here"] ["_law_deeds_here", "_law_known"] (defScope s__law_stands) := ⟨rfl, rfl, rfl, by decide +kernel, rfl, by decide +kernel, by decide +kernel⟩
theorem d__law_stands (S : Src K mg "_law_stands" s__law_stands ["_law_deeds_here", "_law_known"]) (T : Txt K mg)  : Def P w K mg base 1 "_law_stands" ["_law_deeds_here", "_law_known"] (sp__law_stands K) := by
  refine S.ok sc__law_stands (fun vs H Q E h => ?_) (fun f cdv A outer s H vs Q E hr h => ?_)
  · obtain ⟨p, k, vs, ds, ms, rfl, eL, hD, hm, ml, dl, h⟩ := h
    rfl
  obtain ⟨p, k, vs, ds, ms, rfl, eL, hD, hm, ml, dl, h⟩ := h
  refine ⟨_, (pss_consN (ps_set (i := 2) sc__law_stands.nd rfl (by first | exact Or.inl rfl | exact Or.inr rfl) pe_dnewV)
      (pss_consN (ps_for PassesOwn.never rfl (pi_list (pv 0)) (pg_tup rfl (pgs_cons (pg_name (i := 3) sc__law_stands.nd rfl (by first | exact Or.inl rfl | exact Or.inr rfl)) (pgs_cons (pg_name (i := 4) sc__law_stands.nd rfl (by first | exact Or.inl rfl | exact Or.inr rfl)) (pgs_cons (pg_name (i := 5) sc__law_stands.nd rfl (by first | exact Or.inl rfl | exact Or.inr rfl)) pgs_nil))))
      (pss_one (ps_if (pt_cmpR op_le (pv 3) (pv 1) (nomark _))
      (pss_one (ps_putV (pv 2) (pv 4) (pv 5)))
      pss_nil)))
      (pss_one (ps_ret (pe_compIf (ix := [2]) ⟨rfl, by decide +kernel, rfl, by decide +kernel, rfl, (show (["_law_number", "_law_last"] : List Str).Nodup by decide +kernel), by walk_at "cap", by walk_at "sub", by walk_at "has"⟩ (pi_list (pe_callB (call_sortedKV rfl) rfl T.n_sorted PyProof.Rows.boot_sorted (pa_cons (pv 2) pa_nil))) (fun b => (pt_cmp (pc_notN (pe_ix (ix_dictVK P w) (pv 1) (pv 0) (fun _ _ => rfl))))) (fun b => (pe_tup (pa_cons (pv 0) (pa_cons (pe_ix (ix_dictVK P w) (pv 1) (pv 0) (fun _ _ => rfl)) pa_nil))))))))), ?_⟩
  have sz := sizeLine_eq
  have vl := hD.length
  walk_at "rd"
  intro d nd
  have sd := same_new nd (DictV P w d [])
  have ed := at_new (DictV P w d []) nd
  walk_at "rd"
  refine ⟨⟨_, SqL.of (sd _ _ eL)⟩, for_list (xs := vs) (fun i σ H' => ∃ (t : List (Int × V)) (z1 z2 z3 : Option V), (Same H H' ∧ H' d = some (DictV P w d t)) ∧ Tld (RowV H) t (ds.take i) k ∧ σ = [some (.ref p), some (.int k), some (.ref d), z1, z2, z3]) ⟨[], _, _, _, ⟨sd, ed⟩, by rw [List.take_zero]; exact Tld.nil, rfl⟩ ?_ ?_ ?_⟩
  · rintro i σ H' _ ⟨t, z1, z2, z3, ⟨sH, _⟩, _⟩
    exact SqL.of (sH _ _ eL)
  · rintro i x σ H' hx ⟨t, z1, z2, z3, ⟨sH, eD⟩, tt, rfl⟩
    obtain ⟨dd, hd, ta, u, rfl, ht, hu⟩ := hD.get hx
    have il : i < vs.length := (List.getElem?_eq_some_iff.mp hx).1
    have ht' := sH _ _ ht
    have tk : ds.take (i + 1) = ds.take i ++ [dd] := by rw [List.take_add_one, hd]; rfl
    have tl := tt.len
    have tl2 := List.length_take_le i ds
    rw [tk]
    refine ⟨ta, _, rfl, SqT.of ht', rfl, ?_⟩
    walk_at "rd"
    · rename_i cc
      refine ⟨d, t, dd.2.1, rfl, rfl, eD, by omega, ?_⟩
      exact ⟨_, _, _, _, ⟨same_put sH nd, upd_same⟩, tt.step cc hu, rfl⟩
    · rename_i cc
      exact ⟨_, _, _, _, ⟨sH, eD⟩, tt.skip cc, rfl⟩
  · rintro σ H' ⟨t, z1, z2, z3, ⟨sH, eD⟩, tt, rfl⟩
    rw [vl, List.take_length] at tt
    have tl := tt.few hm
    walk_at "rd"
    refine ⟨d, t, rfl, eD, by omega, fun q1 H1 ns nq1 s1 eq1 pm up => ?_⟩
    walk_at "rd"
    refine ⟨⟨_, SqL.of eq1⟩, fun l2 nl2 => ?_⟩
    have eD1 := s1 _ _ eD
    have nsl : ns.length = t.length := by rw [pm.length_eq, List.length_map]
    refine comp_sel (walk_list (SqL.of eq1)) nl2 (by rw [List.length_map]; omega) (ns.map fun n => (n, lastO ds k n)) (by rw [List.length_map, List.length_map]) (fun s => s.2.isSome) P2R (fun v e H1 H2 s q => q.same s) (fun v e H1 ys zs hL q => q.putL hL) ?_ ?_ ?_
    · rintro i x s H2 Q' hx hs sH2 hq
      rw [List.getElem?_map] at hx hs
      obtain ⟨n, hn, rfl⟩ := Option.map_eq_some_iff.mp hx
      rw [hn] at hs
      obtain rfl : (n, lastO ds k n) = s := Option.some.inj hs
      obtain ⟨v, lv, _, hv⟩ := tt.get (pm.mem_iff.mp (List.mem_of_getElem? hn))
      walk_at "rd"
      refine ⟨d, t, n, v, rfl, rfl, sH2 _ _ eD1, lv, ?_⟩
      refine ⟨_, rfl, ?_⟩
      have eb : (!decide (v = V.non)) = (lastO ds k n).isSome := by
        revert hv
        cases lastO ds k n with
        | none => intro hv; obtain rfl : v = .non := hv; rfl
        | some e => rintro ⟨a, rfl, _⟩; rfl
      rw [eb]
      exact hq
    · rintro i x s H2 Q' hx hs fs sH2 hq
      rw [List.getElem?_map] at hx hs
      obtain ⟨n, hn, rfl⟩ := Option.map_eq_some_iff.mp hx
      rw [hn] at hs
      obtain rfl : (n, lastO ds k n) = s := Option.some.inj hs
      obtain ⟨v, lv, _, hv⟩ := tt.get (pm.mem_iff.mp (List.mem_of_getElem? hn))
      walk_at "rd"
      refine ⟨d, t, n, v, rfl, rfl, sH2 _ _ eD1, lv, ?_⟩
      walk_at "rd"
      intro tp ntp
      have st := same_new ntp (.tup [.int n, v])
      exact hq _ _ st ⟨tp, v, rfl, upd_same, hv.same (sH.trans (s1.trans (sH2.trans st)))⟩
    · rintro ys H2 sH2 eL2 hL2
      exact h l2 ys _ H2 (same_gone sH (same_gone s1 nl2)) (sH.trans (s1.trans sH2)) eL2 hL2 (tt.stn pm up)
--@ is_day
def dayB : V → Bool
  | .int i => decide (0 ≤ i) && decide (i ≤ 999999)
  | _ => false
def sp_is_day (K : PySem.W.Frag) : Sp := fun vs H Q _ => ∃ x T, vs = [x] ∧ IsKind K H x T ∧ Q (.bl (dayB x)) H
theorem sc_is_day : FnScope ["thing"] ["thing"] (defScope s_is_day) := ⟨rfl, rfl, rfl, by decide +kernel, rfl, by decide +kernel, by decide +kernel⟩
theorem d_is_day (S : Src K mg "is_day" s_is_day ["thing"]) (T : Txt K mg) (D_is_whole : Def P w K mg base 1 "is_whole" ["thing"] (sp_is_whole K)) : Def P w K mg base 2 "is_day" ["thing"] (sp_is_day K) := by
  refine S.ok sc_is_day (fun vs H Q E h => ?_) (fun f cdv A outer s H vs Q E hr h => ?_)
  · obtain ⟨x, Tk, rfl, hk, h⟩ := h
    rfl
  obtain ⟨x, Tk, rfl, hk, h⟩ := h
  refine ⟨_, (pss_one (ps_ret (pe_and (pe_fn D_is_whole hr (pa_cons (pv 0) pa_nil)) (pe_one (pe_chain op_le op_le pe_int (pv 0) (pe_gint T.g_LAST_DAY)))))), ?_⟩
  walk_at "rd"
  refine ⟨_, _, rfl, hk, ?_⟩
  walk_at "rd"
  · rename_i z
    subst z
    obtain ⟨i, rfl⟩ := ty_int hk.1
    walk_at "rd"
    · exact qb h (by simp [dayB, *])
    · exact qb h (by simp [dayB, *])
  · rename_i z
    refine qb h ?_
    cases x with
    | int i => exact absurd (int_ty hk.1) z
    | _ => rfl
--@ count_named
def sp_count_named (K : PySem.W.Frag) : Sp := fun vs H Q _ => ∃ kd, vs = [.str (nm kd)] ∧ ∀ p H', H p = none → Same H H' → IsCnt K H' p kd → Q (.ref p) H'
theorem nm_injR {a b : Kd} (h : V.str (nm a) = V.str (nm b)) : a = b := by
  have := V.str.inj h
  revert this
  cases a <;> cases b <;> first | (intro; rfl) | (intro q; exfalso; revert q; decide)
theorem sc_count_named : FnScope ["text", "count"] ["text"] (defScope s_count_named) := ⟨rfl, rfl, rfl, by decide +kernel, rfl, by decide +kernel, by decide +kernel⟩
theorem d_count_named (S : Src K mg "count_named" s_count_named ["text"]) (T : Txt K mg) (D_m_name : ∀ kd : Kd, DefM P w K mg base 1 (cA K kd.cls) "name" ["self"] (sp_m_name kd K)) : Def P w K mg base 2 "count_named" ["text"] (sp_count_named K) := by
  refine S.ok sc_count_named (fun vs H Q E h => ?_) (fun f cdv A outer s H vs Q E hr h => ?_)
  · obtain ⟨kd0, rfl, h⟩ := h
    rfl
  obtain ⟨kd0, rfl, h⟩ := h
  refine ⟨_, (pss_consN (ps_if (pt_val (pe_callB call_isinst rfl T.n_isinstance PyProof.Rows.boot_isinstance (pa_cons (pv 0) (pa_cons (pe_bltn (v := .ty "str") rfl T.n_str PyProof.Rows.boot_str rfl) pa_nil))))
      (pss_one (ps_for PassesOwn.never rfl (pi_tup (pe_tup (pa_cons (pe_new0 (T.mk0 .plain) T.m_Count) (pa_cons (pe_new0 (T.mk0 .bank) T.m_Bank) (pa_cons (pe_new0 (T.mk0 .thirty) T.m_Thirty) (pa_cons (pe_new0 (T.mk0 .exact) T.m_Exact) pa_nil)))))) (pg_name (i := 1) sc_count_named.nd rfl (by first | exact Or.inl rfl | exact Or.inr rfl))
      (pss_one (ps_if (pt_cmpR op_eq (pe_methK0 D_m_name T.cls hr (pv 1)) (pv 0) (nomark _))
      (pss_one (ps_ret (pv 1)))
      pss_nil))))
      pss_nil)
      pss_never), ?_⟩
  walk_at "rd"
  refine ⟨_, _, _, _, rfl, .str _, (show PySem.W.kitOne K (.type "str") (.type "str") = some true from rfl), ?_⟩
  walk_at "rd"
  intro x1 dx1 nx1 nd1 ne1
  obtain ⟨sx1, c1⟩ := new_cnt (K := K) .plain nx1 nd1 ne1
  walk_at "rd"
  intro x2 dx2 nx2 nd2 ne2
  obtain ⟨sx2, c2⟩ := new_cnt (K := K) .bank nx2 nd2 ne2
  walk_at "rd"
  intro x3 dx3 nx3 nd3 ne3
  obtain ⟨sx3, c3⟩ := new_cnt (K := K) .thirty nx3 nd3 ne3
  walk_at "rd"
  intro x4 dx4 nx4 nd4 ne4
  obtain ⟨sx4, c4⟩ := new_cnt (K := K) .exact nx4 nd4 ne4
  walk_at "rd"
  intro tp ntp
  have st := same_new ntp (.tup [.ref x1, .ref x2, .ref x3, .ref x4])
  have sAll := sx1.trans (sx2.trans (sx3.trans (sx4.trans st)))
  have g1 := nx1
  have g2 := same_gone sx1 nx2
  have g3 := same_gone sx1 (same_gone sx2 nx3)
  have g4 := same_gone sx1 (same_gone sx2 (same_gone sx3 nx4))
  have hc : LL (fun v kd => ∃ c, v = .ref c ∧ H c = none ∧ IsCnt K (upd _ tp (.tup [.ref x1, .ref x2, .ref x3, .ref x4])) c kd) [.ref x1, .ref x2, .ref x3, .ref x4] [.plain, .bank, .thirty, .exact] := .cons ⟨x1, rfl, g1, c1.same (sx2.trans (sx3.trans (sx4.trans st)))⟩ (.cons ⟨x2, rfl, g2, c2.same (sx3.trans (sx4.trans st))⟩ (.cons ⟨x3, rfl, g3, c3.same (sx4.trans st)⟩ (.cons ⟨x4, rfl, g4, c4.same st⟩ .nil)))
  have et := at_new (.tup [.ref x1, .ref x2, .ref x3, .ref x4]) ntp
  generalize upd _ tp (.tup [.ref x1, .ref x2, .ref x3, .ref x4]) = G at sAll hc et ⊢
  generalize ec : ([.ref x1, .ref x2, .ref x3, .ref x4] : List V) = cs at hc et ⊢
  walk_at "rd"
  refine ⟨⟨_, SqT.of et⟩, for_tup (xs := cs) (fun i σ H3 => Same G H3 ∧ (∀ (j : Nat) (kd : Kd), j < i → [Kd.plain, .bank, .thirty, .exact][j]? = some kd → kd0 ≠ kd) ∧ ∃ z1, σ = [some (.str (nm kd0)), z1]) ⟨Same.refl _, fun j kd hj => absurd hj (Nat.not_lt_zero _), _, rfl⟩ ?_ ?_ ?_⟩
  · rintro i σ H3 _ ⟨s3, _⟩
    exact SqT.of (s3 _ _ et)
  · rintro i x σ H3 hx ⟨s3, hn, z1, rfl⟩
    obtain ⟨kd, ek, c, rfl, gc, hk⟩ := hc.get hx
    walk_at "rd"
    refine ⟨kd, c, rfl, hk.same s3, ?_⟩
    walk_at "rd"
    · rename_i e
      obtain rfl := nm_injR e
      exact h c _ gc (sAll.trans s3) (hk.same s3)
    · rename_i e
      refine ⟨fun j k2 hj e2 => ?_, _, rfl⟩
      rcases Nat.lt_succ_iff_lt_or_eq.mp hj with hj | rfl
      · exact hn j k2 hj e2
      · rw [ek] at e2; cases e2
        exact fun q => e (by rw [q])
  · rintro σ H3 ⟨s3, hn, z1, rfl⟩
    subst ec
    exfalso
    cases kd0
    · exact hn 0 .plain (show 0 < 4 by decide) rfl rfl
    · exact hn 1 .bank (show 1 < 4 by decide) rfl rfl
    · exact hn 2 .thirty (show 2 < 4 by decide) rfl rfl
    · exact hn 3 .exact (show 3 < 4 by decide) rfl rfl
--@ Entry_row
def sp_e_row (k : Ek) (K : PySem.W.Frag) : Sp := fun vs H Q _ => L2.Ee4 fun (a dx : Addr) (d x : Int) => L2.Aa3 (vs = [.ref a]) (IsEnt K H a dx k d x) (∀ q, H q = none → Q (.ref q) (upd H q (.tup (rowV k d x))))
theorem sc_Entry_row : FnScope ["self"] ["self"] (defScope s_Entry_row) := ⟨rfl, rfl, rfl, by decide +kernel, rfl, by decide +kernel, by decide +kernel⟩
theorem d_Entry_row (kd : Ek) (hk : kd = .turn ∨ kd = .base) (S : MethS K (cA K kd.cls) "row" "Entry.row" s_Entry_row ["self"]) (T : Txt K mg) (D_e_word : ∀ k : Ek, DefM P w K mg base 1 (cA K k.cls) "word" ["self"] (sp_e_word k K)) : DefM P w K mg base 2 (cA K kd.cls) "row" ["self"] (sp_e_row kd K) := by

  refine S.ok sc_Entry_row (fun vs H Q E h => ?_) (fun f cdv A outer s H vs Q E hr h => ?_)
  · obtain ⟨a, dx, d, x, rfl, e, h⟩ := h
    rfl
  obtain ⟨a, dx, d, x, rfl, e, h⟩ := h
  refine ⟨_, (pss_one (ps_ret (pe_tup (pa_cons (pe_methE0 D_e_word T.clE hr (pv 0)) (pa_cons (pe_fld (pv 0) rfl) pa_nil))))), ?_⟩
  rcases hk with rfl | rfl
  · walk_at "rd"
    refine ⟨.turn, a, dx, _, rfl, e, entF_word .turn d x, a, rfl, ?_⟩
    walk_at "rd"
    refine ⟨a, _, dx, _, _, rfl, e, T.clE .turn, T.naE_day .turn, rfl, ?_⟩
    walk_at "rd"
    intro q nq
    exact h q nq
  · walk_at "rd"
    refine ⟨.base, a, dx, _, rfl, e, entF_word .base d x, a, rfl, ?_⟩
    walk_at "rd"
    refine ⟨a, _, dx, _, _, rfl, e, T.clE .base, T.naE_day .base, rfl, ?_⟩
    walk_at "rd"
    intro q nq
    exact h q nq
--@ AmountEntry_init
def sp_AmountEntry_init (K : PySem.W.Frag) : Sp := fun vs H Q _ => L2.Ee5 fun (p C dx : Addr) (d x : Int) => L2.Aa6 (vs = [.ref p, .int d, .int x]) (H p = some (.ins C dx [])) (Cls K C) (NoAttr K C "day") (NoAttr K C "amount") (Q .non (upd H p (.ins C dx [("day", .int d), ("amount", .int x)])))
theorem sc_AmountEntry_init : FnScope ["self", "day", "amount"] ["self", "day", "amount"] (defScope s_AmountEntry_init) := ⟨rfl, rfl, rfl, by decide +kernel, rfl, by decide +kernel, by decide +kernel⟩
theorem d_AmountEntry_init (x : Str) (S : MethS K (cA K x) "__init__" "AmountEntry.__init__" s_AmountEntry_init ["self", "day", "amount"]) (T : Txt K mg) (D_U_Entry_init : DefU P w K mg base 1 (cA K "Entry") "__init__" ["self", "day"] (sp_Entry_init K)) : DefM P w K mg base 2 (cA K x) "__init__" ["self", "day", "amount"] (sp_AmountEntry_init K) := by

  refine S.ok sc_AmountEntry_init (fun vs H Q E h => ?_) (fun f cdv A outer s H vs Q E hr h => ?_)
  · obtain ⟨p, C, dx, d, x, rfl, e, hc, n1, n2, h⟩ := h
    rfl
  obtain ⟨p, C, dx, d, x, rfl, e, hc, n1, n2, h⟩ := h
  refine ⟨_, (pss_consN (ps_expr (pe_unb D_U_Entry_init (pe_glob (v := .ref (cA K "Entry")) rfl T.m_Entry rfl) hr (pa_cons (pv 0) (pa_cons (pv 1) pa_nil))))
      (pss_one (ps_fld (pv 0) (pv 2) rfl))), ?_⟩
  walk_at "rd"
  refine ⟨p, C, dx, [], d, rfl, e, hc, n1, by decide, ?_⟩
  walk_at "rd"
  refine ⟨p, C, dx, _, rfl, upd_same, hc, n2, Nat.lt_of_le_of_lt (Nat.le_refl 1) (by decide), ?_⟩
  rw [upd_upd]
  exact h
--@ AmountEntry_row

theorem sc_AmountEntry_row : FnScope ["self"] ["self"] (defScope s_AmountEntry_row) := ⟨rfl, rfl, rfl, by decide +kernel, rfl, by decide +kernel, by decide +kernel⟩
theorem d_AmountEntry_row (kd : Ek) (hk : kd = .out ∨ kd = .fee ∨ kd = .pay ∨ kd = .due) (S : MethS K (cA K kd.cls) "row" "AmountEntry.row" s_AmountEntry_row ["self"]) (T : Txt K mg) (D_e_word : ∀ k : Ek, DefM P w K mg base 1 (cA K k.cls) "word" ["self"] (sp_e_word k K)) : DefM P w K mg base 2 (cA K kd.cls) "row" ["self"] (sp_e_row kd K) := by

  refine S.ok sc_AmountEntry_row (fun vs H Q E h => ?_) (fun f cdv A outer s H vs Q E hr h => ?_)
  · obtain ⟨a, dx, d, x, rfl, e, h⟩ := h
    rfl
  obtain ⟨a, dx, d, x, rfl, e, h⟩ := h
  refine ⟨_, (pss_one (ps_ret (pe_tup (pa_cons (pe_methE0 D_e_word T.clE hr (pv 0)) (pa_cons (pe_fld (pv 0) rfl) (pa_cons (pe_fld (pv 0) rfl) pa_nil)))))), ?_⟩
  rcases hk with rfl | rfl | rfl | rfl
  · walk_at "rd"
    refine ⟨.out, a, dx, _, rfl, e, entF_word .out d x, a, rfl, ?_⟩
    walk_at "rd"
    refine ⟨a, _, dx, _, _, rfl, e, T.clE .out, T.naE_day .out, rfl, ?_⟩
    walk_at "rd"
    refine ⟨a, _, dx, _, _, rfl, e, T.clE .out, T.naE_amount .out, rfl, ?_⟩
    walk_at "rd"
    intro q nq
    exact h q nq
  · walk_at "rd"
    refine ⟨.fee, a, dx, _, rfl, e, entF_word .fee d x, a, rfl, ?_⟩
    walk_at "rd"
    refine ⟨a, _, dx, _, _, rfl, e, T.clE .fee, T.naE_day .fee, rfl, ?_⟩
    walk_at "rd"
    refine ⟨a, _, dx, _, _, rfl, e, T.clE .fee, T.naE_amount .fee, rfl, ?_⟩
    walk_at "rd"
    intro q nq
    exact h q nq
  · walk_at "rd"
    refine ⟨.pay, a, dx, _, rfl, e, entF_word .pay d x, a, rfl, ?_⟩
    walk_at "rd"
    refine ⟨a, _, dx, _, _, rfl, e, T.clE .pay, T.naE_day .pay, rfl, ?_⟩
    walk_at "rd"
    refine ⟨a, _, dx, _, _, rfl, e, T.clE .pay, T.naE_amount .pay, rfl, ?_⟩
    walk_at "rd"
    intro q nq
    exact h q nq
  · walk_at "rd"
    refine ⟨.due, a, dx, _, rfl, e, entF_word .due d x, a, rfl, ?_⟩
    walk_at "rd"
    refine ⟨a, _, dx, _, _, rfl, e, T.clE .due, T.naE_day .due, rfl, ?_⟩
    walk_at "rd"
    refine ⟨a, _, dx, _, _, rfl, e, T.clE .due, T.naE_amount .due, rfl, ?_⟩
    walk_at "rd"
    intro q nq
    exact h q nq
--@ RateEntry_init
def sp_RateEntry_init (K : PySem.W.Frag) : Sp := fun vs H Q _ => L2.Ee5 fun (p C dx : Addr) (d x : Int) => L2.Aa6 (vs = [.ref p, .int d, .int x]) (H p = some (.ins C dx [])) (Cls K C) (NoAttr K C "day") (NoAttr K C "rate") (Q .non (upd H p (.ins C dx [("day", .int d), ("rate", .int x)])))
theorem sc_RateEntry_init : FnScope ["self", "day", "rate"] ["self", "day", "rate"] (defScope s_RateEntry_init) := ⟨rfl, rfl, rfl, by decide +kernel, rfl, by decide +kernel, by decide +kernel⟩
theorem d_RateEntry_init (x : Str) (S : MethS K (cA K x) "__init__" "RateEntry.__init__" s_RateEntry_init ["self", "day", "rate"]) (T : Txt K mg) (D_U_Entry_init : DefU P w K mg base 1 (cA K "Entry") "__init__" ["self", "day"] (sp_Entry_init K)) : DefM P w K mg base 2 (cA K x) "__init__" ["self", "day", "rate"] (sp_RateEntry_init K) := by

  refine S.ok sc_RateEntry_init (fun vs H Q E h => ?_) (fun f cdv A outer s H vs Q E hr h => ?_)
  · obtain ⟨p, C, dx, d, x, rfl, e, hc, n1, n2, h⟩ := h
    rfl
  obtain ⟨p, C, dx, d, x, rfl, e, hc, n1, n2, h⟩ := h
  refine ⟨_, (pss_consN (ps_expr (pe_unb D_U_Entry_init (pe_glob (v := .ref (cA K "Entry")) rfl T.m_Entry rfl) hr (pa_cons (pv 0) (pa_cons (pv 1) pa_nil))))
      (pss_one (ps_fld (pv 0) (pv 2) rfl))), ?_⟩
  walk_at "rd"
  refine ⟨p, C, dx, [], d, rfl, e, hc, n1, by decide, ?_⟩
  walk_at "rd"
  refine ⟨p, C, dx, _, rfl, upd_same, hc, n2, Nat.lt_of_le_of_lt (Nat.le_refl 1) (by decide), ?_⟩
  rw [upd_upd]
  exact h
--@ RateEntry_row

theorem sc_RateEntry_row : FnScope ["self"] ["self"] (defScope s_RateEntry_row) := ⟨rfl, rfl, rfl, by decide +kernel, rfl, by decide +kernel, by decide +kernel⟩
theorem d_RateEntry_row (kd : Ek) (hk : kd = .rate ∨ kd = .late) (S : MethS K (cA K kd.cls) "row" "RateEntry.row" s_RateEntry_row ["self"]) (T : Txt K mg) (D_e_word : ∀ k : Ek, DefM P w K mg base 1 (cA K k.cls) "word" ["self"] (sp_e_word k K)) : DefM P w K mg base 2 (cA K kd.cls) "row" ["self"] (sp_e_row kd K) := by

  refine S.ok sc_RateEntry_row (fun vs H Q E h => ?_) (fun f cdv A outer s H vs Q E hr h => ?_)
  · obtain ⟨a, dx, d, x, rfl, e, h⟩ := h
    rfl
  obtain ⟨a, dx, d, x, rfl, e, h⟩ := h
  refine ⟨_, (pss_one (ps_ret (pe_tup (pa_cons (pe_methE0 D_e_word T.clE hr (pv 0)) (pa_cons (pe_fld (pv 0) rfl) (pa_cons (pe_fld (pv 0) rfl) pa_nil)))))), ?_⟩
  rcases hk with rfl | rfl
  · walk_at "rd"
    refine ⟨.rate, a, dx, _, rfl, e, entF_word .rate d x, a, rfl, ?_⟩
    walk_at "rd"
    refine ⟨a, _, dx, _, _, rfl, e, T.clE .rate, T.naE_day .rate, rfl, ?_⟩
    walk_at "rd"
    refine ⟨a, _, dx, _, _, rfl, e, T.clE .rate, T.naE_rate .rate, rfl, ?_⟩
    walk_at "rd"
    intro q nq
    exact h q nq
  · walk_at "rd"
    refine ⟨.late, a, dx, _, rfl, e, entF_word .late d x, a, rfl, ?_⟩
    walk_at "rd"
    refine ⟨a, _, dx, _, _, rfl, e, T.clE .late, T.naE_day .late, rfl, ?_⟩
    walk_at "rd"
    refine ⟨a, _, dx, _, _, rfl, e, T.clE .late, T.naE_rate .late, rfl, ?_⟩
    walk_at "rd"
    intro q nq
    exact h q nq
--@ Still_init
def sp_Still_init (K : PySem.W.Frag) : Sp := fun vs H Q _ => L2.Ee5 fun (p C dx : Addr) (d x : Int) => L2.Aa6 (vs = [.ref p, .int d, .int x]) (H p = some (.ins C dx [])) (Cls K C) (NoAttr K C "day") (NoAttr K C "until") (Q .non (upd H p (.ins C dx [("day", .int d), ("until", .int x)])))
theorem sc_Still_init : FnScope ["self", "day", "until"] ["self", "day", "until"] (defScope s_Still_init) := ⟨rfl, rfl, rfl, by decide +kernel, rfl, by decide +kernel, by decide +kernel⟩
theorem d_Still_init (x : Str) (S : MethS K (cA K x) "__init__" "Still.__init__" s_Still_init ["self", "day", "until"]) (T : Txt K mg) (D_U_Entry_init : DefU P w K mg base 1 (cA K "Entry") "__init__" ["self", "day"] (sp_Entry_init K)) : DefM P w K mg base 2 (cA K x) "__init__" ["self", "day", "until"] (sp_Still_init K) := by

  refine S.ok sc_Still_init (fun vs H Q E h => ?_) (fun f cdv A outer s H vs Q E hr h => ?_)
  · obtain ⟨p, C, dx, d, x, rfl, e, hc, n1, n2, h⟩ := h
    rfl
  obtain ⟨p, C, dx, d, x, rfl, e, hc, n1, n2, h⟩ := h
  refine ⟨_, (pss_consN (ps_expr (pe_unb D_U_Entry_init (pe_glob (v := .ref (cA K "Entry")) rfl T.m_Entry rfl) hr (pa_cons (pv 0) (pa_cons (pv 1) pa_nil))))
      (pss_one (ps_fld (pv 0) (pv 2) rfl))), ?_⟩
  walk_at "rd"
  refine ⟨p, C, dx, [], d, rfl, e, hc, n1, by decide, ?_⟩
  walk_at "rd"
  refine ⟨p, C, dx, _, rfl, upd_same, hc, n2, Nat.lt_of_le_of_lt (Nat.le_refl 1) (by decide), ?_⟩
  rw [upd_upd]
  exact h
--@ Still_row

theorem sc_Still_row : FnScope ["self"] ["self"] (defScope s_Still_row) := ⟨rfl, rfl, rfl, by decide +kernel, rfl, by decide +kernel, by decide +kernel⟩
theorem d_Still_row (kd : Ek) (hk : kd = .still) (S : MethS K (cA K kd.cls) "row" "Still.row" s_Still_row ["self"]) (T : Txt K mg) (D_e_word : ∀ k : Ek, DefM P w K mg base 1 (cA K k.cls) "word" ["self"] (sp_e_word k K)) : DefM P w K mg base 2 (cA K kd.cls) "row" ["self"] (sp_e_row kd K) := by
  subst hk
  refine S.ok sc_Still_row (fun vs H Q E h => ?_) (fun f cdv A outer s H vs Q E hr h => ?_)
  · obtain ⟨a, dx, d, x, rfl, e, h⟩ := h
    rfl
  obtain ⟨a, dx, d, x, rfl, e, h⟩ := h
  refine ⟨_, (pss_one (ps_ret (pe_tup (pa_cons (pe_methE0 D_e_word T.clE hr (pv 0)) (pa_cons (pe_fld (pv 0) rfl) (pa_cons (pe_fld (pv 0) rfl) pa_nil)))))), ?_⟩
  · walk_at "rd"
    refine ⟨.still, a, dx, _, rfl, e, entF_word .still d x, a, rfl, ?_⟩
    walk_at "rd"
    refine ⟨a, _, dx, _, _, rfl, e, T.clE .still, T.naE_day .still, rfl, ?_⟩
    walk_at "rd"
    refine ⟨a, _, dx, _, _, rfl, e, T.clE .still, T.naE_until .still, rfl, ?_⟩
    walk_at "rd"
    intro q nq
    exact h q nq
--@ is_within
def sp_is_within (K : PySem.W.Frag) : Sp := fun vs H Q _ => ∃ (i a b : Int), vs = [.int i, .int a, .int b] ∧ (a ≤ i ∧ i ≤ b) ∧ Q (.bl true) H
theorem sc_is_within : FnScope ["thing", "least", "most"] ["thing", "least", "most"] (defScope s_is_within) := ⟨rfl, rfl, rfl, by decide +kernel, rfl, by decide +kernel, by decide +kernel⟩
theorem d_is_within (S : Src K mg "is_within" s_is_within ["thing", "least", "most"]) (T : Txt K mg) (D_is_whole : Def P w K mg base 1 "is_whole" ["thing"] (sp_is_whole K)) : Def P w K mg base 2 "is_within" ["thing", "least", "most"] (sp_is_within K) := by
  refine S.ok sc_is_within (fun vs H Q E h => ?_) (fun f cdv A outer s H vs Q E hr h => ?_)
  · obtain ⟨i, a, b, rfl, ⟨h1, h2⟩, h⟩ := h
    rfl
  obtain ⟨i, a, b, rfl, ⟨h1, h2⟩, h⟩ := h
  refine ⟨_, (pss_one (ps_ret (pe_and (pe_fn D_is_whole hr (pa_cons (pv 0) pa_nil)) (pe_one (pe_chain op_le op_le (pv 1) (pv 0) (pv 2)))))), ?_⟩
  walk_at "rd"
  refine ⟨_, "int", rfl, ⟨.int i, by simp [kinds]⟩, ?_⟩
  walk_at "rd"
  all_goals first
    | exact absurd rfl (by assumption)
    | (exfalso; omega)
    | (refine qb h ?_; simp [h1, h2])
--@ _law_cell
def sp__law_cell (K : PySem.W.Frag) : Sp := fun vs H Q _ => ∃ (a : Addr) (ns : List Int) (k : Int), vs = [.ref a, .int k] ∧ SqL K H a (ns.map V.int) ∧ 0 ≤ k ∧ k ≤ 990000 ∧ ∀ r, Q (.int r) H
theorem sc__law_cell : FnScope ["_law_script", "_law_k"] ["_law_script", "_law_k"] (defScope s__law_cell) := ⟨rfl, rfl, rfl, by decide +kernel, rfl, by decide +kernel, by decide +kernel⟩
theorem d__law_cell (S : Src K mg "_law_cell" s__law_cell ["_law_script", "_law_k"]) (T : Txt K mg) (D__law_draw : Def P w K mg base 1 "_law_draw" ["_law_script", "_law_k", "_law_many"] (sp__law_draw K)) : Def P w K mg base 2 "_law_cell" ["_law_script", "_law_k"] (sp__law_cell K) := by
  refine S.ok sc__law_cell (fun vs H Q E h => ?_) (fun f cdv A outer s H vs Q E hr h => ?_)
  · obtain ⟨a, ns, k, rfl, hS, k0, k1, h⟩ := h
    rfl
  obtain ⟨a, ns, k, rfl, hS, k0, k1, h⟩ := h
  refine ⟨_, (pss_consN (ps_if (PW.pt (pw_and (pt_cmpR op_lt (pv 1) (pe_callB call_len_seq rfl T.n_len PySem.boot_len (pa_cons (pv 0) pa_nil)) (nomark _)) (pw_and (pt_cmpR op_gt (pe_ix ix_list (pv 0) (pv 1) (fun _ _ => rfl)) (pe_powc (v := 1000000000000000000) (by decide +kernel) ⟨by decide, by decide, by decide⟩) (nomark _)) (pw_and1 (pt_cmpR op_eq (pe_op op_mod (pe_ix ix_list (pv 0) (pv 1) (fun _ _ => rfl)) pe_int) pe_int (nomark _))))))
      (pss_one (ps_ret (pe_ix ix_list (pv 0) (pv 1) (fun _ _ => rfl))))
      pss_nil)
      (pss_one (ps_ret (pe_op op_mul pe_int (pe_fn D__law_draw hr (pa_cons (pv 0) (pa_cons (pv 1) (pa_cons (pe_op op_mul pe_int (pe_powc (v := 100000000) (by decide +kernel) ⟨by decide, by decide, by decide⟩)) pa_nil)))))))), ?_⟩
  walk_at "rd"
  · rename_i q
    have at_ : atI (ns.map V.int) k = some (.int (ns.getD k.toNat 0)) := at_ints k0 (by rw [List.length_map] at q; exact q)
    refine ⟨a, _, _, _, rfl, rfl, hS, at_, ?_⟩
    walk_at "rd"
    · refine ⟨a, _, _, _, rfl, rfl, hS, at_, ?_⟩
      walk_at "rd"
      · refine ⟨a, _, _, _, rfl, rfl, hS, at_, ?_⟩
        walk_at "rd"
        exact h _
      · exact h _
    · exact h _
  · exact h _
--@ _law_pick
def sp__law_pick (K : PySem.W.Frag) : Sp := fun vs H Q _ => ∃ (c k m : Int), vs = [.int c, .int k, .int m] ∧ 0 ≤ k ∧ k ≤ 29 ∧ 0 < m ∧ ∀ r, 0 ≤ r → r < m → Q (.int r) H
theorem sc__law_pick : FnScope ["_law_cell_here", "_law_by", "_law_many"] ["_law_cell_here", "_law_by", "_law_many"] (defScope s__law_pick) := ⟨rfl, rfl, rfl, by decide +kernel, rfl, by decide +kernel, by decide +kernel⟩
theorem d__law_pick (S : Src K mg "_law_pick" s__law_pick ["_law_cell_here", "_law_by", "_law_many"]) (T : Txt K mg) (D__law_draws : Def P w K mg base 1 "_law_draws" ["_law_cell_here", "_law_many"] (sp__law_draws K)) : Def P w K mg base 2 "_law_pick" ["_law_cell_here", "_law_by", "_law_many"] (sp__law_pick K) := by
  refine S.okF sc__law_pick (fun vs H Q E h => ?_) (fun f cdv A outer s H vs Q E hr h => ?_)
  · obtain ⟨c, k, m, rfl, k0, k1, m0, h⟩ := h
    rfl
  obtain ⟨c, k, m, rfl, k0, k1, m0, h⟩ := h
  refine ⟨_, (pss_one (ps_ret (pe_op op_mod (pe_ix ix_list (pe_fn D__law_draws hr (pa_cons (pv 0) (pa_cons (pe_op op_add (pv 1) pe_int) pa_nil))) (pv 1) (fun _ _ => rfl)) (pv 2)))), ?_⟩
  walk_at "rd"
  intro p ns H' sH np eP nl nn
  walk_at "rd"
  refine ⟨p, _, _, _, rfl, rfl, SqL.of eP, at_ints k0 (by omega), ?_⟩
  walk_at "rd"
  first | exact ⟨sH, h _ (Int.emod_nonneg _ (by omega)) (Int.emod_lt_of_pos _ m0)⟩ | exact h _ (Int.emod_nonneg _ (by omega)) (Int.emod_lt_of_pos _ m0)
--@ _law_base
def sp__law_base (K : PySem.W.Frag) : Sp := fun vs H Q _ => ∃ (p : Addr) (ns : List Int), vs = [.ref p] ∧ SqL K H p (ns.map V.int) ∧ ∀ b, 0 ≤ b → b ≤ 999700 → Q (.int b) H
theorem sc__law_base : FnScope ["_law_script"] ["_law_script"] (defScope s__law_base) := ⟨rfl, rfl, rfl, by decide +kernel, rfl, by decide +kernel, by decide +kernel⟩
theorem d__law_base (S : Src K mg "_law_base" s__law_base ["_law_script"]) (T : Txt K mg) (D__law_draw : Def P w K mg base 1 "_law_draw" ["_law_script", "_law_k", "_law_many"] (sp__law_draw K)) : Def P w K mg base 2 "_law_base" ["_law_script"] (sp__law_base K) := by
  refine S.okF sc__law_base (fun vs H Q E h => ?_) (fun f cdv A outer s H vs Q E hr h => ?_)
  · obtain ⟨p, ns, rfl, hp, h⟩ := h
    rfl
  obtain ⟨p, ns, rfl, hp, h⟩ := h
  refine ⟨_, (pss_one (ps_ret (pe_ix ix_list (pe_lst (pa_cons pe_int (pa_cons pe_int (pa_cons pe_int (pa_cons (pe_fn D__law_draw hr (pa_cons (pv 0) (pa_cons pe_int (pa_cons pe_int pa_nil)))) pa_nil))))) (pe_fn D__law_draw hr (pa_cons (pv 0) (pa_cons pe_int (pa_cons pe_int pa_nil)))) (fun _ _ => rfl)))), ?_⟩
  have sz := sizeLine_eq
  walk_at "rd"
  rename_i x x0 x1
  intro q nq
  have sq := same_new nq (.lst [.int 0, .int 999700, .int 60, .int x])
  have hp1 := sq.seq hp
  walk_at "rd"
  rename_i y y0 y1
  obtain ⟨v, hv, hm⟩ := at_mem (xs := [.int 0, .int 999700, .int 60, .int x]) y0 (by simpa using y1)
  obtain ⟨b, rfl, b0, b1⟩ := (mem1 ⟨_, rfl, by omega, by omega⟩ (mem1 ⟨_, rfl, by omega, by omega⟩ (mem1 ⟨_, rfl, by omega, by omega⟩ (mem1 ⟨_, rfl, by omega, by omega⟩ mem0))) : ∀ v ∈ ([.int 0, .int 999700, .int 60, .int x] : List V), ∃ w : Int, v = .int w ∧ 0 ≤ w ∧ w ≤ 999700) v hm
  refine ⟨q, _, _, _, rfl, rfl, SqL.of upd_same, hv, ?_⟩
  walk_at "rd"
  first | exact ⟨sq, h b b0 b1⟩ | exact h b b0 b1
--@ _law_grace
def sp__law_grace (K : PySem.W.Frag) : Sp := fun vs H Q _ => ∃ (p : Addr) (ns : List Int), vs = [.ref p] ∧ SqL K H p (ns.map V.int) ∧ ∀ b, 0 ≤ b → b ≤ 366 → Q (.int b) H
theorem sc__law_grace : FnScope ["_law_script"] ["_law_script"] (defScope s__law_grace) := ⟨rfl, rfl, rfl, by decide +kernel, rfl, by decide +kernel, by decide +kernel⟩
theorem d__law_grace (S : Src K mg "_law_grace" s__law_grace ["_law_script"]) (T : Txt K mg) (D__law_draw : Def P w K mg base 1 "_law_draw" ["_law_script", "_law_k", "_law_many"] (sp__law_draw K)) : Def P w K mg base 2 "_law_grace" ["_law_script"] (sp__law_grace K) := by
  refine S.okF sc__law_grace (fun vs H Q E h => ?_) (fun f cdv A outer s H vs Q E hr h => ?_)
  · obtain ⟨p, ns, rfl, hp, h⟩ := h
    rfl
  obtain ⟨p, ns, rfl, hp, h⟩ := h
  refine ⟨_, (pss_one (ps_ret (pe_ix ix_list (pe_lst (pa_cons pe_int (pa_cons pe_int (pa_cons pe_int (pa_cons pe_int pa_nil))))) (pe_op op_mod (pe_op op_fdiv (pe_fn D__law_draw hr (pa_cons (pv 0) (pa_cons pe_int (pa_cons (pe_powc (v := 1000000000) (by decide +kernel) ⟨by decide, by decide, by decide⟩) pa_nil)))) pe_int) pe_int) (fun _ _ => rfl)))), ?_⟩
  have sz := sizeLine_eq
  walk_at "rd"
  intro q nq
  have sq := same_new nq (.lst [.int 0, .int 3, .int 30, .int 366])
  have hp1 := sq.seq hp
  walk_at "rd"
  rename_i y y0 y1
  obtain ⟨v, hv, hm⟩ := at_mem (xs := [.int 0, .int 3, .int 30, .int 366]) (k := y / 12 % 4) (by omega) (by simp; omega)
  obtain ⟨b, rfl, b0, b1⟩ := (mem1 ⟨_, rfl, by omega, by omega⟩ (mem1 ⟨_, rfl, by omega, by omega⟩ (mem1 ⟨_, rfl, by omega, by omega⟩ (mem1 ⟨_, rfl, by omega, by omega⟩ mem0))) : ∀ v ∈ ([.int 0, .int 3, .int 30, .int 366] : List V), ∃ w : Int, v = .int w ∧ 0 ≤ w ∧ w ≤ 366) v hm
  refine ⟨q, _, _, _, rfl, rfl, SqL.of upd_same, hv, ?_⟩
  walk_at "rd"
  first | exact ⟨sq, h b b0 b1⟩ | exact h b b0 b1
--@ _law_again
def sp__law_again (K : PySem.W.Frag) : Sp := fun vs H Q _ => L2.Ee7 fun (a p : Addr) (ns : List Int) (ws : List V) (b m : Int) (ds : List Dd) => L2.Aa8 (vs = [.ref a, .ref p]) (SqL K H a (ns.map V.int)) (H p = some (.lst ws)) (LL (P3R H) ws ds) (ds.length ≤ 42) (12 ≤ ds.length) (DdsA b m ds) (∀ (q : Addr) (us : List V) (fs : List Dd) (H' : Hp), H q = none → Same H H' → H' q = some (.lst us) → LL (P3R H') us fs → fs.length ≤ 84 → 12 ≤ fs.length → DdsA b m fs → Q (.ref q) H')
theorem sc__law_again : FnScope ["_law_script", "_law_deeds_here", "_law_found", "_law_k", "_law_known", "_law_there", "_law_number", "_law_row_here"] ["_law_script", "_law_deeds_here"] (defScope s__law_again) := ⟨rfl, rfl, rfl, by decide +kernel, rfl, by decide +kernel, by decide +kernel⟩
theorem d__law_again (S : Src K mg "_law_again" s__law_again ["_law_script", "_law_deeds_here"]) (T : Txt K mg) (D__law_stands : Def P w K mg base 1 "_law_stands" ["_law_deeds_here", "_law_known"] (sp__law_stands K)) (D__law_draw : Def P w K mg base 1 "_law_draw" ["_law_script", "_law_k", "_law_many"] (sp__law_draw K)) : Def P w K mg base 2 "_law_again" ["_law_script", "_law_deeds_here"] (sp__law_again K) := by
  refine S.ok sc__law_again (fun vs H Q E h => ?_) (fun f cdv A outer s H vs Q E hr h => ?_)
  · obtain ⟨a, p, ns, ws, b, m, ds, rfl, hS, eW, hW, dl, d12, O, h⟩ := h
    rfl
  obtain ⟨a, p, ns, ws, b, m, ds, rfl, hS, eW, hW, dl, d12, O, h⟩ := h
  refine ⟨_, (pss_consN (ps_set (i := 2) sc__law_again.nd rfl (by first | exact Or.inl rfl | exact Or.inr rfl) (pe_lst pa_nil))
      (pss_consN (ps_for PassesOwn.never rfl (pi_range1 rfl T.n_range (pa_cons (pe_callB call_len_seq rfl T.n_len PySem.boot_len (pa_cons (pv 1) pa_nil)) pa_nil)) (pg_name (i := 3) sc__law_again.nd rfl (by first | exact Or.inl rfl | exact Or.inr rfl))
      (pss_consN (ps_expr (pe_bm PySem.F.plainAttrs_list PySem.F.slot_list_append PySem.F.type_list_append mt_append (pv 2) (pa_cons (pe_ix ix_list (pv 1) (pv 3) (fun _ _ => rfl)) pa_nil)))
      (pss_consN (ps_set (i := 4) sc__law_again.nd rfl (by first | exact Or.inl rfl | exact Or.inr rfl) (pe_ix ix_tup (pe_ix ix_list (pv 1) (pv 3) (fun _ _ => rfl)) pe_int (fun _ _ => rfl)))
      (pss_consN (ps_set (i := 5) sc__law_again.nd rfl (by first | exact Or.inl rfl | exact Or.inr rfl) (pe_fn D__law_stands hr (pa_cons (pv 2) (pa_cons (pv 4) pa_nil))))
      (pss_one (ps_if (PW.pt (pw_and (pt_cmpR op_eq (pe_fn D__law_draw hr (pa_cons (pv 0) (pa_cons (pe_op op_mul pe_int (pv 3)) (pa_cons pe_int pa_nil)))) pe_int (nomark _)) (pw_and1 (pt_cmpR (op_neD hr.units) (pv 5) (pe_lst pa_nil) (nomark _)))))
      (pss_consN (ps_asg (pe_ix ix_list (pv 5) (pe_fn D__law_draw hr (pa_cons (pv 0) (pa_cons (pe_op op_add (pe_op op_mul pe_int (pv 3)) pe_int) (pa_cons (pe_callB call_len_seq rfl T.n_len PySem.boot_len (pa_cons (pv 5) pa_nil)) pa_nil)))) (fun _ _ => rfl)) (pg_tup rfl (pgs_cons (pg_name (i := 6) sc__law_again.nd rfl (by first | exact Or.inl rfl | exact Or.inr rfl)) (pgs_cons (pg_name (i := 7) sc__law_again.nd rfl (by first | exact Or.inl rfl | exact Or.inr rfl)) pgs_nil))))
      (pss_one (ps_expr (pe_bm PySem.F.plainAttrs_list PySem.F.slot_list_append PySem.F.type_list_append mt_append (pv 2) (pa_cons (pe_tup (pa_cons (pv 4) (pa_cons (pv 6) (pa_cons (pv 7) pa_nil)))) pa_nil)))))
      pss_nil))))))
      (pss_one (ps_ret (pv 2))))), ?_⟩
  have sz := sizeLine_eq
  have wl := hW.length
  walk_at "rd"
  intro q nq
  have sq := same_new nq (.lst [])
  have eq := at_new (.lst []) nq
  walk_at "rd"
  refine ⟨p, ws, rfl, .inl (SqL.of (sq _ _ eW)), _, rfl, by omega, by omega, ?_⟩
  refine for_range (fun i σ H' => ∃ (us : List V) (fs : List Dd) (z1 z2 z3 z4 z5 : Option V), (Same H H' ∧ H' q = some (.lst us)) ∧ LL (P3R H') us fs ∧ (fs.length ≤ 2 * i ∧ i ≤ fs.length) ∧ DdsA b m fs ∧ (∀ d ∈ fs, ∃ e ∈ ds.take i, d.1 = e.1) ∧ (∀ k, (∀ d ∈ fs, d.1 ≤ k) → ∀ n, lastD fs k n = lastD (ds.take i) k n) ∧ σ = [some (.ref a), some (.ref p), some (.ref q), z1, z2, z3, z4, z5])
    ⟨[], [], _, _, _, _, _, ⟨sq, eq⟩, .nil, ⟨Nat.zero_le _, Nat.zero_le _⟩, DdsA.nil O.mb, (fun d hd => by cases hd), (fun k _ n => by rw [List.take_zero]), rfl⟩ ?_ ?_
  · rintro i σ H' hi ⟨us, fs, z1, z2, z3, z4, z5, ⟨sH, eF⟩, hF, ⟨f0, f1⟩, OF, hin, hla, rfl⟩
    have il : i < ws.length := by omega
    have eW' := sH _ _ eW
    have hW' := hW.imp fun v d q => q.same sH
    have hS' := sH.seq hS
    obtain ⟨d, hd, t, u, ev, ht, hu⟩ := hW'.get (List.getElem?_eq_getElem il)
    have dm := List.mem_of_getElem? hd
    have ati : atI ws (0 + (i : Int)) = some (.ref t) := by
      rw [Int.zero_add]
      exact atI_nat (by rw [List.getElem?_eq_getElem il, ev])
    have tk : ds.take (i + 1) = ds.take i ++ [d] := by rw [List.take_add_one, hd]; rfl
    have fle : ∀ e ∈ fs, e.1 ≤ d.1 := fun e he => by
      obtain ⟨e', he', q⟩ := hin e he
      rw [q]
      exact O.le hd e' he'
    have O1 : DdsA b m (fs ++ [d]) := OF.snoc fle (O.kn d dm) (O.nr d dm) (O.row d dm) fun hn => by
      rw [hla d.1 fle]
      exact O.str i d hd hn
    have la1 : ∀ k, (∀ e ∈ fs ++ [d], e.1 ≤ k) → ∀ n, lastD (fs ++ [d]) k n = lastD (ds.take (i + 1)) k n := fun k hk n => by
      rw [tk, lastD_snoc, lastD_snoc, hla k (fun e he => hk e (List.mem_append_left _ he))]
    have in1 : ∀ e ∈ fs ++ [d], ∃ e' ∈ ds.take (i + 1), e.1 = e'.1 := fun e he => by
      rw [tk]
      rcases List.mem_append.mp he with he | he
      · obtain ⟨e', he', q⟩ := hin e he
        exact ⟨e', List.mem_append_left _ he', q⟩
      · exact ⟨e, List.mem_append_right _ he, rfl⟩
    have ul := hF.length
    walk_at "rd"
    refine ⟨.inl ⟨rfl, _, SqL.of eF⟩, ?_⟩
    walk_at "rd"
    refine ⟨p, _, _, _, rfl, rfl, SqL.of eW', ati, ?_⟩
    refine ⟨q, _, _, rfl, rfl, eF, by omega, ?_⟩
    have s1 : Same H (upd H' q (.lst (us ++ [.ref t]))) := same_put sH nq
    have e1 : (upd H' q (.lst (us ++ [.ref t]))) q = some (.lst (us ++ [.ref t])) := upd_same
    have hF1 : LL (P3R (upd H' q (.lst (us ++ [.ref t])))) (us ++ [.ref t]) (fs ++ [d]) := (hF.imp fun v d q => q.putL eF).push (P3R.putL ⟨t, u, rfl, ht, hu⟩ eF)
    generalize upd H' q (.lst (us ++ [.ref t])) = H1 at s1 e1 hF1 ⊢
    have eW1 := s1 _ _ eW
    have hW1 := hW.imp fun v d q => q.same s1
    have hS1 := s1.seq hS
    obtain ⟨d', hd', t', u', ev', ht', hu'⟩ := hW1.get (List.getElem?_eq_getElem il)
    obtain rfl : d = d' := Option.some.inj (hd.symm.trans hd')
    obtain rfl : t = t' := V.ref.inj (ev.symm.trans ev')
    walk_at "rd"
    refine ⟨p, _, _, _, rfl, rfl, SqL.of eW1, ati, ?_⟩
    walk_at "rd"
    refine ⟨q, d.1, us ++ [.ref t], fs ++ [d], _, rfl, e1, hF1, O1.nr, (show 8 < 64 by decide), by rw [List.length_append, List.length_singleton]; omega, fun q2 ys ml H2 nq2 s2 eq2 hY st => ?_⟩
    have s12 := s1.trans s2
    have hS2 := s12.seq hS
    have e2 := s2 _ _ e1
    have hF2 := hF1.imp fun v d q => q.same s2
    have fl1 : (fs ++ [d]).length = fs.length + 1 := by rw [List.length_append, List.length_singleton]
    have fin : ∀ {H3 : Hp}, Same H2 H3 → ∀ (y3 y4 y5 : Option V), ∃ (us : List V) (fs : List Dd) (z1 z2 z3 z4 z5 : Option V), (Same H H3 ∧ H3 q = some (.lst us)) ∧ LL (P3R H3) us fs ∧ (fs.length ≤ 2 * (i + 1) ∧ i + 1 ≤ fs.length) ∧ DdsA b m fs ∧ (∀ d ∈ fs, ∃ e ∈ ds.take (i + 1), d.1 = e.1) ∧ (∀ k, (∀ d ∈ fs, d.1 ≤ k) → ∀ n, lastD fs k n = lastD (ds.take (i + 1)) k n) ∧ [some (.ref a), some (.ref p), some (.ref q), some (.int (0 + (i : Int))), some (.int d.1), some (.ref q2), y4, y5] = [some (.ref a), some (.ref p), some (.ref q), z1, z2, z3, z4, z5] := fun s3 y3 y4 y5 => ⟨_, _, _, _, _, _, _, ⟨s12.trans s3, s3 _ _ e2⟩, hF2.imp (fun v d q => q.same s3), by omega, O1, in1, la1, rfl⟩
    walk_at "rd"
    · intro p3 np3
      have s3 := same_new np3 (.lst [])
      have hS3 := s3.seq hS2
      refine ⟨_, _, .lst (SqL.of (s3 _ _ eq2)) (rd_p2R (hY.imp fun v d q => q.same s3)), .lst (SqL.of upd_same) .nil, shaped_p2R _, shaped_ints [], ?_⟩
      cases ml with
      | nil =>
        rw [show PyData.eqv (.list (([] : List (Int × Option Er)).map p2DR)) (.list []) = true from eqv_ints []]
        walk_at "rd"
        exact fin s3 none _ _
      | cons s0 ml0 =>
        rw [show PyData.eqv (.list ((s0 :: ml0).map p2DR)) (.list []) = false by simp [PyData.eqv, PyData.eqvAll]]
        have yl := hY.length
        rw [List.length_cons] at yl
        walk_at "rd"
        refine ⟨q2, ys, rfl, .inl (SqL.of (s3 _ _ eq2)), ?_⟩
        walk_at "rd"
        rename_i r r0 r1
        obtain ⟨v, hv, hvm⟩ := at_mem (xs := ys) r0 r1
        obtain ⟨jj, hj⟩ := List.mem_iff_getElem?.mp hvm
        obtain ⟨s, hs, tt, uu, rfl, htt, huu⟩ := (hY.imp fun v d q => q.same s3).get hj
        have sm := List.mem_of_getElem? hs
        obtain ⟨so, ss⟩ := (st.mem s).mp sm
        refine ⟨q2, _, _, _, rfl, rfl, SqL.of (s3 _ _ eq2), hv, ?_⟩
        refine ⟨tt, _, rfl, SqT.of htt, rfl, ?_⟩
        walk_at "rd"
        refine ⟨.inl ⟨rfl, _, SqL.of (s3 _ _ e2)⟩, ?_⟩
        walk_at "rd"
        intro tn ntn
        have s4 := same_new ntn (.tup [.int d.1, .int s.1, uu])
        have e4 := s4 _ _ (s3 _ _ e2)
        have s34 := s3.trans s4
        refine ⟨q, _, _, rfl, rfl, e4, by rw [List.length_append, List.length_singleton]; omega, ?_⟩
        have fle1 : ∀ e ∈ fs ++ [d], e.1 ≤ d.1 := fun e he => by
          rcases List.mem_append.mp he with he | he
          · exact fle e he
          · obtain rfl : e = d := by simpa using he
            exact Int.le_refl _
        obtain ⟨dd, hdd, _, dn, dv⟩ := lastD_mem so
        have O2 : DdsA b m (fs ++ [d] ++ [(d.1, s.1, s.2)]) := O1.snoc fle1 (O.kn d dm) (by show s.1 ∈ _; rw [← dn]; exact O1.nr dd hdd) (fun e he => O1.row dd hdd e (by rw [dv]; exact he)) fun hn => by
          have hn' : s.2 = none := hn
          rw [hn'] at ss
          cases ss
        refine ⟨_, fs ++ [d] ++ [(d.1, s.1, s.2)], _, _, _, _, _, ⟨same_put (s12.trans s34) nq, upd_same⟩, ((hF2.imp fun v d q => q.same s34).imp fun v d q => q.putL e4).push (P3R.putL ⟨tn, uu, rfl, upd_same, huu.same s4⟩ e4), by rw [List.length_append, List.length_singleton]; omega, O2, fun e he => ?_, fun k hk n => ?_, rfl⟩
        · rcases List.mem_append.mp he with he | he
          · exact in1 e he
          · obtain rfl : e = (d.1, s.1, s.2) := by simpa using he
            exact in1 d (List.mem_append_right _ (by simp))
        · rw [lastD_snoc, ← la1 k (fun e he => hk e (List.mem_append_left _ he))]
          by_cases c : (d.1 ≤ k ∧ s.1 = n)
          · rw [if_pos c, ← c.2, lastD_later fle1 c.1, so]
          · rw [if_neg c]
    · exact fin (Same.refl _) none _ _
  · rintro σ H' ⟨us, fs, z1, z2, z3, z4, z5, ⟨sH, eF⟩, hF, ⟨f0, f1⟩, OF, hin, hla, rfl⟩
    walk_at "rd"
    exact h q us fs H' nq sH eF hF (by omega) (by omega) OF
--@ _law_due
def sp__law_due (K : PySem.W.Frag) : Sp := fun vs H Q _ => L2.Ee6 fun (p : Addr) (k1 k2 : Int) (ws : List V) (ds : List Dd) (ms : List Int) => L2.Aa7 (vs = [.ref p, .int k1, .int k2]) (H p = some (.lst ws)) (LL (P3R H) ws ds) ((∀ d ∈ ds, d.2.1 ∈ ms)) (ms.length < 32) (ds.length ≤ 1000) (∀ (q : Addr) (ns : List Int) (H' : Hp), H q = none → Same H H' → H' q = some (.lst (ns.map V.int)) → ChgIs ds k1 k2 ns → Q (.ref q) H')
theorem sc__law_due : FnScope ["_law_deeds_here", "_law_one", "_law_other", "_law_first", "_law_second", "_law_found", "_law_number"] ["_law_deeds_here", "_law_one", "_law_other"] (defScope s__law_due) := ⟨rfl, rfl, rfl, by decide +kernel, rfl, by decide +kernel, by decide +kernel⟩
theorem d__law_due (S : Src K mg "_law_due" s__law_due ["_law_deeds_here", "_law_one", "_law_other"]) (T : Txt K mg) (D__law_stands : Def P w K mg base 1 "_law_stands" ["_law_deeds_here", "_law_known"] (sp__law_stands K)) : Def P w K mg base 2 "_law_due" ["_law_deeds_here", "_law_one", "_law_other"] (sp__law_due K) := by
  refine S.ok sc__law_due (fun vs H Q E h => ?_) (fun f cdv A outer s H vs Q E hr h => ?_)
  · obtain ⟨p, k1, k2, ws, ds, ms, rfl, eW, hW, hm, ml, dl, h⟩ := h
    rfl
  obtain ⟨p, k1, k2, ws, ds, ms, rfl, eW, hW, hm, ml, dl, h⟩ := h
  refine ⟨_, (pss_consN (ps_set (i := 3) sc__law_due.nd rfl (by first | exact Or.inl rfl | exact Or.inr rfl) (pe_callTy (call_dictPV rfl) rfl T.n_dict PyProof.Rows.boot_dict (pa_cons (pe_fn D__law_stands hr (pa_cons (pv 0) (pa_cons (pv 1) pa_nil))) pa_nil)))
      (pss_consN (ps_set (i := 4) sc__law_due.nd rfl (by first | exact Or.inl rfl | exact Or.inr rfl) (pe_callTy (call_dictPV rfl) rfl T.n_dict PyProof.Rows.boot_dict (pa_cons (pe_fn D__law_stands hr (pa_cons (pv 0) (pa_cons (pv 2) pa_nil))) pa_nil)))
      (pss_consN (ps_set (i := 5) sc__law_due.nd rfl (by first | exact Or.inl rfl | exact Or.inr rfl) (pe_lst pa_nil))
      (pss_consN (ps_for PassesOwn.never rfl (pi_list (pe_callB (call_sortedS rfl) rfl T.n_sorted PyProof.Rows.boot_sorted (pa_cons (pe_callTy (call_setI rfl) rfl T.n_set PyProof.Rows.boot_set (pa_cons (pe_op op_cat (pe_callTy (call_listDV rfl) rfl T.n_list PyProof.Rows.boot_list (pa_cons (pv 3) pa_nil)) (pe_callTy (call_listDV rfl) rfl T.n_list PyProof.Rows.boot_list (pa_cons (pv 4) pa_nil))) pa_nil)) pa_nil))) (pg_name (i := 6) sc__law_due.nd rfl (by first | exact Or.inl rfl | exact Or.inr rfl))
      (pss_one (ps_if (pt_cmpR (op_neDK K hr.units) (pe_getV (pv 3) (pv 6) (pe_tup pa_nil)) (pe_getV (pv 4) (pv 6) (pe_tup pa_nil)) (nomark _))
      (pss_one (ps_expr (pe_bm PySem.F.plainAttrs_list PySem.F.slot_list_append PySem.F.type_list_append mt_append (pv 5) (pa_cons (pv 6) pa_nil))))
      pss_nil)))
      (pss_one (ps_ret (pv 5))))))), ?_⟩
  have sz := sizeLine_eq
  walk_at "rd"
  refine ⟨p, k1, ws, ds, ms, rfl, eW, hW, hm, by omega, dl, fun q1 ys1 m1 H1 nq1 s1 eq1 hY1 st1 => ?_⟩
  obtain ⟨t1, hV1, hP1⟩ := rowsV2 (K := K) hY1
  have k1l : t1.length = m1.length := by have := congrArg List.length hP1.keys; rwa [List.length_map, List.length_map] at this
  have f1 := st1.few hm
  walk_at "rd"
  refine ⟨q1, ys1, t1, rfl, eq1, hV1, by omega, fun d1 nd1 => ?_⟩
  rw [dctV_self (by rw [hP1.keys]; exact st1.nodup)]
  have s2 := same_new nd1 (DictV P w d1 t1)
  have e1 := at_new (DictV P w d1 t1) nd1
  have R1 := (RnIs.of hP1 st1).same s2
  have s12 := s1.trans s2
  walk_at "rd"
  refine ⟨p, k2, ws, ds, ms, rfl, s12 _ _ eW, hW.imp (fun v d q => q.same s12), hm, by omega, dl, fun q3 ys3 m3 H3 nq3 s3 eq3 hY3 st3 => ?_⟩
  obtain ⟨t2, hV3, hP3⟩ := rowsV2 (K := K) hY3
  have k2l : t2.length = m3.length := by have := congrArg List.length hP3.keys; rwa [List.length_map, List.length_map] at this
  have f2 := st3.few hm
  walk_at "rd"
  refine ⟨q3, ys3, t2, rfl, eq3, hV3, by omega, fun d2 nd2 => ?_⟩
  rw [dctV_self (by rw [hP3.keys]; exact st3.nodup)]
  have s4 := same_new nd2 (DictV P w d2 t2)
  have e2 := at_new (DictV P w d2 t2) nd2
  have R2 := (RnIs.of hP3 st3).same s4
  have s34 := s3.trans s4
  have e14 := s34 _ _ e1
  have R14 := R1.same s34
  have s14 := s12.trans s34
  walk_at "rd"
  intro qf nqf
  have s5 := same_new nqf (.lst [])
  have ef := at_new (.lst []) nqf
  have e15 := s5 _ _ e14
  have e25 := s5 _ _ e2
  have R15 := R14.same s5
  have R25 := R2.same s5
  walk_at "rd"
  refine ⟨d1, t1, rfl, e15, by omega, fun a1 na1 => ?_⟩
  have s6 := same_new na1 (.lst ((t1.map (·.1)).map V.int))
  have ea1 := at_new (.lst ((t1.map (·.1)).map V.int)) na1
  walk_at "rd"
  refine ⟨d2, t2, rfl, s6 _ _ e25, by omega, fun a2 na2 => ?_⟩
  have s7 := same_new na2 (.lst ((t2.map (·.1)).map V.int))
  have ea2 := at_new (.lst ((t2.map (·.1)).map V.int)) na2
  walk_at "rd"
  refine ⟨a1, a2, _, _, rfl, rfl, s7 _ _ ea1, ea2, by rw [List.length_map, List.length_map, List.length_map, List.length_map]; omega, fun a3 na3 => ?_⟩
  have s8 := same_new na3 (.lst ((t1.map (·.1)).map V.int ++ (t2.map (·.1)).map V.int))
  walk_at "rd"
  refine ⟨a3, t1.map (·.1) ++ t2.map (·.1), rfl, SqL.of (by rw [List.map_append]; exact upd_same), by rw [List.length_append, List.length_map, List.length_map]; omega, fun p9 H9 m9 np9 s9 e9 nd9 mm9 ml9 => ?_⟩
  rw [List.length_append, List.length_map, List.length_map] at ml9
  walk_at "rd"
  refine ⟨p9, m9, rfl, e9, by omega, fun q10 H10 ns nq10 s10 eq10 pm up => ?_⟩
  have s510 : Same _ H10 := s6.trans (s7.trans (s8.trans (s9.trans s10)))
  have nl : ns.length = m9.length := pm.length_eq
  have ef10 := s510 _ _ ef
  have sG := s5.trans s510
  have n10 : q10 ≠ qf := fun z => by
    have := (s6.trans (s7.trans (s8.trans s9))) _ _ ef
    rw [← z, nq10] at this
    cases this
  walk_at "rd"
  refine ⟨⟨_, SqL.of eq10⟩, for_list (xs := ns.map V.int) (fun i σ H' => ∃ (z : Option V), (Same _ H' ∧ H' q10 = some (.lst (ns.map V.int)) ∧ H' qf = some (.lst (((ns.take i).filter (isCh ds k1 k2)).map V.int))) ∧ σ = [some (.ref p), some (.int k1), some (.int k2), some (.ref d1), some (.ref d2), some (.ref qf), z]) ⟨_, ⟨sG, eq10, by rw [List.take_zero]; exact ef10⟩, rfl⟩ ?_ ?_ ?_⟩
  · rintro i σ H' _ ⟨z, ⟨_, e, _⟩, _⟩
    exact SqL.of e
  · rintro i x σ H' hx ⟨z, ⟨sg, eq, eF⟩, rfl⟩
    rw [List.getElem?_map] at hx
    obtain ⟨n, hn, rfl⟩ := Option.map_eq_some_iff.mp hx
    have tk : ns.take (i + 1) = ns.take i ++ [n] := by rw [List.take_add_one, hn]; rfl
    have il : i < ns.length := (List.getElem?_eq_some_iff.mp hn).1
    have fl := List.length_filter_le (isCh ds k1 k2) (ns.take i)
    have tl := List.length_take_le i ns
    walk_at "rd"
    refine ⟨d1, t1, rfl, sg _ _ e14, ?_⟩
    walk_at "rd"
    intro v1 nv1
    have s11 := same_new nv1 (.tup [])
    have ev1 := at_new (.tup []) nv1
    refine ⟨n, rfl, s11 _ _ (sg _ _ e14), ?_⟩
    walk_at "rd"
    refine ⟨d2, t2, rfl, s11 _ _ (sg _ _ e2), ?_⟩
    walk_at "rd"
    intro v2 nv2
    have s12' := same_new nv2 (.tup [])
    have ev2 := at_new (.tup []) nv2
    have sg2 := sg.trans (s11.trans s12')
    refine ⟨n, rfl, sg2 _ _ e2, ?_⟩
    refine ⟨_, _, (R14.same sg2).rdE (s12' _ _ ev1) n, (R2.same sg2).rdE ev2 n, shaped_oE _, shaped_oE _, ?_⟩
    rw [eqv_oE]
    have eF2 := s12' _ _ (s11 _ _ eF)
    have eq2 := s12' _ _ (s11 _ _ eq)
    refine ⟨_, rfl, ?_⟩
    refine ifB (fun z => ?_) (fun z => ?_)
    · have z' : isCh ds k1 k2 n = true := z
      walk_at "rd"
      refine ⟨.inl ⟨rfl, _, SqL.of eF2⟩, ?_⟩
      walk_at "rd"
      refine ⟨qf, _, _, rfl, rfl, eF2, by rw [List.length_map]; omega, ?_⟩
      refine ⟨_, ⟨same_put sg2 nqf, by rw [upd_ne n10]; exact eq2, ?_⟩, rfl⟩
      rw [tk, List.filter_append, List.map_append, List.filter_cons_of_pos z']
      exact upd_same
    · have z' : ¬ isCh ds k1 k2 n = true := by
        intro q
        rw [show isCh ds k1 k2 n = false from z] at q
        cases q
      walk_at "rd"
      refine ⟨_, ⟨sg2, eq2, ?_⟩, rfl⟩
      rw [tk, List.filter_append, List.filter_cons_of_neg z']
      simpa using eF2
  · rintro σ H' ⟨z, ⟨sg, eq, eF⟩, rfl⟩
    rw [List.length_map, List.take_of_length_le (Nat.le_refl _)] at eF
    walk_at "rd"
    exact h qf _ H' (same_gone s14 nqf) (s14.trans sg) eF (ChgIs.of R14 R2 (Sby.up_of (pm.nodup_iff.mpr nd9) up) fun n => by rw [pm.mem_iff, mm9, List.mem_append])
--@ is_third
def sp_is_third (K : PySem.W.Frag) : Sp := fun vs H Q _ => ∃ (k : Ek) (d x : Int), vs = [.str k.word, .int d, .int x] ∧ k ≠ .turn ∧ ThirdOk k d x ∧ Q (.bl true) H
theorem sc_is_third : FnScope ["word", "day", "thing"] ["word", "day", "thing"] (defScope s_is_third) := ⟨rfl, rfl, rfl, by decide +kernel, rfl, by decide +kernel, by decide +kernel⟩
theorem d_is_third (S : Src K mg "is_third" s_is_third ["word", "day", "thing"]) (T : Txt K mg) (D_is_within : Def P w K mg base 2 "is_within" ["thing", "least", "most"] (sp_is_within K)) : Def P w K mg base 3 "is_third" ["word", "day", "thing"] (sp_is_third K) := by
  refine S.okF sc_is_third (fun vs H Q E h => ?_) (fun f cdv A outer s H vs Q E hr h => ?_)
  · obtain ⟨k, d, x, rfl, hk, ok, h⟩ := h
    rfl
  obtain ⟨k, d, x, rfl, hk, ok, h⟩ := h
  refine ⟨_, (pss_consN (ps_if (pt_cmpR op_eq (pv 0) pe_str (nomark _))
      (pss_one (ps_ret (pe_fn D_is_within hr (pa_cons (pv 2) (pa_cons (pe_un un_neg (pe_gint T.g_MOST_AMOUNT)) (pa_cons (pe_gint T.g_MOST_AMOUNT) pa_nil))))))
      pss_nil)
      (pss_consN (ps_if (pt_cmpR op_in_seq (pv 0) (pe_tup (pa_cons pe_str (pa_cons pe_str pa_nil))) (by with_unfolding_all rfl))
      (pss_one (ps_ret (pe_fn D_is_within hr (pa_cons (pv 2) (pa_cons pe_int (pa_cons (pe_gint T.g_MOST_RATE) pa_nil))))))
      pss_nil)
      (pss_consN (ps_if (pt_cmpR op_eq (pv 0) pe_str (nomark _))
      (pss_one (ps_ret (pe_fn D_is_within hr (pa_cons (pv 2) (pa_cons (pe_op op_add (pv 1) pe_int) (pa_cons (pe_op op_add (pe_gint T.g_LAST_DAY) pe_int) pa_nil))))))
      pss_nil)
      (pss_one (ps_ret (pe_fn D_is_within hr (pa_cons (pv 2) (pa_cons pe_int (pa_cons (pe_gint T.g_MOST_AMOUNT) pa_nil))))))))), ?_⟩
  have sz := sizeLine_eq
  cases k with
  | base => exact absurd ok id
  | turn => exact absurd rfl hk
  | fee =>
    dsimp only [Ek.word]
    obtain ⟨o1, o2⟩ := ok
    walk_at "rd"
    exact (show Same H H ∧ Q (.bl true) H from ⟨Same.refl _, h⟩)
  | _ =>
    dsimp only [Ek.word]
    obtain ⟨o1, o2⟩ := ok
    walk_at "rd"
    intro t nt
    have st := same_new nt (.tup [.str "rate", .str "late"])
    walk_at "rd"
    refine ⟨t, _, rfl, .inr (SqT.of upd_same), rfl, rfl, ?_⟩
    refine ⟨_, rfl, ?_⟩
    refine ifB (fun z => ?_) (fun z => ?_)
    · first
        | exact absurd z (by decide)
        | (walk_at "rd"
           first | exact ⟨st, h⟩ | exact h | (refine ⟨x, _, _, rfl, ⟨o1, o2⟩, ?_⟩; first | exact ⟨st, h⟩ | exact h))
    · first
        | exact absurd z (by decide)
        | (walk_at "rd"
           first | exact ⟨st, h⟩ | exact h | (refine ⟨x, _, _, rfl, ⟨o1, o2⟩, ?_⟩; first | exact ⟨st, h⟩ | exact h))
--@ check_terms
def sp_check_terms (K : PySem.W.Frag) : Sp := fun vs H Q _ => ∃ (c : Addr) (kd : Kd) (g : Int), vs = [.ref c, .int g] ∧ IsCnt K H c kd ∧ (0 ≤ g ∧ g ≤ 366) ∧ Q .non H
theorem sc_check_terms : FnScope ["count", "grace"] ["count", "grace"] (defScope s_check_terms) := ⟨rfl, rfl, rfl, by decide +kernel, rfl, by decide +kernel, by decide +kernel⟩
theorem d_check_terms (S : Src K mg "check_terms" s_check_terms ["count", "grace"]) (T : Txt K mg) (D_is_within : Def P w K mg base 2 "is_within" ["thing", "least", "most"] (sp_is_within K)) : Def P w K mg base 3 "check_terms" ["count", "grace"] (sp_check_terms K) := by
  refine S.ok sc_check_terms (fun vs H Q E h => ?_) (fun f cdv A outer s H vs Q E hr h => ?_)
  · obtain ⟨c, kd, g, rfl, hc, ⟨g0, g1⟩, h⟩ := h
    rfl
  obtain ⟨c, kd, g, rfl, hc, ⟨g0, g1⟩, h⟩ := h
  refine ⟨_, (pss_consN (ps_if (pt_not (pt_val (pe_callB call_isiI rfl T.n_isinstance PyProof.Rows.boot_isinstance (pa_cons (pv 0) (pa_cons (pe_glob (v := .ref (cA K "Count")) rfl T.m_Count rfl) pa_nil)))))
      pss_never
      pss_nil)
      (pss_one (ps_if (pt_not (pt_val (pe_fn D_is_within hr (pa_cons (pv 1) (pa_cons pe_int (pa_cons (pe_gint T.g_MOST_GRACE) pa_nil))))))
      pss_never
      pss_nil))), ?_⟩
  have ty := tyC (T.cls kd) (T.ikK kd) hc
  walk_at "rd"
  refine ⟨_, _, _, _, rfl, ty, T.kitK kd .plain, ?_⟩
  rw [show subK kd .plain = true from rfl]
  walk_at "rd"
  exact h
--@ rows_by_number
def sp_rows_by_number (P : Program) (w : World) (K : PySem.W.Frag) : Sp := fun vs H Q _ => L2.Ee9 fun (r dx c l : Addr) (kd : Kd) (g k : Int) (ds : List Dd) (ms : List Int) => L2.Aa6 (vs = [.ref r, .int k]) (RolAt K H r dx c l kd g ds) ((∀ d ∈ ds, d.2.1 ∈ ms)) (ms.length < 64) (ds.length ≤ 1000) (∀ (d : Addr) (t : List (Int × V)) (H' : Hp), H d = none → Same H H' → H' d = some (DictV P w d t) → RnIs H' t ds k → t.length ≤ ms.length → Q (.ref d) H')
theorem sc_rows_by_number : FnScope ["roll", "known"] ["roll", "known"] (defScope s_rows_by_number) := ⟨rfl, rfl, rfl, by decide +kernel, rfl, by decide +kernel, by decide +kernel⟩
theorem d_rows_by_number (S : Src K mg "rows_by_number" s_rows_by_number ["roll", "known"]) (T : Txt K mg) (D_Roll_standing : DefM P w K mg base 1 (cA K "Roll") "standing" ["self", "known"] (sp_Roll_standing K)) (D_e_row : ∀ k : Ek, DefM P w K mg base 2 (cA K k.cls) "row" ["self"] (sp_e_row k K)) : Def P w K mg base 3 "rows_by_number" ["roll", "known"] (sp_rows_by_number P w K) := by
  refine S.ok sc_rows_by_number (fun vs H Q E h => ?_) (fun f cdv A outer s H vs Q E hr h => ?_)
  · obtain ⟨r, dx, c, l, kd, g, k, ds, ms, rfl, B, hm, ml, dl, h⟩ := h
    rfl
  obtain ⟨r, dx, c, l, kd, g, k, ds, ms, rfl, B, hm, ml, dl, h⟩ := h
  refine ⟨_, (pss_one (ps_ret (pe_callTy (call_dictPV rfl) rfl T.n_dict PyProof.Rows.boot_dict (pa_cons (pe_comp (ix := []) ⟨rfl, by decide +kernel, rfl, by decide +kernel, rfl, (show (["told"] : List Str).Nodup by decide +kernel), by walk_at "cap", by walk_at "sub", by walk_at "has"⟩ (pi_list (pe_methC D_Roll_standing T.cl_Roll hr (pv 0) (pa_cons (pv 1) pa_nil))) (fun b => (pe_tup (pa_cons (pe_ix (ix_tupK K) (pv 0) pe_int (fun _ _ => rfl)) (pa_cons (pe_methE0K K D_e_row T.clE hr (pe_ix (ix_tupK K) (pv 0) pe_int (fun _ _ => rfl))) pa_nil))))) pa_nil)))), ?_⟩
  have sz := sizeLine_eq
  walk_at "rd"
  refine ⟨r, dx, _, rfl, B.ins, rfl, ?_⟩
  walk_at "rd"
  refine ⟨r, dx, c, l, kd, g, k, ds, ms, rfl, B, hm, ml, dl, fun q ys m H1 nq s1 eq hY st => ?_⟩
  have yl := hY.length
  have mf := st.few hm
  walk_at "rd"
  refine ⟨⟨_, SqL.of eq⟩, fun l2 nl2 => ?_⟩
  refine comp_map (walk_list (SqL.of eq)) nl2 (by omega) m yl.symm P2R (fun v e H1 H2 s q => q.same s) (fun v e H1 ys zs hL q => q.putL hL) ?_ ?_
  · rintro j x s H2 Q' hx hs sH2 hq
    obtain ⟨s', hs', t, u, rfl, ht, hu⟩ := hY.get hx
    obtain rfl : s' = s := Option.some.inj (hs'.symm.trans hs)
    obtain ⟨_, so⟩ := st.lastO (List.mem_of_getElem? hs)
    obtain ⟨n, o⟩ := s'
    cases o with
    | none => cases so
    | some e =>
      obtain ⟨a, dy, rfl, ie⟩ := hu
      have ht' := sH2 _ _ ht
      have ie' := sH2 _ _ ie
      walk_at "rd"
      refine ⟨e.1, a, dy, _, rfl, ie', entF_row _ _ _, a, dy, e.2.1, e.2.2, rfl, ie', ?_⟩
      intro r1 nr1
      have s3 := same_new nr1 (.tup (rowV e.1 e.2.1 e.2.2))
      walk_at "rd"
      intro tp ntp
      have s4 := same_new ntp (.tup [.int n, .ref r1])
      exact hq _ _ (s3.trans s4) ⟨tp, .ref r1, rfl, upd_same, r1, rfl, s4 _ _ upd_same⟩
  · rintro zs H2 s2 eL2 hL2
    obtain ⟨t, hV, hP⟩ := rowsV2 (K := K) hL2
    have ek := hP.keys
    have tl : t.length = m.length := by have := congrArg List.length ek; rwa [List.length_map, List.length_map] at this
    walk_at "rd"
    refine ⟨l2, zs, t, rfl, eL2, hV, by omega, fun d nd => ?_⟩
    have s3 := same_new nd (DictV P w d (dctV t))
    rw [dctV_self (by rw [ek]; exact st.nodup)] at s3 ⊢
    exact h d t _ (same_gone s1 (same_gone s2 nd)) (s1.trans (s2.trans s3)) upd_same ((RnIs.of hP st).same s3) (by omega)
--@ check_number
def sp_check_number (K : PySem.W.Frag) : Sp := fun vs H Q _ => ∃ (n : Int), vs = [.int n] ∧ (1 ≤ n ∧ n ≤ 1000000000) ∧ Q .non H
theorem sc_check_number : FnScope ["thing"] ["thing"] (defScope s_check_number) := ⟨rfl, rfl, rfl, by decide +kernel, rfl, by decide +kernel, by decide +kernel⟩
theorem d_check_number (S : Src K mg "check_number" s_check_number ["thing"]) (T : Txt K mg) (D_is_within : Def P w K mg base 2 "is_within" ["thing", "least", "most"] (sp_is_within K)) : Def P w K mg base 3 "check_number" ["thing"] (sp_check_number K) := by
  refine S.ok sc_check_number (fun vs H Q E h => ?_) (fun f cdv A outer s H vs Q E hr h => ?_)
  · obtain ⟨n, rfl, ⟨n0, n1⟩, h⟩ := h
    rfl
  obtain ⟨n, rfl, ⟨n0, n1⟩, h⟩ := h
  refine ⟨_, (pss_one (ps_if (pt_not (pt_val (pe_fn D_is_within hr (pa_cons (pv 0) (pa_cons pe_int (pa_cons (pe_gint T.g_MOST_NUMBER) pa_nil))))))
      pss_never
      pss_nil)), ?_⟩
  walk_at "rd"
  exact h
--@ Roll_check_known
def sp_Roll_check_known (K : PySem.W.Frag) : Sp := fun vs H Q _ => L2.Ee8 fun (r dx c l : Addr) (kd : Kd) (g k : Int) (ds : List Dd) => L2.Aa5 (vs = [.ref r, .int k]) (RolAt K H r dx c l kd g ds) ((0 ≤ k ∧ k ≤ 999999)) ((∀ d ∈ ds, d.1 ≤ k)) (Q .non H)
theorem sc_Roll_check_known : FnScope ["self", "known"] ["self", "known"] (defScope s_Roll_check_known) := ⟨rfl, rfl, rfl, by decide +kernel, rfl, by decide +kernel, by decide +kernel⟩
theorem d_Roll_check_known (S : MethS K (cA K "Roll") "check_known" "Roll.check_known" s_Roll_check_known ["self", "known"]) (T : Txt K mg) (D_is_day : Def P w K mg base 2 "is_day" ["thing"] (sp_is_day K)) : DefM P w K mg base 3 (cA K "Roll") "check_known" ["self", "known"] (sp_Roll_check_known K) := by
  refine S.ok sc_Roll_check_known (fun vs H Q E h => ?_) (fun f cdv A outer s H vs Q E hr h => ?_)
  · obtain ⟨r, dx, c, l, kd, g, k, ds, rfl, B, ⟨k0, k1⟩, kd0, h⟩ := h
    rfl
  obtain ⟨r, dx, c, l, kd, g, k, ds, rfl, B, ⟨k0, k1⟩, kd0, h⟩ := h
  refine ⟨_, (pss_consN (ps_if (pt_not (pt_val (pe_fn D_is_day hr (pa_cons (pv 1) pa_nil))))
      pss_never
      pss_nil)
      (pss_one (ps_if (PW.pt (pw_and (pt_cmpR op_gt (pe_callB call_len_seq rfl T.n_len PySem.boot_len (pa_cons (pe_fldC T.cl_Roll T.na_Roll_deeds (pv 0)) pa_nil)) pe_int (nomark _)) (pw_and1 (pt_cmpR op_lt (pv 1) (pe_ix ix_tup (pe_ix ix_list (pe_fldC T.cl_Roll T.na_Roll_deeds (pv 0)) (pe_un un_neg pe_int) (fun _ _ => rfl)) pe_int (fun _ _ => rfl)) (nomark _)))))
      pss_never
      pss_nil))), ?_⟩
  have sz := sizeLine_eq
  obtain ⟨vs, eL, hD⟩ := B.lst
  have vl := hD.length
  have hd : dayB (.int k) = true := by simp [dayB, k0, k1]
  walk_at "rd"
  refine ⟨_, "int", rfl, ⟨.int k, by simp [kinds]⟩, ?_⟩
  rw [hd]
  walk_at "rd"
  refine ⟨r, dx, _, _, rfl, B.ins, rfl, ?_⟩
  walk_at "rd"
  refine ⟨l, vs, rfl, .inl (SqL.of eL), ?_⟩
  walk_at "rd"
  · refine ⟨r, dx, _, _, rfl, B.ins, rfl, ?_⟩
    walk_at "rd"
    have v0 : 0 < vs.length := by omega
    obtain ⟨d, hd', t, u, ev, ht, hu⟩ := hD.get (List.getElem?_eq_getElem (show vs.length - 1 < vs.length by omega))
    have at_ : atI vs (-1) = some (.ref t) := by
      rw [← ev]
      have e0 := List.dropLast_concat_getLast (show vs ≠ [] from fun z => by rw [z] at v0; cases v0)
      have e1 := atI_last vs.dropLast (vs.getLast (show vs ≠ [] from fun z => by rw [z] at v0; cases v0))
      rw [e0, List.getLast_eq_getElem] at e1
      exact e1
    refine ⟨l, vs, _, _, rfl, rfl, SqL.of eL, at_, ?_⟩
    walk_at "rd"
    have := kd0 d (List.mem_of_getElem? hd')
    first | exact h | (exfalso; omega) | skip
    all_goals first | exact h | (exfalso; omega)
  · exact h
--@ _law_row
def sp__law_row (K : PySem.W.Frag) : Sp := fun vs H Q _ => ∃ (c b : Int), vs = [.int c, .int b] ∧ (0 ≤ b ∧ b ≤ 999700) ∧ ∀ (r : Addr) (e : Er) (H' : Hp), Same H H' → H r = none → H' r = some (.tup (rowV e.1 e.2.1 e.2.2)) → e.1 ≠ .base → GoodRow e.1 e.2.1 e.2.2 → (b ≤ e.2.1 ∧ e.2.1 < b + 120) → (e.1 = .still → e.2.2 ≤ e.2.1 + 40) → Q (.ref r) H'
theorem sc__law_row : FnScope ["_law_cell_here", "_law_base_here", "_law_word", "_law_day", "_law_amount"] ["_law_cell_here", "_law_base_here"] (defScope s__law_row) := ⟨rfl, rfl, rfl, by decide +kernel, rfl, by decide +kernel, by decide +kernel⟩
theorem d__law_row (S : Src K mg "_law_row" s__law_row ["_law_cell_here", "_law_base_here"]) (T : Txt K mg) (D__law_pick : Def P w K mg base 2 "_law_pick" ["_law_cell_here", "_law_by", "_law_many"] (sp__law_pick K)) : Def P w K mg base 3 "_law_row" ["_law_cell_here", "_law_base_here"] (sp__law_row K) := by
  refine S.ok sc__law_row (fun vs H Q E h => ?_) (fun f cdv A outer s H vs Q E hr h => ?_)
  · obtain ⟨c, b, rfl, ⟨b0, b1⟩, h⟩ := h
    rfl
  obtain ⟨c, b, rfl, ⟨b0, b1⟩, h⟩ := h
  refine ⟨_, (pss_consN (ps_set (i := 2) sc__law_row.nd rfl (by first | exact Or.inl rfl | exact Or.inr rfl) (pe_ix ix_list (pe_lst (pa_cons pe_str (pa_cons pe_str (pa_cons pe_str (pa_cons pe_str (pa_cons pe_str (pa_cons pe_str (pa_cons pe_str (pa_cons pe_str pa_nil))))))))) (pe_fn D__law_pick hr (pa_cons (pv 0) (pa_cons pe_int (pa_cons pe_int pa_nil)))) (fun _ _ => rfl)))
      (pss_consN (ps_set (i := 3) sc__law_row.nd rfl (by first | exact Or.inl rfl | exact Or.inr rfl) (pe_op op_add (pv 1) (pe_fn D__law_pick hr (pa_cons (pv 0) (pa_cons pe_int (pa_cons (pe_ix ix_list (pe_lst (pa_cons pe_int (pa_cons pe_int pa_nil))) (pe_fn D__law_pick hr (pa_cons (pv 0) (pa_cons pe_int (pa_cons pe_int pa_nil)))) (fun _ _ => rfl)) pa_nil))))))
      (pss_consN (ps_set (i := 4) sc__law_row.nd rfl (by first | exact Or.inl rfl | exact Or.inr rfl) (pe_op op_add pe_int (pe_fn D__law_pick hr (pa_cons (pv 0) (pa_cons pe_int (pa_cons (pe_ix ix_list (pe_lst (pa_cons pe_int (pa_cons (pe_powc (v := 1000000) (by decide +kernel) ⟨by decide, by decide, by decide⟩) (pa_cons (pe_powc (v := 1000000000000) (by decide +kernel) ⟨by decide, by decide, by decide⟩) pa_nil)))) (pe_fn D__law_pick hr (pa_cons (pv 0) (pa_cons pe_int (pa_cons pe_int pa_nil)))) (fun _ _ => rfl)) pa_nil))))))
      (pss_consN (ps_if (pt_cmpR op_eq (pv 2) pe_str (nomark _))
      (pss_one (ps_ret (pe_tup (pa_cons (pv 2) (pa_cons (pv 3) pa_nil)))))
      pss_nil)
      (pss_consN (ps_if (pt_cmpR op_eq (pv 2) pe_str (nomark _))
      (pss_one (ps_ret (pe_tup (pa_cons (pv 2) (pa_cons (pv 3) (pa_cons (pe_ix ix_list (pe_lst (pa_cons (pv 4) (pa_cons (pe_op op_sub pe_int (pv 4)) (pa_cons pe_int pa_nil)))) (pe_op op_fdiv (pe_fn D__law_pick hr (pa_cons (pv 0) (pa_cons pe_int (pa_cons pe_int pa_nil)))) pe_int) (fun _ _ => rfl)) pa_nil))))))
      pss_nil)
      (pss_consN (ps_if (PW.pt (pw_or (pt_cmpR op_eq (pv 2) pe_str (nomark _)) (pw_or1 (pt_cmpR op_eq (pv 2) pe_str (nomark _)))))
      (pss_one (ps_ret (pe_tup (pa_cons (pv 2) (pa_cons (pv 3) (pa_cons (pe_fn D__law_pick hr (pa_cons (pv 0) (pa_cons pe_int (pa_cons (pe_ix ix_list (pe_lst (pa_cons (pe_op op_add (pe_powc (v := 1000000) (by decide +kernel) ⟨by decide, by decide, by decide⟩) pe_int) (pa_cons pe_int pa_nil))) (pe_fn D__law_pick hr (pa_cons (pv 0) (pa_cons pe_int (pa_cons pe_int pa_nil)))) (fun _ _ => rfl)) pa_nil)))) pa_nil))))))
      pss_nil)
      (pss_consN (ps_if (pt_cmpR op_eq (pv 2) pe_str (nomark _))
      (pss_one (ps_ret (pe_tup (pa_cons (pv 2) (pa_cons (pv 3) (pa_cons (pe_op op_add (pe_op op_add (pv 3) pe_int) (pe_fn D__law_pick hr (pa_cons (pv 0) (pa_cons pe_int (pa_cons pe_int pa_nil))))) pa_nil))))))
      pss_nil)
      (pss_one (ps_ret (pe_tup (pa_cons (pv 2) (pa_cons (pv 3) (pa_cons (pv 4) pa_nil))))))))))))), ?_⟩
  have sz := sizeLine_eq
  walk_at "rd"
  intro l nl
  have sl := same_new nl (.lst [.str "out", .str "fee", .str "pay", .str "due", .str "turn", .str "rate", .str "late", .str "still"])
  walk_at "rd"
  intro i i0 i1
  obtain ⟨v, hv, hm⟩ := at_mem (xs := [.str "out", .str "fee", .str "pay", .str "due", .str "turn", .str "rate", .str "late", .str "still"]) i0 (by simpa using i1)
  obtain ⟨k, rfl, hk⟩ := (mem1 ⟨.out, rfl, by intro z; cases z⟩ (mem1 ⟨.fee, rfl, by intro z; cases z⟩ (mem1 ⟨.pay, rfl, by intro z; cases z⟩ (mem1 ⟨.due, rfl, by intro z; cases z⟩ (mem1 ⟨.turn, rfl, by intro z; cases z⟩ (mem1 ⟨.rate, rfl, by intro z; cases z⟩ (mem1 ⟨.late, rfl, by intro z; cases z⟩ (mem1 ⟨.still, rfl, by intro z; cases z⟩ mem0))))))) : ∀ v ∈ ([.str "out", .str "fee", .str "pay", .str "due", .str "turn", .str "rate", .str "late", .str "still"] : List V), ∃ k : Ek, v = .str k.word ∧ k ≠ .base) v hm
  refine ⟨l, _, _, _, rfl, rfl, SqL.of upd_same, hv, ?_⟩
  clear hv hm
  generalize upd H l (.lst [.str "out", .str "fee", .str "pay", .str "due", .str "turn", .str "rate", .str "late", .str "still"]) = H1 at sl ⊢
  walk_at "rd"
  intro l1 nl1
  have sl1 := sl.trans (same_new nl1 (.lst [.int 9, .int 120]))
  walk_at "rd"
  intro j j0 j1
  obtain ⟨v, hv, hm⟩ := at_mem (xs := [.int 9, .int 120]) j0 (by simpa using j1)
  obtain ⟨m1, rfl, m10, m11⟩ := (mem1 ⟨_, rfl, by omega, by omega⟩ (mem1 ⟨_, rfl, by omega, by omega⟩ mem0) : ∀ v ∈ ([.int 9, .int 120] : List V), ∃ w : Int, v = .int w ∧ 9 ≤ w ∧ w ≤ 120) v hm
  refine ⟨l1, _, _, _, rfl, rfl, SqL.of upd_same, hv, ?_⟩
  clear hv hm
  generalize upd H1 l1 (.lst [.int 9, .int 120]) = H2 at sl1 ⊢
  walk_at "rd"
  intro y y0 y1
  walk_at "rd"
  intro l2 nl2
  have sl2 := sl1.trans (same_new nl2 (.lst [.int 99, .int 1000000, .int 1000000000000]))
  walk_at "rd"
  intro j j0 j1
  obtain ⟨v, hv, hm⟩ := at_mem (xs := [.int 99, .int 1000000, .int 1000000000000]) j0 (by simpa using j1)
  obtain ⟨m2, rfl, m20, m21⟩ := (mem1 ⟨_, rfl, by omega, by omega⟩ (mem1 ⟨_, rfl, by omega, by omega⟩ (mem1 ⟨_, rfl, by omega, by omega⟩ mem0)) : ∀ v ∈ ([.int 99, .int 1000000, .int 1000000000000] : List V), ∃ w : Int, v = .int w ∧ 99 ≤ w ∧ w ≤ 1000000000000) v hm
  refine ⟨l2, _, _, _, rfl, rfl, SqL.of upd_same, hv, ?_⟩
  clear hv hm
  generalize upd H2 l2 (.lst [.int 99, .int 1000000, .int 1000000000000]) = H3 at sl2 ⊢
  walk_at "rd"
  intro x x0 x1
  have d0 : 0 ≤ b + y := by omega
  have d1 : b + y ≤ 999999 := by omega
  have a0 : 1 ≤ 1 + x := by omega
  have a1 : 1 + x ≤ 1000000000000 := by omega
  have dd : b ≤ b + y ∧ b + y < b + 120 := by omega
  cases k with
  | base => exact absurd rfl hk
  | turn =>
    dsimp only [Ek.word]
    walk_at "rd"
    intro r nr
    exact h r (.turn, b + y, 0) _ (sl2.trans (same_new nr _)) (same_gone sl2 nr) upd_same hk ⟨⟨d0, d1⟩, trivial⟩ dd (fun z => by cases z)
  | out =>
    dsimp only [Ek.word]
    walk_at "rd"
    intro r nr
    exact h r (.out, b + y, 1 + x) _ (sl2.trans (same_new nr _)) (same_gone sl2 nr) upd_same hk ⟨⟨d0, d1⟩, a0, a1⟩ dd (fun z => by cases z)
  | pay =>
    dsimp only [Ek.word]
    walk_at "rd"
    intro r nr
    exact h r (.pay, b + y, 1 + x) _ (sl2.trans (same_new nr _)) (same_gone sl2 nr) upd_same hk ⟨⟨d0, d1⟩, a0, a1⟩ dd (fun z => by cases z)
  | due =>
    dsimp only [Ek.word]
    walk_at "rd"
    intro r nr
    exact h r (.due, b + y, 1 + x) _ (sl2.trans (same_new nr _)) (same_gone sl2 nr) upd_same hk ⟨⟨d0, d1⟩, a0, a1⟩ dd (fun z => by cases z)
  | fee =>
    dsimp only [Ek.word]
    walk_at "rd"
    intro l3 n3
    have s3 := sl2.trans (same_new n3 (.lst [.int (1 + x), .int (0 - (1 + x)), .int 0]))
    walk_at "rd"
    intro j j0 j1
    walk_at "rd"
    obtain ⟨v, hv, hm⟩ := at_mem (xs := [.int (1 + x), .int (0 - (1 + x)), .int 0]) (k := j / 2) (by omega) (by simp; omega)
    obtain ⟨z, rfl, z0, z1⟩ := (mem1 ⟨_, rfl, by omega, by omega⟩ (mem1 ⟨_, rfl, by omega, by omega⟩ (mem1 ⟨_, rfl, by omega, by omega⟩ mem0)) : ∀ v ∈ ([.int (1 + x), .int (0 - (1 + x)), .int 0] : List V), ∃ w : Int, v = .int w ∧ -1000000000000 ≤ w ∧ w ≤ 1000000000000) v hm
    refine ⟨l3, _, _, _, rfl, rfl, SqL.of upd_same, hv, ?_⟩
    walk_at "rd"
    intro r nr
    exact h r (.fee, b + y, z) _ (s3.trans (same_new nr _)) (same_gone s3 nr) upd_same hk ⟨⟨d0, d1⟩, z0, z1⟩ dd (fun z => by cases z)
  | rate =>
    dsimp only [Ek.word]
    walk_at "rd"
    intro l3 n3
    have s3 := sl2.trans (same_new n3 (.lst [.int 1000001, .int 2000]))
    walk_at "rd"
    intro j j0 j1
    obtain ⟨v, hv, hm⟩ := at_mem (xs := [.int 1000001, .int 2000]) j0 (by simpa using j1)
    obtain ⟨z, rfl, z0, z1⟩ := (mem1 ⟨_, rfl, by omega, by omega⟩ (mem1 ⟨_, rfl, by omega, by omega⟩ mem0) : ∀ v ∈ ([.int 1000001, .int 2000] : List V), ∃ w : Int, v = .int w ∧ 2000 ≤ w ∧ w ≤ 1000001) v hm
    refine ⟨l3, _, _, _, rfl, rfl, SqL.of upd_same, hv, ?_⟩
    walk_at "rd"
    intro q q0 q1
    walk_at "rd"
    intro r nr
    exact h r (.rate, b + y, q) _ (s3.trans (same_new nr _)) (same_gone s3 nr) upd_same hk ⟨⟨d0, d1⟩, q0, (by show q ≤ 1000000; omega)⟩ dd (fun z => by cases z)
  | late =>
    dsimp only [Ek.word]
    walk_at "rd"
    intro l3 n3
    have s3 := sl2.trans (same_new n3 (.lst [.int 1000001, .int 2000]))
    walk_at "rd"
    intro j j0 j1
    obtain ⟨v, hv, hm⟩ := at_mem (xs := [.int 1000001, .int 2000]) j0 (by simpa using j1)
    obtain ⟨z, rfl, z0, z1⟩ := (mem1 ⟨_, rfl, by omega, by omega⟩ (mem1 ⟨_, rfl, by omega, by omega⟩ mem0) : ∀ v ∈ ([.int 1000001, .int 2000] : List V), ∃ w : Int, v = .int w ∧ 2000 ≤ w ∧ w ≤ 1000001) v hm
    refine ⟨l3, _, _, _, rfl, rfl, SqL.of upd_same, hv, ?_⟩
    walk_at "rd"
    intro q q0 q1
    walk_at "rd"
    intro r nr
    exact h r (.late, b + y, q) _ (s3.trans (same_new nr _)) (same_gone s3 nr) upd_same hk ⟨⟨d0, d1⟩, q0, (by show q ≤ 1000000; omega)⟩ dd (fun z => by cases z)
  | still =>
    dsimp only [Ek.word]
    walk_at "rd"
    intro q q0 q1
    walk_at "rd"
    intro r nr
    exact h r (.still, b + y, b + y + 1 + q) _ (sl2.trans (same_new nr _)) (same_gone sl2 nr) upd_same hk ⟨⟨d0, d1⟩, (by show b + y + 1 ≤ b + y + 1 + q; omega), (by show b + y + 1 + q ≤ 1000000; omega)⟩ dd (fun _ => by show b + y + 1 + q ≤ b + y + 40; omega)
--@ _law_count
def sp__law_count (K : PySem.W.Frag) : Sp := fun vs H Q _ => ∃ (p : Addr) (ns : List Int), vs = [.ref p] ∧ SqL K H p (ns.map V.int) ∧ ∀ (c : Addr) (kd : Kd) (H' : Hp), H c = none → Same H H' → IsCnt K H' c kd → Q (.ref c) H'
theorem sc__law_count : FnScope ["_law_script"] ["_law_script"] (defScope s__law_count) := ⟨rfl, rfl, rfl, by decide +kernel, rfl, by decide +kernel, by decide +kernel⟩
theorem d__law_count (S : Src K mg "_law_count" s__law_count ["_law_script"]) (T : Txt K mg) (D_count_named : Def P w K mg base 2 "count_named" ["text"] (sp_count_named K)) (D__law_draw : Def P w K mg base 1 "_law_draw" ["_law_script", "_law_k", "_law_many"] (sp__law_draw K)) : Def P w K mg base 3 "_law_count" ["_law_script"] (sp__law_count K) := by
  refine S.ok sc__law_count (fun vs H Q E h => ?_) (fun f cdv A outer s H vs Q E hr h => ?_)
  · obtain ⟨p, ns, rfl, hp, h⟩ := h
    rfl
  obtain ⟨p, ns, rfl, hp, h⟩ := h
  refine ⟨_, (pss_one (ps_ret (pe_fn D_count_named hr (pa_cons (pe_ix ix_list (pe_lst (pa_cons pe_str (pa_cons pe_str (pa_cons pe_str (pa_cons pe_str pa_nil))))) (pe_op op_mod (pe_op op_fdiv (pe_fn D__law_draw hr (pa_cons (pv 0) (pa_cons pe_int (pa_cons (pe_powc (v := 1000000000) (by decide +kernel) ⟨by decide, by decide, by decide⟩) pa_nil)))) pe_int) pe_int) (fun _ _ => rfl)) pa_nil)))), ?_⟩
  have sz := sizeLine_eq
  walk_at "rd"
  intro q nq
  have sq := same_new nq (.lst [.str "plain", .str "bank", .str "thirty", .str "exact"])
  have hp1 := sq.seq hp
  walk_at "rd"
  rename_i y y0 y1
  obtain ⟨v, hv, hm⟩ := at_mem (xs := [.str "plain", .str "bank", .str "thirty", .str "exact"]) (k := y / 3 % 4) (by omega) (by simp; omega)
  obtain ⟨kd, rfl⟩ := (mem1 ⟨.plain, rfl⟩ (mem1 ⟨.bank, rfl⟩ (mem1 ⟨.thirty, rfl⟩ (mem1 ⟨.exact, rfl⟩ mem0))) : ∀ v ∈ ([.str "plain", .str "bank", .str "thirty", .str "exact"] : List V), ∃ kd : Kd, v = .str (nm kd)) v hm
  refine ⟨q, _, _, _, rfl, rfl, SqL.of upd_same, hv, ?_⟩
  refine ⟨kd, rfl, fun c H' nc s2 hc => ?_⟩
  exact h c kd H' (same_gone sq nc) (sq.trans s2) hc
--@ made
def sp_made (K : PySem.W.Frag) : Sp := fun vs H Q _ => ∃ (k : Ek) (d x : Int), vs = [.str k.word, .int d, .int x] ∧ k ≠ .turn ∧ k ≠ .base ∧ ∀ (a dx : Addr) (H' : Hp), Same H H' → H a = none → IsEnt K H' a dx k d x → Q (.ref a) H'
theorem sc_made : FnScope ["word", "day", "thing"] ["word", "day", "thing"] (defScope s_made) := ⟨rfl, rfl, rfl, by decide +kernel, rfl, by decide +kernel, by decide +kernel⟩
theorem d_made (S : Src K mg "made" s_made ["word", "day", "thing"]) (T : Txt K mg) (D_init_Out : DefM P w K mg base 2 (cA K "Out") "__init__" ["self", "day", "amount"] (sp_AmountEntry_init K)) (D_init_Fee : DefM P w K mg base 2 (cA K "Fee") "__init__" ["self", "day", "amount"] (sp_AmountEntry_init K)) (D_init_Pay : DefM P w K mg base 2 (cA K "Pay") "__init__" ["self", "day", "amount"] (sp_AmountEntry_init K)) (D_init_Due : DefM P w K mg base 2 (cA K "Due") "__init__" ["self", "day", "amount"] (sp_AmountEntry_init K)) (D_init_Rate : DefM P w K mg base 2 (cA K "Rate") "__init__" ["self", "day", "rate"] (sp_RateEntry_init K)) (D_init_Late : DefM P w K mg base 2 (cA K "Late") "__init__" ["self", "day", "rate"] (sp_RateEntry_init K)) (D_init_Still : DefM P w K mg base 2 (cA K "Still") "__init__" ["self", "day", "until"] (sp_Still_init K)) : Def P w K mg base 4 "made" ["word", "day", "thing"] (sp_made K) := by
  refine S.ok sc_made (fun vs H Q E h => ?_) (fun f cdv A outer s H vs Q E hr h => ?_)
  · obtain ⟨k, d, x, rfl, h1, h2, h⟩ := h
    rfl
  obtain ⟨k, d, x, rfl, h1, h2, h⟩ := h
  refine ⟨_, (pss_consN (ps_if (pt_cmpR op_eq (pv 0) pe_str (nomark _))
      (pss_one (ps_ret (pe_makeC T.mi_Out D_init_Out hr T.m_Out (pa_cons (pv 1) (pa_cons (pv 2) pa_nil)))))
      pss_nil)
      (pss_consN (ps_if (pt_cmpR op_eq (pv 0) pe_str (nomark _))
      (pss_one (ps_ret (pe_makeC T.mi_Fee D_init_Fee hr T.m_Fee (pa_cons (pv 1) (pa_cons (pv 2) pa_nil)))))
      pss_nil)
      (pss_consN (ps_if (pt_cmpR op_eq (pv 0) pe_str (nomark _))
      (pss_one (ps_ret (pe_makeC T.mi_Pay D_init_Pay hr T.m_Pay (pa_cons (pv 1) (pa_cons (pv 2) pa_nil)))))
      pss_nil)
      (pss_consN (ps_if (pt_cmpR op_eq (pv 0) pe_str (nomark _))
      (pss_one (ps_ret (pe_makeC T.mi_Due D_init_Due hr T.m_Due (pa_cons (pv 1) (pa_cons (pv 2) pa_nil)))))
      pss_nil)
      (pss_consN (ps_if (pt_cmpR op_eq (pv 0) pe_str (nomark _))
      (pss_one (ps_ret (pe_makeC T.mi_Rate D_init_Rate hr T.m_Rate (pa_cons (pv 1) (pa_cons (pv 2) pa_nil)))))
      pss_nil)
      (pss_consN (ps_if (pt_cmpR op_eq (pv 0) pe_str (nomark _))
      (pss_one (ps_ret (pe_makeC T.mi_Late D_init_Late hr T.m_Late (pa_cons (pv 1) (pa_cons (pv 2) pa_nil)))))
      pss_nil)
      (pss_one (ps_ret (pe_makeC T.mi_Still D_init_Still hr T.m_Still (pa_cons (pv 1) (pa_cons (pv 2) pa_nil))))))))))), ?_⟩
  cases k with
  | turn => exact absurd rfl h1
  | base => exact absurd rfl h2
  | out =>
    dsimp only [Ek.word]
    walk_at "rd"
    intro a dx na nd ne
    refine ⟨a, _, dx, d, x, rfl, upd_same, T.clE .out, T.naE_day .out, T.naE_amount .out, rfl, ?_⟩
    rw [upd_upd]
    walk_at "rd"
    exact h a dx _ ((same_new nd _).trans (same_new (by rw [upd_ne ne.symm]; exact na) _)) na upd_same
  | fee =>
    dsimp only [Ek.word]
    walk_at "rd"
    intro a dx na nd ne
    refine ⟨a, _, dx, d, x, rfl, upd_same, T.clE .fee, T.naE_day .fee, T.naE_amount .fee, rfl, ?_⟩
    rw [upd_upd]
    walk_at "rd"
    exact h a dx _ ((same_new nd _).trans (same_new (by rw [upd_ne ne.symm]; exact na) _)) na upd_same
  | pay =>
    dsimp only [Ek.word]
    walk_at "rd"
    intro a dx na nd ne
    refine ⟨a, _, dx, d, x, rfl, upd_same, T.clE .pay, T.naE_day .pay, T.naE_amount .pay, rfl, ?_⟩
    rw [upd_upd]
    walk_at "rd"
    exact h a dx _ ((same_new nd _).trans (same_new (by rw [upd_ne ne.symm]; exact na) _)) na upd_same
  | due =>
    dsimp only [Ek.word]
    walk_at "rd"
    intro a dx na nd ne
    refine ⟨a, _, dx, d, x, rfl, upd_same, T.clE .due, T.naE_day .due, T.naE_amount .due, rfl, ?_⟩
    rw [upd_upd]
    walk_at "rd"
    exact h a dx _ ((same_new nd _).trans (same_new (by rw [upd_ne ne.symm]; exact na) _)) na upd_same
  | rate =>
    dsimp only [Ek.word]
    walk_at "rd"
    intro a dx na nd ne
    refine ⟨a, _, dx, d, x, rfl, upd_same, T.clE .rate, T.naE_day .rate, T.naE_rate .rate, rfl, ?_⟩
    rw [upd_upd]
    walk_at "rd"
    exact h a dx _ ((same_new nd _).trans (same_new (by rw [upd_ne ne.symm]; exact na) _)) na upd_same
  | late =>
    dsimp only [Ek.word]
    walk_at "rd"
    intro a dx na nd ne
    refine ⟨a, _, dx, d, x, rfl, upd_same, T.clE .late, T.naE_day .late, T.naE_rate .late, rfl, ?_⟩
    rw [upd_upd]
    walk_at "rd"
    exact h a dx _ ((same_new nd _).trans (same_new (by rw [upd_ne ne.symm]; exact na) _)) na upd_same
  | still =>
    dsimp only [Ek.word]
    walk_at "rd"
    intro a dx na nd ne
    refine ⟨a, _, dx, d, x, rfl, upd_same, T.clE .still, T.naE_day .still, T.naE_until .still, rfl, ?_⟩
    rw [upd_upd]
    walk_at "rd"
    exact h a dx _ ((same_new nd _).trans (same_new (by rw [upd_ne ne.symm]; exact na) _)) na upd_same
--@ changed
def sp_changed (K : PySem.W.Frag) : Sp := fun vs H Q _ => L2.Ee10 fun (r dx c l : Addr) (kd : Kd) (g k1 k2 : Int) (ds : List Dd) (ms : List Int) => L2.Aa6 (vs = [.ref r, .int k1, .int k2]) (RolAt K H r dx c l kd g ds) ((∀ d ∈ ds, d.2.1 ∈ ms)) (ms.length < 32) (ds.length ≤ 1000) (∀ (q : Addr) (ns : List Int) (H' : Hp), H q = none → Same H H' → H' q = some (.lst (ns.map V.int)) → ChgIs ds k1 k2 ns → ns.length < 64 → Q (.ref q) H')
theorem sc_changed : FnScope ["roll", "before", "behind", "one", "other"] ["roll", "before", "behind"] (defScope s_changed) := ⟨rfl, rfl, rfl, by decide +kernel, rfl, by decide +kernel, by decide +kernel⟩
theorem d_changed (S : Src K mg "changed" s_changed ["roll", "before", "behind"]) (T : Txt K mg) (D_rows_by_number : Def P w K mg base 3 "rows_by_number" ["roll", "known"] (sp_rows_by_number P w K)) : Def P w K mg base 4 "changed" ["roll", "before", "behind"] (sp_changed K) := by
  refine S.ok sc_changed (fun vs H Q E h => ?_) (fun f cdv A outer s H vs Q E hr h => ?_)
  · obtain ⟨r, dx, c, l, kd, g, k1, k2, ds, ms, rfl, B, hm, ml, dl, h⟩ := h
    rfl
  obtain ⟨r, dx, c, l, kd, g, k1, k2, ds, ms, rfl, B, hm, ml, dl, h⟩ := h
  refine ⟨_, (pss_consN (ps_set (i := 3) sc_changed.nd rfl (by first | exact Or.inl rfl | exact Or.inr rfl) (pe_fn D_rows_by_number hr (pa_cons (pv 0) (pa_cons (pv 1) pa_nil))))
      (pss_consN (ps_set (i := 4) sc_changed.nd rfl (by first | exact Or.inl rfl | exact Or.inr rfl) (pe_fn D_rows_by_number hr (pa_cons (pv 0) (pa_cons (pv 2) pa_nil))))
      (pss_one (ps_ret (pe_compIf (ix := [3, 4]) ⟨rfl, by decide +kernel, rfl, by decide +kernel, rfl, (show (["number", "one", "other"] : List Str).Nodup by decide +kernel), by walk_at "cap", by walk_at "sub", by walk_at "has"⟩ (pi_list (pe_callB (call_sortedS rfl) rfl T.n_sorted PyProof.Rows.boot_sorted (pa_cons (pe_op op_setOr (pe_callTy call_setD rfl T.n_set PyProof.Rows.boot_set (pa_cons (pv 3) pa_nil)) (pe_callTy call_setD rfl T.n_set PyProof.Rows.boot_set (pa_cons (pv 4) pa_nil))) pa_nil))) (fun b => (pt_cmpR (op_neDK K hr.units) (pe_get1V P w (pv 1) (pv 0)) (pe_get1V P w (pv 2) (pv 0)) (nomark _))) (fun b => (pv 0))))))), ?_⟩
  have sz := sizeLine_eq
  walk_at "rd"
  refine ⟨r, dx, c, l, kd, g, k1, ds, ms, rfl, B, hm, by omega, dl, fun d1 t1 H1 nd1 s1 e1 R1 l1 => ?_⟩
  walk_at "rd"
  refine ⟨r, dx, c, l, kd, g, k2, ds, ms, rfl, B.same s1, hm, by omega, dl, fun d2 t2 H2 nd2 s2 e2 R2 l2 => ?_⟩
  walk_at "rd"
  refine ⟨d1, t1, rfl, s2 _ _ e1, by omega, fun p1 H3 m1 np1 s3 e3 nd3 mm1 ml1 => ?_⟩
  walk_at "rd"
  refine ⟨d2, t2, rfl, s3 _ _ e2, by omega, fun p2 H4 m2 np2 s4 e4 nd4 mm2 ml2 => ?_⟩
  refine ⟨p1, p2, m1, m2, rfl, rfl, s4 _ _ e3, e4, by omega, fun p3 H5 m3 np3 s5 e5 nd5 mm3 ml3 => ?_⟩
  walk_at "rd"
  refine ⟨p3, m3, rfl, e5, by omega, fun q1 H6 ns nq1 s6 eq1 pm up => ?_⟩
  have s26 : Same H2 H6 := s3.trans (s4.trans (s5.trans s6))
  have nl : ns.length = m3.length := pm.length_eq
  have e16 := s26 _ _ (s2 _ _ e1)
  have e26 := s26 _ _ e2
  have R16 := (R1.same s2).same s26
  have R26 := R2.same s26
  walk_at "rd"
  refine ⟨⟨_, SqL.of eq1⟩, fun l2 nl2 => ?_⟩
  refine comp_sel (walk_list (SqL.of eq1)) nl2 (by rw [List.length_map]; omega) ns (by rw [List.length_map]) (isCh ds k1 k2) (fun _ v n => v = .int n) (fun v e H1 H2 s q => q) (fun v e H1 ys zs hL q => q) ?_ ?_ ?_
  · rintro i x n H7 Q' hx hs s7 hq
    rw [List.getElem?_map, hs] at hx
    obtain rfl : V.int n = x := Option.some.inj hx
    walk_at "rd"
    refine ⟨d1, t1, rfl, s7 _ _ e16, ?_⟩
    walk_at "rd"
    refine ⟨s7 _ _ e16, ?_⟩
    walk_at "rd"
    refine ⟨d2, t2, rfl, s7 _ _ e26, ?_⟩
    walk_at "rd"
    refine ⟨s7 _ _ e26, ?_⟩
    refine ⟨_, _, (R16.same s7).rdR n, (R26.same s7).rdR n, shaped_oR _, shaped_oR _, ?_⟩
    exact ⟨_, rfl, hq⟩
  · rintro i x n H7 Q' hx hs fs s7 hq
    rw [List.getElem?_map, hs] at hx
    obtain rfl : V.int n = x := Option.some.inj hx
    walk_at "rd"
    exact hq _ _ (Same.refl _) rfl
  · rintro ys H7 s7 eL7 hL7
    have ey : ys = (ns.filter (isCh ds k1 k2)).map V.int := hL7.eqm (g := fun e : Int => V.int e)
    subst ey
    exact h l2 _ H7 (same_gone s1 (same_gone s2 (same_gone s26 nl2))) (s1.trans (s2.trans (s26.trans s7))) eL7 (ChgIs.of R1 R2 (Sby.up_of (pm.nodup_iff.mpr nd5) up) fun n => by rw [pm.mem_iff, mm3, mm1, mm2]) (by have := List.length_filter_le (isCh ds k1 k2) ns; omega)
--@ Roll_init
def sp_Roll_init (K : PySem.W.Frag) : Sp := fun vs H Q _ => L2.Ee5 fun (r dx c : Addr) (kd : Kd) (g : Int) => L2.Aa6 (vs = [.ref r, .ref c, .int g]) (H r = some (.ins (cA K "Roll") dx [])) (IsCnt K H c kd) (c ≠ r) ((0 ≤ g ∧ g ≤ 366)) (∀ (l : Addr) (H' : Hp), H l = none → (∀ b o, b ≠ r → H b = some o → H' b = some o) → RolAt K H' r dx c l kd g [] → Q .non H')
theorem sc_Roll_init : FnScope ["self", "count", "grace"] ["self", "count", "grace"] (defScope s_Roll_init) := ⟨rfl, rfl, rfl, by decide +kernel, rfl, by decide +kernel, by decide +kernel⟩
theorem d_Roll_init (S : MethS K (cA K "Roll") "__init__" "Roll.__init__" s_Roll_init ["self", "count", "grace"]) (T : Txt K mg) (D_check_terms : Def P w K mg base 3 "check_terms" ["count", "grace"] (sp_check_terms K)) : DefM P w K mg base 4 (cA K "Roll") "__init__" ["self", "count", "grace"] (sp_Roll_init K) := by
  refine S.ok sc_Roll_init (fun vs H Q E h => ?_) (fun f cdv A outer s H vs Q E hr h => ?_)
  · obtain ⟨r, dx, c, kd, g, rfl, e, hc, ncr, ⟨g0, g1⟩, h⟩ := h
    rfl
  obtain ⟨r, dx, c, kd, g, rfl, e, hc, ncr, ⟨g0, g1⟩, h⟩ := h
  refine ⟨_, (pss_consN (ps_expr (pe_fn D_check_terms hr (pa_cons (pv 1) (pa_cons (pv 2) pa_nil))))
      (pss_consN (ps_fldC T.cl_Roll T.na_Roll_own_count (pv 0) (pv 1))
      (pss_consN (ps_fldC T.cl_Roll T.na_Roll_own_grace (pv 0) (pv 2))
      (pss_one (ps_fldC T.cl_Roll T.na_Roll_deeds (pv 0) (pe_lst pa_nil)))))), ?_⟩
  walk_at "rd"
  refine ⟨c, kd, g, rfl, hc, ⟨g0, g1⟩, ?_⟩
  walk_at "rd"
  refine ⟨r, dx, [], rfl, e, by decide, ?_⟩
  walk_at "rd"
  refine ⟨r, dx, _, rfl, upd_same, Nat.lt_of_le_of_lt (Nat.le_refl 1) (by decide), ?_⟩
  rw [upd_upd]
  walk_at "rd"
  intro l nl
  have nlr : l ≠ r := fun z => by rw [z, upd_same] at nl; cases nl
  have nlH : H l = none := by rw [upd_ne nlr] at nl; exact nl
  walk_at "rd"
  refine ⟨r, dx, _, rfl, by rw [upd_ne nlr.symm]; exact upd_same, Nat.lt_of_le_of_lt (Nat.le_refl 2) (by decide), ?_⟩
  obtain ⟨dy, ec⟩ := hc
  have ncl : c ≠ l := ne_of_none ec nlH
  refine h l _ nlH (fun b o nb eb => ?_) ⟨upd_same, ⟨dy, by rw [upd_ne ncr, upd_ne ncl, upd_ne ncr]; exact ec⟩, [], by rw [upd_ne nlr]; exact upd_same, .nil⟩
  rw [upd_ne nb, upd_ne (ne_of_none eb nlH), upd_ne nb]
  exact eb
--@ Roll_strike
theorem dctV_get {l : List (Int × V)} {n : Int} (h : n ∈ l.map (·.1)) : (lkV (dctV l) n).isSome = true := by
  have gen : ∀ (l acc : List (Int × V)), (n ∈ l.map (·.1) ∨ (lkV acc n).isSome = true) → (lkV (l.foldl (fun acc s => storedV acc s.1 s.2) acc) n).isSome = true := by
    intro l
    induction l with
    | nil => intro acc q; rcases q with q | q; cases q; exact q
    | cons s l ih =>
      intro acc q
      refine ih _ ?_
      rw [lkV_stored]
      by_cases e : n = s.1
      · rw [if_pos e]; exact .inr rfl
      · rw [if_neg e]
        rcases q with q | q
        · rw [List.map_cons] at q
          rcases List.mem_cons.mp q with q | q
          · exact absurd q e
          · exact .inl q
        · exact .inr q
  exact gen l [] (.inl h)
theorem rowsV_of {K : PySem.W.Frag} {H : Hp} {ys : List V} {m : List (Int × Option Er)} (h : LL (P2E K H) ys m) : ∃ l : List (Int × V), RowsV K H ys l ∧ l.map (·.1) = m.map (·.1) := by
  induction h with
  | nil => exact ⟨[], .nil, rfl⟩
  | cons h _ ih =>
    obtain ⟨l, a, b⟩ := ih
    obtain ⟨t, u, rfl, ht, hu⟩ := h
    exact ⟨(_, u) :: l, .cons ⟨t, rfl, ht⟩ a, by rw [List.map_cons, List.map_cons, b]⟩
def sp_Roll_strike (K : PySem.W.Frag) : Sp := fun vs H Q _ => L2.Ee11 fun (r dx c l : Addr) (kd : Kd) (g k n : Int) (ds : List Dd) (e : Er) (ms : List Int) => L2.Aa10 (vs = [.ref r, .int k, .int n]) (RolAt K H r dx c l kd g ds) (lastD ds 999999 n = some (some e)) ((0 ≤ k ∧ k ≤ 999999)) ((∀ d ∈ ds, d.1 ≤ k)) ((1 ≤ n ∧ n ≤ 1000000000)) ((∀ d ∈ ds, d.2.1 ∈ ms)) (ms.length < 64) (ds.length < 500) (∀ (H' : Hp), (∀ G, Same G H → G l = none → Same G H') → RolAt K H' r dx c l kd g (ds ++ [(k, n, none)]) → Q .non H')
theorem sc_Roll_strike : FnScope ["self", "known", "number"] ["self", "known", "number"] (defScope s_Roll_strike) := ⟨rfl, rfl, rfl, by decide +kernel, rfl, by decide +kernel, by decide +kernel⟩
theorem d_Roll_strike (S : MethS K (cA K "Roll") "strike" "Roll.strike" s_Roll_strike ["self", "known", "number"]) (T : Txt K mg) (D_Roll_check_known : DefM P w K mg base 3 (cA K "Roll") "check_known" ["self", "known"] (sp_Roll_check_known K)) (D_check_number : Def P w K mg base 3 "check_number" ["thing"] (sp_check_number K)) (D_Roll_standing : DefM P w K mg base 1 (cA K "Roll") "standing" ["self", "known"] (sp_Roll_standing K)) (D_Roll_keep : DefM P w K mg base 1 (cA K "Roll") "keep" ["self", "known", "number", "entry"] (sp_Roll_keep K)) : DefM P w K mg base 4 (cA K "Roll") "strike" ["self", "known", "number"] (sp_Roll_strike K) := by
  refine S.ok sc_Roll_strike (fun vs H Q E h => ?_) (fun f cdv A outer s H vs Q E hr h => ?_)
  · obtain ⟨r, dx, c, l, kd, g, k, n, ds, e, ms, rfl, B, le, kk, kl, nn, hm, hml, dl, h⟩ := h
    rfl
  obtain ⟨r, dx, c, l, kd, g, k, n, ds, e, ms, rfl, B, le, kk, kl, nn, hm, hml, dl, h⟩ := h
  refine ⟨_, (pss_consN (ps_expr (pe_methC D_Roll_check_known T.cl_Roll hr (pv 0) (pa_cons (pv 1) pa_nil)))
      (pss_consN (ps_expr (pe_fn D_check_number hr (pa_cons (pv 2) pa_nil)))
      (pss_consN (ps_if (pt_cmpR op_notIn_dictV (pv 2) (pe_callTy (call_dictPV rfl) rfl T.n_dict PyProof.Rows.boot_dict (pa_cons (pe_methC D_Roll_standing T.cl_Roll hr (pv 0) (pa_cons (pe_gint T.g_LAST_DAY) pa_nil)) pa_nil)) (by with_unfolding_all rfl))
      pss_never
      pss_nil)
      (pss_one (ps_expr (pe_methC D_Roll_keep T.cl_Roll hr (pv 0) (pa_cons (pv 1) (pa_cons (pv 2) (pa_cons pe_non pa_nil))))))))), ?_⟩
  have sz := sizeLine_eq
  walk_at "rd"
  refine ⟨r, dx, _, rfl, B.ins, rfl, ?_⟩
  walk_at "rd"
  obtain ⟨n0, n1⟩ := nn
  refine ⟨r, dx, c, l, kd, g, k, ds, rfl, B, kk, kl, ?_⟩
  walk_at "rd"
  refine ⟨r, dx, _, rfl, B.ins, rfl, ?_⟩
  walk_at "rd"
  refine ⟨r, dx, c, l, kd, g, 999999, ds, ms, rfl, B, hm, hml, by omega, fun q ys m H1 nq s1 eq hL st => ?_⟩
  obtain ⟨lv, hV, ek⟩ := rowsV_of hL
  have mem : n ∈ lv.map (·.1) := by
    rw [ek]
    exact List.mem_map.mpr ⟨(n, some e), (st.mem _).mpr ⟨le, rfl⟩, rfl⟩
  walk_at "rd"
  have lvl : lv.length = m.length := by have := congrArg List.length ek; rwa [List.length_map, List.length_map] at this
  have ml := st.few hm
  refine ⟨q, ys, lv, rfl, eq, hV, by omega, fun d nd => ?_⟩
  have s2 := same_new nd (DictV P w d (dctV lv))
  walk_at "rd"
  refine ⟨d, dctV lv, n, rfl, rfl, upd_same, ?_⟩
  rw [dctV_get mem]
  walk_at "rd"
  refine ⟨r, dx, _, rfl, s2 _ _ (s1 _ _ B.ins), rfl, ?_⟩
  walk_at "rd"
  refine ⟨r, dx, c, l, kd, g, k, n, ds, .non, none, rfl, (B.same s1).same s2, rfl, by omega, fun H' hG hB => ?_⟩
  exact h H' (fun G sG nG => hG G (sG.trans (s1.trans s2)) nG) hB
--@ _law_made
def sp__law_made (K : PySem.W.Frag) : Sp := fun vs H Q _ => L2.Ee4 fun (r : Addr) (k : Ek) (d x : Int) => L2.Aa4 (vs = [.ref r]) (H r = some (.tup (rowV k d x))) (k ≠ .base) (∀ (a dx : Addr) (H' : Hp), Same H H' → H a = none → IsEnt K H' a dx k d x → Q (.ref a) H')
theorem sc__law_made : FnScope ["_law_row_here", "_law_word"] ["_law_row_here"] (defScope s__law_made) := ⟨rfl, rfl, rfl, by decide +kernel, rfl, by decide +kernel, by decide +kernel⟩
theorem d__law_made (S : Src K mg "_law_made" s__law_made ["_law_row_here"]) (T : Txt K mg) (D_init_Out : DefM P w K mg base 2 (cA K "Out") "__init__" ["self", "day", "amount"] (sp_AmountEntry_init K)) (D_init_Fee : DefM P w K mg base 2 (cA K "Fee") "__init__" ["self", "day", "amount"] (sp_AmountEntry_init K)) (D_init_Pay : DefM P w K mg base 2 (cA K "Pay") "__init__" ["self", "day", "amount"] (sp_AmountEntry_init K)) (D_init_Due : DefM P w K mg base 2 (cA K "Due") "__init__" ["self", "day", "amount"] (sp_AmountEntry_init K)) (D_init_Rate : DefM P w K mg base 2 (cA K "Rate") "__init__" ["self", "day", "rate"] (sp_RateEntry_init K)) (D_init_Late : DefM P w K mg base 2 (cA K "Late") "__init__" ["self", "day", "rate"] (sp_RateEntry_init K)) (D_init_Still : DefM P w K mg base 2 (cA K "Still") "__init__" ["self", "day", "until"] (sp_Still_init K)) (D_init_Turn : DefM P w K mg base 1 (cA K "Turn") "__init__" ["self", "day"] (sp_Entry_init K)) : Def P w K mg base 4 "_law_made" ["_law_row_here"] (sp__law_made K) := by
  refine S.ok sc__law_made (fun vs H Q E h => ?_) (fun f cdv A outer s H vs Q E hr h => ?_)
  · obtain ⟨r, k, d, x, rfl, e, h2, h⟩ := h
    rfl
  obtain ⟨r, k, d, x, rfl, e, h2, h⟩ := h
  refine ⟨_, (pss_consN (ps_set (i := 1) sc__law_made.nd rfl (by first | exact Or.inl rfl | exact Or.inr rfl) (pe_ix ix_tup (pv 0) pe_int (fun _ _ => rfl)))
      (pss_consN (ps_if (pt_cmpR op_eq (pv 1) pe_str (nomark _))
      (pss_one (ps_ret (pe_makeC T.mi_Out D_init_Out hr T.m_Out (pa_cons (pe_ix ix_tup (pv 0) pe_int (fun _ _ => rfl)) (pa_cons (pe_ix ix_tup (pv 0) pe_int (fun _ _ => rfl)) pa_nil)))))
      pss_nil)
      (pss_consN (ps_if (pt_cmpR op_eq (pv 1) pe_str (nomark _))
      (pss_one (ps_ret (pe_makeC T.mi_Fee D_init_Fee hr T.m_Fee (pa_cons (pe_ix ix_tup (pv 0) pe_int (fun _ _ => rfl)) (pa_cons (pe_ix ix_tup (pv 0) pe_int (fun _ _ => rfl)) pa_nil)))))
      pss_nil)
      (pss_consN (ps_if (pt_cmpR op_eq (pv 1) pe_str (nomark _))
      (pss_one (ps_ret (pe_makeC T.mi_Pay D_init_Pay hr T.m_Pay (pa_cons (pe_ix ix_tup (pv 0) pe_int (fun _ _ => rfl)) (pa_cons (pe_ix ix_tup (pv 0) pe_int (fun _ _ => rfl)) pa_nil)))))
      pss_nil)
      (pss_consN (ps_if (pt_cmpR op_eq (pv 1) pe_str (nomark _))
      (pss_one (ps_ret (pe_makeC T.mi_Due D_init_Due hr T.m_Due (pa_cons (pe_ix ix_tup (pv 0) pe_int (fun _ _ => rfl)) (pa_cons (pe_ix ix_tup (pv 0) pe_int (fun _ _ => rfl)) pa_nil)))))
      pss_nil)
      (pss_consN (ps_if (pt_cmpR op_eq (pv 1) pe_str (nomark _))
      (pss_one (ps_ret (pe_makeC T.mi_Rate D_init_Rate hr T.m_Rate (pa_cons (pe_ix ix_tup (pv 0) pe_int (fun _ _ => rfl)) (pa_cons (pe_ix ix_tup (pv 0) pe_int (fun _ _ => rfl)) pa_nil)))))
      pss_nil)
      (pss_consN (ps_if (pt_cmpR op_eq (pv 1) pe_str (nomark _))
      (pss_one (ps_ret (pe_makeC T.mi_Late D_init_Late hr T.m_Late (pa_cons (pe_ix ix_tup (pv 0) pe_int (fun _ _ => rfl)) (pa_cons (pe_ix ix_tup (pv 0) pe_int (fun _ _ => rfl)) pa_nil)))))
      pss_nil)
      (pss_consN (ps_if (pt_cmpR op_eq (pv 1) pe_str (nomark _))
      (pss_one (ps_ret (pe_makeC T.mi_Still D_init_Still hr T.m_Still (pa_cons (pe_ix ix_tup (pv 0) pe_int (fun _ _ => rfl)) (pa_cons (pe_ix ix_tup (pv 0) pe_int (fun _ _ => rfl)) pa_nil)))))
      pss_nil)
      (pss_one (ps_ret (pe_makeC T.mi_Turn D_init_Turn hr T.m_Turn (pa_cons (pe_ix ix_tup (pv 0) pe_int (fun _ _ => rfl)) pa_nil)))))))))))), ?_⟩
  cases k with
  | base => exact absurd rfl h2
  | turn =>
    dsimp only [rowV, Ek.word] at e
    walk_at "rd"
    intro a dx na nd ne
    refine ⟨a, _, dx, [], d, rfl, upd_same, T.clE .turn, T.naE_day .turn, by decide, rfl, ?_⟩
    rw [upd_upd]
    exact h a dx _ ((same_new nd _).trans (same_new (by rw [upd_ne ne.symm]; exact na) _)) na upd_same
  | out =>
    dsimp only [rowV, Ek.word] at e
    walk_at "rd"
    intro a dx na nd ne
    refine ⟨a, _, dx, d, x, rfl, upd_same, T.clE .out, T.naE_day .out, T.naE_amount .out, rfl, ?_⟩
    rw [upd_upd]
    walk_at "rd"
    exact h a dx _ ((same_new nd _).trans (same_new (by rw [upd_ne ne.symm]; exact na) _)) na upd_same
  | fee =>
    dsimp only [rowV, Ek.word] at e
    walk_at "rd"
    intro a dx na nd ne
    refine ⟨a, _, dx, d, x, rfl, upd_same, T.clE .fee, T.naE_day .fee, T.naE_amount .fee, rfl, ?_⟩
    rw [upd_upd]
    walk_at "rd"
    exact h a dx _ ((same_new nd _).trans (same_new (by rw [upd_ne ne.symm]; exact na) _)) na upd_same
  | pay =>
    dsimp only [rowV, Ek.word] at e
    walk_at "rd"
    intro a dx na nd ne
    refine ⟨a, _, dx, d, x, rfl, upd_same, T.clE .pay, T.naE_day .pay, T.naE_amount .pay, rfl, ?_⟩
    rw [upd_upd]
    walk_at "rd"
    exact h a dx _ ((same_new nd _).trans (same_new (by rw [upd_ne ne.symm]; exact na) _)) na upd_same
  | due =>
    dsimp only [rowV, Ek.word] at e
    walk_at "rd"
    intro a dx na nd ne
    refine ⟨a, _, dx, d, x, rfl, upd_same, T.clE .due, T.naE_day .due, T.naE_amount .due, rfl, ?_⟩
    rw [upd_upd]
    walk_at "rd"
    exact h a dx _ ((same_new nd _).trans (same_new (by rw [upd_ne ne.symm]; exact na) _)) na upd_same
  | rate =>
    dsimp only [rowV, Ek.word] at e
    walk_at "rd"
    intro a dx na nd ne
    refine ⟨a, _, dx, d, x, rfl, upd_same, T.clE .rate, T.naE_day .rate, T.naE_rate .rate, rfl, ?_⟩
    rw [upd_upd]
    walk_at "rd"
    exact h a dx _ ((same_new nd _).trans (same_new (by rw [upd_ne ne.symm]; exact na) _)) na upd_same
  | late =>
    dsimp only [rowV, Ek.word] at e
    walk_at "rd"
    intro a dx na nd ne
    refine ⟨a, _, dx, d, x, rfl, upd_same, T.clE .late, T.naE_day .late, T.naE_rate .late, rfl, ?_⟩
    rw [upd_upd]
    walk_at "rd"
    exact h a dx _ ((same_new nd _).trans (same_new (by rw [upd_ne ne.symm]; exact na) _)) na upd_same
  | still =>
    dsimp only [rowV, Ek.word] at e
    walk_at "rd"
    intro a dx na nd ne
    refine ⟨a, _, dx, d, x, rfl, upd_same, T.clE .still, T.naE_day .still, T.naE_until .still, rfl, ?_⟩
    rw [upd_upd]
    walk_at "rd"
    exact h a dx _ ((same_new nd _).trans (same_new (by rw [upd_ne ne.symm]; exact na) _)) na upd_same
--@ _law_deeds
/-- deeds as they are drawn -/
structure DdsOk (b : Int) (ds : List Dd) : Prop where
  len : ds.length ≤ 42
  kn : ∀ d ∈ ds, 0 ≤ d.1 ∧ d.1 ≤ 999999
  up : ds.Pairwise (fun a b => a.1 ≤ b.1)
  nr : ∃ m : Int, (1 ≤ m ∧ m ≤ 1000000000) ∧ ∀ d ∈ ds, d.2.1 ∈ [1, 2, 3, m, 7, 1000000000, 8, 20]
  row : ∀ d ∈ ds, ∀ e, d.2.2 = some e → e.1 ≠ .base ∧ GoodRow e.1 e.2.1 e.2.2 ∧ (b ≤ e.2.1 ∧ e.2.1 < b + 120) ∧ (e.1 = .still → e.2.2 ≤ e.2.1 + 40)
  str : ∀ (i : Nat) d, ds[i]? = some d → d.2.2 = none → ∃ e, lastD (ds.take i) d.1 d.2.1 = some (some e)
def sp__law_deeds (K : PySem.W.Frag) : Sp := fun vs H Q _ => ∃ (a : Addr) (ns : List Int) (M : Int), vs = [.ref a, .int M] ∧ SqL K H a (ns.map V.int) ∧ ns.length ≤ 63 ∧ M ≤ 42 ∧
  ∀ (q : Addr) (ws : List V) (b : Int) (ds : List Dd) (H' : Hp), H q = none → Same H H' → H' q = some (.lst ws) → LL (P3R H') ws ds → (0 ≤ b ∧ b ≤ 999700) → 12 ≤ ds.length → DdsOk b ds → Q (.ref q) H'
theorem pw_snoc {ds : List Dd} {k : Int} {d : Dd} (h : ds.Pairwise (fun a b => a.1 ≤ b.1)) (hk : ∀ e ∈ ds, e.1 ≤ k) (hd : k ≤ d.1) : (ds ++ [d]).Pairwise (fun a b => a.1 ≤ b.1) := by
  rw [List.pairwise_append]
  refine ⟨h, by simp, fun a ha b hb => ?_⟩
  obtain rfl : b = d := by simpa using hb
  have := hk a ha
  omega
theorem str_snoc {ds : List Dd} {d : Dd} (h : ∀ (i : Nat) d, ds[i]? = some d → d.2.2 = none → ∃ e, lastD (ds.take i) d.1 d.2.1 = some (some e)) (hd : d.2.2 = none → ∃ e, lastD ds d.1 d.2.1 = some (some e)) :
    ∀ (i : Nat) c, (ds ++ [d])[i]? = some c → c.2.2 = none → ∃ e, lastD ((ds ++ [d]).take i) c.1 c.2.1 = some (some e) := fun i c hc hn => by
  by_cases hi : i < ds.length
  · rw [List.getElem?_append_left hi] at hc
    rw [List.take_append_of_le_length (Nat.le_of_lt hi)]
    exact h i c hc hn
  · have : i = ds.length := by
      have := (List.getElem?_eq_some_iff.mp hc).1
      rw [List.length_append, List.length_singleton] at this
      omega
    subst this
    rw [List.getElem?_append_right (Nat.le_refl _), Nat.sub_self] at hc
    obtain rfl : d = c := by simpa using hc
    rw [List.take_left]
    exact hd hn
theorem rowsV_ofR {H : Hp} {K : PySem.W.Frag} {ys : List V} {m : List (Int × Option Er)} (h : LL (P2R H) ys m) : ∃ l : List (Int × V), RowsV K H ys l ∧ l.map (·.1) = m.map (·.1) := by
  induction h with
  | nil => exact ⟨[], .nil, rfl⟩
  | cons h _ ih =>
    obtain ⟨l, a, b⟩ := ih
    obtain ⟨t, u, rfl, ht, hu⟩ := h
    exact ⟨(_, u) :: l, .cons ⟨t, rfl, ht⟩ a, by rw [List.map_cons, List.map_cons, b]⟩
theorem DdsOk.snoc {b k : Int} {ds : List Dd} {d : Dd} (h : DdsOk b ds) (hl : ds.length < 42) (hk : ∀ e ∈ ds, e.1 ≤ k) (kd : k ≤ d.1) (d0 : 0 ≤ d.1 ∧ d.1 ≤ 999999) (m : Int) (hm : 1 ≤ m ∧ m ≤ 1000000000) (hA : ∀ e ∈ ds, e.2.1 ∈ [1, 2, 3, m, 7, 1000000000, 8, 20]) (hn : d.2.1 ∈ [1, 2, 3, m, 7, 1000000000, 8, 20])
    (hr : ∀ e, d.2.2 = some e → e.1 ≠ .base ∧ GoodRow e.1 e.2.1 e.2.2 ∧ (b ≤ e.2.1 ∧ e.2.1 < b + 120) ∧ (e.1 = .still → e.2.2 ≤ e.2.1 + 40)) (hs : d.2.2 = none → ∃ e, lastD ds d.1 d.2.1 = some (some e)) : DdsOk b (ds ++ [d]) := by
  have mem : ∀ {p : Dd → Prop}, (∀ e ∈ ds, p e) → p d → ∀ e ∈ ds ++ [d], p e := fun h1 h2 e he => by
    rcases List.mem_append.mp he with he | he
    · exact h1 e he
    · obtain rfl : e = d := by simpa using he
      exact h2
  exact ⟨by rw [List.length_append, List.length_singleton]; omega, mem h.kn d0, pw_snoc h.up hk kd, ⟨m, hm, mem hA hn⟩, mem h.row hr, str_snoc h.str hs⟩
theorem sc__law_deeds : FnScope ["_law_script", "_law_most", "_law_base_here", "_law_numbers", "_law_known", "_law_deeds_here", "_law_k", "_law_cell_here", "_law_number", "_law_there"] ["_law_script", "_law_most"] (defScope s__law_deeds) := ⟨rfl, rfl, rfl, by decide +kernel, rfl, by decide +kernel, by decide +kernel⟩
theorem d__law_deeds (S : Src K mg "_law_deeds" s__law_deeds ["_law_script", "_law_most"]) (T : Txt K mg) (D__law_base : Def P w K mg base 2 "_law_base" ["_law_script"] (sp__law_base K)) (D__law_draw : Def P w K mg base 1 "_law_draw" ["_law_script", "_law_k", "_law_many"] (sp__law_draw K)) (D__law_cell : Def P w K mg base 2 "_law_cell" ["_law_script", "_law_k"] (sp__law_cell K)) (D__law_pick : Def P w K mg base 2 "_law_pick" ["_law_cell_here", "_law_by", "_law_many"] (sp__law_pick K)) (D__law_stands : Def P w K mg base 1 "_law_stands" ["_law_deeds_here", "_law_known"] (sp__law_stands K)) (D__law_row : Def P w K mg base 3 "_law_row" ["_law_cell_here", "_law_base_here"] (sp__law_row K)) : Def P w K mg base 4 "_law_deeds" ["_law_script", "_law_most"] (sp__law_deeds K) := by
  refine S.ok sc__law_deeds (fun vs H Q E h => ?_) (fun f cdv A outer s H vs Q E hr h => ?_)
  · obtain ⟨a, ns, M, rfl, hS, hl, hM, h⟩ := h
    rfl
  obtain ⟨a, ns, M, rfl, hS, hl, hM, h⟩ := h
  refine ⟨_, (pss_consN (ps_set (i := 2) sc__law_deeds.nd rfl (by first | exact Or.inl rfl | exact Or.inr rfl) (pe_fn D__law_base hr (pa_cons (pv 0) pa_nil)))
      (pss_consN (ps_set (i := 3) sc__law_deeds.nd rfl (by first | exact Or.inl rfl | exact Or.inr rfl) (pe_lst (pa_cons pe_int (pa_cons pe_int (pa_cons pe_int (pa_cons (pe_op op_add pe_int (pe_fn D__law_draw hr (pa_cons (pv 0) (pa_cons pe_int (pa_cons (pe_powc (v := 1000000000) (by decide +kernel) ⟨by decide, by decide, by decide⟩) pa_nil))))) (pa_cons pe_int (pa_cons (pe_powc (v := 1000000000) (by decide +kernel) ⟨by decide, by decide, by decide⟩) (pa_cons pe_int (pa_cons pe_int pa_nil))))))))))
      (pss_consN (ps_set (i := 4) sc__law_deeds.nd rfl (by first | exact Or.inl rfl | exact Or.inr rfl) (pe_op op_mod (pe_op op_fdiv (pe_fn D__law_draw hr (pa_cons (pv 0) (pa_cons pe_int (pa_cons (pe_powc (v := 1000000000) (by decide +kernel) ⟨by decide, by decide, by decide⟩) pa_nil)))) pe_int) pe_int))
      (pss_consN (ps_set (i := 5) sc__law_deeds.nd rfl (by first | exact Or.inl rfl | exact Or.inr rfl) (pe_lst pa_nil))
      (pss_consN (ps_for PassesOwn.never rfl (pi_range2 rfl T.n_range (pa_cons pe_int (pa_cons (pe_callB (call_max2 rfl) rfl T.n_max PyProof.Rows.boot_max (pa_cons pe_int (pa_cons (pe_callB (call_min2 rfl) rfl T.n_min PyProof.Rows.boot_min (pa_cons (pe_callB call_len_seq rfl T.n_len PySem.boot_len (pa_cons (pv 0) pa_nil)) (pa_cons (pv 1) pa_nil))) pa_nil))) pa_nil))) (pg_name (i := 6) sc__law_deeds.nd rfl (by first | exact Or.inl rfl | exact Or.inr rfl))
      (pss_consN (ps_set (i := 7) sc__law_deeds.nd rfl (by first | exact Or.inl rfl | exact Or.inr rfl) (pe_fn D__law_cell hr (pa_cons (pv 0) (pa_cons (pv 6) pa_nil))))
      (pss_consN (ps_set (i := 4) sc__law_deeds.nd rfl (by first | exact Or.inl rfl | exact Or.inr rfl) (pe_op op_add (pv 4) (pe_ix ix_list (pe_lst (pa_cons pe_int (pa_cons pe_int (pa_cons pe_int (pa_cons pe_int pa_nil))))) (pe_fn D__law_pick hr (pa_cons (pv 7) (pa_cons pe_int (pa_cons pe_int pa_nil)))) (fun _ _ => rfl))))
      (pss_consN (ps_set (i := 8) sc__law_deeds.nd rfl (by first | exact Or.inl rfl | exact Or.inr rfl) (pe_ix ix_list (pv 3) (pe_fn D__law_pick hr (pa_cons (pv 7) (pa_cons pe_int (pa_cons pe_int pa_nil)))) (fun _ _ => rfl)))
      (pss_consN (ps_setc2 (i := 9) sc__law_deeds.nd rfl rfl (ix := []) ⟨rfl, by decide +kernel, rfl, by decide +kernel, rfl, rfl,  (show (["_law_one", "_law_row_here"] : List Str).Nodup by decide +kernel), by walk_at "cap", by walk_at "sub", by walk_at "has"⟩ (pi_list (pe_fn D__law_stands hr (pa_cons (pv 5) (pa_cons (pv 4) pa_nil)))) (fun b => (pv 0)))
      (pss_one (ps_cut (ps_if (PW.pt (pw_and (pt_cmpR op_in_seq (pv 8) (pv 9) (by with_unfolding_all rfl)) (pw_and1 (pt_cmpR op_eq (pe_fn D__law_pick hr (pa_cons (pv 7) (pa_cons pe_int (pa_cons pe_int pa_nil)))) pe_int (nomark _)))))
      (pss_one (ps_expr (pe_bm PySem.F.plainAttrs_list PySem.F.slot_list_append PySem.F.type_list_append mt_append (pv 5) (pa_cons (pe_tup (pa_cons (pv 4) (pa_cons (pv 8) (pa_cons pe_non pa_nil)))) pa_nil))))
      (pss_one (ps_expr (pe_bm PySem.F.plainAttrs_list PySem.F.slot_list_append PySem.F.type_list_append mt_append (pv 5) (pa_cons (pe_tup (pa_cons (pv 4) (pa_cons (pv 8) (pa_cons (pe_fn D__law_row hr (pa_cons (pv 7) (pa_cons (pv 2) pa_nil))) pa_nil)))) pa_nil))))))))))))
      (pss_one (ps_ret (pv 5)))))))), ?_⟩
  have sz := sizeLine_eq
  walk_at "rd"
  refine ⟨a, ns, rfl, hS, fun b b0 b1 => ?_⟩
  walk_at "rd"
  rename_i m m0 m1
  intro pn npn
  have sN := same_new npn (.lst [.int 1, .int 2, .int 3, .int (1 + m), .int 7, .int 1000000000, .int 8, .int 20])
  have eN := at_new (.lst [.int 1, .int 2, .int 3, .int (1 + m), .int 7, .int 1000000000, .int 8, .int 20]) npn
  have hS1 := sN.seq hS
  generalize upd H pn (.lst [.int 1, .int 2, .int 3, .int (1 + m), .int 7, .int 1000000000, .int 8, .int 20]) = H1 at sN eN hS1 ⊢
  walk_at "rd"
  rename_i k0 k00 k01
  intro pd npd
  have sP := same_new npd (.lst [])
  have eP := at_new (.lst []) npd
  have npdH := same_gone sN npd
  have eN1 := sP _ _ eN
  have hS2 := sP.seq hS1
  have hm : 1 ≤ 1 + m ∧ 1 + m ≤ 1000000000 := by omega
  have q0 := Int.emod_nonneg (k0 / 4) (show (999000 : Int) ≠ 0 by decide)
  have q1 := Int.emod_lt_of_pos (k0 / 4) (show (0 : Int) < 999000 by decide)
  walk_at "rd"
  refine for_range (fun i σ H' => ∃ (ws : List V) (ds : List Dd) (kn : Int) (z1 z2 z3 z4 : Option V), (Same H1 H' ∧ H' pd = some (.lst ws)) ∧ LL (P3R H') ws ds ∧ ds.length = i ∧ (0 ≤ kn ∧ kn ≤ 998999 + 12 * i) ∧ (∀ d ∈ ds, d.1 ≤ kn) ∧ (∀ e ∈ ds, e.2.1 ∈ [1, 2, 3, 1 + m, 7, 1000000000, 8, 20]) ∧ DdsOk b ds ∧ σ = [some (.ref a), some (.int M), some (.int b), some (.ref pn), some (.int kn), some (.ref pd), z1, z2, z3, z4])
    ⟨[], [], _, _, _, _, _, ⟨sP, eP⟩, .nil, rfl, ⟨q0, by omega⟩, (fun d hd => by cases hd), (fun d hd => by cases hd), ⟨Nat.zero_le _, (fun d hd => by cases hd), .nil, ⟨1, by omega, (fun d hd => by cases hd)⟩, (fun d hd => by cases hd), (fun i d hd => by simp at hd)⟩, rfl⟩ ?_ ?_
  · rintro i σ H' hi ⟨ws, ds, kn, z1, z2, z3, z4, ⟨sH, eW⟩, hW, dl, ⟨n0, n1⟩, hk, hA, O, rfl⟩
    have i40 : i < 40 := by
      refine Nat.lt_of_lt_of_le hi ?_
      rw [List.length_map]
      (repeat' split) <;> omega
    have wl := hW.length
    have hS' := sH.seq hS1
    have eN' := sH _ _ eN
    walk_at "rd"
    refine ⟨a, ns, _, rfl, hS', by omega, by omega, ?_⟩
    intro cell
    walk_at "rd"
    intro p4 np4
    have s4 := same_new np4 (.lst [.int 0, .int 0, .int 1, .int 12])
    walk_at "rd"
    intro j j0 j1
    obtain ⟨v, hv, hmm⟩ := at_mem (xs := [.int 0, .int 0, .int 1, .int 12]) j0 (by simpa using j1)
    obtain ⟨st, rfl, st0, st1⟩ := (mem1 ⟨_, rfl, by omega, by omega⟩ (mem1 ⟨_, rfl, by omega, by omega⟩ (mem1 ⟨_, rfl, by omega, by omega⟩ (mem1 ⟨_, rfl, by omega, by omega⟩ mem0))) : ∀ v ∈ ([.int 0, .int 0, .int 1, .int 12] : List V), ∃ w : Int, v = .int w ∧ 0 ≤ w ∧ w ≤ 12) v hmm
    refine ⟨p4, _, _, _, rfl, rfl, SqL.of upd_same, hv, ?_⟩
    clear hv hmm
    have eN4 := s4 _ _ eN'
    have eW4 := s4 _ _ eW
    have hW4 := hW.imp fun v d q => q.same s4
    have sH4 := sH.trans s4
    generalize upd H' p4 (.lst [.int 0, .int 0, .int 1, .int 12]) = H4 at s4 eN4 eW4 hW4 sH4 ⊢
    walk_at "rd"
    intro j j0 j1
    obtain ⟨v, hv, hmm⟩ := at_mem (xs := [.int 1, .int 2, .int 3, .int (1 + m), .int 7, .int 1000000000, .int 8, .int 20]) j0 (by simpa using j1)
    obtain ⟨nr, rfl, hnr⟩ := (mem1 ⟨_, rfl, by simp⟩ (mem1 ⟨_, rfl, by simp⟩ (mem1 ⟨_, rfl, by simp⟩ (mem1 ⟨_, rfl, by simp⟩ (mem1 ⟨_, rfl, by simp⟩ (mem1 ⟨_, rfl, by simp⟩ (mem1 ⟨_, rfl, by simp⟩ (mem1 ⟨_, rfl, by simp⟩ mem0))))))) : ∀ v ∈ ([.int 1, .int 2, .int 3, .int (1 + m), .int 7, .int 1000000000, .int 8, .int 20] : List V), ∃ w : Int, v = .int w ∧ w ∈ [1, 2, 3, 1 + m, 7, 1000000000, 8, 20]) v hmm
    refine ⟨pn, _, _, _, rfl, rfl, SqL.of eN4, hv, ?_⟩
    clear hv hmm
    walk_at "rd"
    refine ⟨pd, kn + st, ws, ds, _, rfl, eW4, hW4, hA, (show 8 < 64 by decide), by omega, fun q ys ml H5 nq s5 eq5 hY hst => ?_⟩
    obtain ⟨lv, hV, ek⟩ := rowsV_ofR (K := K) hY
    have yl := hV.length
    have yl2 := hY.length
    have ml64 : ml.length ≤ ds.length := hst.len
    walk_at "rd"
    refine ⟨⟨_, SqL.of eq5⟩, fun l2 nl2 => ?_⟩
    refine comp_any2 (pr := lv.map fun s => (V.int s.1, s.2)) (walk_list (SqL.of eq5)) ?_ nl2 (by omega) (fun i v _ => ∃ s, lv[i]? = some s ∧ v = .int s.1) (fun i v H1 H2 s q => q) (fun i v H1 ys zs hL q => q) ?_ ?_
    · intro i x hx
      obtain ⟨s, hs, t, rfl, ht⟩ := hV.get hx
      exact ⟨t, _, _, rfl, ht, by rw [List.getElem?_map, hs]; rfl⟩
    · intro i v1 v2 H6 Q' epr sH6 hq
      rw [List.getElem?_map] at epr
      obtain ⟨s, hs, e⟩ := Option.map_eq_some_iff.mp epr
      cases e
      walk_at "rd"
      exact hq _ _ (Same.refl _) ⟨s, hs, rfl⟩
    intro ts H6 s6 eT tl hT
    have eT' : ts = (ml.map (·.1)).map V.int := by
      rw [← ek, List.map_map]
      refine List.ext_getElem? fun j => ?_
      rw [List.getElem?_map]
      cases e1 : ts[j]? with
      | none =>
        have := List.getElem?_eq_none_iff.mp e1
        rw [List.getElem?_eq_none_iff.mpr (by omega)]
        rfl
      | some v =>
        obtain ⟨s, hs, rfl⟩ := hT j v e1
        rw [hs]
        rfl
    subst eT'
    have eW6 := s6 _ _ (s5 _ _ eW4)
    have hW6 := (hW4.imp fun v d q => q.same s5).imp fun v d q => q.same s6
    have sH6 := sH4.trans (s5.trans s6)
    have step : ∀ (t : Addr) (u : V) (o : Option Er) (H7 : Hp), Same H6 H7 → H7 t = some (.tup [.int (kn + st), .int nr, u]) → RowV H7 u o → (∀ e, o = some e → e.1 ≠ .base ∧ GoodRow e.1 e.2.1 e.2.2 ∧ (b ≤ e.2.1 ∧ e.2.1 < b + 120) ∧ (e.1 = .still → e.2.2 ≤ e.2.1 + 40)) → (o = none → ∃ e, lastD ds (kn + st) nr = some (some e)) →
        (Same H1 (upd H7 pd (.lst (ws ++ [.ref t]))) ∧ (upd H7 pd (.lst (ws ++ [.ref t]))) pd = some (.lst (ws ++ [.ref t]))) ∧ LL (P3R (upd H7 pd (.lst (ws ++ [.ref t])))) (ws ++ [.ref t]) (ds ++ [(kn + st, nr, o)]) ∧ DdsOk b (ds ++ [(kn + st, nr, o)]) := fun t u o H7 s7 et hu h1 h2 => by
      have e7 := s7 _ _ eW6
      refine ⟨⟨same_put (sH6.trans s7) npd, upd_same⟩, ((hW6.imp fun v d q => q.same s7).imp fun v d q => q.putL e7).push (P3R.putL ⟨t, u, rfl, et, hu⟩ e7), O.snoc (by omega) hk (by show kn ≤ kn + st; omega) (by show 0 ≤ kn + st ∧ kn + st ≤ 999999; omega) (1 + m) hm hA hnr h1 h2⟩
    walk_at "rd"
    refine ⟨fun σ' H' => ∃ (ws : List V) (o : Option Er), (Same H1 H' ∧ H' pd = some (.lst ws)) ∧ LL (P3R H') ws (ds ++ [(kn + st, nr, o)]) ∧ DdsOk b (ds ++ [(kn + st, nr, o)]) ∧ σ' = [some (.ref a), some (.int M), some (.int b), some (.ref pn), some (.int (kn + st)), some (.ref pd), some (.int (2 + (i : Int))), some (.int cell), some (.int nr), some (.ref l2)], ?_, ?_⟩
    · walk_at "rd"
      refine ⟨l2, _, rfl, .inl (SqL.of eT), rfl, all_flat _, ?_⟩
      refine ⟨_, rfl, ?_⟩
      rw [inV_int]
      refine ifB (fun z => ?_) (fun z => ?_)
      · have z' : nr ∈ ml.map (·.1) := by simpa using z
        walk_at "rd"
        intro x x0 x1
        walk_at "rd"
        · refine ⟨.inl ⟨rfl, _, SqL.of eW6⟩, ?_⟩
          walk_at "rd"
          intro t nt
          have st7 := same_new nt (.tup [.int (kn + st), .int nr, .non])
          refine ⟨pd, _, _, rfl, rfl, st7 _ _ eW6, by omega, ?_⟩
          obtain ⟨g1, g2, g3⟩ := step t .non none _ st7 upd_same rfl (fun e z => by cases z) (fun _ => hst.has z')
          exact ⟨_, none, g1, g2, g3, rfl⟩
        · refine ⟨.inl ⟨rfl, _, SqL.of eW6⟩, ?_⟩
          walk_at "rd"
          intro r e H7 s7 nr7 er7 e1 e2 e3 e4
          walk_at "rd"
          intro t nt
          have st7 := same_new nt (.tup [.int (kn + st), .int nr, .ref r])
          refine ⟨pd, _, _, rfl, rfl, st7 _ _ (s7 _ _ eW6), by omega, ?_⟩
          obtain ⟨g1, g2, g3⟩ := step t (.ref r) (some e) _ (s7.trans st7) upd_same ⟨r, rfl, st7 _ _ er7⟩ (fun e' z => by cases z; exact ⟨e1, e2, e3, e4⟩) (fun z => by cases z)
          exact ⟨_, some e, g1, g2, g3, rfl⟩
      · walk_at "rd"
        refine ⟨.inl ⟨rfl, _, SqL.of eW6⟩, ?_⟩
        walk_at "rd"
        intro r e H7 s7 nr7 er7 e1 e2 e3 e4
        walk_at "rd"
        intro t nt
        have st7 := same_new nt (.tup [.int (kn + st), .int nr, .ref r])
        refine ⟨pd, _, _, rfl, rfl, st7 _ _ (s7 _ _ eW6), by omega, ?_⟩
        obtain ⟨g1, g2, g3⟩ := step t (.ref r) (some e) _ (s7.trans st7) upd_same ⟨r, rfl, st7 _ _ er7⟩ (fun e' z => by cases z; exact ⟨e1, e2, e3, e4⟩) (fun z => by cases z)
        exact ⟨_, some e, g1, g2, g3, rfl⟩
    · rintro σ' H7 ⟨ws', o, g1, g2, g3, rfl⟩
      refine ⟨ws', _, kn + st, _, _, _, _, g1, g2, by rw [List.length_append, dl]; rfl, ⟨by omega, by omega⟩, fun d hd => ?_, fun d hd => ?_, g3, rfl⟩
      · rcases List.mem_append.mp hd with hd | hd
        · have := hk d hd
          omega
        · obtain rfl : d = (kn + st, nr, o) := by simpa using hd
          exact Int.le_refl _
      · rcases List.mem_append.mp hd with hd | hd
        · exact hA d hd
        · obtain rfl : d = (kn + st, nr, o) := by simpa using hd
          exact hnr
  · rintro σ H' ⟨ws, ds, kn, z1, z2, z3, z4, ⟨sH, eW⟩, hW, dl, ⟨n0, n1⟩, hk, hA, O, rfl⟩
    walk_at "rd"
    refine h pd ws b ds H' npdH (sN.trans sH) eW hW ⟨b0, b1⟩ ?_ O
    rw [dl, List.length_map]
    (repeat' split) <;> omega
--@ entry_of
def sp_entry_of (K : PySem.W.Frag) : Sp := fun vs H Q _ => L2.Ee4 fun (r : Addr) (k : Ek) (d x : Int) => L2.Aa4 (vs = [.ref r]) (H r = some (.tup (rowV k d x))) (GoodRow k d x) (∀ (a dx : Addr) (H' : Hp), Same H H' → H a = none → IsEnt K H' a dx k d x → Q (.ref a) H')
theorem sc_entry_of : FnScope ["row"] ["row"] (defScope s_entry_of) := ⟨rfl, rfl, rfl, by decide +kernel, rfl, by decide +kernel, by decide +kernel⟩
theorem d_entry_of (S : Src K mg "entry_of" s_entry_of ["row"]) (T : Txt K mg) (D_has_form : Def P w K mg base 1 "has_form" ["row"] (sp_has_form K)) (D_is_day : Def P w K mg base 2 "is_day" ["thing"] (sp_is_day K)) (D_init_Turn : DefM P w K mg base 1 (cA K "Turn") "__init__" ["self", "day"] (sp_Entry_init K)) (D_is_third : Def P w K mg base 3 "is_third" ["word", "day", "thing"] (sp_is_third K)) (D_made : Def P w K mg base 4 "made" ["word", "day", "thing"] (sp_made K)) : Def P w K mg base 5 "entry_of" ["row"] (sp_entry_of K) := by
  refine S.ok sc_entry_of (fun vs H Q E h => ?_) (fun f cdv A outer s H vs Q E hr h => ?_)
  · obtain ⟨r, k, d, x, rfl, e, ⟨⟨d0, d1⟩, ok⟩, h⟩ := h
    rfl
  obtain ⟨r, k, d, x, rfl, e, ⟨⟨d0, d1⟩, ok⟩, h⟩ := h
  refine ⟨_, (pss_consN (ps_if (pt_not (pt_val (pe_fn D_has_form hr (pa_cons (pv 0) pa_nil))))
      pss_never
      pss_nil)
      (pss_consN (ps_if (pt_not (pt_val (pe_fn D_is_day hr (pa_cons (pe_ix ix_tup (pv 0) pe_int (fun _ _ => rfl)) pa_nil))))
      pss_never
      pss_nil)
      (pss_consN (ps_if (pt_cmpR op_eq (pe_ix ix_tup (pv 0) pe_int (fun _ _ => rfl)) pe_str (nomark _))
      (pss_one (ps_ret (pe_makeC T.mi_Turn D_init_Turn hr T.m_Turn (pa_cons (pe_ix ix_tup (pv 0) pe_int (fun _ _ => rfl)) pa_nil))))
      pss_nil)
      (pss_consN (ps_if (pt_not (pt_val (pe_fn D_is_third hr (pa_cons (pe_ix ix_tup (pv 0) pe_int (fun _ _ => rfl)) (pa_cons (pe_ix ix_tup (pv 0) pe_int (fun _ _ => rfl)) (pa_cons (pe_ix ix_tup (pv 0) pe_int (fun _ _ => rfl)) pa_nil))))))
      pss_never
      pss_nil)
      (pss_one (ps_ret (pe_fn D_made hr (pa_cons (pe_ix ix_tup (pv 0) pe_int (fun _ _ => rfl)) (pa_cons (pe_ix ix_tup (pv 0) pe_int (fun _ _ => rfl)) (pa_cons (pe_ix ix_tup (pv 0) pe_int (fun _ _ => rfl)) pa_nil)))))))))), ?_⟩
  have hk : k ≠ .base := fun z => by subst z; exact ok
  have hd : dayB (.int d) = true := by simp [dayB, d0, d1]
  walk_at "rd"
  refine ⟨r, k, d, x, rfl, e, hk, ?_⟩
  cases k with
  | base => exact absurd rfl hk
  | turn =>
    dsimp only [rowV, Ek.word] at e
    walk_at "rd"
    refine ⟨_, "int", rfl, ⟨.int d, by simp [kinds]⟩, ?_⟩
    rw [hd]
    walk_at "rd"
    intro a dx na nd ne
    refine ⟨a, _, dx, [], d, rfl, upd_same, T.clE .turn, T.naE_day .turn, by decide, rfl, ?_⟩
    rw [upd_upd]
    exact h a dx _ ((same_new nd _).trans (same_new (by rw [upd_ne ne.symm]; exact na) _)) na upd_same
  | out =>
    dsimp only [rowV, Ek.word] at e
    walk_at "rd"
    refine ⟨_, "int", rfl, ⟨.int d, by simp [kinds]⟩, ?_⟩
    rw [hd]
    walk_at "rd"
    refine ⟨.out, d, x, rfl, (by intro z; cases z), ok, ?_⟩
    walk_at "rd"
    refine ⟨.out, d, x, rfl, (by intro z; cases z), (by intro z; cases z), ?_⟩
    exact h
  | fee =>
    dsimp only [rowV, Ek.word] at e
    walk_at "rd"
    refine ⟨_, "int", rfl, ⟨.int d, by simp [kinds]⟩, ?_⟩
    rw [hd]
    walk_at "rd"
    refine ⟨.fee, d, x, rfl, (by intro z; cases z), ok, ?_⟩
    walk_at "rd"
    refine ⟨.fee, d, x, rfl, (by intro z; cases z), (by intro z; cases z), ?_⟩
    exact h
  | pay =>
    dsimp only [rowV, Ek.word] at e
    walk_at "rd"
    refine ⟨_, "int", rfl, ⟨.int d, by simp [kinds]⟩, ?_⟩
    rw [hd]
    walk_at "rd"
    refine ⟨.pay, d, x, rfl, (by intro z; cases z), ok, ?_⟩
    walk_at "rd"
    refine ⟨.pay, d, x, rfl, (by intro z; cases z), (by intro z; cases z), ?_⟩
    exact h
  | due =>
    dsimp only [rowV, Ek.word] at e
    walk_at "rd"
    refine ⟨_, "int", rfl, ⟨.int d, by simp [kinds]⟩, ?_⟩
    rw [hd]
    walk_at "rd"
    refine ⟨.due, d, x, rfl, (by intro z; cases z), ok, ?_⟩
    walk_at "rd"
    refine ⟨.due, d, x, rfl, (by intro z; cases z), (by intro z; cases z), ?_⟩
    exact h
  | rate =>
    dsimp only [rowV, Ek.word] at e
    walk_at "rd"
    refine ⟨_, "int", rfl, ⟨.int d, by simp [kinds]⟩, ?_⟩
    rw [hd]
    walk_at "rd"
    refine ⟨.rate, d, x, rfl, (by intro z; cases z), ok, ?_⟩
    walk_at "rd"
    refine ⟨.rate, d, x, rfl, (by intro z; cases z), (by intro z; cases z), ?_⟩
    exact h
  | late =>
    dsimp only [rowV, Ek.word] at e
    walk_at "rd"
    refine ⟨_, "int", rfl, ⟨.int d, by simp [kinds]⟩, ?_⟩
    rw [hd]
    walk_at "rd"
    refine ⟨.late, d, x, rfl, (by intro z; cases z), ok, ?_⟩
    walk_at "rd"
    refine ⟨.late, d, x, rfl, (by intro z; cases z), (by intro z; cases z), ?_⟩
    exact h
  | still =>
    dsimp only [rowV, Ek.word] at e
    walk_at "rd"
    refine ⟨_, "int", rfl, ⟨.int d, by simp [kinds]⟩, ?_⟩
    rw [hd]
    walk_at "rd"
    refine ⟨.still, d, x, rfl, (by intro z; cases z), ok, ?_⟩
    walk_at "rd"
    refine ⟨.still, d, x, rfl, (by intro z; cases z), (by intro z; cases z), ?_⟩
    exact h
--@ check_entry
def sp_check_entry (K : PySem.W.Frag) : Sp := fun vs H Q _ => L2.Ee5 fun (a dx : Addr) (k : Ek) (d x : Int) => L2.Aa4 (vs = [.ref a]) (IsEnt K H a dx k d x) (GoodRow k d x) (Q .non H)
theorem sc_check_entry : FnScope ["thing"] ["thing"] (defScope s_check_entry) := ⟨rfl, rfl, rfl, by decide +kernel, rfl, by decide +kernel, by decide +kernel⟩
theorem d_check_entry (S : Src K mg "check_entry" s_check_entry ["thing"]) (T : Txt K mg) (D_entry_of : Def P w K mg base 5 "entry_of" ["row"] (sp_entry_of K)) (D_e_row : ∀ k : Ek, DefM P w K mg base 2 (cA K k.cls) "row" ["self"] (sp_e_row k K)) : Def P w K mg base 6 "check_entry" ["thing"] (sp_check_entry K) := by
  refine S.okF sc_check_entry (fun vs H Q E h => ?_) (fun f cdv A outer s H vs Q E hr h => ?_)
  · obtain ⟨a, dx, k, d, x, rfl, e, gd, h⟩ := h
    rfl
  obtain ⟨a, dx, k, d, x, rfl, e, gd, h⟩ := h
  refine ⟨_, (pss_consN (ps_if (pt_not (pt_val (pe_callB call_isiI rfl T.n_isinstance PyProof.Rows.boot_isinstance (pa_cons (pv 0) (pa_cons (pe_glob (v := .ref (cA K "Entry")) rfl T.m_Entry rfl) pa_nil)))))
      pss_never
      pss_nil)
      (pss_one (ps_expr (pe_fn D_entry_of hr (pa_cons (pe_methE0 D_e_row T.clE hr (pv 0)) pa_nil))))), ?_⟩
  walk_at "rd"
  refine ⟨_, _, _, _, rfl, .ins e (T.clE k) (T.ikE k).ha (T.ikE k).hn (T.ikE k).htk (T.ikE k).hm, T.kitE k .base, ?_⟩
  rw [show subE k .base = true by cases k <;> rfl]
  walk_at "rd"
  refine ⟨k, a, dx, _, rfl, e, entF_row k d x, a, dx, d, x, rfl, e, ?_⟩
  intro q nq
  have sq := same_new nq (.tup (rowV k d x))
  refine ⟨q, k, d, x, rfl, upd_same, gd, ?_⟩
  intro m dm H2 s2 nm em
  walk_at "rd"
  first | exact ⟨sq.trans s2, h⟩ | exact h
--@ Roll_put
def sp_Roll_put (K : PySem.W.Frag) : Sp := fun vs H Q _ => L2.Ee12 fun (r dx c l a dy : Addr) (kd : Kd) (g k n : Int) (ds : List Dd) (e : Er) => L2.Aa9 (vs = [.ref r, .int k, .int n, .ref a]) (RolAt K H r dx c l kd g ds) (IsEnt K H a dy e.1 e.2.1 e.2.2) (GoodRow e.1 e.2.1 e.2.2) ((0 ≤ k ∧ k ≤ 999999)) ((∀ d ∈ ds, d.1 ≤ k)) ((1 ≤ n ∧ n ≤ 1000000000)) (ds.length < 500) (∀ (H' : Hp), (∀ G, Same G H → G l = none → Same G H') → RolAt K H' r dx c l kd g (ds ++ [(k, n, some e)]) → Q .non H')
theorem sc_Roll_put : FnScope ["self", "known", "number", "entry"] ["self", "known", "number", "entry"] (defScope s_Roll_put) := ⟨rfl, rfl, rfl, by decide +kernel, rfl, by decide +kernel, by decide +kernel⟩
theorem d_Roll_put (S : MethS K (cA K "Roll") "put" "Roll.put" s_Roll_put ["self", "known", "number", "entry"]) (T : Txt K mg) (D_Roll_check_known : DefM P w K mg base 3 (cA K "Roll") "check_known" ["self", "known"] (sp_Roll_check_known K)) (D_check_number : Def P w K mg base 3 "check_number" ["thing"] (sp_check_number K)) (D_check_entry : Def P w K mg base 6 "check_entry" ["thing"] (sp_check_entry K)) (D_Roll_keep : DefM P w K mg base 1 (cA K "Roll") "keep" ["self", "known", "number", "entry"] (sp_Roll_keep K)) : DefM P w K mg base 7 (cA K "Roll") "put" ["self", "known", "number", "entry"] (sp_Roll_put K) := by
  refine S.ok sc_Roll_put (fun vs H Q E h => ?_) (fun f cdv A outer s H vs Q E hr h => ?_)
  · obtain ⟨r, dx, c, l, a, dy, kd, g, k, n, ds, e, rfl, B, he, gd, kk, kl, nn, dl, h⟩ := h
    rfl
  obtain ⟨r, dx, c, l, a, dy, kd, g, k, n, ds, e, rfl, B, he, gd, kk, kl, nn, dl, h⟩ := h
  refine ⟨_, (pss_consN (ps_expr (pe_methC D_Roll_check_known T.cl_Roll hr (pv 0) (pa_cons (pv 1) pa_nil)))
      (pss_consN (ps_expr (pe_fn D_check_number hr (pa_cons (pv 2) pa_nil)))
      (pss_consN (ps_expr (pe_fn D_check_entry hr (pa_cons (pv 3) pa_nil)))
      (pss_one (ps_expr (pe_methC D_Roll_keep T.cl_Roll hr (pv 0) (pa_cons (pv 1) (pa_cons (pv 2) (pa_cons (pv 3) pa_nil))))))))), ?_⟩
  walk_at "rd"
  refine ⟨r, dx, _, rfl, B.ins, rfl, ?_⟩
  walk_at "rd"
  obtain ⟨n0, n1⟩ := nn
  refine ⟨r, dx, c, l, kd, g, k, ds, rfl, B, kk, kl, ?_⟩
  walk_at "rd"
  refine ⟨a, dy, e.1, e.2.1, e.2.2, rfl, he, gd, ?_⟩
  walk_at "rd"
  refine ⟨r, dx, _, rfl, B.ins, rfl, ?_⟩
  walk_at "rd"
  refine ⟨r, dx, c, l, kd, g, k, n, ds, .ref a, some e, rfl, B, ⟨a, dy, rfl, he⟩, dl, ?_⟩
  exact h
--@ _law_came
def sp__law_came (K : PySem.W.Frag) : Sp := fun vs H Q _ => L2.Ee11 fun (r dx c l t : Addr) (u : V) (kd : Kd) (g : Int) (ds : List Dd) (d : Dd) (ms : List Int) => L2.Aa13 (vs = [.ref r, .ref t]) (RolAt K H r dx c l kd g ds) (H t = some (.tup [.int d.1, .int d.2.1, u])) (RowV H u d.2.2) ((0 ≤ d.1 ∧ d.1 ≤ 999999)) ((∀ e ∈ ds, e.1 ≤ d.1)) ((1 ≤ d.2.1 ∧ d.2.1 ≤ 1000000000)) ((∀ e ∈ ds, e.2.1 ∈ ms)) (ms.length < 64) (ds.length < 500) ((∀ e, d.2.2 = some e → e.1 ≠ .base ∧ GoodRow e.1 e.2.1 e.2.2)) ((d.2.2 = none → ∃ e, lastD ds d.1 d.2.1 = some (some e))) (∀ (H' : Hp), (∀ G, Same G H → G l = none → Same G H') → RolAt K H' r dx c l kd g (ds ++ [d]) → Q (.bl true) H')
theorem sc__law_came : FnScope ["_law_roll", "_law_deed", "_law_known", "_law_number", "_law_row_here"] ["_law_roll", "_law_deed"] (defScope s__law_came) := ⟨rfl, rfl, rfl, by decide +kernel, rfl, by decide +kernel, by decide +kernel⟩
theorem d__law_came (S : Src K mg "_law_came" s__law_came ["_law_roll", "_law_deed"]) (T : Txt K mg) (D_Roll_strike : DefM P w K mg base 4 (cA K "Roll") "strike" ["self", "known", "number"] (sp_Roll_strike K)) (D_Roll_put : DefM P w K mg base 7 (cA K "Roll") "put" ["self", "known", "number", "entry"] (sp_Roll_put K)) (D__law_made : Def P w K mg base 4 "_law_made" ["_law_row_here"] (sp__law_made K)) : Def P w K mg base 8 "_law_came" ["_law_roll", "_law_deed"] (sp__law_came K) := by
  refine S.ok sc__law_came (fun vs H Q E h => ?_) (fun f cdv A outer s H vs Q E hr h => ?_)
  · obtain ⟨r, dx, c, l, t, u, kd, g, ds, d, ms, rfl, B, ht, hu, hk, kl, nn, hm, hml, dl, hrow, hstr, h⟩ := h
    rfl
  obtain ⟨r, dx, c, l, t, u, kd, g, ds, d, ms, rfl, B, ht, hu, hk, kl, nn, hm, hml, dl, hrow, hstr, h⟩ := h
  refine ⟨_, (pss_consN (ps_asg (pv 1) (pg_tup rfl (pgs_cons (pg_name (i := 2) sc__law_came.nd rfl (by first | exact Or.inl rfl | exact Or.inr rfl)) (pgs_cons (pg_name (i := 3) sc__law_came.nd rfl (by first | exact Or.inl rfl | exact Or.inr rfl)) (pgs_cons (pg_name (i := 4) sc__law_came.nd rfl (by first | exact Or.inl rfl | exact Or.inr rfl)) pgs_nil)))))
      (pss_consN (ps_if (pt_cmp (pc_isN (pv 4)))
      (pss_one (ps_ret (pe_cmp (pc_isN (pe_methC D_Roll_strike T.cl_Roll hr (pv 0) (pa_cons (pv 2) (pa_cons (pv 3) pa_nil)))))))
      pss_nil)
      (pss_one (ps_ret (pe_cmp (pc_isN (pe_methC D_Roll_put T.cl_Roll hr (pv 0) (pa_cons (pv 2) (pa_cons (pv 3) (pa_cons (pe_fn D__law_made hr (pa_cons (pv 4) pa_nil)) pa_nil)))))))))), ?_⟩
  obtain ⟨k, n, o⟩ := d
  cases o with
  | none =>
    obtain rfl : u = .non := hu
    obtain ⟨e, he⟩ := hstr rfl
    walk_at "rd"
    refine ⟨t, _, rfl, SqT.of ht, rfl, ?_⟩
    walk_at "rd"
    refine ⟨r, dx, _, rfl, B.ins, rfl, ?_⟩
    walk_at "rd"
    refine ⟨r, dx, c, l, kd, g, k, n, ds, e, ms, rfl, B, by rw [lastD_later kl hk.2]; exact he, hk, kl, nn, hm, hml, dl, fun H' hG hB => ?_⟩
    walk_at "rd"
    exact h H' hG hB
  | some e =>
    obtain ⟨p, rfl, hp⟩ := hu
    obtain ⟨h1, h2⟩ := hrow e rfl
    walk_at "rd"
    refine ⟨t, _, rfl, SqT.of ht, rfl, ?_⟩
    walk_at "rd"
    refine ⟨r, dx, _, rfl, B.ins, rfl, ?_⟩
    walk_at "rd"
    refine ⟨p, e.1, e.2.1, e.2.2, rfl, hp, h1, fun a dy H1 s1 na ie => ?_⟩
    walk_at "rd"
    refine ⟨r, dx, c, l, a, dy, kd, g, k, n, ds, e, rfl, B.same s1, ie, h2, hk, kl, nn, by omega, fun H' hG hB => ?_⟩
    walk_at "rd"
    exact h H' (fun G sG nG => hG G (sG.trans s1) nG) hB
--@ law
theorem chg_nil0 {a b : Int} {l : List Int} (h : ChgIs [] a b l) : l = [] := by
  cases l with
  | nil => rfl
  | cons n l =>
    have := (h.mem n).mp List.mem_cons_self
    unfold isCh lastO at this
    rw [lastD_nil, lastD_nil] at this
    rw [show PyData.eqv (oDR ((none : Option (Option Er)).getD none)) (oDR ((none : Option (Option Er)).getD none)) = true from eqv_oR none] at this
    cases this
theorem chg_self (ds : List Dd) (a : Int) : ChgIs ds a a [] := ⟨.nil, fun n => by
  unfold isCh
  rw [eqv_oR]
  exact ⟨fun z => (by cases z), fun z => (by cases z)⟩⟩
def sp_law (K : PySem.W.Frag) : Sp := fun vs H Q _ => ∃ (a : Addr) (ns : List Int), vs = [.ref a] ∧ SqL K H a (ns.map V.int) ∧ ns.length ≤ 63 ∧ ∀ H', Q (.bl true) H'
theorem sc_law : FnScope ["_law_script", "_law_deeds_here", "_law_roll", "_law_k", "_law_first", "_law_due_here", "_law_one", "_law_other", "_law_pair", "_law_found"] ["_law_script"] (defScope s_law) := ⟨rfl, rfl, rfl, by decide +kernel, rfl, by decide +kernel, by decide +kernel⟩
theorem d_law (S : Src K mg "law" s_law ["_law_script"]) (T : Txt K mg) (D__law_again : Def P w K mg base 2 "_law_again" ["_law_script", "_law_deeds_here"] (sp__law_again K)) (D__law_deeds : Def P w K mg base 4 "_law_deeds" ["_law_script", "_law_most"] (sp__law_deeds K)) (D_Roll_init : DefM P w K mg base 4 (cA K "Roll") "__init__" ["self", "count", "grace"] (sp_Roll_init K)) (D__law_grace : Def P w K mg base 2 "_law_grace" ["_law_script"] (sp__law_grace K)) (D__law_count : Def P w K mg base 3 "_law_count" ["_law_script"] (sp__law_count K)) (D_changed : Def P w K mg base 4 "changed" ["roll", "before", "behind"] (sp_changed K)) (D__law_came : Def P w K mg base 8 "_law_came" ["_law_roll", "_law_deed"] (sp__law_came K)) (D__law_due : Def P w K mg base 2 "_law_due" ["_law_deeds_here", "_law_one", "_law_other"] (sp__law_due K)) (D__law_draw : Def P w K mg base 1 "_law_draw" ["_law_script", "_law_k", "_law_many"] (sp__law_draw K)) (D__law_whole : Def P w K mg base 1 "_law_whole" ["_law_found"] (sp__law_whole K)) : Def P w K mg base 9 "law" ["_law_script"] (sp_law K) := by
  refine S.ok sc_law (fun vs H Q E h => ?_) (fun f cdv A outer s H vs Q E hr h => ?_)
  · obtain ⟨a, ns, rfl, hS, hl, h⟩ := h
    rfl
  obtain ⟨a, ns, rfl, hS, hl, h⟩ := h
  refine ⟨_, (pss_consN (ps_set (i := 1) sc_law.nd rfl (by first | exact Or.inl rfl | exact Or.inr rfl) (pe_fn D__law_again hr (pa_cons (pv 0) (pa_cons (pe_fn D__law_deeds hr (pa_cons (pv 0) (pa_cons pe_int pa_nil))) pa_nil))))
      (pss_consN (ps_set (i := 2) sc_law.nd rfl (by first | exact Or.inl rfl | exact Or.inr rfl) (pe_makeC T.mi_Roll D_Roll_init hr T.m_Roll (pa_cons (pe_fn D__law_count hr (pa_cons (pv 0) pa_nil)) (pa_cons (pe_fn D__law_grace hr (pa_cons (pv 0) pa_nil)) pa_nil))))
      (pss_consN (ps_if (pt_cmpR (op_neDK K hr.units) (pe_fn D_changed hr (pa_cons (pv 2) (pa_cons pe_int (pa_cons pe_int pa_nil)))) (pe_lst pa_nil) (nomark _))
      (pss_one (ps_ret pe_bl))
      pss_nil)
      (pss_consN (ps_for PassesOwn.never rfl (pi_range1 rfl T.n_range (pa_cons (pe_callB call_len_seq rfl T.n_len PySem.boot_len (pa_cons (pv 1) pa_nil)) pa_nil)) (pg_name (i := 3) sc_law.nd rfl (by first | exact Or.inl rfl | exact Or.inr rfl))
      (pss_consN (ps_if (pt_not (pt_val (pe_fn D__law_came hr (pa_cons (pv 2) (pa_cons (pe_ix ix_list (pv 1) (pv 3) (fun _ _ => rfl)) pa_nil)))))
      (pss_one (ps_ret pe_bl))
      pss_nil)
      (pss_consN (ps_set (i := 4) sc_law.nd rfl (by first | exact Or.inl rfl | exact Or.inr rfl) (pe_ix ix_tup (pe_ix ix_list (pv 1) pe_int (fun _ _ => rfl)) pe_int (fun _ _ => rfl)))
      (pss_consN (ps_set (i := 5) sc_law.nd rfl (by first | exact Or.inl rfl | exact Or.inr rfl) (pe_fn D__law_due hr (pa_cons (pe_slice sl_list (pv 1) po_none (po_some (pe_op op_add (pv 3) pe_int))) (pa_cons (pv 4) (pa_cons pe_int pa_nil)))))
      (pss_one (ps_if (PW.pt (pw_and (pt_cmpR op_eq (pe_op op_mod (pv 3) pe_int) pe_int (nomark _)) (pw_and1 (pt_cmpR (op_neDK K hr.units) (pe_fn D_changed hr (pa_cons (pv 2) (pa_cons (pv 4) (pa_cons pe_int pa_nil)))) (pv 5) (nomark _)))))
      (pss_one (ps_ret pe_bl))
      pss_nil))))))
      (pss_consN (ps_for PassesOwn.never rfl (pi_range1 rfl T.n_range (pa_cons pe_int pa_nil)) (pg_name (i := 3) sc_law.nd rfl (by first | exact Or.inl rfl | exact Or.inr rfl))
      (pss_consN (ps_set (i := 6) sc_law.nd rfl (by first | exact Or.inl rfl | exact Or.inr rfl) (pe_ix ix_tup (pe_ix ix_list (pv 1) (pe_fn D__law_draw hr (pa_cons (pv 0) (pa_cons (pv 3) (pa_cons (pe_callB call_len_seq rfl T.n_len PySem.boot_len (pa_cons (pv 1) pa_nil)) pa_nil)))) (fun _ _ => rfl)) pe_int (fun _ _ => rfl)))
      (pss_consN (ps_set (i := 7) sc_law.nd rfl (by first | exact Or.inl rfl | exact Or.inr rfl) (pe_ix ix_tup (pe_ix ix_list (pv 1) (pe_fn D__law_draw hr (pa_cons (pv 0) (pa_cons (pe_op op_add (pe_op op_mul pe_int (pv 3)) pe_int) (pa_cons (pe_callB call_len_seq rfl T.n_len PySem.boot_len (pa_cons (pv 1) pa_nil)) pa_nil)))) (fun _ _ => rfl)) pe_int (fun _ _ => rfl)))
      (pss_consN (ps_set (i := 7) sc_law.nd rfl (by first | exact Or.inl rfl | exact Or.inr rfl) (pe_callB (call_max2 rfl) rfl T.n_max PyProof.Rows.boot_max (pa_cons pe_int (pa_cons (pe_callB (call_min2 rfl) rfl T.n_min PyProof.Rows.boot_min (pa_cons pe_int (pa_cons (pe_op op_sub (pe_op op_add (pv 7) (pe_fn D__law_draw hr (pa_cons (pv 0) (pa_cons (pe_op op_add (pv 3) pe_int) (pa_cons pe_int pa_nil))))) pe_int) pa_nil))) pa_nil))))
      (pss_consN (ps_set (i := 5) sc_law.nd rfl (by first | exact Or.inl rfl | exact Or.inr rfl) (pe_fn D__law_due hr (pa_cons (pv 1) (pa_cons (pv 6) (pa_cons (pv 7) pa_nil)))))
      (pss_consN (ps_for PassesOwn.never rfl (pi_list (pe_lst (pa_cons (pe_tup (pa_cons (pv 6) (pa_cons (pv 7) pa_nil))) (pa_cons (pe_tup (pa_cons (pv 7) (pa_cons (pv 6) pa_nil))) (pa_cons (pe_tup (pa_cons (pv 6) (pa_cons (pv 6) pa_nil))) pa_nil))))) (pg_name (i := 8) sc_law.nd rfl (by first | exact Or.inl rfl | exact Or.inr rfl))
      (pss_consN (ps_cut (ps_if (pt_cmpR op_eq (pe_ix ix_tup (pv 8) pe_int (fun _ _ => rfl)) (pe_ix ix_tup (pv 8) pe_int (fun _ _ => rfl)) (nomark _))
      (pss_one (ps_set (i := 5) sc_law.nd rfl (by first | exact Or.inl rfl | exact Or.inr rfl) (pe_lst pa_nil)))
      pss_nil))
      (pss_consN (ps_set (i := 9) sc_law.nd rfl (by first | exact Or.inl rfl | exact Or.inr rfl) (pe_fn D_changed hr (pa_cons (pv 2) (pa_cons (pe_ix ix_tup (pv 8) pe_int (fun _ _ => rfl)) (pa_cons (pe_ix ix_tup (pv 8) pe_int (fun _ _ => rfl)) pa_nil)))))
      (pss_consN (ps_if (PW.pt (pw_or (pt_not (pt_val (pe_callB call_isinst rfl T.n_isinstance PyProof.Rows.boot_isinstance (pa_cons (pv 9) (pa_cons (pe_bltn (v := .ty "list") rfl T.n_list PyProof.Rows.boot_list rfl) pa_nil))))) (pw_or1 (pt_cmpR (op_neDK K hr.units) (pv 9) (pv 5) (nomark _)))))
      (pss_one (ps_ret pe_bl))
      pss_nil)
      (pss_consN (ps_if (pt_not (pt_val (pe_callB (call_allB rfl) rfl T.n_all PyProof.Rows.boot_all (pa_cons (pe_comp (ix := []) ⟨rfl, by decide +kernel, rfl, by decide +kernel, rfl, (show (["_law_number"] : List Str).Nodup by decide +kernel), by walk_at "cap", by walk_at "sub", by walk_at "has"⟩ (pi_list (pv 9)) (fun b => (pe_fn D__law_whole hr (pa_cons (pv 0) pa_nil)))) pa_nil))))
      (pss_one (ps_ret pe_bl))
      pss_nil)
      (pss_one (ps_expr (pe_bm0 PySem.F.plainAttrs_list PySem.F.slot_list_clear PySem.F.type_list_clear mt_clear (pv 9)))))))))
      (pss_one (ps_if (pt_cmpR (op_neDK K hr.units) (pe_fn D_changed hr (pa_cons (pv 2) (pa_cons (pv 6) (pa_cons (pv 7) pa_nil)))) (pe_fn D__law_due hr (pa_cons (pv 1) (pa_cons (pv 6) (pa_cons (pv 7) pa_nil)))) (nomark _))
      (pss_one (ps_ret pe_bl))
      pss_nil))))))))
      (pss_one (ps_ret pe_bl))))))), ?_⟩
  have sz := sizeLine_eq
  walk_at "rd"
  rename_i pd0 ws0 b
  intro ds0 H0 npd0 s0 eW0 hW0 hb d12 O0
  obtain ⟨m, mb, hm0⟩ := O0.nr
  have OA : DdsA b m ds0 := ⟨O0.kn, O0.up, mb, hm0, O0.row, O0.str⟩
  have ol := O0.len
  have hS0 := s0.seq hS
  walk_at "rd"
  refine ⟨a, pd0, ns, ws0, b, m, ds0, rfl, hS0, eW0, hW0, ol, d12, OA, fun pd ws ds H1 npd s1 eW hW f84 f12 O => ?_⟩
  have hS1 := s1.seq hS0
  have wl := hW.length
  have n8 : ([1, 2, 3, m, 7, 1000000000, 8, 20] : List Int).length < 32 := by show 8 < 32; decide
  walk_at "rd"
  refine ⟨a, ns, rfl, hS1, fun c kd H2 nc s2 hc => ?_⟩
  have hS2 := s2.seq hS1
  walk_at "rd"
  refine ⟨a, ns, rfl, hS2, fun g g0 g1 => ?_⟩
  walk_at "rd"
  intro r dx nr nd ne
  have s3 : Same H2 (upd (upd H2 dx (.own r)) r (.ins (cA K "Roll") dx [])) := (same_new nd _).trans (same_new (by rw [upd_ne ne.symm]; exact nr) _)
  obtain ⟨dc, ec⟩ := hc
  refine ⟨r, dx, c, kd, g, rfl, upd_same, ⟨dc, s3 _ _ ec⟩, ne_of_none ec nr, ⟨g0, g1⟩, fun l H3 nl kp B => ?_⟩
  have nl2 : H2 l = none := same_gone s3 nl
  have nl1 : H1 l = none := same_gone s2 nl2
  have sA : Same H1 H3 := fun q o e => kp q o (ne_of_none (s2 _ _ e) nr) (s3 _ _ (s2 _ _ e))
  have eW3 := sA _ _ eW
  have hW3 := hW.imp fun v d q => q.same sA
  have hS3 := sA.seq hS1
  walk_at "rd"
  refine ⟨r, dx, c, l, kd, g, 3, 999999, [], [], rfl, B, (fun d hd => by cases hd), by decide, by decide, fun q0 n0 H4 nq0 s4 e4 C0 _ => ?_⟩
  have en : n0 = [] := chg_nil0 C0
  subst en
  walk_at "rd"
  intro p0 np0
  have s5 := same_new np0 (.lst [])
  refine ⟨_, _, .lst (SqL.of (s5 _ _ e4)) .nil, .lst (SqL.of upd_same) .nil, shaped_ints [], shaped_ints [], ?_⟩
  rw [show PyData.eqv (.list []) (.list []) = true from eqv_ints []]
  have s45 := s4.trans s5
  have B5 := B.same s45
  have sA5 := sA.trans s45
  have eW5 := sA5 _ _ eW
  walk_at "rd"
  refine ⟨pd, ws, rfl, .inl (SqL.of eW5), _, rfl, by have := sz; omega, by have := sz; omega, ?_⟩
  have nrT : ∀ j, ∀ e ∈ ds.take j, e.2.1 ∈ [1, 2, 3, m, 7, 1000000000, 8, 20] := fun j e he => O.nr e (List.mem_of_mem_take he)
  obtain ⟨d0, hd0, t0, u0, ev0, ht0, hu0⟩ := hW.get (List.getElem?_eq_getElem (show 0 < ws.length by omega))
  have at0 : atI ws 0 = some (.ref t0) := atI_nat (j := 0) (by rw [List.getElem?_eq_getElem (show 0 < ws.length by omega), ev0])
  refine for_range (fun i σ H' => ∃ (z1 z2 z3 z4 z5 z6 z7 : Option V), (Same H1 H' ∧ RolAt K H' r dx c l kd g (ds.take i)) ∧ σ = [some (.ref a), some (.ref pd), some (.ref r), z1, z2, z3, z4, z5, z6, z7]) ⟨_, _, _, _, _, _, _, ⟨sA5, by rw [List.take_zero]; exact B5⟩, rfl⟩ ?_ ?_
  · rintro i σ H' hi ⟨z1, z2, z3, z4, z5, z6, z7, ⟨sH, B'⟩, rfl⟩
    have il : i < ws.length := by omega
    have eW' := sH _ _ eW
    have hW' := hW.imp fun v d q => q.same sH
    obtain ⟨d, hd, t, u, ev, ht, hu⟩ := hW'.get (List.getElem?_eq_getElem il)
    have dm := List.mem_of_getElem? hd
    have ati : atI ws (0 + (i : Int)) = some (.ref t) := by
      rw [Int.zero_add]
      exact atI_nat (by rw [List.getElem?_eq_getElem il, ev])
    have tk : ds.take (i + 1) = ds.take i ++ [d] := by rw [List.take_add_one, hd]; rfl
    have tl := List.length_take_le i ds
    walk_at "rd"
    refine ⟨pd, _, _, _, rfl, rfl, SqL.of eW', ati, ?_⟩
    walk_at "rd"
    refine ⟨r, dx, c, l, t, u, kd, g, ds.take i, d, _, rfl, B', ht, hu, O.kn d dm, O.le hd, O.num d dm, nrT i, by omega, by omega, fun e he => ⟨(O.row d dm e he).1, (O.row d dm e he).2.1⟩, O.str i d hd, fun H5 hG B6 => ?_⟩
    rw [← tk] at B6
    have s6 := hG H1 sH nl1
    have eW6 := s6 _ _ eW
    have hW6 := hW.imp fun v d q => q.same s6
    have ht06 := s6 _ _ ht0
    have tl1 := List.length_take_le (i + 1) ds
    walk_at "rd"
    refine ⟨pd, _, _, _, rfl, rfl, SqL.of eW6, at0, ?_⟩
    walk_at "rd"
    refine ⟨pd, _, rfl, SqL.of eW6, fun cq ncq => ?_⟩
    have ecut : cutV ws none (some (0 + (i : Int) + 1)) = ws.take (i + 1) := by
      rw [show (0 + (i : Int) + 1) = ((i + 1 : Nat) : Int) by omega]
      exact cutV_hi ws (i + 1)
    rw [ecut]
    have s7 := same_new ncq (.lst (ws.take (i + 1)))
    walk_at "rd"
    refine ⟨cq, d0.1, 999999, ws.take (i + 1), ds.take (i + 1), _, rfl, upd_same, (hW6.imp fun v d q => q.same s7).take (i + 1), nrT (i + 1), n8, by omega, fun qd nsd H8 nqd s8 eqd Cd => ?_⟩
    have s78 := s7.trans s8
    have B8 := B6.same s78
    walk_at "rd"
    · refine ⟨r, dx, c, l, kd, g, d0.1, 999999, ds.take (i + 1), _, rfl, B8, nrT (i + 1), n8, by omega, fun q9 n9 H9 nq9 s9 e9 C9 _ => ?_⟩
      obtain rfl := C9.eq Cd
      walk_at "rd"
      refine ⟨_, _, .lst (SqL.of e9) (RdVs.ints _), .lst (SqL.of (s9 _ _ eqd)) (RdVs.ints _), shaped_ints _, shaped_ints _, ?_⟩
      rw [eqv_ints]
      walk_at "rd"
      exact ⟨_, _, _, _, _, _, _, ⟨s6.trans (s78.trans s9), B8.same s9⟩, rfl⟩
    · exact ⟨_, _, _, _, _, _, _, ⟨s6.trans s78, B8⟩, rfl⟩
  · rintro σ Hs ⟨z1, z2, z3, z4, z5, z6, z7, ⟨sS, BS⟩, rfl⟩
    rw [show ((ws.length : Int)).toNat = ds.length by omega, List.take_length] at BS
    have eWS := sS _ _ eW
    have hWS := hW.imp fun v d q => q.same sS
    have hSS := sS.seq hS1
    walk_at "rd"
    refine for_range (fun i σ H' => ∃ (z1 z2 z3 z4 z5 z6 z7 : Option V), Same Hs H' ∧ σ = [some (.ref a), some (.ref pd), some (.ref r), z1, z2, z3, z4, z5, z6, z7]) ⟨_, _, _, _, _, _, _, Same.refl _, rfl⟩ ?_ ?_
    · rintro i σ H' hi ⟨z1, z2, z3, z4, z5, z6, z7, sH, rfl⟩
      have eW' := sH _ _ eWS
      have hW' := hWS.imp fun v d q => q.same sH
      have hS' := sH.seq hSS
      have B' := BS.same sH
      have w0 : 0 < (ws.length : Int) := by omega
      have pick : ∀ {x : Int}, 0 ≤ x → x < (ws.length : Int) → ∃ (v : V) (e : Dd) (t : Addr) (u : V), atI ws x = some v ∧ v = .ref t ∧ H' t = some (.tup [.int e.1, .int e.2.1, u]) ∧ 0 ≤ e.1 := fun x0 x1 => by
        obtain ⟨v, hv, hvm⟩ := at_mem (xs := ws) x0 x1
        obtain ⟨jj, hj⟩ := List.mem_iff_getElem?.mp hvm
        obtain ⟨e, he, t, u, rfl, ht, hu⟩ := hW'.get hj
        exact ⟨_, e, t, u, hv, rfl, ht, (O.kn e (List.mem_of_getElem? he)).1⟩
      walk_at "rd"
      refine ⟨pd, ws, rfl, .inl (SqL.of eW'), ?_⟩
      walk_at "rd"
      rename_i x x0 x1
      obtain ⟨v, e1, t1, u1, hv, rfl, ht1, e10⟩ := pick x0 x1
      refine ⟨pd, _, _, _, rfl, rfl, SqL.of eW', hv, ?_⟩
      clear hv
      walk_at "rd"
      refine ⟨pd, ws, rfl, .inl (SqL.of eW'), ?_⟩
      walk_at "rd"
      rename_i y y0 y1
      obtain ⟨v, e2, t2, u2, hv, rfl, ht2, e20⟩ := pick y0 y1
      refine ⟨pd, _, _, _, rfl, rfl, SqL.of eW', hv, ?_⟩
      clear hv
      walk_at "rd"
      rename_i z zz0 zz1
      generalize (if (if e2.1 + z - 1 < 999999 then e2.1 + z - 1 else 999999) > 0 then (if e2.1 + z - 1 < 999999 then e2.1 + z - 1 else 999999) else 0) = ot
      refine ⟨pd, e1.1, ot, ws, ds, _, rfl, eW', hW', O.nr, n8, by omega, fun qd nsd H2 nqd s10 eqd Cd => ?_⟩
      have sH2 := sH.trans s10
      walk_at "rd"
      intro p1 np1
      have s11 := same_new np1 (.tup [.int e1.1, .int ot])
      have ep1 := at_new (.tup [.int e1.1, .int ot]) np1
      walk_at "rd"
      intro p2 np2
      have s12 := same_new np2 (.tup [.int ot, .int e1.1])
      have ep2 := at_new (.tup [.int ot, .int e1.1]) np2
      walk_at "rd"
      intro p3 np3
      have s13 := same_new np3 (.tup [.int e1.1, .int e1.1])
      have ep3 := at_new (.tup [.int e1.1, .int e1.1]) np3
      walk_at "rd"
      intro pl npl
      have s14 := same_new npl (.lst [.ref p1, .ref p2, .ref p3])
      have epl := at_new (.lst [.ref p1, .ref p2, .ref p3]) npl
      have sHl := sH2.trans (s11.trans (s12.trans (s13.trans s14)))
      have f1 := s14 _ _ (s13 _ _ (s12 _ _ ep1))
      have f2 := s14 _ _ (s13 _ _ ep2)
      have f3 := s14 _ _ ep3
      have fq := s14 _ _ (s13 _ _ (s12 _ _ (s11 _ _ eqd)))
      generalize upd (upd (upd (upd H2 p1 (.tup [.int e1.1, .int ot])) p2 (.tup [.int ot, .int e1.1])) p3 (.tup [.int e1.1, .int e1.1])) pl (.lst [.ref p1, .ref p2, .ref p3]) = Hl at s14 epl sHl f1 f2 f3 fq ⊢
      have items : ∀ (j : Nat) (x : V), ([.ref p1, .ref p2, .ref p3] : List V)[j]? = some x → ∃ (pt : Addr) (pa pb : Int), x = .ref pt ∧ Hl pt = some (.tup [.int pa, .int pb]) ∧ ((pa = e1.1 ∧ pb = ot ∧ j = 0) ∨ (pa = ot ∧ pb = e1.1 ∧ j = 1) ∨ (pa = e1.1 ∧ pb = e1.1 ∧ j = 2)) := fun j x hx => by
        match j, hx with
        | 0, hx => cases hx; exact ⟨_, _, _, rfl, f1, .inl ⟨rfl, rfl, rfl⟩⟩
        | 1, hx => cases hx; exact ⟨_, _, _, rfl, f2, .inr (.inl ⟨rfl, rfl, rfl⟩)⟩
        | 2, hx => cases hx; exact ⟨_, _, _, rfl, f3, .inr (.inr ⟨rfl, rfl, rfl⟩)⟩
        | j + 3, hx => simp at hx
      walk_at "rd"
      refine ⟨⟨_, SqL.of epl⟩, for_list (xs := [.ref p1, .ref p2, .ref p3]) (fun j σ H3 => ∃ (qd : Addr) (nsd : List Int) (y1 y2 : Option V), (Same Hl H3 ∧ H3 qd = some (.lst (nsd.map V.int)) ∧ (e1.1 ≠ ot → j ≤ 1 → ChgIs ds e1.1 ot nsd)) ∧ σ = [some (.ref a), some (.ref pd), some (.ref r), some (.int (0 + (i : Int))), z2, some (.ref qd), some (.int e1.1), some (.int ot), y1, y2]) ⟨_, _, _, _, ⟨Same.refl _, fq, fun _ _ => Cd⟩, rfl⟩ ?_ ?_ ?_⟩
      · rintro j σ H3 _ ⟨qd, nsd, y1, y2, ⟨sl, _⟩, _⟩
        exact SqL.of (sl _ _ epl)
      · rintro j x σ H3 hx ⟨qd, nsd, y1, y2, ⟨sl, eq3, cd⟩, rfl⟩
        obtain ⟨pt, pa, pb, rfl, hpt, hp⟩ := items j x hx
        have hpt3 := sl _ _ hpt
        walk_at "rd"
        refine ⟨fun σ' H4 => ∃ (qd : Addr) (nsd : List Int), (Same H3 H4 ∧ H4 qd = some (.lst (nsd.map V.int)) ∧ ChgIs ds pa pb nsd ∧ (e1.1 ≠ ot → j + 1 ≤ 1 → ChgIs ds e1.1 ot nsd)) ∧ σ' = [some (.ref a), some (.ref pd), some (.ref r), some (.int (0 + (i : Int))), z2, some (.ref qd), some (.int e1.1), some (.int ot), some (.ref pt), y2], ?_, ?_⟩
        · walk_at "rd"
          · rename_i cc
            intro pn npn
            refine ⟨pn, [], ⟨same_new npn (.lst []), upd_same, ?_, fun q1 q2 => ?_⟩, rfl⟩
            · have cc' : pa = pb := cc
              rw [cc']
              exact chg_self ds pb
            · exfalso
              omega
          · rename_i cc
            have cc' : pa ≠ pb := cc
            refine ⟨qd, nsd, ⟨Same.refl _, eq3, ?_, fun q1 q2 => cd q1 (by omega)⟩, rfl⟩
            rcases hp with ⟨rfl, rfl, hj⟩ | ⟨rfl, rfl, hj⟩ | ⟨rfl, rfl, hj⟩
            · exact cd cc' (by omega)
            · exact (cd (fun q => cc' q.symm) (by omega)).symm
            · exact absurd rfl cc'
        · rintro σ' H4 ⟨qd, nsd, ⟨s4', eq4, C4, cd4⟩, rfl⟩
          have sl4 := sl.trans s4'
          have B4 := BS.same (sHl.trans sl4)
          have hpt4 := sl4 _ _ hpt
          walk_at "rd"
          refine ⟨r, dx, c, l, kd, g, pa, pb, ds, _, rfl, B4, O.nr, n8, by omega, fun q5 n5 H5 nq5 s5' e5' C5 l5 => ?_⟩
          obtain rfl := C5.eq C4
          have eq5 := s5' _ _ eq4
          walk_at "rd"
          refine ⟨_, _, _, _, rfl, .lst e5', (show PySem.W.kitOne K (.type "list") (.type "list") = some true from rfl), ?_⟩
          walk_at "rd"
          refine ⟨_, _, .lst (SqL.of e5') (RdVs.ints _), .lst (SqL.of eq5) (RdVs.ints _), shaped_ints _, shaped_ints _, ?_⟩
          rw [eqv_ints]
          walk_at "rd"
          refine ⟨⟨_, SqL.of e5'⟩, fun l2 nl2 => ?_⟩
          refine comp_map (walk_list (SqL.of e5')) nl2 (by rw [List.length_map]; omega) (n5.map fun _ => true) (by rw [List.length_map, List.length_map]) (fun _ v b => v = .bl b) (fun v e H1 H2 s q => q) (fun v e H1 ys zs hL q => q) ?_ ?_
          · rintro jj x b H6 Q' hx hs s6' hq
            rw [List.getElem?_map] at hx hs
            obtain ⟨n, hn, rfl⟩ := Option.map_eq_some_iff.mp hx
            rw [hn] at hs
            obtain rfl : true = b := Option.some.inj hs
            walk_at "rd"
            exact hq _ _ (Same.refl _) rfl
          · rintro ys H6 s6' e6' hL6
            have ey : ys = (n5.map fun _ => true).map V.bl := hL6.eqm (g := fun b : Bool => V.bl b)
            subst ey
            walk_at "rd"
            refine ⟨l2, _, rfl, SqL.of e6', ?_⟩
            rw [show ((n5.map fun _ => true).all id) = true by simp]
            have e56 := s6' _ _ e5'
            have sl6 := sl4.trans (s5'.trans s6')
            walk_at "rd"
            refine ⟨.inl ⟨rfl, _, SqL.of e56⟩, q5, _, rfl, rfl, e56, ?_⟩
            have nq : qd ≠ q5 := fun z => by
              rw [z] at eq4
              rw [nq5] at eq4
              cases eq4
            refine ⟨qd, n5, _, _, ⟨same_put sl6 (same_gone sl4 nq5), by rw [upd_ne nq]; exact s6' _ _ eq5, cd4⟩, rfl⟩
      · rintro σ H3 ⟨qd, nsd, y1, y2, ⟨sl, eq3, cd⟩, rfl⟩
        have B3 := BS.same (sHl.trans sl)
        have eW3 := (sHl.trans sl) _ _ eWS
        have hW3' := hWS.imp fun v d q => q.same (sHl.trans sl)
        walk_at "rd"
        refine ⟨r, dx, c, l, kd, g, e1.1, ot, ds, _, rfl, B3, O.nr, n8, by omega, fun q5 n5 H5 nq5 s5' e5' C5 l5 => ?_⟩
        walk_at "rd"
        refine ⟨pd, e1.1, ot, ws, ds, _, rfl, s5' _ _ eW3, hW3'.imp (fun v d q => q.same s5'), O.nr, n8, by omega, fun q6 n6 H6 nq6 s6' e6' C6 => ?_⟩
        obtain rfl := C5.eq C6
        refine ⟨_, _, .lst (SqL.of (s6' _ _ e5')) (RdVs.ints _), .lst (SqL.of e6') (RdVs.ints _), shaped_ints _, shaped_ints _, ?_⟩
        rw [eqv_ints]
        walk_at "rd"
        exact ⟨_, _, _, _, _, _, _, sHl.trans (sl.trans (s5'.trans s6')), rfl⟩
    · rintro σ H' ⟨z1, z2, z3, z4, z5, z6, z7, sH, rfl⟩
      walk_at "rd"
      exact h _
end
theorem all_ok {K : PySem.W.Frag} {mg : Str → Option Value} (T : Txt K mg) (S_is_whole : Src K mg "is_whole" s_is_whole ["thing"]) (S_has_form : Src K mg "has_form" s_has_form ["row"]) (S__law_draw : Src K mg "_law_draw" s__law_draw ["_law_script", "_law_k", "_law_many"]) (S__law_draws : Src K mg "_law_draws" s__law_draws ["_law_cell_here", "_law_many"]) (S__law_whole : Src K mg "_law_whole" s__law_whole ["_law_found"]) (S__law_stands : Src K mg "_law_stands" s__law_stands ["_law_deeds_here", "_law_known"]) (S_is_day : Src K mg "is_day" s_is_day ["thing"]) (S_count_named : Src K mg "count_named" s_count_named ["text"]) (S_is_within : Src K mg "is_within" s_is_within ["thing", "least", "most"]) (S__law_cell : Src K mg "_law_cell" s__law_cell ["_law_script", "_law_k"]) (S__law_pick : Src K mg "_law_pick" s__law_pick ["_law_cell_here", "_law_by", "_law_many"]) (S__law_base : Src K mg "_law_base" s__law_base ["_law_script"]) (S__law_grace : Src K mg "_law_grace" s__law_grace ["_law_script"]) (S__law_again : Src K mg "_law_again" s__law_again ["_law_script", "_law_deeds_here"]) (S__law_due : Src K mg "_law_due" s__law_due ["_law_deeds_here", "_law_one", "_law_other"]) (S_is_third : Src K mg "is_third" s_is_third ["word", "day", "thing"]) (S_check_terms : Src K mg "check_terms" s_check_terms ["count", "grace"]) (S_rows_by_number : Src K mg "rows_by_number" s_rows_by_number ["roll", "known"]) (S_check_number : Src K mg "check_number" s_check_number ["thing"]) (S__law_row : Src K mg "_law_row" s__law_row ["_law_cell_here", "_law_base_here"]) (S__law_count : Src K mg "_law_count" s__law_count ["_law_script"]) (S_made : Src K mg "made" s_made ["word", "day", "thing"]) (S_changed : Src K mg "changed" s_changed ["roll", "before", "behind"]) (S__law_made : Src K mg "_law_made" s__law_made ["_law_row_here"]) (S__law_deeds : Src K mg "_law_deeds" s__law_deeds ["_law_script", "_law_most"]) (S_entry_of : Src K mg "entry_of" s_entry_of ["row"]) (S_check_entry : Src K mg "check_entry" s_check_entry ["thing"]) (S__law_came : Src K mg "_law_came" s__law_came ["_law_roll", "_law_deed"]) (S_law : Src K mg "law" s_law ["_law_script"]) (S_e_out_word : MethS K (cA K (Ek.cls .out)) "word" "Out.word" s_Out_word ["self"]) (S_e_fee_word : MethS K (cA K (Ek.cls .fee)) "word" "Fee.word" s_Fee_word ["self"]) (S_e_pay_word : MethS K (cA K (Ek.cls .pay)) "word" "Pay.word" s_Pay_word ["self"]) (S_e_due_word : MethS K (cA K (Ek.cls .due)) "word" "Due.word" s_Due_word ["self"]) (S_e_turn_word : MethS K (cA K (Ek.cls .turn)) "word" "Turn.word" s_Turn_word ["self"]) (S_e_rate_word : MethS K (cA K (Ek.cls .rate)) "word" "Rate.word" s_Rate_word ["self"]) (S_e_late_word : MethS K (cA K (Ek.cls .late)) "word" "Late.word" s_Late_word ["self"]) (S_e_still_word : MethS K (cA K (Ek.cls .still)) "word" "Still.word" s_Still_word ["self"]) (S_e_base_word : MethS K (cA K (Ek.cls .base)) "word" "Entry.word" s_Entry_word ["self"]) (S_e_out_row : MethS K (cA K (Ek.cls .out)) "row" "AmountEntry.row" s_AmountEntry_row ["self"]) (S_e_fee_row : MethS K (cA K (Ek.cls .fee)) "row" "AmountEntry.row" s_AmountEntry_row ["self"]) (S_e_pay_row : MethS K (cA K (Ek.cls .pay)) "row" "AmountEntry.row" s_AmountEntry_row ["self"]) (S_e_due_row : MethS K (cA K (Ek.cls .due)) "row" "AmountEntry.row" s_AmountEntry_row ["self"]) (S_e_turn_row : MethS K (cA K (Ek.cls .turn)) "row" "Entry.row" s_Entry_row ["self"]) (S_e_rate_row : MethS K (cA K (Ek.cls .rate)) "row" "RateEntry.row" s_RateEntry_row ["self"]) (S_e_late_row : MethS K (cA K (Ek.cls .late)) "row" "RateEntry.row" s_RateEntry_row ["self"]) (S_e_still_row : MethS K (cA K (Ek.cls .still)) "row" "Still.row" s_Still_row ["self"]) (S_e_base_row : MethS K (cA K (Ek.cls .base)) "row" "Entry.row" s_Entry_row ["self"]) (S_init_Due : MethS K (cA K "Due") "__init__" "AmountEntry.__init__" s_AmountEntry_init ["self", "day", "amount"]) (S_init_Fee : MethS K (cA K "Fee") "__init__" "AmountEntry.__init__" s_AmountEntry_init ["self", "day", "amount"]) (S_init_Late : MethS K (cA K "Late") "__init__" "RateEntry.__init__" s_RateEntry_init ["self", "day", "rate"]) (S_init_Out : MethS K (cA K "Out") "__init__" "AmountEntry.__init__" s_AmountEntry_init ["self", "day", "amount"]) (S_init_Pay : MethS K (cA K "Pay") "__init__" "AmountEntry.__init__" s_AmountEntry_init ["self", "day", "amount"]) (S_init_Rate : MethS K (cA K "Rate") "__init__" "RateEntry.__init__" s_RateEntry_init ["self", "day", "rate"]) (S_init_Still : MethS K (cA K "Still") "__init__" "Still.__init__" s_Still_init ["self", "day", "until"]) (S_init_Turn : MethS K (cA K "Turn") "__init__" "Entry.__init__" s_Entry_init ["self", "day"]) (S_U_Entry_init : UnbS K (cA K "Entry") "__init__" "Entry.__init__" s_Entry_init ["self", "day"]) (S_Roll_keep : MethS K (cA K "Roll") "keep" "Roll.keep" s_Roll_keep ["self", "known", "number", "entry"]) (S_Roll_standing : MethS K (cA K "Roll") "standing" "Roll.standing" s_Roll_standing ["self", "known"]) (S_Roll_check_known : MethS K (cA K "Roll") "check_known" "Roll.check_known" s_Roll_check_known ["self", "known"]) (S_Roll_init : MethS K (cA K "Roll") "__init__" "Roll.__init__" s_Roll_init ["self", "count", "grace"]) (S_Roll_strike : MethS K (cA K "Roll") "strike" "Roll.strike" s_Roll_strike ["self", "known", "number"]) (S_Roll_put : MethS K (cA K "Roll") "put" "Roll.put" s_Roll_put ["self", "known", "number", "entry"]) (S_plain_name : MethS K (cA K (Kd.cls .plain)) "name" "Count.name" s_Count_name ["self"]) (S_bank_name : MethS K (cA K (Kd.cls .bank)) "name" "Bank.name" s_Bank_name ["self"]) (S_thirty_name : MethS K (cA K (Kd.cls .thirty)) "name" "Thirty.name" s_Thirty_name ["self"]) (S_exact_name : MethS K (cA K (Kd.cls .exact)) "name" "Exact.name" s_Exact_name ["self"]) {P : Program} {w : World} {base : Heap} : Def P w K mg base 9 "law" ["_law_script"] (sp_law K) := by
  have D_is_whole := d_is_whole (P := P) (w := w) (base := base) S_is_whole T 
  have D_m_name : ∀ kd : Kd, DefM P w K mg base 1 (cA K kd.cls) "name" ["self"] (sp_m_name kd K) := fun kd => by
    cases kd
    · exact d_Count_name .plain (by simp) S_plain_name T 
    · exact d_Bank_name .bank (by simp) S_bank_name T 
    · exact d_Thirty_name .thirty (by simp) S_thirty_name T 
    · exact d_Exact_name .exact (by simp) S_exact_name T 
  have D_U_Entry_init := dU_Entry_init (P := P) (w := w) (base := base) S_U_Entry_init T 
  have D_init_Turn := d_Entry_init (P := P) (w := w) (base := base) "Turn" S_init_Turn T 
  have D_e_word : ∀ k : Ek, DefM P w K mg base 1 (cA K k.cls) "word" ["self"] (sp_e_word k K) := fun k => by
    cases k
    · exact d_Out_word .out (by simp) S_e_out_word T 
    · exact d_Fee_word .fee (by simp) S_e_fee_word T 
    · exact d_Pay_word .pay (by simp) S_e_pay_word T 
    · exact d_Due_word .due (by simp) S_e_due_word T 
    · exact d_Turn_word .turn (by simp) S_e_turn_word T 
    · exact d_Rate_word .rate (by simp) S_e_rate_word T 
    · exact d_Late_word .late (by simp) S_e_late_word T 
    · exact d_Still_word .still (by simp) S_e_still_word T 
    · exact d_Entry_word .base (by simp) S_e_base_word T 
  have D_has_form := d_has_form (P := P) (w := w) (base := base) S_has_form T 
  have D_Roll_keep := d_Roll_keep (P := P) (w := w) (base := base) S_Roll_keep T 
  have D_Roll_standing := d_Roll_standing (P := P) (w := w) (base := base) S_Roll_standing T 
  have D__law_draw := d__law_draw (P := P) (w := w) (base := base) S__law_draw T 
  have D__law_draws := d__law_draws (P := P) (w := w) (base := base) S__law_draws T 
  have D__law_whole := d__law_whole (P := P) (w := w) (base := base) S__law_whole T 
  have D__law_stands := d__law_stands (P := P) (w := w) (base := base) S__law_stands T 
  have D_is_day := d_is_day (P := P) (w := w) (base := base) S_is_day T D_is_whole
  have D_count_named := d_count_named (P := P) (w := w) (base := base) S_count_named T D_m_name
  have D_e_row : ∀ k : Ek, DefM P w K mg base 2 (cA K k.cls) "row" ["self"] (sp_e_row k K) := fun k => by
    cases k
    · exact d_AmountEntry_row .out (by simp) S_e_out_row T D_e_word
    · exact d_AmountEntry_row .fee (by simp) S_e_fee_row T D_e_word
    · exact d_AmountEntry_row .pay (by simp) S_e_pay_row T D_e_word
    · exact d_AmountEntry_row .due (by simp) S_e_due_row T D_e_word
    · exact d_Entry_row .turn (by simp) S_e_turn_row T D_e_word
    · exact d_RateEntry_row .rate (by simp) S_e_rate_row T D_e_word
    · exact d_RateEntry_row .late (by simp) S_e_late_row T D_e_word
    · exact d_Still_row .still (by simp) S_e_still_row T D_e_word
    · exact d_Entry_row .base (by simp) S_e_base_row T D_e_word
  have D_init_Due := d_AmountEntry_init (P := P) (w := w) (base := base) "Due" S_init_Due T D_U_Entry_init
  have D_init_Fee := d_AmountEntry_init (P := P) (w := w) (base := base) "Fee" S_init_Fee T D_U_Entry_init
  have D_init_Out := d_AmountEntry_init (P := P) (w := w) (base := base) "Out" S_init_Out T D_U_Entry_init
  have D_init_Pay := d_AmountEntry_init (P := P) (w := w) (base := base) "Pay" S_init_Pay T D_U_Entry_init
  have D_init_Late := d_RateEntry_init (P := P) (w := w) (base := base) "Late" S_init_Late T D_U_Entry_init
  have D_init_Rate := d_RateEntry_init (P := P) (w := w) (base := base) "Rate" S_init_Rate T D_U_Entry_init
  have D_init_Still := d_Still_init (P := P) (w := w) (base := base) "Still" S_init_Still T D_U_Entry_init
  have D_is_within := d_is_within (P := P) (w := w) (base := base) S_is_within T D_is_whole
  have D__law_cell := d__law_cell (P := P) (w := w) (base := base) S__law_cell T D__law_draw
  have D__law_pick := d__law_pick (P := P) (w := w) (base := base) S__law_pick T D__law_draws
  have D__law_base := d__law_base (P := P) (w := w) (base := base) S__law_base T D__law_draw
  have D__law_grace := d__law_grace (P := P) (w := w) (base := base) S__law_grace T D__law_draw
  have D__law_again := d__law_again (P := P) (w := w) (base := base) S__law_again T D__law_stands D__law_draw
  have D__law_due := d__law_due (P := P) (w := w) (base := base) S__law_due T D__law_stands
  have D_is_third := d_is_third (P := P) (w := w) (base := base) S_is_third T D_is_within
  have D_check_terms := d_check_terms (P := P) (w := w) (base := base) S_check_terms T D_is_within
  have D_rows_by_number := d_rows_by_number (P := P) (w := w) (base := base) S_rows_by_number T D_Roll_standing D_e_row
  have D_check_number := d_check_number (P := P) (w := w) (base := base) S_check_number T D_is_within
  have D_Roll_check_known := d_Roll_check_known (P := P) (w := w) (base := base) S_Roll_check_known T D_is_day
  have D__law_row := d__law_row (P := P) (w := w) (base := base) S__law_row T D__law_pick
  have D__law_count := d__law_count (P := P) (w := w) (base := base) S__law_count T D_count_named D__law_draw
  have D_made := d_made (P := P) (w := w) (base := base) S_made T D_init_Out D_init_Fee D_init_Pay D_init_Due D_init_Rate D_init_Late D_init_Still
  have D_changed := d_changed (P := P) (w := w) (base := base) S_changed T D_rows_by_number
  have D_Roll_init := d_Roll_init (P := P) (w := w) (base := base) S_Roll_init T D_check_terms
  have D_Roll_strike := d_Roll_strike (P := P) (w := w) (base := base) S_Roll_strike T D_Roll_check_known D_check_number D_Roll_standing D_Roll_keep
  have D__law_made := d__law_made (P := P) (w := w) (base := base) S__law_made T D_init_Out D_init_Fee D_init_Pay D_init_Due D_init_Rate D_init_Late D_init_Still D_init_Turn
  have D__law_deeds := d__law_deeds (P := P) (w := w) (base := base) S__law_deeds T D__law_base D__law_draw D__law_cell D__law_pick D__law_stands D__law_row
  have D_entry_of := d_entry_of (P := P) (w := w) (base := base) S_entry_of T D_has_form D_is_day D_init_Turn D_is_third D_made
  have D_check_entry := d_check_entry (P := P) (w := w) (base := base) S_check_entry T D_entry_of D_e_row
  have D_Roll_put := d_Roll_put (P := P) (w := w) (base := base) S_Roll_put T D_Roll_check_known D_check_number D_check_entry D_Roll_keep
  have D__law_came := d__law_came (P := P) (w := w) (base := base) S__law_came T D_Roll_strike D_Roll_put D__law_made
  have D_law := d_law (P := P) (w := w) (base := base) S_law T D__law_again D__law_deeds D_Roll_init D__law_grace D__law_count D_changed D__law_came D__law_due D__law_draw D__law_whole
  exact D_law
end My
namespace PySem.W.Fast
def tw3356938190731340869:=0
def tw5044951743934517730:=0
def tw7911659822699898151:=0
def tw1093849033695090125:=0
def tw17117318401601652956:=0
def tw7038924195097190231:=0
def tw18222428249916547243:=0
def tw18420560128484989603:=0
def tw5262891738960299287:=0
def tw13091300610381801040:=0
def tw6264228034455973778:=0
def tw8928339484011031559:=0
def tw3168369990634640453:=0
def tw15846630131062901745:=0
def tw2232822247149282589:=0
def tw14186211307496656929:=0
def tw5551073097942761751:=0
def tw955234287190992704:=0
def tw794045309316207301:=0
def tw14314034148845738543:=0
def tw131184149511360199:=0
def tw10907177284001608643:=0
def tw8518075524286002491:=0
def tw9986593207944430891:=0
def tw13204042786190682284:=0
def tw13507313171649060525:=0
def tw7848745785975680571:=0
def tw14058265613284674592:=0
def tw13216307972472642689:=0
def tw6476168026016193662:=0
def tw13338635864249396589:=0
def tw1747232907284335374:=0
def tw12924973924126009782:=0
def tw13364951773704636542:=0
def tw17767826402111871486:=0
def tw11426132487850982193:=0
def tw1788028487005234786:=0
def tw9264937175358490077:=0
def tw4625367252405782508:=0
def tw15459036362552821393:=0
def tw3726965099927768735:=0
def tw12321864671103512724:=0
def tw11526249502217065699:=0
def tw17661538861264115646:=0
def tw9976184798204682969:=0
def tw11509300104304338362:=0
def tw13183304557421019937:=0
def tw5835602354672083973:=0
def tw12868795844123132066:=0
def tw15943879303679556704:=0
def tw11685186905094248233:=0
def tw3187059155828708648:=0
def tw16417330341643590464:=0
def tw7861355097388042656:=0
def tw7743688652304929903:=0
def tw8187549103429790316:=0
def tw15465723543814121147:=0
def tw6371305876762927426:=0
def tw7572953333561587634:=0
def tw3985890680542704150:=0
def tw14740808916746345022:=0
def tw18339701042638660257:=0
def tw3040096244094122609:=0
def tw12414275593064649425:=0
def tw12196590430007095432:=0
def tw10900245125718543217:=0
def tw472098591746176196:=0
def tw3608393401700442225:=0
def tw10603037816386020612:=0
def tw16977885459802981408:=0
def tw15815755895472031919:=0
def tw5016540427147470560:=0
def tw17546278108354450807:=0
def tw10184192744386106654:=0
def tw10935797592648695561:=0
def tw8371560739501899537:=0
def tw1846345659726738934:=0
def tw13904989361474302107:=0
def tw3693271334629797107:=0
def tw6890346309543221334:=0
def tw17487062112724514269:=0
def tw5863663670913172169:=0
def tw11629712900806930299:=0
def tw6208036051057229204:=0
def tw43274093032590083:=0
def tw18124594757071581343:=0
def tw4337121326379768749:=0
def tw2796887166571618221:=0
def tw9970700712293755256:=0
def tw11929624600211415100:=0
def tw5101350709679498259:=0
def tw11795593268842813950:=0
def tw16735716807301906123:=0
def tw1642062955277452163:=0
def tw7419425242266539025:=0
def tw9939749074901987039:=0
def tw18392600117258328631:=0
def tw11706449523123927884:=0
def tw16771760468840714160:=0
def tw5369332914090238947:=0
def tw2652622987613492389:=0
def tw18119367693988651879:=0
def tw11174760570246736330:=0
def tw18437141610484445704:=0
def tw10954456128164236477:=0
def tw7240018496318877169:=0
def tw18297804238968085274:=0
def tw3879775204469428068:=0
def tw7535367117565882824:=0
def tw11401807404567005067:=0
def tw2234326081729101707:=0
def tw8975185724328214705:=0
def tw907290228351468332:=0
def tw16826031506766181233:=0
def tw12823661617150925127:=0
def tw1180680983108073821:=0
def tw4265362372380853307:=0
def tw7840833657810769752:=0
def tw5832653756655846616:=0
def tw2997792676834983407:=0
def tw1547381171546183151:=0
def tw2443347035964208198:=0
def tw16032137532832134340:=0
def tw8676830870724946152:=0
def tw16910173182201448885:=0
def tw9868599584584248460:=0
def tw1205637173354902403:=0
def tw1686089675896104286:=0
def tw5828105589137873110:=0
def tw9137218152256676633:=0
def tw8877084770074307680:=0
def tw650715014669391089:=0
def tw5405780637508036428:=0
def tw14133095080548023361:=0
def tw8471627212963212737:=0
def tw8370964379379948300:=0
def tw2612047303910390567:=0
def tw2611526652899454023:=0
def tw4015066952195288217:=0
def tw11060814733489497208:=0
def tw4689735653497308284:=0
def tw8468318134659905725:=0
def tw15381346565110704994:=0
def tw10168887711645352718:=0
def tw10257960802486699993:=0
def tw17739869866820899394:=0
def tw2499609281416422823:=0
def tw17092798759202747757:=0
def tw16837768976141381725:=0
def tw17447155152792854034:=0
def tw6242591283881964525:=0
def tw1190971517596035932:=0
def tw6096961736886517814:=0
def tw5917471873723343151:=0
def tw21192917253555879:=0
def tw16613591378661401184:=0
def tw12679646722424478171:=0
def tw9180483330622647416:=0
def tw10112423368132932372:=0
def tw8803476613610443789:=0
def tw8288429410388703709:=0
def tw2009426360307392736:=0
def tw10209194993672529757:=0
def tw10547262116437592433:=0
def tw15493120896779366191:=0
def tw15508761071925196048:=0
def tw8080611368499547378:=0
def tw2590845012934081730:=0
def tw18025071784601484587:=0
def tw3991447291002555919:=0
def tw14716312057726321852:=0
def tw10181113777405872954:=0
def tw8852576529822194942:=0
def tw15118389691830124785:=0
def tw9792130803218479116:=0
def tw13036396252530009518:=0
def tw5634946849394103905:=0
def tw7234478417310160226:=0
def tw14547400512911955472:=0
def tw7704581577874067648:=0
def tw5766173247935216766:=0
def tw4471748776881809536:=0
def tw3242451113953428220:=0
def tw5917487348415401122:=0
def tw18342114191572947734:=0
def tw12165031666711609851:=0
def tw2815513118600751182:=0
def tw12421469462903883006:=0
def tw5284542507857811426:=0
def tw15593188805536569354:=0
def tw6958523221786536252:=0
def tw5236264583001261550:=0
def tw9161218217744607478:=0
def tw17555752669969045907:=0
def tw13908703699845130428:=0
def tw17248141164463490525:=0
def tw15072508027977833671:=0
def tw5462316720236240374:=0
def tw12859860405291857181:=0
def tw11403784415809094052:=0
def tw18131070212909210561:=0
def tw13454374829959188743:=0
def tw1300486236550917350:=0
def tw9352351194254022097:=0
def tw17669803134346664055:=0
def tw6474774974903356039:=0
def tw9119934905830105785:=0
def tw3689144557339964365:=0
def tw9620307533296246448:=0
def tw16173943485573858936:=0
def tw13505012051724790568:=0
def tw15372445420619279404:=0
def tw17572617807343761696:=0
def tw13292962439493186173:=0
def tw10300460537779956845:=0
def tw6832090631764970924:=0
def tw12242211077280986145:=0
def tw11961523532308783072:=0
def tw4893754176686509955:=0
def tw9567549866695654801:=0
def tw17369794369108177218:=0
def tw8531973756368549701:=0
def tw6435545099912309210:=0
def tw17208872248623034902:=0
def tw15103314397132329872:=0
def tw6077329231561092089:=0
def tw666119422108111846:=0
def tw17263100235332392773:=0
def tw12771975865641341650:=0
def tw11779547282866545457:=0
def tw15664149582722679500:=0
def tw1650578412480134116:=0
def tw6726555597402806491:=0
def tw5990318603769080691:=0
def tw17236614397733436336:=0
def tw17090420381944257203:=0
def tw13604187875109868065:=0
def tw1657615992919064574:=0
def tw5749672999153169637:=0
def tw9242039473621157935:=0
def tw11042201497120681570:=0
def tw5310651783436732272:=0
def tw9728654711445645716:=0
def tw16915134160763396250:=0
def tw17077969657364458207:=0
def tw12593838437334871975:=0
def tw5721587002054138249:=0
def tw4537266391674283828:=0
def tw11431141804771287001:=0
def tw1896960426562292853:=0
def tw1666035566952103578:=0
def tw8822634765985580866:=0
def tw9538104541699218999:=0
def tw1570009163347436848:=0
def tw4838799339064129546:=0
def tw5939229142186029007:=0
def tw492929128086761972:=0
def tw4769200683115385327:=0
def tw12100630938874664270:=0
def tw6296079090992957489:=0
def tw3714210905919456386:=0
def tw10598672572574846088:=0
def tw4570227261357709438:=0
def tw12797948851717015326:=0
def tw17751843524179112360:=0
def tw6958897185088150056:=0
def tw10591530771796868258:=0
def tw15239462264968642719:=0
def tw3199646005753876678:=0
def tw13612225522642150184:=0
def tw12332316529743880626:=0
def tw18330172727465123431:=0
def tw2019410910231894411:=0
def tw7114436039220029808:=0
def tw3584747704434304302:=0
def tw17604990072520260101:=0
def tw5216695075071394281:=0
def tw15071285783351939465:=0
def tw4915383468592007356:=0
def tw3752934026937526492:=0
def tw11193287500708862222:=0
def tw5470647953584646554:=0
def tw7696540845553135622:=0
def tw7088659041413072410:=0
def tw9631322607890135418:=0
def tw13144790997319239018:=0
def tw14932051965616493027:=0
def tw14259508802413576503:=0
def tw14471765368273753712:=0
def tw10764779842704251993:=0
def tw3364513388166264675:=0
def tw3182965340526446769:=0
def tw15687059299680432941:=0
def tw11497167709788174446:=0
def tw7953435089289069877:=0
def tw11993027731705232561:=0
def tw9343538455000242120:=0
def tw4693258015513506449:=0
def tw17945272479020323894:=0
def tw3475062379993490640:=0
def tw15266304850235794394:=0
def tw15417264392834606703:=0
def tw4836859972094261263:=0
def tw11758639784067912539:=0
def tw15276665544756426395:=0
def tw5616929303965422313:=0
def tw14309872806770169697:=0
def tw1980657812162349129:=0
def tw11809568914174736132:=0
def tw10218964030287811641:=0
def tw2171153898724733729:=0
def tw11401106225225819237:=0
def tw9156668231854676072:=0
def tw13691457536388796420:=0
def tw14815999864907336120:=0
def tw14733920201347456633:=0
def tw8792589474727062493:=0
def tw12522651917728928316:=0
def tw8279154706973845186:=0
def tw9178601826758297727:=0
def tw2191410850555949459:=0
def tw682152027056349526:=0
def tw14849860268686093200:=0
def tw5414812253349582120:=0
def tw6406879571747270886:=0
def tw13917571246479715283:=0
def tw10673799088921970662:=0
def tw14326902943547327971:=0
def tw7272429269063252312:=0
def tw3184130210175898889:=0
def tw7220816541394214561:=0
def tw18301726625323835200:=0
def tw4256523865537003567:=0
def tw16471118504556135799:=0
def tw17902056537966366459:=0
def tw16046346930426815497:=0
def tw13454204402725913075:=0
def tw10331195254578034669:=0
def tw5591074436296879424:=0
def tw6519199832240031717:=0
def tw8072980373185409807:=0
def tw3633422667944656660:=0
def tw2878485404138301387:=0
def tw2646549298478696103:=0
def tw1580745301712269326:=0
def tw16027241154943845940:=0
def tw3423822085503728200:=0
def tw9498895346434732285:=0
def tw1625834202142478221:=0
def tw8231834464563437457:=0
def tw1307046930510496746:=0
def tw11312108513702604443:=0
def tw13822709794946794146:=0
def tw8078370282942984807:=0
def tw12114731599233300746:=0
def tw8323092064672972335:=0
def tw15931690123361012949:=0
def tw8188625371467342065:=0
def tw16188887364630820443:=0
def tw9047155960354915523:=0
def tw5209101016394339410:=0
def tw7146168838639179471:=0
def tw17907082715739939987:=0
def tw9866629301312777163:=0
def tw13292763891231004532:=0
def tw562747048134203266:=0
def tw17279329643576182898:=0
def tw2748479141423651:=0
def tw15908256848918163467:=0
def tw22280957935885959:=0
def tw284603642323720510:=0
def tw8690924270311590211:=0
def tw11613200195170610326:=0
def tw7914984712257961507:=0
def tw5064678761653757636:=0
def tw6216921077588209950:=0
def tw13126013454988165877:=0
def tw1387529758324326083:=0
def tw10504959268924725577:=0
def tw7496462476918331330:=0
def tw17643776983921495577:=0
def tw17871311842210942149:=0
def tw9155399756012479355:=0
def tw1266528834548923505:=0
def tw8980958325145623818:=0
def tw1793852606588525365:=0
def tw16729307602423714035:=0
def tw241612310281979575:=0
def tw16658866858966157976:=0
def tw16578950559135912279:=0
def tw749195024124224745:=0
def tw1760698680619740116:=0
def tw16870966670486871991:=0
def tw2902969969777071415:=0
def tw17993064103512811918:=0
def tw13305979254788564232:=0
def tw11705753615733777247:=0
def tw13260632170014463756:=0
def tw13001735571376456067:=0
def tw4810076872781756488:=0
def tw10073369875250094082:=0
def tw17548411328020363134:=0
def tw11527789199126131176:=0
def tw11412723180768577310:=0
def tw7534113414032939862:=0
def tw16800148620641661613:=0
def tw16111153081353840259:=0
def tw4215685593716825496:=0
def tw17558699793360761596:=0
def tw5716723575333482006:=0
def tw4816149458884330879:=0
def tw12992453955681479866:=0
def tw1786427552143775418:=0
def tw11863375864962459477:=0
def tw533626431233541602:=0
def tw539654097619159346:=0
def tw15030278995141572723:=0
def tw13540236405853814471:=0
def tw16127703106781946448:=0
def tw14864371911207580660:=0
def tw6282400210992077972:=0
def tw4651900038466559047:=0
def tw18272923851595059261:=0
def tw9307211427074475574:=0
def tw10768126939894394987:=0
def tw17418747334182002430:=0
def tw8533154318843897690:=0
def tw2410626740038515451:=0
def tw219753233028859031:=0
def tw15509431928886769424:=0
def tw1610328920389522809:=0
def tw13819020177087076932:=0
def tw9316246873625611128:=0
def tw17414809541522215858:=0
def tw1280445220381464143:=0
def tw4757429765109477676:=0
def tw3396348252441876677:=0
def tw1980388485317204095:=0
def tw12573168945658660630:=0
def tw7235985269751579240:=0
def tw615340042264719198:=0
def tw3947564331923663319:=0
def tw13416952500565088018:=0
def tw3413225231771047714:=0
def tw12752166748564327418:=0
def tw2457688200532491660:=0
def tw9334472274847743252:=0
def tw5202027970918438569:=0
def tw2780473263918797029:=0
def tw1654120536093615011:=0
def tw5723860564828877871:=0
def tw4362193325769971606:=0
def tw17250798162812892411:=0
def tw14792803353131676705:=0
def tw12524790583125583614:=0
def tw1450365603483455987:=0
def tw16813350380958946480:=0
def tw2587210846029755517:=0
def tw18308579831239911875:=0
def tw12338290592059450578:=0
def tw15980458423785783639:=0
def tw4574124431431565295:=0
def tw13516913359802510576:=0
def tw1469642714084932477:=0
def tw148717951816079242:=0
def tw1657864427810163300:=0
def tw11152721341079207895:=0
def tw3303578479397654768:=0
def tw6378683221170421774:=0
def tw16729880546422658665:=0
def tw1624126085058264924:=0
def tw4401036924333066391:=0
def tw6289566707297912146:=0
def tw12821216705048970988:=0
def tw162418844665686743:=0
def tw7238057047197730525:=0
def tw6483997849898411552:=0
def tw15510348637440131684:=0
def tw6074261683864300850:=0
def tw5215908680955749081:=0
def tw11389777092543880922:=0
def tw8120116231342828220:=0
def tw561731193499247283:=0
def tw13040344175641707294:=0
def tw17132736963489731292:=0
def tw9950753240465474651:=0
def tw3861404672969190054:=0
def tw539936176353695996:=0
def tw17510211227745406415:=0
def tw10490385535143975568:=0
def tw704352137944797480:=0
def tw17395621609780913863:=0
def tw2930359618012681458:=0
def tw9444392154054180677:=0
def tw12530622722790270343:=0
def tw13175412827406611955:=0
def tw10700430776695684219:=0
def tw12463992356396606574:=0
def tw12672664135905444713:=0
def tw2505825469529609842:=0
def tw15657634483796585845:=0
def tw10100970337590737103:=0
def tw15120200348010036216:=0
def tw8820677329798800071:=0
def tw11338629924911036888:=0
def tw1875895545508169262:=0
def tw8226039527443716438:=0
def tw10129944427949126319:=0
def tw18016980698388261246:=0
def tw13953855026633348927:=0
def tw7847317045421601404:=0
def tw8421286651383979090:=0
def tw4009150411214821987:=0
def tw12512392441419228500:=0
def tw13166337769208049727:=0
def tw9138012812869751453:=0
def tw6848691356404122591:=0
def tw1706673759992455036:=0
def tw9937000049720028875:=0
def tw16964919439358905253:=0
def tw15118593583726418952:=0
def tw18444680516994459508:=0
def tw17912753500864153376:=0
def tw8881776433970150938:=0
def tw1533182784221727206:=0
def tw742766185595257461:=0
def tw10112490532346976331:=0
def tw16148288786844495388:=0
def tw6712413688884525228:=0
def tw9417280724934462609:=0
def tw6221045561632965216:=0
def tw7124413135079613527:=0
def tw1409483190781258249:=0
def tw11568572300660073176:=0
def tw11657643120057433270:=0
def tw17194369383958715569:=0
def tw5115204330558066005:=0
def tw14887972226350897754:=0
def tw2023583360734335511:=0
def tw8812224086992546749:=0
def tw3411134032788660803:=0
def tw9675341834160764073:=0
def tw1522515485386908777:=0
def tw15448619259240199308:=0
def tw7368211208402842684:=0
end PySem.W.Fast
open PySem PySem.W PyProof.Rows
set_option maxRecDepth 100000 in
set_option maxHeartbeats 0 in
theorem PySem.Challenge.cw_loanroll_k86_what_is_changed_holds : PySem.Challenge.rw_loanroll_k86_what_is_changed.Holds := by
  w_on; o_law; k_head; (case hw => w_witness2)
  k_fill
  refine L2.walk_def (l := PySem.Challenge.rw_loanroll_k86_what_is_changed) (lv := 9) (sp := My.sp_law) (x := "_law_script") (st := My.s_law) rfl rfl rfl ⟨rfl, by decide, by decide⟩ (fun w h Y => PySem.W.kIn_of Y) ?F (fun K H a ns hl hS => ⟨a, ns, rfl, hS, hl, fun _ => rfl⟩)
  case F =>
    intro w mg h KX G
    have n_all : mg "all" = none := PySem.W.mg_none_of KX G (by k_is)
    have n_bool : mg "bool" = none := PySem.W.mg_none_of KX G (by k_is)
    have n_dict : mg "dict" = none := PySem.W.mg_none_of KX G (by k_is)
    have n_int : mg "int" = none := PySem.W.mg_none_of KX G (by k_is)
    have n_isinstance : mg "isinstance" = none := PySem.W.mg_none_of KX G (by k_is)
    have n_len : mg "len" = none := PySem.W.mg_none_of KX G (by k_is)
    have n_list : mg "list" = none := PySem.W.mg_none_of KX G (by k_is)
    have n_max : mg "max" = none := PySem.W.mg_none_of KX G (by k_is)
    have n_min : mg "min" = none := PySem.W.mg_none_of KX G (by k_is)
    have n_range : mg "range" = none := PySem.W.mg_none_of KX G (by k_is)
    have n_set : mg "set" = none := PySem.W.mg_none_of KX G (by k_is)
    have n_sorted : mg "sorted" = none := PySem.W.mg_none_of KX G (by k_is)
    have n_str : mg "str" = none := PySem.W.mg_none_of KX G (by k_is)
    have n_tuple : mg "tuple" = none := PySem.W.mg_none_of KX G (by k_is)
    have a_Bank := by
      refine' L2.nsHave (x := "Bank") KX ?a
      (case a => k_is)
    have a_Count := by
      refine' L2.nsHave (x := "Count") KX ?a
      (case a => k_is)
    have a_Due := by
      refine' L2.nsHave (x := "Due") KX ?a
      (case a => k_is)
    have a_Entry := by
      refine' L2.nsHave (x := "Entry") KX ?a
      (case a => k_is)
    have a_Exact := by
      refine' L2.nsHave (x := "Exact") KX ?a
      (case a => k_is)
    have a_Fee := by
      refine' L2.nsHave (x := "Fee") KX ?a
      (case a => k_is)
    have a_Late := by
      refine' L2.nsHave (x := "Late") KX ?a
      (case a => k_is)
    have a_Out := by
      refine' L2.nsHave (x := "Out") KX ?a
      (case a => k_is)
    have a_Pay := by
      refine' L2.nsHave (x := "Pay") KX ?a
      (case a => k_is)
    have a_Rate := by
      refine' L2.nsHave (x := "Rate") KX ?a
      (case a => k_is)
    have a_Roll := by
      refine' L2.nsHave (x := "Roll") KX ?a
      (case a => k_is)
    have a_Still := by
      refine' L2.nsHave (x := "Still") KX ?a
      (case a => k_is)
    have a_Thirty := by
      refine' L2.nsHave (x := "Thirty") KX ?a
      (case a => k_is)
    have a_Turn := by
      refine' L2.nsHave (x := "Turn") KX ?a
      (case a => k_is)
    have cls_Count := by
      refine' L2.cls_mk a_Count ?_ ?_ ?_ ?_
      all_goals k_is
    have mk0_Count := by
      refine' L2.mk0_mk a_Count ?_ ?_ ?_
      all_goals k_is
    have cls_Bank := by
      refine' L2.cls_mk a_Bank ?_ ?_ ?_ ?_
      all_goals k_is
    have mk0_Bank := by
      refine' L2.mk0_mk a_Bank ?_ ?_ ?_
      all_goals k_is
    have cls_Thirty := by
      refine' L2.cls_mk a_Thirty ?_ ?_ ?_ ?_
      all_goals k_is
    have mk0_Thirty := by
      refine' L2.mk0_mk a_Thirty ?_ ?_ ?_
      all_goals k_is
    have cls_Exact := by
      refine' L2.cls_mk a_Exact ?_ ?_ ?_ ?_
      all_goals k_is
    have mk0_Exact := by
      refine' L2.mk0_mk a_Exact ?_ ?_ ?_
      all_goals k_is
    have S_plain_name := by
      refine' L2.meth_mk (m := "name") (qual := "Count.name") (st := My.s_Count_name) (ps := ["self"]) a_Count ?xi ?xf ?xk ?xl ?xc ?xb
      (case xi => k_is); (case xf => k_is); (case xk => k_is); (case xl => k_is); (case xc => k_is)
      (case xb => exact L2.us1 (fun _ => rfl))
    have S_bank_name := by
      refine' L2.meth_mk (m := "name") (qual := "Bank.name") (st := My.s_Bank_name) (ps := ["self"]) a_Bank ?xi ?xf ?xk ?xl ?xc ?xb
      (case xi => k_is); (case xf => k_is); (case xk => k_is); (case xl => k_is); (case xc => k_is)
      (case xb => exact L2.us1 (fun _ => rfl))
    have S_thirty_name := by
      refine' L2.meth_mk (m := "name") (qual := "Thirty.name") (st := My.s_Thirty_name) (ps := ["self"]) a_Thirty ?xi ?xf ?xk ?xl ?xc ?xb
      (case xi => k_is); (case xf => k_is); (case xk => k_is); (case xl => k_is); (case xc => k_is)
      (case xb => exact L2.us1 (fun _ => rfl))
    have S_exact_name := by
      refine' L2.meth_mk (m := "name") (qual := "Exact.name") (st := My.s_Exact_name) (ps := ["self"]) a_Exact ?xi ?xf ?xk ?xl ?xc ?xb
      (case xi => k_is); (case xf => k_is); (case xk => k_is); (case xl => k_is); (case xc => k_is)
      (case xb => exact L2.us1 (fun _ => rfl))
    have ikK_Count := by
      refine' L2.insk_mk a_Count ?_ ?_ ?_ ?_
      all_goals k_is
    have kS_Count := by
      refine' L2.kitB_mk (v := false) (n := "str") a_Count ?_
      kit_is
    have kK_Count_Count := by
      refine' L2.kit_mk (v := true) a_Count a_Count ?_
      kit_is
    have kK_Count_Bank := by
      refine' L2.kit_mk (v := false) a_Count a_Bank ?_
      kit_is
    have kK_Count_Thirty := by
      refine' L2.kit_mk (v := false) a_Count a_Thirty ?_
      kit_is
    have kK_Count_Exact := by
      refine' L2.kit_mk (v := false) a_Count a_Exact ?_
      kit_is
    have ikK_Bank := by
      refine' L2.insk_mk a_Bank ?_ ?_ ?_ ?_
      all_goals k_is
    have kS_Bank := by
      refine' L2.kitB_mk (v := false) (n := "str") a_Bank ?_
      kit_is
    have kK_Bank_Count := by
      refine' L2.kit_mk (v := true) a_Bank a_Count ?_
      kit_is
    have kK_Bank_Bank := by
      refine' L2.kit_mk (v := true) a_Bank a_Bank ?_
      kit_is
    have kK_Bank_Thirty := by
      refine' L2.kit_mk (v := false) a_Bank a_Thirty ?_
      kit_is
    have kK_Bank_Exact := by
      refine' L2.kit_mk (v := false) a_Bank a_Exact ?_
      kit_is
    have ikK_Thirty := by
      refine' L2.insk_mk a_Thirty ?_ ?_ ?_ ?_
      all_goals k_is
    have kS_Thirty := by
      refine' L2.kitB_mk (v := false) (n := "str") a_Thirty ?_
      kit_is
    have kK_Thirty_Count := by
      refine' L2.kit_mk (v := true) a_Thirty a_Count ?_
      kit_is
    have kK_Thirty_Bank := by
      refine' L2.kit_mk (v := false) a_Thirty a_Bank ?_
      kit_is
    have kK_Thirty_Thirty := by
      refine' L2.kit_mk (v := true) a_Thirty a_Thirty ?_
      kit_is
    have kK_Thirty_Exact := by
      refine' L2.kit_mk (v := false) a_Thirty a_Exact ?_
      kit_is
    have ikK_Exact := by
      refine' L2.insk_mk a_Exact ?_ ?_ ?_ ?_
      all_goals k_is
    have kS_Exact := by
      refine' L2.kitB_mk (v := false) (n := "str") a_Exact ?_
      kit_is
    have kK_Exact_Count := by
      refine' L2.kit_mk (v := true) a_Exact a_Count ?_
      kit_is
    have kK_Exact_Bank := by
      refine' L2.kit_mk (v := false) a_Exact a_Bank ?_
      kit_is
    have kK_Exact_Thirty := by
      refine' L2.kit_mk (v := false) a_Exact a_Thirty ?_
      kit_is
    have kK_Exact_Exact := by
      refine' L2.kit_mk (v := true) a_Exact a_Exact ?_
      kit_is
    have m_Bank := L2.m_mk KX G a_Bank
    have m_Count := L2.m_mk KX G a_Count
    have m_Due := L2.m_mk KX G a_Due
    have m_Entry := L2.m_mk KX G a_Entry
    have m_Exact := L2.m_mk KX G a_Exact
    have m_Fee := L2.m_mk KX G a_Fee
    have m_Late := L2.m_mk KX G a_Late
    have m_Out := L2.m_mk KX G a_Out
    have m_Pay := L2.m_mk KX G a_Pay
    have m_Rate := L2.m_mk KX G a_Rate
    have m_Roll := L2.m_mk KX G a_Roll
    have m_Still := L2.m_mk KX G a_Still
    have m_Thirty := L2.m_mk KX G a_Thirty
    have m_Turn := L2.m_mk KX G a_Turn
    have cl_Roll := by
      refine' L2.cls_mk a_Roll ?_ ?_ ?_ ?_
      all_goals k_is
    have mi_Roll := by
      refine' L2.mki_mk a_Roll ?_ ?_
      all_goals k_is
    have clE_Out := by
      refine' L2.cls_mk a_Out ?_ ?_ ?_ ?_
      all_goals k_is
    have clE_Fee := by
      refine' L2.cls_mk a_Fee ?_ ?_ ?_ ?_
      all_goals k_is
    have clE_Pay := by
      refine' L2.cls_mk a_Pay ?_ ?_ ?_ ?_
      all_goals k_is
    have clE_Due := by
      refine' L2.cls_mk a_Due ?_ ?_ ?_ ?_
      all_goals k_is
    have clE_Turn := by
      refine' L2.cls_mk a_Turn ?_ ?_ ?_ ?_
      all_goals k_is
    have clE_Rate := by
      refine' L2.cls_mk a_Rate ?_ ?_ ?_ ?_
      all_goals k_is
    have clE_Late := by
      refine' L2.cls_mk a_Late ?_ ?_ ?_ ?_
      all_goals k_is
    have clE_Still := by
      refine' L2.cls_mk a_Still ?_ ?_ ?_ ?_
      all_goals k_is
    have clE_Entry := by
      refine' L2.cls_mk a_Entry ?_ ?_ ?_ ?_
      all_goals k_is
    have naE_amount_Out := by
      refine' L2.fi_mk (name := "amount") a_Out ?_
      k_is
    have naE_amount_Fee := by
      refine' L2.fi_mk (name := "amount") a_Fee ?_
      k_is
    have naE_amount_Pay := by
      refine' L2.fi_mk (name := "amount") a_Pay ?_
      k_is
    have naE_amount_Due := by
      refine' L2.fi_mk (name := "amount") a_Due ?_
      k_is
    have naE_amount_Turn := by
      refine' L2.fi_mk (name := "amount") a_Turn ?_
      k_is
    have naE_amount_Rate := by
      refine' L2.fi_mk (name := "amount") a_Rate ?_
      k_is
    have naE_amount_Late := by
      refine' L2.fi_mk (name := "amount") a_Late ?_
      k_is
    have naE_amount_Still := by
      refine' L2.fi_mk (name := "amount") a_Still ?_
      k_is
    have naE_amount_Entry := by
      refine' L2.fi_mk (name := "amount") a_Entry ?_
      k_is
    have naE_day_Out := by
      refine' L2.fi_mk (name := "day") a_Out ?_
      k_is
    have naE_day_Fee := by
      refine' L2.fi_mk (name := "day") a_Fee ?_
      k_is
    have naE_day_Pay := by
      refine' L2.fi_mk (name := "day") a_Pay ?_
      k_is
    have naE_day_Due := by
      refine' L2.fi_mk (name := "day") a_Due ?_
      k_is
    have naE_day_Turn := by
      refine' L2.fi_mk (name := "day") a_Turn ?_
      k_is
    have naE_day_Rate := by
      refine' L2.fi_mk (name := "day") a_Rate ?_
      k_is
    have naE_day_Late := by
      refine' L2.fi_mk (name := "day") a_Late ?_
      k_is
    have naE_day_Still := by
      refine' L2.fi_mk (name := "day") a_Still ?_
      k_is
    have naE_day_Entry := by
      refine' L2.fi_mk (name := "day") a_Entry ?_
      k_is
    have naE_rate_Out := by
      refine' L2.fi_mk (name := "rate") a_Out ?_
      k_is
    have naE_rate_Fee := by
      refine' L2.fi_mk (name := "rate") a_Fee ?_
      k_is
    have naE_rate_Pay := by
      refine' L2.fi_mk (name := "rate") a_Pay ?_
      k_is
    have naE_rate_Due := by
      refine' L2.fi_mk (name := "rate") a_Due ?_
      k_is
    have naE_rate_Turn := by
      refine' L2.fi_mk (name := "rate") a_Turn ?_
      k_is
    have naE_rate_Rate := by
      refine' L2.fi_mk (name := "rate") a_Rate ?_
      k_is
    have naE_rate_Late := by
      refine' L2.fi_mk (name := "rate") a_Late ?_
      k_is
    have naE_rate_Still := by
      refine' L2.fi_mk (name := "rate") a_Still ?_
      k_is
    have naE_rate_Entry := by
      refine' L2.fi_mk (name := "rate") a_Entry ?_
      k_is
    have naE_until_Out := by
      refine' L2.fi_mk (name := "until") a_Out ?_
      k_is
    have naE_until_Fee := by
      refine' L2.fi_mk (name := "until") a_Fee ?_
      k_is
    have naE_until_Pay := by
      refine' L2.fi_mk (name := "until") a_Pay ?_
      k_is
    have naE_until_Due := by
      refine' L2.fi_mk (name := "until") a_Due ?_
      k_is
    have naE_until_Turn := by
      refine' L2.fi_mk (name := "until") a_Turn ?_
      k_is
    have naE_until_Rate := by
      refine' L2.fi_mk (name := "until") a_Rate ?_
      k_is
    have naE_until_Late := by
      refine' L2.fi_mk (name := "until") a_Late ?_
      k_is
    have naE_until_Still := by
      refine' L2.fi_mk (name := "until") a_Still ?_
      k_is
    have naE_until_Entry := by
      refine' L2.fi_mk (name := "until") a_Entry ?_
      k_is
    have mi_Due := by
      refine' L2.mki_mk a_Due ?_ ?_
      all_goals k_is
    have mi_Fee := by
      refine' L2.mki_mk a_Fee ?_ ?_
      all_goals k_is
    have mi_Late := by
      refine' L2.mki_mk a_Late ?_ ?_
      all_goals k_is
    have mi_Out := by
      refine' L2.mki_mk a_Out ?_ ?_
      all_goals k_is
    have mi_Pay := by
      refine' L2.mki_mk a_Pay ?_ ?_
      all_goals k_is
    have mi_Rate := by
      refine' L2.mki_mk a_Rate ?_ ?_
      all_goals k_is
    have mi_Still := by
      refine' L2.mki_mk a_Still ?_ ?_
      all_goals k_is
    have mi_Turn := by
      refine' L2.mki_mk a_Turn ?_ ?_
      all_goals k_is
    have ikE_Out := by
      refine' L2.insk_mk a_Out ?_ ?_ ?_ ?_
      all_goals k_is
    have ikE_Fee := by
      refine' L2.insk_mk a_Fee ?_ ?_ ?_ ?_
      all_goals k_is
    have ikE_Pay := by
      refine' L2.insk_mk a_Pay ?_ ?_ ?_ ?_
      all_goals k_is
    have ikE_Due := by
      refine' L2.insk_mk a_Due ?_ ?_ ?_ ?_
      all_goals k_is
    have ikE_Turn := by
      refine' L2.insk_mk a_Turn ?_ ?_ ?_ ?_
      all_goals k_is
    have ikE_Rate := by
      refine' L2.insk_mk a_Rate ?_ ?_ ?_ ?_
      all_goals k_is
    have ikE_Late := by
      refine' L2.insk_mk a_Late ?_ ?_ ?_ ?_
      all_goals k_is
    have ikE_Still := by
      refine' L2.insk_mk a_Still ?_ ?_ ?_ ?_
      all_goals k_is
    have ikE_Entry := by
      refine' L2.insk_mk a_Entry ?_ ?_ ?_ ?_
      all_goals k_is
    have kE_Out_Out := by
      refine' L2.kit_mk (v := true) a_Out a_Out ?_
      kit_is
    have kE_Out_Fee := by
      refine' L2.kit_mk (v := false) a_Out a_Fee ?_
      kit_is
    have kE_Out_Pay := by
      refine' L2.kit_mk (v := false) a_Out a_Pay ?_
      kit_is
    have kE_Out_Due := by
      refine' L2.kit_mk (v := false) a_Out a_Due ?_
      kit_is
    have kE_Out_Turn := by
      refine' L2.kit_mk (v := false) a_Out a_Turn ?_
      kit_is
    have kE_Out_Rate := by
      refine' L2.kit_mk (v := false) a_Out a_Rate ?_
      kit_is
    have kE_Out_Late := by
      refine' L2.kit_mk (v := false) a_Out a_Late ?_
      kit_is
    have kE_Out_Still := by
      refine' L2.kit_mk (v := false) a_Out a_Still ?_
      kit_is
    have kE_Out_Entry := by
      refine' L2.kit_mk (v := true) a_Out a_Entry ?_
      kit_is
    have kE_Fee_Out := by
      refine' L2.kit_mk (v := false) a_Fee a_Out ?_
      kit_is
    have kE_Fee_Fee := by
      refine' L2.kit_mk (v := true) a_Fee a_Fee ?_
      kit_is
    have kE_Fee_Pay := by
      refine' L2.kit_mk (v := false) a_Fee a_Pay ?_
      kit_is
    have kE_Fee_Due := by
      refine' L2.kit_mk (v := false) a_Fee a_Due ?_
      kit_is
    have kE_Fee_Turn := by
      refine' L2.kit_mk (v := false) a_Fee a_Turn ?_
      kit_is
    have kE_Fee_Rate := by
      refine' L2.kit_mk (v := false) a_Fee a_Rate ?_
      kit_is
    have kE_Fee_Late := by
      refine' L2.kit_mk (v := false) a_Fee a_Late ?_
      kit_is
    have kE_Fee_Still := by
      refine' L2.kit_mk (v := false) a_Fee a_Still ?_
      kit_is
    have kE_Fee_Entry := by
      refine' L2.kit_mk (v := true) a_Fee a_Entry ?_
      kit_is
    have kE_Pay_Out := by
      refine' L2.kit_mk (v := false) a_Pay a_Out ?_
      kit_is
    have kE_Pay_Fee := by
      refine' L2.kit_mk (v := false) a_Pay a_Fee ?_
      kit_is
    have kE_Pay_Pay := by
      refine' L2.kit_mk (v := true) a_Pay a_Pay ?_
      kit_is
    have kE_Pay_Due := by
      refine' L2.kit_mk (v := false) a_Pay a_Due ?_
      kit_is
    have kE_Pay_Turn := by
      refine' L2.kit_mk (v := false) a_Pay a_Turn ?_
      kit_is
    have kE_Pay_Rate := by
      refine' L2.kit_mk (v := false) a_Pay a_Rate ?_
      kit_is
    have kE_Pay_Late := by
      refine' L2.kit_mk (v := false) a_Pay a_Late ?_
      kit_is
    have kE_Pay_Still := by
      refine' L2.kit_mk (v := false) a_Pay a_Still ?_
      kit_is
    have kE_Pay_Entry := by
      refine' L2.kit_mk (v := true) a_Pay a_Entry ?_
      kit_is
    have kE_Due_Out := by
      refine' L2.kit_mk (v := false) a_Due a_Out ?_
      kit_is
    have kE_Due_Fee := by
      refine' L2.kit_mk (v := false) a_Due a_Fee ?_
      kit_is
    have kE_Due_Pay := by
      refine' L2.kit_mk (v := false) a_Due a_Pay ?_
      kit_is
    have kE_Due_Due := by
      refine' L2.kit_mk (v := true) a_Due a_Due ?_
      kit_is
    have kE_Due_Turn := by
      refine' L2.kit_mk (v := false) a_Due a_Turn ?_
      kit_is
    have kE_Due_Rate := by
      refine' L2.kit_mk (v := false) a_Due a_Rate ?_
      kit_is
    have kE_Due_Late := by
      refine' L2.kit_mk (v := false) a_Due a_Late ?_
      kit_is
    have kE_Due_Still := by
      refine' L2.kit_mk (v := false) a_Due a_Still ?_
      kit_is
    have kE_Due_Entry := by
      refine' L2.kit_mk (v := true) a_Due a_Entry ?_
      kit_is
    have kE_Turn_Out := by
      refine' L2.kit_mk (v := false) a_Turn a_Out ?_
      kit_is
    have kE_Turn_Fee := by
      refine' L2.kit_mk (v := false) a_Turn a_Fee ?_
      kit_is
    have kE_Turn_Pay := by
      refine' L2.kit_mk (v := false) a_Turn a_Pay ?_
      kit_is
    have kE_Turn_Due := by
      refine' L2.kit_mk (v := false) a_Turn a_Due ?_
      kit_is
    have kE_Turn_Turn := by
      refine' L2.kit_mk (v := true) a_Turn a_Turn ?_
      kit_is
    have kE_Turn_Rate := by
      refine' L2.kit_mk (v := false) a_Turn a_Rate ?_
      kit_is
    have kE_Turn_Late := by
      refine' L2.kit_mk (v := false) a_Turn a_Late ?_
      kit_is
    have kE_Turn_Still := by
      refine' L2.kit_mk (v := false) a_Turn a_Still ?_
      kit_is
    have kE_Turn_Entry := by
      refine' L2.kit_mk (v := true) a_Turn a_Entry ?_
      kit_is
    have kE_Rate_Out := by
      refine' L2.kit_mk (v := false) a_Rate a_Out ?_
      kit_is
    have kE_Rate_Fee := by
      refine' L2.kit_mk (v := false) a_Rate a_Fee ?_
      kit_is
    have kE_Rate_Pay := by
      refine' L2.kit_mk (v := false) a_Rate a_Pay ?_
      kit_is
    have kE_Rate_Due := by
      refine' L2.kit_mk (v := false) a_Rate a_Due ?_
      kit_is
    have kE_Rate_Turn := by
      refine' L2.kit_mk (v := false) a_Rate a_Turn ?_
      kit_is
    have kE_Rate_Rate := by
      refine' L2.kit_mk (v := true) a_Rate a_Rate ?_
      kit_is
    have kE_Rate_Late := by
      refine' L2.kit_mk (v := false) a_Rate a_Late ?_
      kit_is
    have kE_Rate_Still := by
      refine' L2.kit_mk (v := false) a_Rate a_Still ?_
      kit_is
    have kE_Rate_Entry := by
      refine' L2.kit_mk (v := true) a_Rate a_Entry ?_
      kit_is
    have kE_Late_Out := by
      refine' L2.kit_mk (v := false) a_Late a_Out ?_
      kit_is
    have kE_Late_Fee := by
      refine' L2.kit_mk (v := false) a_Late a_Fee ?_
      kit_is
    have kE_Late_Pay := by
      refine' L2.kit_mk (v := false) a_Late a_Pay ?_
      kit_is
    have kE_Late_Due := by
      refine' L2.kit_mk (v := false) a_Late a_Due ?_
      kit_is
    have kE_Late_Turn := by
      refine' L2.kit_mk (v := false) a_Late a_Turn ?_
      kit_is
    have kE_Late_Rate := by
      refine' L2.kit_mk (v := false) a_Late a_Rate ?_
      kit_is
    have kE_Late_Late := by
      refine' L2.kit_mk (v := true) a_Late a_Late ?_
      kit_is
    have kE_Late_Still := by
      refine' L2.kit_mk (v := false) a_Late a_Still ?_
      kit_is
    have kE_Late_Entry := by
      refine' L2.kit_mk (v := true) a_Late a_Entry ?_
      kit_is
    have kE_Still_Out := by
      refine' L2.kit_mk (v := false) a_Still a_Out ?_
      kit_is
    have kE_Still_Fee := by
      refine' L2.kit_mk (v := false) a_Still a_Fee ?_
      kit_is
    have kE_Still_Pay := by
      refine' L2.kit_mk (v := false) a_Still a_Pay ?_
      kit_is
    have kE_Still_Due := by
      refine' L2.kit_mk (v := false) a_Still a_Due ?_
      kit_is
    have kE_Still_Turn := by
      refine' L2.kit_mk (v := false) a_Still a_Turn ?_
      kit_is
    have kE_Still_Rate := by
      refine' L2.kit_mk (v := false) a_Still a_Rate ?_
      kit_is
    have kE_Still_Late := by
      refine' L2.kit_mk (v := false) a_Still a_Late ?_
      kit_is
    have kE_Still_Still := by
      refine' L2.kit_mk (v := true) a_Still a_Still ?_
      kit_is
    have kE_Still_Entry := by
      refine' L2.kit_mk (v := true) a_Still a_Entry ?_
      kit_is
    have kE_Entry_Out := by
      refine' L2.kit_mk (v := false) a_Entry a_Out ?_
      kit_is
    have kE_Entry_Fee := by
      refine' L2.kit_mk (v := false) a_Entry a_Fee ?_
      kit_is
    have kE_Entry_Pay := by
      refine' L2.kit_mk (v := false) a_Entry a_Pay ?_
      kit_is
    have kE_Entry_Due := by
      refine' L2.kit_mk (v := false) a_Entry a_Due ?_
      kit_is
    have kE_Entry_Turn := by
      refine' L2.kit_mk (v := false) a_Entry a_Turn ?_
      kit_is
    have kE_Entry_Rate := by
      refine' L2.kit_mk (v := false) a_Entry a_Rate ?_
      kit_is
    have kE_Entry_Late := by
      refine' L2.kit_mk (v := false) a_Entry a_Late ?_
      kit_is
    have kE_Entry_Still := by
      refine' L2.kit_mk (v := false) a_Entry a_Still ?_
      kit_is
    have kE_Entry_Entry := by
      refine' L2.kit_mk (v := true) a_Entry a_Entry ?_
      kit_is
    have S_e_out_word := by
      refine' L2.meth_mk (m := "word") (qual := "Out.word") (st := My.s_Out_word) (ps := ["self"]) a_Out ?xi ?xf ?xk ?xl ?xc ?xb
      (case xi => k_is); (case xf => k_is); (case xk => k_is); (case xl => k_is); (case xc => k_is)
      (case xb => exact L2.us1 (fun _ => rfl))
    have S_e_fee_word := by
      refine' L2.meth_mk (m := "word") (qual := "Fee.word") (st := My.s_Fee_word) (ps := ["self"]) a_Fee ?xi ?xf ?xk ?xl ?xc ?xb
      (case xi => k_is); (case xf => k_is); (case xk => k_is); (case xl => k_is); (case xc => k_is)
      (case xb => exact L2.us1 (fun _ => rfl))
    have S_e_pay_word := by
      refine' L2.meth_mk (m := "word") (qual := "Pay.word") (st := My.s_Pay_word) (ps := ["self"]) a_Pay ?xi ?xf ?xk ?xl ?xc ?xb
      (case xi => k_is); (case xf => k_is); (case xk => k_is); (case xl => k_is); (case xc => k_is)
      (case xb => exact L2.us1 (fun _ => rfl))
    have S_e_due_word := by
      refine' L2.meth_mk (m := "word") (qual := "Due.word") (st := My.s_Due_word) (ps := ["self"]) a_Due ?xi ?xf ?xk ?xl ?xc ?xb
      (case xi => k_is); (case xf => k_is); (case xk => k_is); (case xl => k_is); (case xc => k_is)
      (case xb => exact L2.us1 (fun _ => rfl))
    have S_e_turn_word := by
      refine' L2.meth_mk (m := "word") (qual := "Turn.word") (st := My.s_Turn_word) (ps := ["self"]) a_Turn ?xi ?xf ?xk ?xl ?xc ?xb
      (case xi => k_is); (case xf => k_is); (case xk => k_is); (case xl => k_is); (case xc => k_is)
      (case xb => exact L2.us1 (fun _ => rfl))
    have S_e_rate_word := by
      refine' L2.meth_mk (m := "word") (qual := "Rate.word") (st := My.s_Rate_word) (ps := ["self"]) a_Rate ?xi ?xf ?xk ?xl ?xc ?xb
      (case xi => k_is); (case xf => k_is); (case xk => k_is); (case xl => k_is); (case xc => k_is)
      (case xb => exact L2.us1 (fun _ => rfl))
    have S_e_late_word := by
      refine' L2.meth_mk (m := "word") (qual := "Late.word") (st := My.s_Late_word) (ps := ["self"]) a_Late ?xi ?xf ?xk ?xl ?xc ?xb
      (case xi => k_is); (case xf => k_is); (case xk => k_is); (case xl => k_is); (case xc => k_is)
      (case xb => exact L2.us1 (fun _ => rfl))
    have S_e_still_word := by
      refine' L2.meth_mk (m := "word") (qual := "Still.word") (st := My.s_Still_word) (ps := ["self"]) a_Still ?xi ?xf ?xk ?xl ?xc ?xb
      (case xi => k_is); (case xf => k_is); (case xk => k_is); (case xl => k_is); (case xc => k_is)
      (case xb => exact L2.us1 (fun _ => rfl))
    have S_e_base_word := by
      refine' L2.meth_mk (m := "word") (qual := "Entry.word") (st := My.s_Entry_word) (ps := ["self"]) a_Entry ?xi ?xf ?xk ?xl ?xc ?xb
      (case xi => k_is); (case xf => k_is); (case xk => k_is); (case xl => k_is); (case xc => k_is)
      (case xb => exact L2.us1 (fun _ => rfl))
    have S_e_out_row := by
      refine' L2.meth_mk (m := "row") (qual := "AmountEntry.row") (st := My.s_AmountEntry_row) (ps := ["self"]) a_Out ?xi ?xf ?xk ?xl ?xc ?xb
      (case xi => k_is); (case xf => k_is); (case xk => k_is); (case xl => k_is); (case xc => k_is)
      (case xb => exact L2.us1 (fun _ => rfl))
    have S_e_fee_row := by
      refine' L2.meth_mk (m := "row") (qual := "AmountEntry.row") (st := My.s_AmountEntry_row) (ps := ["self"]) a_Fee ?xi ?xf ?xk ?xl ?xc ?xb
      (case xi => k_is); (case xf => k_is); (case xk => k_is); (case xl => k_is); (case xc => k_is)
      (case xb => exact L2.us1 (fun _ => rfl))
    have S_e_pay_row := by
      refine' L2.meth_mk (m := "row") (qual := "AmountEntry.row") (st := My.s_AmountEntry_row) (ps := ["self"]) a_Pay ?xi ?xf ?xk ?xl ?xc ?xb
      (case xi => k_is); (case xf => k_is); (case xk => k_is); (case xl => k_is); (case xc => k_is)
      (case xb => exact L2.us1 (fun _ => rfl))
    have S_e_due_row := by
      refine' L2.meth_mk (m := "row") (qual := "AmountEntry.row") (st := My.s_AmountEntry_row) (ps := ["self"]) a_Due ?xi ?xf ?xk ?xl ?xc ?xb
      (case xi => k_is); (case xf => k_is); (case xk => k_is); (case xl => k_is); (case xc => k_is)
      (case xb => exact L2.us1 (fun _ => rfl))
    have S_e_turn_row := by
      refine' L2.meth_mk (m := "row") (qual := "Entry.row") (st := My.s_Entry_row) (ps := ["self"]) a_Turn ?xi ?xf ?xk ?xl ?xc ?xb
      (case xi => k_is); (case xf => k_is); (case xk => k_is); (case xl => k_is); (case xc => k_is)
      (case xb => exact L2.us1 (fun _ => rfl))
    have S_e_rate_row := by
      refine' L2.meth_mk (m := "row") (qual := "RateEntry.row") (st := My.s_RateEntry_row) (ps := ["self"]) a_Rate ?xi ?xf ?xk ?xl ?xc ?xb
      (case xi => k_is); (case xf => k_is); (case xk => k_is); (case xl => k_is); (case xc => k_is)
      (case xb => exact L2.us1 (fun _ => rfl))
    have S_e_late_row := by
      refine' L2.meth_mk (m := "row") (qual := "RateEntry.row") (st := My.s_RateEntry_row) (ps := ["self"]) a_Late ?xi ?xf ?xk ?xl ?xc ?xb
      (case xi => k_is); (case xf => k_is); (case xk => k_is); (case xl => k_is); (case xc => k_is)
      (case xb => exact L2.us1 (fun _ => rfl))
    have S_e_still_row := by
      refine' L2.meth_mk (m := "row") (qual := "Still.row") (st := My.s_Still_row) (ps := ["self"]) a_Still ?xi ?xf ?xk ?xl ?xc ?xb
      (case xi => k_is); (case xf => k_is); (case xk => k_is); (case xl => k_is); (case xc => k_is)
      (case xb => exact L2.us1 (fun _ => rfl))
    have S_e_base_row := by
      refine' L2.meth_mk (m := "row") (qual := "Entry.row") (st := My.s_Entry_row) (ps := ["self"]) a_Entry ?xi ?xf ?xk ?xl ?xc ?xb
      (case xi => k_is); (case xf => k_is); (case xk => k_is); (case xl => k_is); (case xc => k_is)
      (case xb => exact L2.us1 (fun _ => rfl))
    have S_init_Due := by
      refine' L2.meth_mk (m := "__init__") (qual := "AmountEntry.__init__") (st := My.s_AmountEntry_init) (ps := ["self", "day", "amount"]) a_Due ?xi ?xf ?xk ?xl ?xc ?xb
      (case xi => k_is); (case xf => k_is); (case xk => k_is); (case xl => k_is); (case xc => k_is)
      (case xb => exact L2.us3 (fun _ _ _ => rfl))
    have S_init_Fee := by
      refine' L2.meth_mk (m := "__init__") (qual := "AmountEntry.__init__") (st := My.s_AmountEntry_init) (ps := ["self", "day", "amount"]) a_Fee ?xi ?xf ?xk ?xl ?xc ?xb
      (case xi => k_is); (case xf => k_is); (case xk => k_is); (case xl => k_is); (case xc => k_is)
      (case xb => exact L2.us3 (fun _ _ _ => rfl))
    have S_init_Late := by
      refine' L2.meth_mk (m := "__init__") (qual := "RateEntry.__init__") (st := My.s_RateEntry_init) (ps := ["self", "day", "rate"]) a_Late ?xi ?xf ?xk ?xl ?xc ?xb
      (case xi => k_is); (case xf => k_is); (case xk => k_is); (case xl => k_is); (case xc => k_is)
      (case xb => exact L2.us3 (fun _ _ _ => rfl))
    have S_init_Out := by
      refine' L2.meth_mk (m := "__init__") (qual := "AmountEntry.__init__") (st := My.s_AmountEntry_init) (ps := ["self", "day", "amount"]) a_Out ?xi ?xf ?xk ?xl ?xc ?xb
      (case xi => k_is); (case xf => k_is); (case xk => k_is); (case xl => k_is); (case xc => k_is)
      (case xb => exact L2.us3 (fun _ _ _ => rfl))
    have S_init_Pay := by
      refine' L2.meth_mk (m := "__init__") (qual := "AmountEntry.__init__") (st := My.s_AmountEntry_init) (ps := ["self", "day", "amount"]) a_Pay ?xi ?xf ?xk ?xl ?xc ?xb
      (case xi => k_is); (case xf => k_is); (case xk => k_is); (case xl => k_is); (case xc => k_is)
      (case xb => exact L2.us3 (fun _ _ _ => rfl))
    have S_init_Rate := by
      refine' L2.meth_mk (m := "__init__") (qual := "RateEntry.__init__") (st := My.s_RateEntry_init) (ps := ["self", "day", "rate"]) a_Rate ?xi ?xf ?xk ?xl ?xc ?xb
      (case xi => k_is); (case xf => k_is); (case xk => k_is); (case xl => k_is); (case xc => k_is)
      (case xb => exact L2.us3 (fun _ _ _ => rfl))
    have S_init_Still := by
      refine' L2.meth_mk (m := "__init__") (qual := "Still.__init__") (st := My.s_Still_init) (ps := ["self", "day", "until"]) a_Still ?xi ?xf ?xk ?xl ?xc ?xb
      (case xi => k_is); (case xf => k_is); (case xk => k_is); (case xl => k_is); (case xc => k_is)
      (case xb => exact L2.us3 (fun _ _ _ => rfl))
    have S_init_Turn := by
      refine' L2.meth_mk (m := "__init__") (qual := "Entry.__init__") (st := My.s_Entry_init) (ps := ["self", "day"]) a_Turn ?xi ?xf ?xk ?xl ?xc ?xb
      (case xi => k_is); (case xf => k_is); (case xk => k_is); (case xl => k_is); (case xc => k_is)
      (case xb => exact L2.us2 (fun _ _ => rfl))
    have S_U_Entry_init := by
      refine' L2.unb_mk (m := "__init__") (qual := "Entry.__init__") (st := My.s_Entry_init) (ps := ["self", "day"]) a_Entry ?x1 ?x2 ?x3 ?x4 ?xk ?xl ?xc ?xb
      (case x1 => k_is); (case x2 => k_is); (case x3 => k_is); (case x4 => rfl); (case xk => k_is); (case xl => k_is); (case xc => k_is)
      (case xb => exact L2.us2 (fun _ _ => rfl))
    have na_Roll_deeds := by
      refine' L2.fi_mk (name := "deeds") a_Roll ?_
      k_is
    have na_Roll_own_count := by
      refine' L2.fi_mk (name := "own_count") a_Roll ?_
      k_is
    have na_Roll_own_grace := by
      refine' L2.fi_mk (name := "own_grace") a_Roll ?_
      k_is
    have S_Roll_keep := by
      refine' L2.meth_mk (m := "keep") (qual := "Roll.keep") (st := My.s_Roll_keep) (ps := ["self", "known", "number", "entry"]) a_Roll ?xi ?xf ?xk ?xl ?xc ?xb
      (case xi => k_is); (case xf => k_is); (case xk => k_is); (case xl => k_is); (case xc => k_is)
      (case xb => exact L2.us4 (fun _ _ _ _ => rfl))
    have S_Roll_standing := by
      refine' L2.meth_mk (m := "standing") (qual := "Roll.standing") (st := My.s_Roll_standing) (ps := ["self", "known"]) a_Roll ?xi ?xf ?xk ?xl ?xc ?xb
      (case xi => k_is); (case xf => k_is); (case xk => k_is); (case xl => k_is); (case xc => k_is)
      (case xb => exact L2.us2 (fun _ _ => rfl))
    have S_Roll_check_known := by
      refine' L2.meth_mk (m := "check_known") (qual := "Roll.check_known") (st := My.s_Roll_check_known) (ps := ["self", "known"]) a_Roll ?xi ?xf ?xk ?xl ?xc ?xb
      (case xi => k_is); (case xf => k_is); (case xk => k_is); (case xl => k_is); (case xc => k_is)
      (case xb => exact L2.us2 (fun _ _ => rfl))
    have S_Roll_init := by
      refine' L2.meth_mk (m := "__init__") (qual := "Roll.__init__") (st := My.s_Roll_init) (ps := ["self", "count", "grace"]) a_Roll ?xi ?xf ?xk ?xl ?xc ?xb
      (case xi => k_is); (case xf => k_is); (case xk => k_is); (case xl => k_is); (case xc => k_is)
      (case xb => exact L2.us3 (fun _ _ _ => rfl))
    have S_Roll_strike := by
      refine' L2.meth_mk (m := "strike") (qual := "Roll.strike") (st := My.s_Roll_strike) (ps := ["self", "known", "number"]) a_Roll ?xi ?xf ?xk ?xl ?xc ?xb
      (case xi => k_is); (case xf => k_is); (case xk => k_is); (case xl => k_is); (case xc => k_is)
      (case xb => exact L2.us3 (fun _ _ _ => rfl))
    have S_Roll_put := by
      refine' L2.meth_mk (m := "put") (qual := "Roll.put") (st := My.s_Roll_put) (ps := ["self", "known", "number", "entry"]) a_Roll ?xi ?xf ?xk ?xl ?xc ?xb
      (case xi => k_is); (case xf => k_is); (case xk => k_is); (case xl => k_is); (case xc => k_is)
      (case xb => exact L2.us4 (fun _ _ _ _ => rfl))
    have g_LAST_DAY := by
      refine' L2.gint_mk (mg := mg) (x := "LAST_DAY") (i := 999999) KX G ?a
      (case a => k_is)
    have g_MOST_AMOUNT := by
      refine' L2.gint_mk (mg := mg) (x := "MOST_AMOUNT") (i := 1000000000000) KX G ?a
      (case a => k_is)
    have g_MOST_DEEDS := by
      refine' L2.gint_mk (mg := mg) (x := "MOST_DEEDS") (i := 500) KX G ?a
      (case a => k_is)
    have g_MOST_GRACE := by
      refine' L2.gint_mk (mg := mg) (x := "MOST_GRACE") (i := 366) KX G ?a
      (case a => k_is)
    have g_MOST_NUMBER := by
      refine' L2.gint_mk (mg := mg) (x := "MOST_NUMBER") (i := 1000000000) KX G ?a
      (case a => k_is)
    have g_MOST_RATE := by
      refine' L2.gint_mk (mg := mg) (x := "MOST_RATE") (i := 1000000) KX G ?a
      (case a => k_is)
    have g_WORDS := by
      refine' L2.gtup_mk (mg := mg) (x := "WORDS") (xs := [.str "out", .str "fee", .str "turn", .str "pay", .str "due", .str "rate", .str "late", .str "still"]) KX G ?a ?l ?r ?z
      (case a => k_is); (case l => k_is)
      (case r => repeat (first | exact .nil | refine .cons ⟨_, rfl⟩ ?_))
      (case z => decide)
    have S_is_whole := by
      refine' L2.src_mk (mg := mg) (x := "is_whole") (st := My.s_is_whole) (ps := ["thing"]) KX G ?a ?l ?c ?k ?b
      (case a => k_is); (case l => k_is); (case c => k_is); (case k => k_is)
      (case b => exact L2.us1 (fun _ => rfl))
    have S_has_form := by
      refine' L2.src_mk (mg := mg) (x := "has_form") (st := My.s_has_form) (ps := ["row"]) KX G ?a ?l ?c ?k ?b
      (case a => k_is); (case l => k_is); (case c => k_is); (case k => k_is)
      (case b => exact L2.us1 (fun _ => rfl))
    have S__law_draw := by
      refine' L2.src_mk (mg := mg) (x := "_law_draw") (st := My.s__law_draw) (ps := ["_law_script", "_law_k", "_law_many"]) KX G ?a ?l ?c ?k ?b
      (case a => k_is); (case l => k_is); (case c => k_is); (case k => k_is)
      (case b => exact L2.us3 (fun _ _ _ => rfl))
    have S__law_draws := by
      refine' L2.src_mk (mg := mg) (x := "_law_draws") (st := My.s__law_draws) (ps := ["_law_cell_here", "_law_many"]) KX G ?a ?l ?c ?k ?b
      (case a => k_is); (case l => k_is); (case c => k_is); (case k => k_is)
      (case b => exact L2.us2 (fun _ _ => rfl))
    have S__law_whole := by
      refine' L2.src_mk (mg := mg) (x := "_law_whole") (st := My.s__law_whole) (ps := ["_law_found"]) KX G ?a ?l ?c ?k ?b
      (case a => k_is); (case l => k_is); (case c => k_is); (case k => k_is)
      (case b => exact L2.us1 (fun _ => rfl))
    have S__law_stands := by
      refine' L2.src_mk (mg := mg) (x := "_law_stands") (st := My.s__law_stands) (ps := ["_law_deeds_here", "_law_known"]) KX G ?a ?l ?c ?k ?b
      (case a => k_is); (case l => k_is); (case c => k_is); (case k => k_is)
      (case b => exact L2.us2 (fun _ _ => rfl))
    have S_is_day := by
      refine' L2.src_mk (mg := mg) (x := "is_day") (st := My.s_is_day) (ps := ["thing"]) KX G ?a ?l ?c ?k ?b
      (case a => k_is); (case l => k_is); (case c => k_is); (case k => k_is)
      (case b => exact L2.us1 (fun _ => rfl))
    have S_count_named := by
      refine' L2.src_mk (mg := mg) (x := "count_named") (st := My.s_count_named) (ps := ["text"]) KX G ?a ?l ?c ?k ?b
      (case a => k_is); (case l => k_is); (case c => k_is); (case k => k_is)
      (case b => exact L2.us1 (fun _ => rfl))
    have S_is_within := by
      refine' L2.src_mk (mg := mg) (x := "is_within") (st := My.s_is_within) (ps := ["thing", "least", "most"]) KX G ?a ?l ?c ?k ?b
      (case a => k_is); (case l => k_is); (case c => k_is); (case k => k_is)
      (case b => exact L2.us3 (fun _ _ _ => rfl))
    have S__law_cell := by
      refine' L2.src_mk (mg := mg) (x := "_law_cell") (st := My.s__law_cell) (ps := ["_law_script", "_law_k"]) KX G ?a ?l ?c ?k ?b
      (case a => k_is); (case l => k_is); (case c => k_is); (case k => k_is)
      (case b => exact L2.us2 (fun _ _ => rfl))
    have S__law_pick := by
      refine' L2.src_mk (mg := mg) (x := "_law_pick") (st := My.s__law_pick) (ps := ["_law_cell_here", "_law_by", "_law_many"]) KX G ?a ?l ?c ?k ?b
      (case a => k_is); (case l => k_is); (case c => k_is); (case k => k_is)
      (case b => exact L2.us3 (fun _ _ _ => rfl))
    have S__law_base := by
      refine' L2.src_mk (mg := mg) (x := "_law_base") (st := My.s__law_base) (ps := ["_law_script"]) KX G ?a ?l ?c ?k ?b
      (case a => k_is); (case l => k_is); (case c => k_is); (case k => k_is)
      (case b => exact L2.us1 (fun _ => rfl))
    have S__law_grace := by
      refine' L2.src_mk (mg := mg) (x := "_law_grace") (st := My.s__law_grace) (ps := ["_law_script"]) KX G ?a ?l ?c ?k ?b
      (case a => k_is); (case l => k_is); (case c => k_is); (case k => k_is)
      (case b => exact L2.us1 (fun _ => rfl))
    have S__law_again := by
      refine' L2.src_mk (mg := mg) (x := "_law_again") (st := My.s__law_again) (ps := ["_law_script", "_law_deeds_here"]) KX G ?a ?l ?c ?k ?b
      (case a => k_is); (case l => k_is); (case c => k_is); (case k => k_is)
      (case b => exact L2.us2 (fun _ _ => rfl))
    have S__law_due := by
      refine' L2.src_mk (mg := mg) (x := "_law_due") (st := My.s__law_due) (ps := ["_law_deeds_here", "_law_one", "_law_other"]) KX G ?a ?l ?c ?k ?b
      (case a => k_is); (case l => k_is); (case c => k_is); (case k => k_is)
      (case b => exact L2.us3 (fun _ _ _ => rfl))
    have S_is_third := by
      refine' L2.src_mk (mg := mg) (x := "is_third") (st := My.s_is_third) (ps := ["word", "day", "thing"]) KX G ?a ?l ?c ?k ?b
      (case a => k_is); (case l => k_is); (case c => k_is); (case k => k_is)
      (case b => exact L2.us3 (fun _ _ _ => rfl))
    have S_check_terms := by
      refine' L2.src_mk (mg := mg) (x := "check_terms") (st := My.s_check_terms) (ps := ["count", "grace"]) KX G ?a ?l ?c ?k ?b
      (case a => k_is); (case l => k_is); (case c => k_is); (case k => k_is)
      (case b => exact L2.us2 (fun _ _ => rfl))
    have S_rows_by_number := by
      refine' L2.src_mk (mg := mg) (x := "rows_by_number") (st := My.s_rows_by_number) (ps := ["roll", "known"]) KX G ?a ?l ?c ?k ?b
      (case a => k_is); (case l => k_is); (case c => k_is); (case k => k_is)
      (case b => exact L2.us2 (fun _ _ => rfl))
    have S_check_number := by
      refine' L2.src_mk (mg := mg) (x := "check_number") (st := My.s_check_number) (ps := ["thing"]) KX G ?a ?l ?c ?k ?b
      (case a => k_is); (case l => k_is); (case c => k_is); (case k => k_is)
      (case b => exact L2.us1 (fun _ => rfl))
    have S__law_row := by
      refine' L2.src_mk (mg := mg) (x := "_law_row") (st := My.s__law_row) (ps := ["_law_cell_here", "_law_base_here"]) KX G ?a ?l ?c ?k ?b
      (case a => k_is); (case l => k_is); (case c => k_is); (case k => k_is)
      (case b => exact L2.us2 (fun _ _ => rfl))
    have S__law_count := by
      refine' L2.src_mk (mg := mg) (x := "_law_count") (st := My.s__law_count) (ps := ["_law_script"]) KX G ?a ?l ?c ?k ?b
      (case a => k_is); (case l => k_is); (case c => k_is); (case k => k_is)
      (case b => exact L2.us1 (fun _ => rfl))
    have S_made := by
      refine' L2.src_mk (mg := mg) (x := "made") (st := My.s_made) (ps := ["word", "day", "thing"]) KX G ?a ?l ?c ?k ?b
      (case a => k_is); (case l => k_is); (case c => k_is); (case k => k_is)
      (case b => exact L2.us3 (fun _ _ _ => rfl))
    have S_changed := by
      refine' L2.src_mk (mg := mg) (x := "changed") (st := My.s_changed) (ps := ["roll", "before", "behind"]) KX G ?a ?l ?c ?k ?b
      (case a => k_is); (case l => k_is); (case c => k_is); (case k => k_is)
      (case b => exact L2.us3 (fun _ _ _ => rfl))
    have S__law_made := by
      refine' L2.src_mk (mg := mg) (x := "_law_made") (st := My.s__law_made) (ps := ["_law_row_here"]) KX G ?a ?l ?c ?k ?b
      (case a => k_is); (case l => k_is); (case c => k_is); (case k => k_is)
      (case b => exact L2.us1 (fun _ => rfl))
    have S__law_deeds := by
      refine' L2.src_mk (mg := mg) (x := "_law_deeds") (st := My.s__law_deeds) (ps := ["_law_script", "_law_most"]) KX G ?a ?l ?c ?k ?b
      (case a => k_is); (case l => k_is); (case c => k_is); (case k => k_is)
      (case b => exact L2.us2 (fun _ _ => rfl))
    have S_entry_of := by
      refine' L2.src_mk (mg := mg) (x := "entry_of") (st := My.s_entry_of) (ps := ["row"]) KX G ?a ?l ?c ?k ?b
      (case a => k_is); (case l => k_is); (case c => k_is); (case k => k_is)
      (case b => exact L2.us1 (fun _ => rfl))
    have S_check_entry := by
      refine' L2.src_mk (mg := mg) (x := "check_entry") (st := My.s_check_entry) (ps := ["thing"]) KX G ?a ?l ?c ?k ?b
      (case a => k_is); (case l => k_is); (case c => k_is); (case k => k_is)
      (case b => exact L2.us1 (fun _ => rfl))
    have S__law_came := by
      refine' L2.src_mk (mg := mg) (x := "_law_came") (st := My.s__law_came) (ps := ["_law_roll", "_law_deed"]) KX G ?a ?l ?c ?k ?b
      (case a => k_is); (case l => k_is); (case c => k_is); (case k => k_is)
      (case b => exact L2.us2 (fun _ _ => rfl))
    have S_law := by
      refine' L2.src_mk (mg := mg) (x := "law") (st := My.s_law) (ps := ["_law_script"]) KX G ?a ?l ?c ?k ?b
      (case a => k_is); (case l => k_is); (case c => k_is); (case k => k_is)
      (case b => exact L2.us1 (fun _ => rfl))
    exact ⟨S_law, fun base => My.all_ok (⟨n_all, n_bool, n_dict, n_int, n_isinstance, n_len, n_list, n_max, n_min, n_range, n_set, n_sorted, n_str, n_tuple, (fun kd => match kd with | .plain => cls_Count | .bank => cls_Bank | .thirty => cls_Thirty | .exact => cls_Exact), (fun kd => match kd with | .plain => mk0_Count | .bank => mk0_Bank | .thirty => mk0_Thirty | .exact => mk0_Exact), (fun kd => match kd with | .plain => ikK_Count | .bank => ikK_Bank | .thirty => ikK_Thirty | .exact => ikK_Exact), (fun k c => match k, c with | .plain, .plain => kK_Count_Count | .plain, .bank => kK_Count_Bank | .plain, .thirty => kK_Count_Thirty | .plain, .exact => kK_Count_Exact | .bank, .plain => kK_Bank_Count | .bank, .bank => kK_Bank_Bank | .bank, .thirty => kK_Bank_Thirty | .bank, .exact => kK_Bank_Exact | .thirty, .plain => kK_Thirty_Count | .thirty, .bank => kK_Thirty_Bank | .thirty, .thirty => kK_Thirty_Thirty | .thirty, .exact => kK_Thirty_Exact | .exact, .plain => kK_Exact_Count | .exact, .bank => kK_Exact_Bank | .exact, .thirty => kK_Exact_Thirty | .exact, .exact => kK_Exact_Exact), (fun kd => match kd with | .plain => kS_Count | .bank => kS_Bank | .thirty => kS_Thirty | .exact => kS_Exact), m_Bank, m_Count, m_Due, m_Entry, m_Exact, m_Fee, m_Late, m_Out, m_Pay, m_Rate, m_Roll, m_Still, m_Thirty, m_Turn, cl_Roll, mi_Roll, (fun k => match k with | .out => clE_Out | .fee => clE_Fee | .pay => clE_Pay | .due => clE_Due | .turn => clE_Turn | .rate => clE_Rate | .late => clE_Late | .still => clE_Still | .base => clE_Entry), (fun k => match k with | .out => naE_amount_Out | .fee => naE_amount_Fee | .pay => naE_amount_Pay | .due => naE_amount_Due | .turn => naE_amount_Turn | .rate => naE_amount_Rate | .late => naE_amount_Late | .still => naE_amount_Still | .base => naE_amount_Entry), (fun k => match k with | .out => naE_day_Out | .fee => naE_day_Fee | .pay => naE_day_Pay | .due => naE_day_Due | .turn => naE_day_Turn | .rate => naE_day_Rate | .late => naE_day_Late | .still => naE_day_Still | .base => naE_day_Entry), (fun k => match k with | .out => naE_rate_Out | .fee => naE_rate_Fee | .pay => naE_rate_Pay | .due => naE_rate_Due | .turn => naE_rate_Turn | .rate => naE_rate_Rate | .late => naE_rate_Late | .still => naE_rate_Still | .base => naE_rate_Entry), (fun k => match k with | .out => naE_until_Out | .fee => naE_until_Fee | .pay => naE_until_Pay | .due => naE_until_Due | .turn => naE_until_Turn | .rate => naE_until_Rate | .late => naE_until_Late | .still => naE_until_Still | .base => naE_until_Entry), mi_Due, mi_Fee, mi_Late, mi_Out, mi_Pay, mi_Rate, mi_Still, mi_Turn, (fun k => match k with | .out => ikE_Out | .fee => ikE_Fee | .pay => ikE_Pay | .due => ikE_Due | .turn => ikE_Turn | .rate => ikE_Rate | .late => ikE_Late | .still => ikE_Still | .base => ikE_Entry), (fun k c => match k, c with | .out, .out => kE_Out_Out | .out, .fee => kE_Out_Fee | .out, .pay => kE_Out_Pay | .out, .due => kE_Out_Due | .out, .turn => kE_Out_Turn | .out, .rate => kE_Out_Rate | .out, .late => kE_Out_Late | .out, .still => kE_Out_Still | .out, .base => kE_Out_Entry | .fee, .out => kE_Fee_Out | .fee, .fee => kE_Fee_Fee | .fee, .pay => kE_Fee_Pay | .fee, .due => kE_Fee_Due | .fee, .turn => kE_Fee_Turn | .fee, .rate => kE_Fee_Rate | .fee, .late => kE_Fee_Late | .fee, .still => kE_Fee_Still | .fee, .base => kE_Fee_Entry | .pay, .out => kE_Pay_Out | .pay, .fee => kE_Pay_Fee | .pay, .pay => kE_Pay_Pay | .pay, .due => kE_Pay_Due | .pay, .turn => kE_Pay_Turn | .pay, .rate => kE_Pay_Rate | .pay, .late => kE_Pay_Late | .pay, .still => kE_Pay_Still | .pay, .base => kE_Pay_Entry | .due, .out => kE_Due_Out | .due, .fee => kE_Due_Fee | .due, .pay => kE_Due_Pay | .due, .due => kE_Due_Due | .due, .turn => kE_Due_Turn | .due, .rate => kE_Due_Rate | .due, .late => kE_Due_Late | .due, .still => kE_Due_Still | .due, .base => kE_Due_Entry | .turn, .out => kE_Turn_Out | .turn, .fee => kE_Turn_Fee | .turn, .pay => kE_Turn_Pay | .turn, .due => kE_Turn_Due | .turn, .turn => kE_Turn_Turn | .turn, .rate => kE_Turn_Rate | .turn, .late => kE_Turn_Late | .turn, .still => kE_Turn_Still | .turn, .base => kE_Turn_Entry | .rate, .out => kE_Rate_Out | .rate, .fee => kE_Rate_Fee | .rate, .pay => kE_Rate_Pay | .rate, .due => kE_Rate_Due | .rate, .turn => kE_Rate_Turn | .rate, .rate => kE_Rate_Rate | .rate, .late => kE_Rate_Late | .rate, .still => kE_Rate_Still | .rate, .base => kE_Rate_Entry | .late, .out => kE_Late_Out | .late, .fee => kE_Late_Fee | .late, .pay => kE_Late_Pay | .late, .due => kE_Late_Due | .late, .turn => kE_Late_Turn | .late, .rate => kE_Late_Rate | .late, .late => kE_Late_Late | .late, .still => kE_Late_Still | .late, .base => kE_Late_Entry | .still, .out => kE_Still_Out | .still, .fee => kE_Still_Fee | .still, .pay => kE_Still_Pay | .still, .due => kE_Still_Due | .still, .turn => kE_Still_Turn | .still, .rate => kE_Still_Rate | .still, .late => kE_Still_Late | .still, .still => kE_Still_Still | .still, .base => kE_Still_Entry | .base, .out => kE_Entry_Out | .base, .fee => kE_Entry_Fee | .base, .pay => kE_Entry_Pay | .base, .due => kE_Entry_Due | .base, .turn => kE_Entry_Turn | .base, .rate => kE_Entry_Rate | .base, .late => kE_Entry_Late | .base, .still => kE_Entry_Still | .base, .base => kE_Entry_Entry), na_Roll_deeds, na_Roll_own_count, na_Roll_own_grace, g_LAST_DAY, g_MOST_AMOUNT, g_MOST_DEEDS, g_MOST_GRACE, g_MOST_NUMBER, g_MOST_RATE, g_WORDS⟩ : My.Txt _ mg) S_is_whole S_has_form S__law_draw S__law_draws S__law_whole S__law_stands S_is_day S_count_named S_is_within S__law_cell S__law_pick S__law_base S__law_grace S__law_again S__law_due S_is_third S_check_terms S_rows_by_number S_check_number S__law_row S__law_count S_made S_changed S__law_made S__law_deeds S_entry_of S_check_entry S__law_came S_law S_e_out_word S_e_fee_word S_e_pay_word S_e_due_word S_e_turn_word S_e_rate_word S_e_late_word S_e_still_word S_e_base_word S_e_out_row S_e_fee_row S_e_pay_row S_e_due_row S_e_turn_row S_e_rate_row S_e_late_row S_e_still_row S_e_base_row S_init_Due S_init_Fee S_init_Late S_init_Out S_init_Pay S_init_Rate S_init_Still S_init_Turn S_U_Entry_init S_Roll_keep S_Roll_standing S_Roll_check_known S_Roll_init S_Roll_strike S_Roll_put S_plain_name S_bank_name S_thirty_name S_exact_name⟩

