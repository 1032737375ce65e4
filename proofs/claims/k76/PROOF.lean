import PyProof.Rows.All
import Wide.All
import OpenK.AllK
import Wide.FinOn
import Lean
import PyProof.EqAt
import PyProof.EqKinds
import PyProof.TupleCall
import KE.KDictOf
import KE.KItemsList
import KE.KEqDict
import PySem.Challenge.RW_loanroll_k76_no_flows
set_option Elab.async false
set_option linter.all false
set_option maxRecDepth 100000
set_option maxHeartbeats 20000000
/-! THE HAND LAYER, for ints, bools, texts, own classes, LISTS and tuples (index, slices, in, append, pop ..), calls, loops. Paste it whole ahead of your own text; what your proof does not reach may be deleted. -/
namespace L2
open PySem PySem.Spec PyProof.Rows

/-- a key: an int or a str -/
abbrev Key := Sum Int Str
def keyIs : Key → Value → Bool
  | .inl k, v => Value.isInt k v
  | .inr x, v => Value.isStrOf x v
def keyH (w : World) : Key → Int
  | .inl k => hashInt k
  | .inr x => hashStr w x
theorem keyIs_shape : ∀ {k : Key} {v : Value}, keyIs k v = true → (∃ i t, k = Sum.inl i ∧ v = Value.int i t) ∨ (∃ x t, k = Sum.inr x ∧ v = Value.str x t)
  | .inl i, v, h => by
    obtain ⟨t, e⟩ := Value.isInt_shape (k := i) (v := v) h
    exact .inl ⟨i, t, rfl, e⟩
  | .inr x, v, h => by
    obtain ⟨t, e⟩ := Value.isStrOf_shape (x := x) (v := v) h
    exact .inr ⟨x, t, rfl, e⟩
theorem key_ll (a b : Int) : decide ((Sum.inl a : Key) = Sum.inl b) = (a == b) := by
  by_cases e : a = b
  · subst e; simp
  · have h : ¬ (Sum.inl a : Key) = Sum.inl b := fun q => e (Sum.inl.inj q)
    rw [decide_eq_false h]
    exact (beq_eq_false_iff_ne.mpr e).symm
theorem key_rr (a b : Str) : decide ((Sum.inr a : Key) = Sum.inr b) = decide (a = b) := by
  by_cases e : a = b
  · subst e; simp
  · have h : ¬ (Sum.inr a : Key) = Sum.inr b := fun q => e (Sum.inr.inj q)
    rw [decide_eq_false h, decide_eq_false e]
theorem key_lr (a : Int) (b : Str) : decide ((Sum.inl a : Key) = Sum.inr b) = false := decide_eq_false (fun q => nomatch q)
theorem key_rl (a : Str) (b : Int) : decide ((Sum.inr a : Key) = Sum.inl b) = false := decide_eq_false (fun q => nomatch q)

def mixKind (prog : Program) (w : World) : PySem.KeyKind prog w Key where
  is := keyIs
  hash := keyH w
  inj := fun v a b ha hb => by
    rcases keyIs_shape ha with ⟨i, t, rfl, rfl⟩ | ⟨x, t, rfl, rfl⟩
    · rcases keyIs_shape hb with ⟨j, u, rfl, e⟩ | ⟨y, u, rfl, e⟩
      · injection e with e1 _; rw [e1]
      · exact nomatch e
    · rcases keyIs_shape hb with ⟨j, u, rfl, e⟩ | ⟨y, u, rfl, e⟩
      · exact nomatch e
      · injection e with e1 _; rw [e1]
  byValue := fun k v h => by
    rcases keyIs_shape h with ⟨i, t, rfl, rfl⟩ | ⟨x, t, rfl, rfl⟩ <;> rfl
  pyHash := fun hv h => by
    rcases keyIs_shape hv with ⟨i, t, rfl, rfl⟩ | ⟨x, t, rfl, rfl⟩
    · exact wpAny_pyHash_int h
    · exact wpAny_pyHash_str h
  eqBool := fun hu hv h => by
    rcases keyIs_shape hu with ⟨i, t, rfl, rfl⟩ | ⟨x, t, rfl, rfl⟩
    · rcases keyIs_shape hv with ⟨j, u, rfl, rfl⟩ | ⟨y, u, rfl, rfl⟩
      · rw [key_ll] at h; exact wpAny_eqBool_int h
      · rw [key_lr] at h; exact SeqAt.EqAt.int_str i t y u _ _ _ _ h
    · rcases keyIs_shape hv with ⟨j, u, rfl, rfl⟩ | ⟨y, u, rfl, rfl⟩
      · rw [key_rl] at h; exact SeqAt.EqAt.str_int x t j u _ _ _ _ h
      · rw [key_rr] at h; exact wpAny_eqBool_str h
  «strs» := fun k x t v h => by
    rcases keyIs_shape h with ⟨i, u, rfl, e⟩ | ⟨y, u, rfl, e⟩
    · exact nomatch e
    · injection e with e1 _
      subst e1
      cases v <;> rfl

end L2

namespace L2
open PySem PySem.Spec PyProof.Rows

/-- a value, without the heap -/
inductive V where
  | non | bl (b : Bool) | int (i : Int) | str (x : Str) | byt (b : Array UInt8) | flt (b : UInt64) | ref (a : Addr) | ty (n : String)
  deriving DecidableEq

def RelV : V → Value → Prop
  | .non, u => u = Value.none
  | .bl b, u => u = Value.bool b
  | .int i, u => ∃ t, u = Value.int i t
  | .str x, u => ∃ t, u = Value.str x t
  | .byt b, u => ∃ t, u = Value.bytes b t
  | .flt b, u => ∃ t, u = Value.float b t
  | .ref a, u => u = Value.ref a
  | .ty n, u => u = Value.type n

abbrev Vals : List V → List Value → Prop := Paired RelV
theorem Vals.length {xs : List V} {us : List Value} (r : Vals xs us) : xs.length = us.length := Paired.length r
theorem Vals.get : ∀ {xs : List V} {us : List Value} {i : Nat} {x : V}, Vals xs us → xs[i]? = some x → ∃ u, us[i]? = some u ∧ RelV x u
  | _, _, _, _, .nil, e => by simp at e
  | _, _, 0, _, .cons r _, e => by simp at e; subst e; exact ⟨_, rfl, r⟩
  | _, _, i + 1, x, .cons _ t, e => by
    obtain ⟨u, h1, h2⟩ := Vals.get (i := i) (x := x) t (by simpa using e)
    exact ⟨u, by simpa using h1, h2⟩
theorem Vals.append : ∀ {xs ys : List V} {us ws : List Value}, Vals xs us → Vals ys ws → Vals (xs ++ ys) (us ++ ws)
  | _, _, _, _, .nil, s => s
  | _, _, _, _, .cons r t, s => .cons r (Vals.append t s)
theorem Vals.take : ∀ {xs : List V} {us : List Value} (n : Nat), Vals xs us → Vals (xs.take n) (us.take n)
  | _, _, 0, _ => .nil
  | _, _, _ + 1, .nil => .nil
  | _, _, n + 1, .cons r t => .cons r (Vals.take n t)
theorem Vals.drop : ∀ {xs : List V} {us : List Value} (n : Nat), Vals xs us → Vals (xs.drop n) (us.drop n)
  | _, _, 0, r => r
  | _, _, _ + 1, .nil => .nil
  | _, _, n + 1, .cons _ t => Vals.drop n t
def RelO : Option V → Option Value → Prop
  | some v, some u => RelV v u
  | none, none => True
  | _, _ => False
def KV {κ : Type} : List (κ × V) → List (κ × Value) → Prop := Paired fun (p : κ × V) (q : κ × Value) => p.1 = q.1 ∧ RelV p.2 q.2

/-- what stands at a tracked address -/
inductive HO where
  /-- a list -/
  | lst (xs : List V)
  /-- a tuple (never changes) -/
  | tup (xs : List V)
  /-- a dict whose keys are ints and texts; one whose keys are tuples of ints and texts (the empty one is both) -/
  | dK (kvs : List (Key × V))
  /-- a set of ints: its members, its size -/
  | set (S : Int → Bool) (n : Nat)
  /-- an instance of the class at C, its dict at dx, its attributes -/
  | ins (C dx : Addr) (fs : List (Str × V))
  /-- the dict of the instance at x -/
  | own (x : Addr)
  /-- the dict of an exception -/
  | xd (fs : List (Str × V))
  /-- a bound method, f of x -/
  | met (f x : Addr)
  /-- a range object lo, lo + 1, .. below hi -/
  | rng (lo hi : Int)
  /-- a thing that is known to the object (the script; a dict while a loop walks it): read, never written while it is so -/
  | frz (o : Obj) (u : HO)
  /-- a code object's table -/
  | tbl (ps : Array Value)
  /-- any other thing, by what is true of its one object (a def of one's own: SetO a S n := HO.ext fun h => ..) -/
  | ext (φ : Heap → Prop)

abbrev Hp := Addr → Option HO
def upd (H : Hp) (a : Addr) (o : HO) : Hp := fun b => if b = a then some o else H b
theorem upd_same {H : Hp} {a : Addr} {o : HO} : upd H a o a = some o := by unfold upd; rw [if_pos rfl]
theorem upd_ne {H : Hp} {a b : Addr} {o : HO} (h : b ≠ a) : upd H a o b = H b := by unfold upd; rw [if_neg h]
/-- two objects of different content stand apart -/
theorem ne_of {H : Hp} {a b : Addr} {o u : HO} (h : H a = some o) (h' : H b = some u) (d : o ≠ u) : a ≠ b := by
  intro e; subst e; rw [h] at h'; exact d (Option.some.inj h')
theorem ne_of_none {H : Hp} {a b : Addr} {o : HO} (h : H a = some o) (h' : H b = none) : a ≠ b := by
  intro e; subst e; rw [h] at h'; cases h'

section
variable (P : Program) (w : World)
def ObjOk (H : Hp) (h : Heap) (a : Addr) : HO → Prop
  | .lst xs => xs.length ≤ sizeLine ∧ ∃ (its : List Value) (n : Nat), Vals xs its ∧ h.get? a = some { cls := .type "list", data := .seq its.toArray n }
  | .tup xs => xs.length ≤ sizeLine ∧ ∃ its : List Value, Vals xs its ∧ IsTup h a its.toArray
  | .dK kvs => kvs.length ≤ sizeLine ∧ (a == sysModules) = false ∧ ∃ vs, KV kvs vs ∧ h.DictOf (mixKind P w) a vs
  | .set S n => h.SetOf (intKind P w) a S n
  | .ins C dx fs => H dx = some (.own a) ∧ fs.length ≤ 1000 ∧ dx ≠ a ∧ h.get? a = some (PySem.W.instObj C dx) ∧
      ∃ mA, h.Ns1 dx mA ∧ (∀ f, RelO (fs.lookup f) (mA f)) ∧ PySem.Within mA (fs.map (·.1))
  | .own _ => ∃ o, h.get? a = some o
  | .xd fs => ∃ mA, h.Ns1 a mA ∧ ∀ f, RelO (fs.lookup f) (mA f)
  | .rng lo hi => ∃ t u v, h.get? a = some { cls := .type "range", data := .fields #[.int lo t, .int hi u, .int 1 v] }
  | .frz o u => h.get? a = some o ∧ ObjOk H h a u
  | .tbl ps => h.get? a = some { cls := .none, data := .fields ps }
  | .met f x => h.get? a = some (PySem.W.methodObj (.ref f) (.ref x))
  | .ext φ => φ h ∧ (∃ o, h.get? a = some o) ∧ ∀ h1 h2 : Heap, φ h1 → (∀ o, h1.get? a = some o → h2.get? a = some o) → φ h2
/-- the abstract heap is held -/
def HOk (H : Hp) (h : Heap) : Prop := ∀ a o, H a = some o → ObjOk P w H h a o
end

section
variable {P : Program} {w : World} {H H' : Hp} {h h' : Heap} {a : Addr} {o : HO}
theorem ObjOk.lt (x : ObjOk P w H h a o) : a < h.objs.size := by
  cases o with
  | lst xs => obtain ⟨_, _, _, _, e⟩ := x; exact Heap.lt_size e
  | tup xs => obtain ⟨_, _, _, p⟩ := x; exact p.lt
  | dK kvs => obtain ⟨_, _, _, _, o, _, _, e, _⟩ := x; exact Heap.lt_size e
  | set S n => obtain ⟨o, _, _, _, e, _⟩ := x; exact Heap.lt_size e
  | ins C dx fs => obtain ⟨_, _, _, e, _⟩ := x; exact Heap.lt_size e
  | own y => obtain ⟨_, e⟩ := x; exact Heap.lt_size e
  | xd fs => obtain ⟨_, ⟨_, _, _, e, _⟩, _⟩ := x; exact Heap.lt_size e
  | rng lo hi => obtain ⟨_, _, _, e⟩ := x; exact Heap.lt_size e
  | frz ob u => obtain ⟨e, _⟩ := x; exact Heap.lt_size e
  | tbl ps => exact Heap.lt_size (show h.get? a = some _ from x)
  | met f y => exact Heap.lt_size (show h.get? a = some _ from x)
  | ext φ => obtain ⟨_, ⟨_, e⟩, _⟩ := x; exact Heap.lt_size e
/-- what an object's description leans on: its own object, its own dict, the tuples -/
theorem ObjOk.stay (x : ObjOk P w H h a o) (k : ∀ b u, (b = a ∨ H b = some (.own a)) → h.get? b = some u → h'.get? b = some u)
    (ho : ∀ b, H b = some (.own a) → H' b = some (.own a)) (ht : ∀ b xs, H b = some (.tup xs) → H' b = some (.tup xs)) : ObjOk P w H' h' a o := by
  induction o with
  | lst xs => obtain ⟨z, its, n, r, e⟩ := x; exact ⟨z, its, n, r, k _ _ (.inl rfl) e⟩
  | tup xs => obtain ⟨z, its, r, ob, e, c⟩ := x; exact ⟨z, its, r, ob, k _ _ (.inl rfl) e, c⟩
  | dK kvs => obtain ⟨z, y, vs, r, ob, es, ep, e, c⟩ := x; exact ⟨z, y, vs, r, ob, es, ep, k _ _ (.inl rfl) e, c⟩
  | set S n => obtain ⟨ob, es, ep, t, e, c⟩ := x; exact ⟨ob, es, ep, t, k _ _ (.inl rfl) e, c⟩
  | ins C dx fs =>
    obtain ⟨d, z, ne, e, mA, ⟨od, es, ep, e2, c⟩, r⟩ := x
    exact ⟨ho _ d, z, ne, k _ _ (.inl rfl) e, mA, ⟨od, es, ep, k _ _ (.inr d) e2, c⟩, r⟩
  | own y => obtain ⟨ob, e⟩ := x; exact ⟨ob, k _ _ (.inl rfl) e⟩
  | xd fs => obtain ⟨mA, ⟨od, es, ep, e, c⟩, r⟩ := x; exact ⟨mA, ⟨od, es, ep, k _ _ (.inl rfl) e, c⟩, r⟩
  | rng lo hi => obtain ⟨t, u, v, e⟩ := x; exact ⟨t, u, v, k _ _ (.inl rfl) e⟩
  | frz ob u ih => obtain ⟨e, q⟩ := x; exact ⟨k _ _ (.inl rfl) e, ih q⟩
  | tbl ps =>
    have e : h.get? a = some { cls := .none, data := .fields ps } := x
    show h'.get? a = some { cls := .none, data := .fields ps }
    exact k a _ (.inl rfl) e
  | met f y =>
    have e : h.get? a = some (PySem.W.methodObj (.ref f) (.ref y)) := x
    show h'.get? a = some (PySem.W.methodObj (.ref f) (.ref y))
    exact k a _ (.inl rfl) e
  | ext φ => obtain ⟨p, ⟨o, e⟩, st⟩ := x; exact ⟨st _ _ p fun o q => k _ _ (.inl rfl) q, ⟨o, k _ _ (.inl rfl) e⟩, st⟩
theorem HOk.lt (x : HOk P w H h) (e : H a = some o) : a < h.objs.size := (x a o e).lt
theorem HOk.fresh (x : HOk P w H h) (e : h.objs.size ≤ a) : H a = none := by
  cases q : H a with
  | none => rfl
  | some u => exact absurd (Nat.lt_of_lt_of_le (x.lt q) e) (Nat.lt_irrefl _)
/-- every object of the heap is kept -/
theorem HOk.kept (x : HOk P w H h) (k : ∀ b u, h.get? b = some u → h'.get? b = some u) : HOk P w H h' := fun a o e =>
  (x a o e).stay (fun b u _ q => k b u q) (fun _ q => q) fun _ _ q => q
/-- a new object is laid and tracked -/
theorem HOk.laid (x : HOk P w H h) (k : ∀ b u, h.get? b = some u → h'.get? b = some u) (hp : h.objs.size ≤ a) (new : ObjOk P w (upd H a o) h' a o) : HOk P w (upd H a o) h' := fun b u e => by
  have hn := x.fresh hp
  by_cases hb : b = a
  · subst hb; rw [upd_same] at e; cases e; exact new
  · rw [upd_ne hb] at e
    exact (x b u e).stay (fun c v _ q => k c v q) (fun c q => by rw [upd_ne (ne_of_none q hn)]; exact q) fun c xs q => by rw [upd_ne (ne_of_none q hn)]; exact q
end

/-- what may be read as u: it is u, or a known u -/
def Rd (H : Hp) (a : Addr) (u : HO) : Prop := H a = some u ∨ ∃ o, H a = some (.frz o u)
theorem Rd.ok {P : Program} {w : World} {H : Hp} {h : Heap} {a : Addr} {u : HO} (r : Rd H a u) (x : HOk P w H h) : ObjOk P w H h a u := by
  rcases r with r | ⟨o, r⟩
  · exact x a u r
  · obtain ⟨_, q⟩ := x a _ r
    exact q
/-- what may be written -/
def Mut : Option HO → Prop
  | some (.lst _) => True
  | some (.dK _) => True
  | some (.set _ _) => True
  | some (.ins _ _ _) => True
  | some (.ext _) => True
  | _ => False
section
variable {P : Program} {w : World} {H : Hp} {h h' : Heap} {x e : Addr} {o' : HO}
/-- the object at e is changed: x itself, or the dict of the instance x -/
theorem HOk.write (ok : HOk P w H h) (mu : Mut (H x)) (he : e = x ∨ H e = some (.own x)) (k : ∀ b u, b ≠ e → h.get? b = some u → h'.get? b = some u) (heo : ∃ u, h'.get? e = some u)
    (new : ObjOk P w (upd H x o') h' x o') : HOk P w (upd H x o') h' := fun b u q => by
  have nown : ∀ c y, H c = some (.own y) → c ≠ x := fun c y r z => by subst z; rw [r] at mu; exact mu
  have ntup : ∀ c xs, H c = some (.tup xs) → c ≠ x := fun c xs r z => by subst z; rw [r] at mu; exact mu
  by_cases hb : b = x
  · subst hb; rw [upd_same] at q; cases q; exact new
  · rw [upd_ne hb] at q
    by_cases hbe : b = e
    · have q' : H b = some (.own x) := by
        rcases he with z | z
        · exact absurd (hbe.trans z) hb
        · rw [hbe]; exact z
      rw [q] at q'; cases q'
      obtain ⟨v, hv⟩ := heo
      exact ⟨v, by rw [hbe]; exact hv⟩
    · refine (ok b u q).stay (fun c v hc r => k c v ?_ r) (fun c r => by rw [upd_ne (nown c b r)]; exact r) fun c xs r => by rw [upd_ne (ntup c xs r)]; exact r
      rcases hc with rfl | hc
      · exact hbe
      · rintro rfl
        rcases he with z | z
        · exact nown c b hc z
        · rw [hc] at z; cases z; exact hb rfl
end

/-! ### kept unless tracked; of the frames at fs (the callers') the slots may change (an exception that passes writes there); of the records at ex (iterators) nothing is said -/
structure Un (fs ex : List Addr) (H H' : Hp) (h h' : Heap) : Prop where
  keep : ∀ b o, h.get? b = some o → H b = none → b ∉ fs → b ∉ ex → h'.get? b = some o
  slot : ∀ b o, h.get? b = some o → H b = none → b ∈ fs → b ∉ ex → ∃ sl, h'.get? b = some { o with slots := sl }
  free : ∀ b o, h.get? b = some o → H b = none → b ∉ ex → H' b = none
  there : ∀ b o, h.get? b = some o → b ∉ ex → ∃ o', h'.get? b = some o'
  tups : ∀ b xs, H b = some (.tup xs) → H' b = some (.tup xs)
  frzs : ∀ b o u, H b = some (.frz o u) → H' b = some (.frz o u)
  tbls : ∀ b ps, H b = some (.tbl ps) → ∃ more, H' b = some (.tbl (ps ++ more))
section
variable {fs fs' ex ex' : List Addr} {H H1 H2 : Hp} {h h1 h2 h' : Heap} {a x e : Addr} {o : HO}
theorem Un.any (u : Un fs ex H H1 h h1) {b : Addr} {ob : Obj} (q : h.get? b = some ob) (n : H b = none) (hx : b ∉ ex) : ∃ sl, h1.get? b = some { ob with slots := sl } := by
  by_cases hb : b ∈ fs
  · exact u.slot b ob q n hb hx
  · exact ⟨ob.slots, u.keep b ob q n hb hx⟩
theorem Un.kept (k : ∀ b u, h.get? b = some u → h'.get? b = some u) : Un fs ex H H h h' :=
  ⟨fun b ob q _ _ _ => k b ob q, fun b ob q _ _ _ => ⟨ob.slots, k b ob q⟩, fun _ _ _ n _ => n, fun b ob q _ => ⟨ob, k b ob q⟩, fun _ _ q => q, fun _ _ _ q => q, fun _ ps q => ⟨#[], by rw [q]; simp⟩⟩
theorem Un.refl : Un fs ex H H h h := Un.kept fun _ _ q => q
theorem Un.laid (k : ∀ b u, h.get? b = some u → h'.get? b = some u) (hp : h.objs.size ≤ a) (hn : H a = none) : Un fs ex H (upd H a o) h h' where
  keep := fun b u q _ _ _ => k b u q
  slot := fun b u q _ _ _ => ⟨u.slots, k b u q⟩
  free := fun b u q n _ => by rw [upd_ne (Nat.ne_of_lt (Nat.lt_of_lt_of_le (Heap.lt_size q) hp))]; exact n
  there := fun b u q _ => ⟨u, k b u q⟩
  tups := fun b xs q => by rw [upd_ne (ne_of_none q hn)]; exact q
  frzs := fun b u xs q => by rw [upd_ne (ne_of_none q hn)]; exact q
  tbls := fun b ps q => ⟨#[], by rw [upd_ne (ne_of_none q hn), q]; simp⟩
theorem Un.write (mu : Mut (H x)) (he : e = x ∨ H e = some (.own x)) (k : ∀ b u, b ≠ e → h.get? b = some u → h'.get? b = some u) (heo : ∃ u, h'.get? e = some u) : Un fs ex H (upd H x o) h h' := by
  have hx : ∀ b, H b = none → b ≠ x := fun b n z => by subst z; rw [n] at mu; exact mu
  have hb : ∀ b, H b = none → b ≠ e := fun b n z => by
    subst z
    rcases he with r | r
    · exact hx b n r
    · rw [n] at r; cases r
  have hm : ∀ b u, H b = some u → ¬ Mut (some u) → b ≠ x := fun b u q nm z => by subst z; rw [q] at mu; exact nm mu
  refine ⟨fun b u q n _ _ => k b u (hb b n) q, fun b u q n _ _ => ⟨u.slots, k b u (hb b n) q⟩, fun b u q n _ => by rw [upd_ne (hx b n)]; exact n, fun b u q _ => ?_,
    fun b xs q => by rw [upd_ne (hm b _ q fun z => z)]; exact q, fun b u xs q => by rw [upd_ne (hm b _ q fun z => z)]; exact q, fun b ps q => ⟨#[], by rw [upd_ne (hm b _ q fun z => z), q]; simp⟩⟩
  by_cases hbe : b = e
  · subst hbe; exact heo
  · exact ⟨u, k b u hbe q⟩
end

/-! ### the heap without what is tracked -/
def trk (h : Heap) (H : Hp) : List Addr := (List.range h.objs.size).filter fun a => (H a).isSome
def hidT (h : Heap) (H : Hp) : Heap := PySem.W.hideAll h (trk h H)
theorem hidT_size (h : Heap) (H : Hp) : (hidT h H).objs.size = h.objs.size := PySem.W.hideAll_size _ _
theorem hidT_get {h : Heap} {H : Hp} {b : Addr} {o : Obj} (e : h.get? b = some o) (n : H b = none) : (hidT h H).get? b = some o :=
  PySem.W.hideAll_get _ e fun hm => by
    have q : (H b).isSome = true := (List.mem_filter.mp hm).2
    rw [n] at q; simp at q
theorem of_hidT {h : Heap} {H : Hp} {b : Addr} {o : Obj} (e : (hidT h H).get? b = some o) : h.get? b = some o ∧ H b = none := by
  have e' : h.get? b = some o := PySem.W.of_hideAll (trk h H) e
  refine ⟨e', ?_⟩
  cases q : H b with
  | none => rfl
  | some x =>
    have hm : b ∈ trk h H := List.mem_filter.mpr ⟨List.mem_range.mpr (Heap.lt_size e'), by simp [q]⟩
    have z : (hidT h H).get? b = none := PySem.W.hideAll_none (trk h H) hm
    rw [z] at e; cases e

/-! ### OpenK's ledger, filled with every new object but one -/
def allNews (g h : Heap) (L : Addr) : List (Addr × Obj) := (List.range h.objs.size).filterMap fun a => if a = L ∨ (g.get? a).isSome = true then none else (h.get? a).map fun o => (a, o)
def rest (g h : Heap) (L d : Addr) : List (Addr × Obj) := (allNews g h L).filter fun p => decide (p.1 ≠ d)
end L2

namespace L2
open PySem PySem.Spec PyProof.Rows

/-- the module's facts, over the base: the heap at the law's entry without what is tracked there -/
structure Mod (K : PySem.W.Frag) (mg : Str → Option Value) (base : Heap) : Prop where
  kin : K.In base
  glob : base.Ns mainGlobals mg
  blt : ∃ mb, base.Ns builtinsNs mb ∧ ∀ x : Str, x ≠ "__name__" → mb x = bootBuiltins x
  nolimit : base.NoLimit

/-- the context: a def's body (or a comprehension's block) running. base: fixed through the whole law; s₀, H₀: the entry; outer: the frames whose slots others may change (a def's callers); stack: all frames that run;
   ex: iterators that were made ahead of the entry and are walked here (a comprehension's); fn: the names whose cells were made at the entry (a def: all; a comprehension's block: its own); calm: not within an except suite; pn: pins that every state bears; xe: what is wanted of an exception that leaves the code -/
structure Cx where
  prog : Program
  w : World
  K : PySem.W.Frag
  mg : Str → Option Value
  base : Heap
  A : Around
  N : List Str
  s₀ : Shared
  H₀ : Hp
  env : Env
  outer : List Env
  stack : List Env
  ex : List Addr
  fn : Str → Bool
  calm : Bool
  pn : List (Addr × Obj)
  xe : Value → Shared → Prop
/-- the callers' frames -/
def frs (l : List Env) : List Addr := l.filterMap (·.frame)
abbrev Cx.fs (X : Cx) : List Addr := frs X.outer

def Vis (sc : Scope) (x : Str) : Prop := sc.names.lookup x = some .local ∨ sc.names.lookup x = some .cell ∨ sc.names.lookup x = some .free
def Loc (sc : Scope) (x : Str) : Prop := sc.names.lookup x = some .local ∨ sc.names.lookup x = some .cell
def Look (env : Env) (h : Heap) (m : Str → Option Value) (x : Str) (u : Value) : Prop :=
  (env.kindOf x = some .local ∧ m x = some u) ∨ ((env.kindOf x = some .cell ∨ env.kindOf x = some .free) ∧ ∃ c, env.cells.lookup x = some c ∧ h.IsCell c (some u))

structure Cx.Ok (X : Cx) : Prop where
  mod : Mod X.K X.mg X.base
  kind : X.env.scope.kind = .function
  glob : X.env.globals = mainGlobals
  blt : X.env.builtins = builtinsNs
  above : X.s₀.heap.objs.size ≤ X.env.locals
  inj : ∀ x y c, X.env.cells.lookup x = some c → X.env.cells.lookup y = some c → x = y
  has : ∀ x, (X.env.kindOf x = some .cell ∨ X.env.kindOf x = some .free) → ∃ c, X.env.cells.lookup x = some c
  cab : ∀ x c, X.fn x = true → X.env.cells.lookup x = some c → X.s₀.heap.objs.size ≤ c
  hd : X.calm = true → X.A.handled = none
  frames : X.A.frames = some X.stack
  stk : X.stack = X.outer ∨ (X.stack = X.env :: X.outer ∧ X.env.frame = some X.env.locals)
  exf : ∀ b ∈ X.ex, b ≠ X.env.locals ∧ ∀ x c, X.env.cells.lookup x = some c → c ≠ b
  bs : ∀ b o, X.base.get? b = some o → X.s₀.heap.get? b = some o ∧ X.H₀ b = none
  bsz : X.base.objs.size ≤ X.s₀.heap.objs.size
  noex : ∀ b o, X.base.get? b = some o → b ∉ X.ex
  exfs : ∀ b ∈ X.ex, b ∉ X.fs
  funs : X.s₀.heap.FunFrames X.base X.outer
  frf : ∀ b ∈ X.fs, X.H₀ b = none

structure Inv (X : Cx) (pins : List (Addr × Obj)) (σ : List (Option V)) (H : Hp) (s : Shared) : Prop where
  ok : X.Ok
  os : s.os = X.s₀.os
  bare : AllBare s.gens
  base : Un X.fs X.ex X.H₀ H X.s₀.heap s.heap
  loc : ∃ m, s.heap.Ns X.env.locals m ∧ ∀ (i : Nat) (x : Str) (v : V), X.N[i]? = some x → σ[i]? = some (some v) → Vis X.env.scope x → ∃ u, RelV v u ∧ Look X.env s.heap m x u
  cell : ∀ x c, X.env.cells.lookup x = some c → ∃ v, s.heap.IsCell c v
  free : H X.env.locals = none
  freeC : ∀ x c, X.env.cells.lookup x = some c → H c = none
  pin : ∀ p ∈ X.pn ++ pins, s.heap.get? p.1 = some p.2 ∧ H p.1 = none ∧ p.1 ≠ X.env.locals ∧ p.1 ∉ X.fs ∧ ∀ v, p.2.data ≠ .cell v
  hok : HOk X.prog X.w H s.heap
  len : σ.length = X.N.length

section
variable {X : Cx} {pins : List (Addr × Obj)} {σ : List (Option V)} {H H' : Hp} {s : Shared} {h' : Heap}

theorem Cx.Ok.nofr (ok : X.Ok) {b : Addr} {o : Obj} (e : X.base.get? b = some o) : b ∉ X.fs := fun hb => by
  have := (ok.funs.mem hb).1
  rw [e] at this; cases this
theorem Inv.bs (I : Inv X pins σ H s) : ∀ b o, X.base.get? b = some o → s.heap.get? b = some o ∧ H b = none := fun b o e =>
  ⟨I.base.keep b o (I.ok.bs b o e).1 (I.ok.bs b o e).2 (I.ok.nofr e) (I.ok.noex b o e), I.base.free b o (I.ok.bs b o e).1 (I.ok.bs b o e).2 (I.ok.noex b o e)⟩
theorem Inv.bk (I : Inv X pins σ H s) : ∀ b o, X.base.get? b = some o → s.heap.get? b = some o := fun b o e => (I.bs b o e).1
theorem Inv.mod (I : Inv X pins σ H s) : Mod X.K X.mg X.base := I.ok.mod
theorem Inv.kIn (I : Inv X pins σ H s) : X.K.In s.heap := I.ok.mod.kin.keeps I.bk
theorem Inv.lt (I : Inv X pins σ H s) : X.env.locals < s.heap.objs.size := let ⟨_, hn, _⟩ := I.loc; hn.lt
theorem Inv.sz (I : Inv X pins σ H s) : X.s₀.heap.objs.size ≤ s.heap.objs.size := Nat.le_trans I.ok.above (Nat.le_of_lt I.lt)
theorem Inv.nofs (I : Inv X pins σ H s) {a : Addr} (h : s.heap.objs.size ≤ a) : a ∉ X.fs := fun hb => by
  obtain ⟨_, o, ho, _⟩ := I.ok.funs.mem hb
  exact absurd (Nat.lt_of_lt_of_le (Heap.lt_size ho) (Nat.le_trans I.sz h)) (Nat.lt_irrefl _)
theorem Inv.cne (I : Inv X pins σ H s) : ∀ x c, X.env.cells.lookup x = some c → c ≠ X.env.locals := fun x c e z => by
  obtain ⟨v, o, ho, hd⟩ := I.cell x c e
  obtain ⟨m, ⟨o', es, ep, ho', hd', _⟩, _⟩ := I.loc
  rw [z, ho'] at ho; cases ho; rw [hd'] at hd; cases hd
theorem Inv.funs (I : Inv X pins σ H s) : s.heap.FunFrames X.base X.outer := by
  have all : ∀ (l : List Env), (∀ b ∈ frs l, b ∈ X.fs) → X.s₀.heap.FunFrames X.base l → s.heap.FunFrames X.base l := by
    intro l
    induction l with
    | nil => intro _ _; trivial
    | cons env r ih =>
      intro hs hl
      obtain ⟨hk, ⟨L, o, hf, hn, ho, hd⟩, hr⟩ := hl
      have hL : L ∈ X.fs := hs L (by unfold frs; rw [List.filterMap_cons, hf]; exact List.mem_cons_self)
      obtain ⟨sl, e⟩ := I.base.slot L o ho (I.ok.frf L hL) hL fun z => I.ok.exfs L z hL
      exact ⟨hk, ⟨L, _, hf, hn, e, hd⟩, ih (fun b hb => hs b (by unfold frs; rw [List.filterMap_cons, hf]; exact List.mem_cons_of_mem _ hb)) hr⟩
  exact all X.outer (fun _ hb => hb) I.ok.funs

/-- the frames that run, for a call -/
theorem Inv.stack (I : Inv X pins σ H s) : s.heap.FunFrames X.base X.stack := by
  rcases I.ok.stk with e | ⟨e, hf⟩
  · rw [e]; exact I.funs
  · rw [e]
    obtain ⟨m, hn, _⟩ := I.loc
    refine .cons (by rw [I.ok.kind]; decide) hf hn ?_ I.funs
    exact Heap.get?_none_of_le (Nat.le_trans I.ok.bsz I.ok.above)
theorem Inv.stkSub (I : Inv X pins σ H s) : ∀ b ∈ frs X.stack, b ∈ X.env.locals :: X.fs := fun b hb => by
  rcases I.ok.stk with e | ⟨e, hf⟩
  · rw [e] at hb; exact List.mem_cons_of_mem _ hb
  · rw [e] at hb
    unfold frs at hb
    rw [List.filterMap_cons, hf] at hb
    exact hb
theorem Inv.stkFree (I : Inv X pins σ H s) : ∀ b ∈ frs X.stack, H b = none := fun b hb => by
  rcases List.mem_cons.mp (I.stkSub b hb) with e | hb
  · rw [e]; exact I.free
  · obtain ⟨_, o, ho, _⟩ := I.ok.funs.mem hb
    exact I.base.free b o ho (I.ok.frf b hb) fun z => I.ok.exfs b z hb

/-- THE STEP: the untracked objects but the frame and the records at ch are kept (the callers' frames up to slots), the frame's map is kept, the new abstract heap is held -/
theorem Inv.step {g' : Array GenState} {t' : Nat} {d' : Drawn} {ch : List Addr} (I : Inv X pins σ H s)
    (hch : ∀ b ∈ ch, (b ∈ X.ex ∨ X.s₀.heap.objs.size ≤ b) ∧ b ≠ X.env.locals ∧ (∀ x c, X.env.cells.lookup x = some c → c ≠ b) ∧ ∀ p ∈ X.pn ++ pins, p.1 ≠ b)
    (keep : ∀ b o, b ≠ X.env.locals → b ∉ X.fs → b ∉ ch → s.heap.get? b = some o → H b = none → h'.get? b = some o)
    (slot : ∀ b o, b ≠ X.env.locals → b ∈ X.fs → b ∉ ch → s.heap.get? b = some o → H b = none → ∃ sl, h'.get? b = some { o with slots := sl }) (free : ∀ b o, b ∉ ch → s.heap.get? b = some o → H b = none → H' b = none)
    (there : ∀ b o, b ∉ ch → s.heap.get? b = some o → ∃ o', h'.get? b = some o')
    (tups : ∀ b xs, H b = some (.tup xs) → H' b = some (.tup xs)) (frzs : ∀ b o u, H b = some (.frz o u) → H' b = some (.frz o u)) (tbls : ∀ b ps, H b = some (.tbl ps) → ∃ more, H' b = some (.tbl (ps ++ more)))
    (ns : ∀ m, s.heap.Ns X.env.locals m → h'.Ns X.env.locals m) (hok : HOk X.prog X.w H' h') (hg : AllBare g') :
    Inv X pins σ H' { s with heap := h', gens := g', drawn := d', toks := t' } := by
  have neL : ∀ b o, X.s₀.heap.get? b = some o → b ≠ X.env.locals := fun b o e => Nat.ne_of_lt (Nat.lt_of_lt_of_le (Heap.lt_size e) I.ok.above)
  have neC : ∀ b o, X.s₀.heap.get? b = some o → b ∉ X.ex → b ∉ ch := fun b o e hx hb => by
    rcases (hch b hb).1 with z | z
    · exact hx z
    · exact absurd (Nat.lt_of_lt_of_le (Heap.lt_size e) z) (Nat.lt_irrefl _)
  have cellK : ∀ x c, X.env.cells.lookup x = some c → ∀ v, s.heap.IsCell c v → h'.IsCell c v := fun x c e v ⟨o, ho, hd⟩ => by
    have nch : c ∉ ch := fun z => (hch c z).2.2.1 x c e rfl
    by_cases hc : c ∈ X.fs
    · obtain ⟨sl, q⟩ := slot c o (I.cne x c e) hc nch ho (I.freeC x c e)
      exact ⟨_, q, hd⟩
    · exact ⟨o, keep c o (I.cne x c e) hc nch ho (I.freeC x c e), hd⟩
  refine ⟨I.ok, I.os, hg, ⟨fun b o e n hb hx => ?_, fun b o e n hb hx => ?_, fun b o e n hx => ?_, fun b o e hx => ?_, fun b xs e => tups b xs (I.base.tups b xs e), fun b o xs e => frzs b o xs (I.base.frzs b o xs e), fun b ps e => ?_⟩, ?_, fun x c e => ?_, ?_, fun x c e => ?_, fun p hp => ?_, hok, I.len⟩
  · exact keep b o (neL b o e) hb (neC b o e hx) (I.base.keep b o e n hb hx) (I.base.free b o e n hx)
  · obtain ⟨sl, e1⟩ := I.base.slot b o e n hb hx
    obtain ⟨sl', e2⟩ := slot b _ (neL b o e) hb (neC b o e hx) e1 (I.base.free b o e n hx)
    exact ⟨sl', e2⟩
  · obtain ⟨o', e1⟩ := I.base.there b o e hx
    exact free b o' (neC b o e hx) e1 (I.base.free b o e n hx)
  · obtain ⟨o', e1⟩ := I.base.there b o e hx
    exact there b o' (neC b o e hx) e1
  · obtain ⟨m1, e1⟩ := I.base.tbls b ps e
    obtain ⟨m2, e2⟩ := tbls b _ e1
    exact ⟨m1 ++ m2, by rw [e2, Array.append_assoc]⟩
  · obtain ⟨m, hn, hl⟩ := I.loc
    refine ⟨m, ns m hn, fun i x v e1 e2 e3 => ?_⟩
    obtain ⟨u, r, l⟩ := hl i x v e1 e2 e3
    refine ⟨u, r, ?_⟩
    rcases l with l | ⟨k, c, e, z⟩
    · exact .inl l
    · exact .inr ⟨k, c, e, cellK x c e _ z⟩
  · obtain ⟨v, z⟩ := I.cell x c e
    exact ⟨v, cellK x c e v z⟩
  · obtain ⟨m, ⟨o, _, _, ho, _⟩, _⟩ := I.loc
    exact free _ o (fun z => (hch _ z).2.1 rfl) ho I.free
  · obtain ⟨v, o, ho, hd⟩ := I.cell x c e
    exact free c o (fun z => (hch c z).2.2.1 x c e rfl) ho (I.freeC x c e)
  · obtain ⟨e, n, ne, nf, d⟩ := I.pin p hp
    have nch : p.1 ∉ ch := fun z => (hch p.1 z).2.2.2 p hp rfl
    exact ⟨keep p.1 p.2 ne nf nch e n, free p.1 p.2 nch e n, ne, nf, d⟩
/-- .. where the frame's own object is kept too -/
theorem Inv.un {t' : Nat} (I : Inv X pins σ H s) (u : Un X.fs [] H H' s.heap h') (hok : HOk X.prog X.w H' h') : Inv X pins σ H' { s with heap := h', toks := t' } := by
  obtain ⟨m, ⟨o, es, ep, ho, r⟩, _⟩ := id I.loc
  obtain ⟨sl, hL⟩ := u.any ho I.free (by simp)
  exact I.step (g' := s.gens) (d' := s.drawn) (ch := []) (fun _ z => nomatch z) (fun b o _ hb _ e n => u.keep b o e n hb (by simp)) (fun b o _ hb _ e n => u.slot b o e n hb (by simp)) (fun b o _ e n => u.free b o e n (by simp)) (fun b o _ e => u.there b o e (by simp)) u.tups u.frzs u.tbls (fun m' hm => by
    obtain ⟨o', es', ep', ho', r'⟩ := hm
    rw [ho] at ho'; cases ho'
    exact ⟨_, es', ep', hL, r'⟩) hok I.bare
/-- behind a call (or a comprehension's block): the slots of this frame may have changed too, the records at ch may have turned -/
theorem Inv.call {g' : Array GenState} {t' : Nat} {d' : Drawn} {ch : List Addr} (I : Inv X pins σ H s) (u : Un (frs X.stack) ch H H' s.heap h') (hok : HOk X.prog X.w H' h') (hg : AllBare g')
    (hch : ∀ b ∈ ch, (b ∈ X.ex ∨ X.s₀.heap.objs.size ≤ b) ∧ b ≠ X.env.locals ∧ (∀ x c, X.env.cells.lookup x = some c → c ≠ b) ∧ ∀ p ∈ X.pn ++ pins, p.1 ≠ b) :
    Inv X pins σ H' { s with heap := h', gens := g', drawn := d', toks := t' } := by
  obtain ⟨m, ⟨o, es, ep, ho, r⟩, _⟩ := id I.loc
  obtain ⟨sl, hL⟩ := u.any ho I.free fun z => (hch _ z).2.1 rfl
  exact I.step (ch := ch) hch (fun b o hL hb hc e n => u.keep b o e n (fun z => (List.mem_cons.mp (I.stkSub b z)).elim hL hb) hc) (fun b o _ _ hc e n => u.any e n hc) (fun b o hc e n => u.free b o e n hc) (fun b o hc e => u.there b o e hc) u.tups u.frzs u.tbls (fun m' hm => by
    obtain ⟨o', es', ep', ho', r'⟩ := hm
    rw [ho] at ho'; cases ho'
    exact ⟨_, es', ep', hL, r'⟩) hok hg
/-- an untracked record of ours (an iterator) has turned -/
theorem Inv.turned {t' : Nat} {it : Addr} (I : Inv X pins σ H s) (k : ∀ b o, b ≠ it → s.heap.get? b = some o → h'.get? b = some o) (hn : H it = none) (hL : it ≠ X.env.locals)
    (h1 : it ∈ X.ex ∨ X.s₀.heap.objs.size ≤ it) (h2 : ∀ x c, X.env.cells.lookup x = some c → c ≠ it) (h3 : ∀ p ∈ X.pn ++ pins, p.1 ≠ it) : Inv X pins σ H { s with heap := h', toks := t' } := by
  have nit : ∀ b u, H b = some u → b ≠ it := fun b u e z => by rw [z, hn] at e; cases e
  refine I.step (g' := s.gens) (d' := s.drawn) (ch := [it]) (fun b hb => ?_) (fun b o _ _ hc e _ => k b o (fun z => hc (by simp [z])) e) (fun b o _ _ hc e _ => ⟨o.slots, k b o (fun z => hc (by simp [z])) e⟩) (fun _ _ _ _ n => n)
    (fun b o hc e => ⟨o, k b o (fun z => hc (by simp [z])) e⟩) (fun _ _ e => e) (fun _ _ _ e => e) (fun b ps e => ⟨#[], by rw [e]; simp⟩) (fun m hm => ?_) (fun b u e => ?_) I.bare
  · have e : b = it := by simpa using hb
    subst e
    exact ⟨h1, hL, h2, h3⟩
  · obtain ⟨o, es, ep, ho, r⟩ := hm
    exact ⟨o, es, ep, k _ o (Ne.symm hL) ho, r⟩
  · refine (I.hok b u e).stay (fun c v hc q => k c v ?_ q) (fun _ q => q) fun _ _ q => q
    rcases hc with z | z
    · rw [z]; exact nit b u e
    · exact nit c _ z
theorem Inv.tok (I : Inv X pins σ H s) (t : Nat) : Inv X pins σ H { s with toks := t } := I.un (h' := s.heap) (t' := t) Un.refl I.hok
/-- all objects kept -/
theorem Inv.kept {t' : Nat} (I : Inv X pins σ H s) (k : ∀ b u, s.heap.get? b = some u → h'.get? b = some u) : Inv X pins σ H { s with heap := h', toks := t' } := I.un (Un.kept k) (I.hok.kept k)
/-- a new object laid and tracked -/
theorem Inv.laid {a : Addr} {o : HO} {t' : Nat} (I : Inv X pins σ H s) (k : ∀ b u, s.heap.get? b = some u → h'.get? b = some u) (hp : s.heap.objs.size ≤ a) (new : ObjOk X.prog X.w (upd H a o) h' a o) :
    Inv X pins σ (upd H a o) { s with heap := h', toks := t' } := I.un (Un.laid k hp (I.hok.fresh hp)) (I.hok.laid k hp new)
/-- an object written -/
theorem Inv.write {x e : Addr} {o : HO} {t' : Nat} (I : Inv X pins σ H s) (mu : Mut (H x)) (he : e = x ∨ H e = some (.own x)) (k : ∀ b u, b ≠ e → s.heap.get? b = some u → h'.get? b = some u) (heo : ∃ u, h'.get? e = some u)
    (new : ObjOk X.prog X.w (upd H x o) h' x o) : Inv X pins σ (upd H x o) { s with heap := h', toks := t' } := I.un (Un.write mu he k heo) (I.hok.write mu he k heo new)
theorem Inv.pins_of {pins' : List (Addr × Obj)} (I : Inv X pins σ H s) (h : ∀ p ∈ pins', s.heap.get? p.1 = some p.2 ∧ H p.1 = none ∧ p.1 ≠ X.env.locals ∧ p.1 ∉ X.fs ∧ ∀ v, p.2.data ≠ .cell v) : Inv X pins' σ H s :=
  ⟨I.ok, I.os, I.bare, I.base, I.loc, I.cell, I.free, I.freeC, fun p hp => (List.mem_append.mp hp).elim (fun z => I.pin p (List.mem_append_left _ z)) (h p), I.hok, I.len⟩

theorem nodup_ix {N : List Str} (hN : N.Nodup) {i j : Nat} {x : Str} (a : N[i]? = some x) (b : N[j]? = some x) : i = j := by
  obtain ⟨h1, e1⟩ := List.getElem?_eq_some_iff.mp a
  obtain ⟨h2, e2⟩ := List.getElem?_eq_some_iff.mp b
  exact (List.getElem_inj hN).mp (e1.trans e2.symm)

/-- a name is stored; what changed -/
theorem store_ok2 {M : Model} {A : Around} {E : Value → Shared → Prop} {i : Nat} {x : Str} {v : V} {u : Value} {Q : Unit → Shared → Prop} (I : Inv X pins σ H s) (hN : X.N.Nodup) (hi : X.N[i]? = some x) (hx : Loc X.env.scope x) (r : RelV v u)
    (h : ∀ s', Inv X pins (σ.set i (some v)) H s' → (∃ a, Heap.SameBut a s.heap s'.heap ∧ (a = X.env.locals ∨ X.env.cells.lookup x = some a)) → Q () s') (hf : X.fn x = true ∨ X.env.scope.names.lookup x = some .local := by first | exact .inl rfl | exact .inr rfl | assumption) : wpAny M A (storeName X.env x u) Q E s := by
  obtain ⟨m, hn, hl⟩ := id I.loc
  have hcls : (X.env.scope.kind == .class || (X.env.scope.kind == .module && X.env.locals != X.env.globals)) = false := by rw [I.ok.kind]; rfl
  have hiσ : i < σ.length := by rw [I.len]; exact (List.getElem?_eq_some_iff.mp hi).1
  have cne := I.cne
  have tracked : ∀ {a : Addr} {h' : Heap}, (∃ o, s.heap.get? a = some o ∧ H a = none) → Heap.SameBut a s.heap h' → HOk X.prog X.w H h' := fun {a h'} ha hs b ob e => by
    obtain ⟨_, _, hfree⟩ := ha
    refine (I.hok b ob e).stay (fun c w' hc q => (hs.2 c ?_).trans q) (fun _ q => q) fun _ _ q => q
    rintro rfl
    rcases hc with rfl | hc
    · rw [hfree] at e; cases e
    · rw [hfree] at hc; cases hc
  rcases hx with hk | hk
  · refine wpAny_storeName_local hk hn (fun h' hn' hs => ?_) hcls
    obtain ⟨oL, _, _, hoL, _⟩ := id hn
    refine h _ ⟨I.ok, I.os, I.bare, ⟨fun b o e n hb hx => ?_, fun b o e n hb hx => ?_, I.base.free, fun b o e hx => ?_, I.base.tups, I.base.frzs, I.base.tbls⟩, ⟨_, hn', fun j y v' e1 e2 e3 => ?_⟩, fun y c e => ?_, I.free, I.freeC, fun p hp => ?_, tracked ⟨oL, hoL, I.free⟩ hs, by simpa using I.len⟩ ⟨_, hs, .inl rfl⟩
    · exact (hs.2 b (Nat.ne_of_lt (Nat.lt_of_lt_of_le (Heap.lt_size e) I.ok.above))).trans (I.base.keep b o e n hb hx)
    · obtain ⟨sl, e1⟩ := I.base.slot b o e n hb hx
      exact ⟨sl, (hs.2 b (Nat.ne_of_lt (Nat.lt_of_lt_of_le (Heap.lt_size e) I.ok.above))).trans e1⟩
    · obtain ⟨o', e1⟩ := I.base.there b o e hx
      exact ⟨o', (hs.2 b (Nat.ne_of_lt (Nat.lt_of_lt_of_le (Heap.lt_size e) I.ok.above))).trans e1⟩
    · by_cases hj : j = i
      · subst hj
        rw [hi] at e1; cases e1
        rw [List.getElem?_set_self hiσ] at e2
        cases e2
        exact ⟨u, r, .inl ⟨hk, by simp⟩⟩
      · rw [List.getElem?_set_ne (Ne.symm hj)] at e2
        obtain ⟨u', r', q⟩ := hl j y v' e1 e2 e3
        refine ⟨u', r', ?_⟩
        rcases q with ⟨k, e⟩ | ⟨k, c, e, z⟩
        · refine .inl ⟨k, ?_⟩
          have : y ≠ x := fun e => hj (nodup_ix hN e1 (e ▸ hi))
          simp [this, e]
        · exact .inr ⟨k, c, e, z.sameBut hs (cne y c e)⟩
    · obtain ⟨w', z⟩ := I.cell y c e
      exact ⟨w', z.sameBut hs (cne y c e)⟩
    · obtain ⟨e, n, ne, nf, d⟩ := I.pin p hp
      exact ⟨(hs.2 p.1 ne).trans e, n, ne, nf, d⟩
  · have hfn : X.fn x = true := by
      rcases hf with z | z
      · exact z
      · rw [z] at hk; cases hk
    obtain ⟨c, hc⟩ := I.ok.has x (.inl hk)
    obtain ⟨w', z⟩ := I.cell x c hc
    refine wpAny_storeName_cell I.ok.kind hk hc z (fun h' hc' hs => ?_)
    obtain ⟨oc, hoc, hocd⟩ := id z
    refine h { s with heap := h' } ⟨I.ok, I.os, I.bare, ⟨fun b o e n hb hx => ?_, fun b o e n hb hx => ?_, I.base.free, fun b o e hx => ?_, I.base.tups, I.base.frzs, I.base.tbls⟩, ⟨m, hn.sameBut hs (Ne.symm (cne x c hc)), fun j y v' e1 e2 e3 => ?_⟩, fun y c' e => ?_, I.free, I.freeC, fun p hp => ?_, tracked ⟨oc, hoc, I.freeC x c hc⟩ hs, by simpa using I.len⟩ ⟨c, hs, .inr hc⟩
    · exact (hs.2 b (Nat.ne_of_lt (Nat.lt_of_lt_of_le (Heap.lt_size e) (I.ok.cab x c hfn hc)))).trans (I.base.keep b o e n hb hx)
    · obtain ⟨sl, e1⟩ := I.base.slot b o e n hb hx
      exact ⟨sl, (hs.2 b (Nat.ne_of_lt (Nat.lt_of_lt_of_le (Heap.lt_size e) (I.ok.cab x c hfn hc)))).trans e1⟩
    · obtain ⟨o', e1⟩ := I.base.there b o e hx
      exact ⟨o', (hs.2 b (Nat.ne_of_lt (Nat.lt_of_lt_of_le (Heap.lt_size e) (I.ok.cab x c hfn hc)))).trans e1⟩
    · by_cases hj : j = i
      · subst hj
        rw [hi] at e1; cases e1
        rw [List.getElem?_set_self hiσ] at e2
        cases e2
        exact ⟨u, r, .inr ⟨.inl hk, c, hc, hc'⟩⟩
      · rw [List.getElem?_set_ne (Ne.symm hj)] at e2
        obtain ⟨u', r', q⟩ := hl j y v' e1 e2 e3
        refine ⟨u', r', ?_⟩
        rcases q with q | ⟨k, c', e, z'⟩
        · exact .inl q
        · refine .inr ⟨k, c', e, z'.sameBut hs ?_⟩
          rintro rfl
          exact hj (nodup_ix hN e1 (I.ok.inj _ _ _ e hc ▸ hi))
    · by_cases hcc : c' = c
      · subst hcc; exact ⟨_, hc'⟩
      · obtain ⟨w2, z2⟩ := I.cell y c' e
        exact ⟨w2, z2.sameBut hs hcc⟩
    · obtain ⟨e, n, ne, nf, d⟩ := I.pin p hp
      refine ⟨(hs.2 p.1 ?_).trans e, n, ne, nf, d⟩
      intro q
      rw [q, hoc] at e
      have q' : oc = p.2 := Option.some.inj e
      exact d w' (by rw [← q']; exact hocd)
theorem store_ok {M : Model} {A : Around} {E : Value → Shared → Prop} {i : Nat} {x : Str} {v : V} {u : Value} {Q : Unit → Shared → Prop} (I : Inv X pins σ H s) (hN : X.N.Nodup) (hi : X.N[i]? = some x) (hx : Loc X.env.scope x) (r : RelV v u)
    (h : ∀ s', Inv X pins (σ.set i (some v)) H s' → Q () s') (hf : X.fn x = true ∨ X.env.scope.names.lookup x = some .local := by first | exact .inl rfl | exact .inr rfl | assumption) : wpAny M A (storeName X.env x u) Q E s :=
  store_ok2 I hN hi hx r (fun s' I' _ => h s' I') hf
/-- behind a call or a block, the state as it is -/
theorem Inv.call' {s' : Shared} {ch : List Addr} (I : Inv X pins σ H s) (ho : s'.os = s.os) (u : Un (frs X.stack) ch H H' s.heap s'.heap) (hok : HOk X.prog X.w H' s'.heap) (hg : AllBare s'.gens)
    (hch : ∀ b ∈ ch, (b ∈ X.ex ∨ X.s₀.heap.objs.size ≤ b) ∧ b ≠ X.env.locals ∧ (∀ x c, X.env.cells.lookup x = some c → c ≠ b) ∧ ∀ p ∈ X.pn ++ pins, p.1 ≠ b) : Inv X pins σ H' s' := by
  obtain ⟨h', g', d', t', o'⟩ := s'
  have e : o' = s.os := ho
  subst e
  exact I.call (g' := g') (t' := t') (d' := d') u hok hg hch
end

/-! ### the judgements -/
/-- an exception: its class, its own dict's address (where it has one), the abstract heap behind it -/
abbrev XK := Value → Option Addr → Hp → Prop
abbrev St := List (Option V)
abbrev VK := V → Hp → Prop
/-- an expression's reading; a test's; an argument list's -/
abbrev TE := St → Hp → VK → Prop
abbrev TT := St → Hp → (Bool → Hp → Prop) → Prop
abbrev TA := St → Hp → (List V → Hp → Prop) → Prop
/-- what is wanted behind a statement -/
structure Ends where
  nx : St → Hp → Prop
  rt : VK
  bk : St → Hp → Prop := fun _ _ => False
  ct : St → Hp → Prop := fun _ _ => False
abbrev TS := Ends → St → Hp → Prop

def EP (X : Cx) (pins : List (Addr × Obj)) (σ : St) (Q : VK) (u : Value) (s' : Shared) : Prop := ∃ v H', Inv X pins σ H' s' ∧ RelV v u ∧ Q v H'
def TP (X : Cx) (pins : List (Addr × Obj)) (σ : St) (Q : Bool → Hp → Prop) (b : Bool) (s' : Shared) : Prop := ∃ H', Inv X pins σ H' s' ∧ Q b H'
def AP (X : Cx) (pins : List (Addr × Obj)) (σ : St) (Q : List V → Hp → Prop) (us : List Value) (s' : Shared) : Prop := ∃ vs H', Inv X pins σ H' s' ∧ Vals vs us ∧ Q vs H'
def SP (X : Cx) (pins : List (Addr × Obj)) (D : Ends) (f : Flow) (s' : Shared) : Prop :=
  match f with
  | .next => ∃ σ' H', Inv X pins σ' H' s' ∧ D.nx σ' H'
  | .brk => ∃ σ' H', Inv X pins σ' H' s' ∧ D.bk σ' H'
  | .cont => ∃ σ' H', Inv X pins σ' H' s' ∧ D.ct σ' H'
  | .ret u => ∃ v σ' H', Inv X pins σ' H' s' ∧ RelV v u ∧ D.rt v H'

def PE (X : Cx) (e : Expr) (t : TE) : Prop :=
  ∀ (pins : List (Addr × Obj)) (s : Shared) (σ : St) (H : Hp) (Q : VK), Inv X pins σ H s → t σ H Q → wpAny (model X.prog X.w) X.A (eval e X.env) (EP X pins σ Q) X.xe s
def PT (X : Cx) (e : Expr) (t : TT) : Prop :=
  ∀ (pins : List (Addr × Obj)) (s : Shared) (σ : St) (H : Hp) (Q : Bool → Hp → Prop), Inv X pins σ H s → t σ H Q → wpAny (model X.prog X.w) X.A (isTrue e X.env (eval e X.env)) (TP X pins σ Q) X.xe s
/-- a test whatever its 'whole' is (and, or) -/
def PW (X : Cx) (e : Expr) (t : TT) : Prop :=
  ∀ (whole : Sem Value) (pins : List (Addr × Obj)) (s : Shared) (σ : St) (H : Hp) (Q : Bool → Hp → Prop), Inv X pins σ H s → t σ H Q → wpAny (model X.prog X.w) X.A (isTrue e X.env whole) (TP X pins σ Q) X.xe s
theorem PW.pt {X : Cx} {e : Expr} {t : TT} (h : PW X e t) : PT X e t := h _
/-- an argument list (no star), from the left -/
def PA (X : Cx) (es : List Expr) (t : TA) : Prop :=
  ∀ (pos : Pos) (pins : List (Addr × Obj)) (s : Shared) (σ : St) (H : Hp) (Q : List V → Hp → Prop), Inv X pins σ H s → t σ H Q → wpAny (model X.prog X.w) X.A (spliced (backTo pos (starEach es X.env))) (AP X pins σ Q) X.xe s
def PS (X : Cx) (st : Stmt) (t : TS) : Prop :=
  ∀ (pins : List (Addr × Obj)) (s : Shared) (σ : St) (H : Hp) (D : Ends), Inv X pins σ H s → t D σ H → wpAny (model X.prog X.w) X.A (exec st X.env) (SP X pins D) X.xe s
def PSs (X : Cx) (st : List Stmt) (t : TS) : Prop :=
  ∀ (pins : List (Addr × Obj)) (s : Shared) (σ : St) (H : Hp) (D : Ends), Inv X pins σ H s → t D σ H → wpAny (model X.prog X.w) X.A (execs st X.env) (SP X pins D) X.xe s
/-- weaken the end -/
theorem thn {α : Type} {t : Sem α} {Q Q' : α → Shared → Prop} {M : Model} {A : Around} {E : Value → Shared → Prop} {s : Shared} (h : wpAny M A t Q E s) (hQ : ∀ a s, Q a s → Q' a s) : wpAny M A t Q' E s := wpAny_mono h hQ fun _ _ x => x
end L2

namespace L2
open PySem PySem.Spec PyProof.Rows
section
variable {X : Cx}

/-! ### names and constants -/
def tVar (i : Nat) : TE := fun σ H Q => ∃ v, σ[i]? = some (some v) ∧ Q v H
def tC (v : V) : TE := fun _ H Q => Q v H
theorem pe_var {i : Nat} {x : Str} {pos : Pos} (hN : X.N[i]? = some x) (hv : Vis X.env.scope x) (hd : (x == ("__debug__" : Str)) = false := by decide) (hcd : (x == ("__classdict__" : Str)) = false := by decide) : PE X (.Name x pos) (tVar i) := by
  intro pins s σ H Q I h
  obtain ⟨v, e, h⟩ := h
  obtain ⟨m, hn, hl⟩ := I.loc
  obtain ⟨u, r, l⟩ := hl i x v hN e hv
  have fin : EP X pins σ Q u s := ⟨v, H, I, r, h⟩
  rcases l with ⟨hk, hm⟩ | ⟨hk, c, hc, hcell⟩
  · exact wpAny_Name (wpAny_loadName_local I.ok.kind hk hn hm fin) hd
  · rcases hk with hk | hk
    · exact wpAny_Name (wpAny_loadName_cell I.ok.kind hk hc hcell fin) hd
    · exact wpAny_Name (wpAny_loadName_free I.ok.kind hk hc hcell fin hcd) hd
theorem pe_int {i j pos} : PE X (.Constant (.int i) j pos) (tC (.int i)) := fun _ _ _ H _ I h => wpAny_Constant_int ⟨.int i, H, I.tok _, ⟨_, rfl⟩, h⟩
theorem pe_bl {b j pos} : PE X (.Constant (.bool b) j pos) (tC (.bl b)) := fun _ _ _ H _ I h => Constant_bool ⟨.bl b, H, I, rfl, h⟩
theorem pe_non {j pos} : PE X (.Constant .none j pos) (tC .non) := fun _ _ _ H _ I h => Constant_none ⟨.non, H, I, rfl, h⟩
theorem pe_str {x j pos} : PE X (.Constant (.str x) j pos) (tC (.str x)) := fun _ _ _ H _ I h => Calls.Constant_str ⟨.str x, H, I.tok _, ⟨_, rfl⟩, h⟩

/-- a global name of the def -/
def Gl (X : Cx) (x : Str) : Prop := X.env.kindOf x = some .globalImplicit
theorem ld_glob {E : Value → Shared → Prop} {pins : List (Addr × Obj)} {s : Shared} {σ : St} {H : Hp} {x : Str} {u : Value} {pos : Pos} {Q : Value → Shared → Prop} (I : Inv X pins σ H s) (hg : Gl X x) (hm : X.mg x = some u) (h : Q u s)
    (hd : (x == ("__debug__" : Str)) = false := by decide) : wpAny (model X.prog X.w) X.A (eval (.Name x pos) X.env) Q E s :=
  Calls.Name_function_global I.ok.kind hg (Calls.loadGlobal_global (by rw [I.ok.glob]; exact I.mod.glob.keeps I.bk) hm h) hd
theorem ld_blt {E : Value → Shared → Prop} {pins : List (Addr × Obj)} {s : Shared} {σ : St} {H : Hp} {x : Str} {u : Value} {pos : Pos} {Q : Value → Shared → Prop} (I : Inv X pins σ H s) (hg : Gl X x) (hm : X.mg x = none) (hv : bootBuiltins x = some u) (h : Q u s)
    (hn : x ≠ "__name__" := by decide) (hd : (x == ("__debug__" : Str)) = false := by decide) : wpAny (model X.prog X.w) X.A (eval (.Name x pos) X.env) Q E s := by
  obtain ⟨mb, h1, h2⟩ := I.mod.blt
  exact Calls.Name_function_global I.ok.kind hg (Calls.loadGlobal_builtin (by rw [I.ok.glob]; exact I.mod.glob.keeps I.bk) hm (by rw [I.ok.blt]; exact h1.keeps I.bk) ((h2 x hn).trans hv) h) hd
/-- a module's constant, a class, a function, as a value -/
theorem pe_glob {x : Str} {v : V} {u : Value} {pos : Pos} (hg : Gl X x) (hm : X.mg x = some u) (r : RelV v u) (hd : (x == ("__debug__" : Str)) = false := by decide) : PE X (.Name x pos) (tC v) :=
  fun _ _ _ H _ I h => ld_glob I hg hm ⟨v, H, I, r, h⟩ hd
theorem pe_bltn {x : Str} {v : V} {u : Value} {pos : Pos} (hg : Gl X x) (hm : X.mg x = none) (hv : bootBuiltins x = some u) (r : RelV v u) (hn : x ≠ "__name__" := by decide) (hd : (x == ("__debug__" : Str)) = false := by decide) : PE X (.Name x pos) (tC v) :=
  fun _ _ _ H _ I h => ld_blt I hg hm hv ⟨v, H, I, r, h⟩ hn hd

variable {a b : Expr} {ta tb : TE} {pos : Pos}
/-! ### comparisons -/
def PC (X : Cx) (op : CmpOp) (a b : Expr) (t : TE) : Prop :=
  ∀ (pins : List (Addr × Obj)) (s : Shared) (σ : St) (H : Hp) (Q : VK), Inv X pins σ H s → t σ H Q →
    wpAny (model X.prog X.w) X.A (eval a X.env) (fun v s₁ => wpAny (model X.prog X.w) X.A (eval b X.env) (fun u s₂ => wpAny (model X.prog X.w) X.A (compareOp op v u) (EP X pins σ Q) X.xe s₂) X.xe s₁) X.xe s
theorem nobehind (b : Expr) {op : CmpOp} (h : op ≠ .In) (h2 : op ≠ .NotIn) : behindInMarks op b = false := by
  have e1 : (op == CmpOp.In) = false := by cases op <;> first | rfl | exact absurd rfl h
  have e2 : (op == CmpOp.NotIn) = false := by cases op <;> first | rfl | exact absurd rfl h2
  cases b <;> simp [behindInMarks, e1, e2]
/-- is None -/
def tIsN (ta : TE) : TE := fun σ H Q => ta σ H fun x H1 => Q (.bl (decide (x = .non))) H1
theorem RelV.none_iff {x : V} {v : Value} (r : RelV x v) : (v == Value.none) = decide (x = .non) := by
  cases x with
  | non => cases r; rfl
  | bl _ => cases r; rfl
  | int _ => obtain ⟨t, rfl⟩ := r; rfl
  | str _ => obtain ⟨t, rfl⟩ := r; rfl
  | byt _ => obtain ⟨t, rfl⟩ := r; rfl
  | flt _ => obtain ⟨t, rfl⟩ := r; rfl
  | ref _ => cases r; rfl
  | ty _ => cases r; rfl
theorem pc_isN {j pos'} (ha : PE X a ta) : PC X .Is a (.Constant .none j pos') (tIsN ta) := by
  intro pins s σ H Q I h
  refine thn (ha pins s σ H _ I h) fun v s1 ⟨x, H1, I1, r1, q1⟩ => ?_
  exact Constant_none (is_none_gen ⟨.bl _, H1, I1, by rw [r1.none_iff]; rfl, q1⟩)
/-- a comparison as a value, as a test -/
def tB (t : TE) : TT := fun σ H Q => t σ H fun x H1 => ∃ c, x = .bl c ∧ Q c H1
theorem pe_cmp {op : CmpOp} {t : TE} (h : PC X op a b t) (h1 : behindInMarks op b = false := by first | exact nobehind _ (by decide) (by decide) | rfl) : PE X (.Compare a [op] [b] pos) t := fun pins s σ H Q I hw => wpAny_Compare1 (h pins s σ H Q I hw) h1
/-- an expression whose value is a bool, as a test -/
theorem pt_val {e : Expr} {t : TE} (h : PE X e t) (he : ∀ whole, isTrue e X.env whole = (do let v ← whole; standAt e.pos; holding [v] (truthy v)) := by intro _; rfl) : PT X e (tB t) := by
  intro pins s σ H Q I hw
  refine isTrue_plain (thn (h pins s σ H _ I hw) fun v s1 ⟨x, H1, I1, r1, q1⟩ => ?_) (he _)
  obtain ⟨d, rfl, q⟩ := q1
  cases r1
  exact wpAny_truthy_bool ⟨H1, I1, q⟩

/-! ### and, or, not -/
variable {tA tB' : TT} {rest : List Expr}
def tAnd (t u : TT) : TT := fun σ H Q => t σ H fun c H1 => if c = true then u σ H1 Q else Q false H1
def tOr (t u : TT) : TT := fun σ H Q => t σ H fun c H1 => if c = true then Q true H1 else u σ H1 Q
def tNot (t : TT) : TT := fun σ H Q => t σ H fun c H1 => Q (!c) H1
theorem pw_and1 (ha : PT X a tA) : PW X (.BoolOp .And [a] pos) tA := by
  intro wh pins s σ H Q I h
  refine isTrue_and (thn (ha pins s σ H Q I h) fun c s1 e => ?_)
  cases c with
  | true => exact isTrue_and_nil e
  | false => exact e
theorem pw_or1 (ha : PT X a tA) : PW X (.BoolOp .Or [a] pos) tA := by
  intro wh pins s σ H Q I h
  refine isTrue_or (thn (ha pins s σ H Q I h) fun c s1 e => ?_)
  cases c with
  | false => exact isTrue_or_nil e
  | true => exact e
theorem pw_and (ha : PT X a tA) (hb : PW X (.BoolOp .And (b :: rest) pos) tB') : PW X (.BoolOp .And (a :: b :: rest) pos) (tAnd tA tB') := by
  intro wh pins s σ H Q I h
  refine isTrue_and (thn (ha pins s σ H _ I h) fun c s1 ⟨H1, I1, q1⟩ => ?_)
  cases c with
  | true => exact hb wh pins s1 σ H1 Q I1 q1
  | false => exact ⟨H1, I1, q1⟩
theorem pw_or (ha : PT X a tA) (hb : PW X (.BoolOp .Or (b :: rest) pos) tB') : PW X (.BoolOp .Or (a :: b :: rest) pos) (tOr tA tB') := by
  intro wh pins s σ H Q I h
  refine isTrue_or (thn (ha pins s σ H _ I h) fun c s1 ⟨H1, I1, q1⟩ => ?_)
  cases c with
  | true => exact ⟨H1, I1, q1⟩
  | false => exact hb wh pins s1 σ H1 Q I1 q1
theorem pt_not (ha : PT X a tA) : PT X (.UnaryOp .Not a pos) (tNot tA) := by
  intro pins s σ H Q I h
  exact isTrue_not (ha pins s σ H (fun c H1 => Q (!c) H1) I h)
/-- .. as values (bools) -/
def tAndV (ta tb : TE) : TE := fun σ H Q => ta σ H fun x H1 => ∃ c, x = .bl c ∧ if c = true then tb σ H1 Q else Q (.bl false) H1
def tOrV (ta tb : TE) : TE := fun σ H Q => ta σ H fun x H1 => ∃ c, x = .bl c ∧ if c = true then Q (.bl true) H1 else tb σ H1 Q
def tNotV (ta : TE) : TE := fun σ H Q => ta σ H fun x H1 => ∃ c, x = .bl c ∧ Q (.bl (!c)) H1
theorem pe_one {op} {t : TE} (h : PE X a t) : PE X (.BoolOp op [a] pos) t := fun pins s σ H Q I hw => BoolOp_one (h pins s σ H Q I hw)
theorem pe_and (ha : PE X a ta) (hb : PE X (.BoolOp .And (b :: rest) pos) tb) : PE X (.BoolOp .And (a :: b :: rest) pos) (tAndV ta tb) := by
  intro pins s σ H Q I h
  refine BoolOp_and (thn (ha pins s σ H _ I h) fun v s1 ⟨x, H1, I1, r1, q1⟩ => ?_)
  obtain ⟨c, rfl, q1⟩ := q1
  cases r1
  refine wpAny_truthy_bool ?_
  cases c with
  | true => exact hb pins s1 σ H1 Q I1 q1
  | false => exact ⟨.bl false, H1, I1, rfl, q1⟩
theorem pe_or (ha : PE X a ta) (hb : PE X (.BoolOp .Or (b :: rest) pos) tb) : PE X (.BoolOp .Or (a :: b :: rest) pos) (tOrV ta tb) := by
  intro pins s σ H Q I h
  refine BoolOp_or (thn (ha pins s σ H _ I h) fun v s1 ⟨x, H1, I1, r1, q1⟩ => ?_)
  obtain ⟨c, rfl, q1⟩ := q1
  cases r1
  refine wpAny_truthy_bool ?_
  cases c with
  | false => exact hb pins s1 σ H1 Q I1 q1
  | true => exact ⟨.bl true, H1, I1, rfl, q1⟩
theorem pe_not (ha : PE X a ta) : PE X (.UnaryOp .Not a pos) (tNotV ta) := by
  intro pins s σ H Q I h
  refine UnaryOp_ (thn (ha pins s σ H _ I h) fun v s1 ⟨x, H1, I1, r1, q1⟩ => ?_)
  obtain ⟨c, rfl, q1⟩ := q1
  cases r1
  exact not_of (wpAny_truthy_bool ⟨.bl (!c), H1, I1, rfl, q1⟩)
end
end L2

namespace L2
open PySem PySem.Spec PyProof.Rows

/-! ### a list, a tuple that is read: tracked, frozen, or an object of the module -/
def SqL (K : PySem.W.Frag) (H : Hp) (a : Addr) (xs : List V) : Prop :=
  Rd H a (.lst xs) ∨
    ∃ (o : Obj) (its : Array Value) (n : Nat), K.lookup a = some o ∧ o.cls = .type "list" ∧ o.dict = none ∧ o.data = .seq its n ∧ its.size ≤ sizeLine ∧ Vals xs its.toList
def SqT (K : PySem.W.Frag) (H : Hp) (a : Addr) (xs : List V) : Prop :=
  Rd H a (.tup xs) ∨
    ∃ (o : Obj) (its : Array Value) (n : Nat), K.lookup a = some o ∧ o.cls = .type "tuple" ∧ o.data = .seq its n ∧ its.size ≤ sizeLine ∧ Vals xs its.toList
def absV : Value → Option V
  | .none => some .non
  | .bool b => some (.bl b)
  | .int i _ => some (.int i)
  | .str x _ => some (.str x)
  | .bytes b _ => some (.byt b)
  | .float b _ => some (.flt b)
  | .ref a => some (.ref a)
  | .type n => some (.ty n)
  | _ => none
theorem RelV.abs {x : V} {u : Value} (r : RelV x u) : absV u = some x := by
  cases x with
  | non => cases r; rfl
  | bl _ => cases r; rfl
  | int _ => obtain ⟨t, rfl⟩ := r; rfl
  | str _ => obtain ⟨t, rfl⟩ := r; rfl
  | byt _ => obtain ⟨t, rfl⟩ := r; rfl
  | flt _ => obtain ⟨t, rfl⟩ := r; rfl
  | ref _ => cases r; rfl
  | ty _ => cases r; rfl
theorem RelV.inj {x y : V} {u : Value} (r : RelV x u) (q : RelV y u) : x = y := Option.some.inj (r.abs.symm.trans q.abs)
theorem Vals.inj : ∀ {xs ys : List V} {us : List Value}, Vals xs us → Vals ys us → xs = ys
  | _, _, _, .nil, .nil => rfl
  | _, _, _, .cons r t, .cons r' t' => by rw [r.inj r', Vals.inj t t']
section
variable {X : Cx} {pins : List (Addr × Obj)} {σ : St} {H : Hp} {s : Shared} {a : Addr} {xs ys : List V}
theorem SqL.of {K : PySem.W.Frag} (h : H a = some (.lst xs)) : SqL K H a xs := .inl (.inl h)
theorem SqT.of {K : PySem.W.Frag} (h : H a = some (.tup xs)) : SqT K H a xs := .inl (.inl h)
theorem Inv.list (I : Inv X pins σ H s) (h : SqL X.K H a xs) : ∃ its : List Value, Vals xs its ∧ PlainL s.heap a its.toArray ∧ xs.length ≤ sizeLine := by
  rcases h with h | ⟨o, its, n, hk, hc, hd, hs, hz, r⟩
  · obtain ⟨z, its, n, r, e⟩ := h.ok I.hok
    exact ⟨its, r, ⟨_, n, e, rfl, rfl, rfl⟩, z⟩
  · refine ⟨its.toList, r, ⟨o, n, I.kIn a o hk, hc, hd, by simpa using hs⟩, ?_⟩
    have e := r.length
    simp only [Array.length_toList] at e
    omega
theorem Inv.tuple (I : Inv X pins σ H s) (h : SqT X.K H a xs) : ∃ its : List Value, Vals xs its ∧ IsTup s.heap a its.toArray ∧ xs.length ≤ sizeLine := by
  rcases h with h | ⟨o, its, n, hk, hc, hs, hz, r⟩
  · obtain ⟨z, its, r, p⟩ := h.ok I.hok
    exact ⟨its, r, p, z⟩
  · refine ⟨its.toList, r, ⟨o, I.kIn a o hk, hc, n, by simpa using hs⟩, ?_⟩
    have e := r.length
    simp only [Array.length_toList] at e
    omega
theorem Inv.list_inj (I : Inv X pins σ H s) (h : SqL X.K H a xs) (h' : SqL X.K H a ys) : xs = ys := by
  obtain ⟨its, r, ⟨o, n, e, _, _, d⟩, _⟩ := I.list h
  obtain ⟨its', r', ⟨o', n', e', _, _, d'⟩, _⟩ := I.list h'
  rw [e] at e'; cases e'
  rw [d] at d'
  injection d' with d1 _
  have : its = its' := by simpa using congrArg Array.toList d1
  subst this
  exact r.inj r'
end

/-! ### another wish about exceptions -/
abbrev Cx.wish (X : Cx) (E : Value → Shared → Prop) : Cx := { X with xe := E }
/-- no exception leaves -/
abbrev Cx.nox (X : Cx) : Cx := X.wish fun _ _ => False
theorem Cx.Ok.wish {X : Cx} (ok : X.Ok) (E : Value → Shared → Prop) : (X.wish E).Ok :=
  ⟨ok.mod, ok.kind, ok.glob, ok.blt, ok.above, ok.inj, ok.has, ok.cab, ok.hd, ok.frames, ok.stk, ok.exf, ok.bs, ok.bsz, ok.noex, ok.exfs, ok.funs, ok.frf⟩
theorem Cx.Ok.unwish {X : Cx} {E : Value → Shared → Prop} (ok : (X.wish E).Ok) : X.Ok :=
  ⟨ok.mod, ok.kind, ok.glob, ok.blt, ok.above, ok.inj, ok.has, ok.cab, ok.hd, ok.frames, ok.stk, ok.exf, ok.bs, ok.bsz, ok.noex, ok.exfs, ok.funs, ok.frf⟩
section
variable {X : Cx} {pins : List (Addr × Obj)} {σ : St} {H : Hp} {s : Shared} {E : Value → Shared → Prop}
theorem Inv.wish (I : Inv X pins σ H s) (E : Value → Shared → Prop) : Inv (X.wish E) pins σ H s := ⟨I.ok.wish E, I.os, I.bare, I.base, I.loc, I.cell, I.free, I.freeC, I.pin, I.hok, I.len⟩
theorem Inv.unwish (I : Inv (X.wish E) pins σ H s) : Inv X pins σ H s := ⟨I.ok.unwish, I.os, I.bare, I.base, I.loc, I.cell, I.free, I.freeC, I.pin, I.hok, I.len⟩
theorem SP.unwish {D : Ends} {f : Flow} {s' : Shared} (h : SP (X.wish E) pins D f s') : SP X pins D f s' := by
  cases f with
  | next => obtain ⟨σ', H', I, q⟩ := h; exact ⟨σ', H', I.unwish, q⟩
  | brk => obtain ⟨σ', H', I, q⟩ := h; exact ⟨σ', H', I.unwish, q⟩
  | cont => obtain ⟨σ', H', I, q⟩ := h; exact ⟨σ', H', I.unwish, q⟩
  | ret u => obtain ⟨v, σ', H', I, r, q⟩ := h; exact ⟨v, σ', H', I.unwish, r, q⟩
theorem PSs.nox {st : List Stmt} {t : TS} (h : PSs X.nox st t) : PSs X st t := fun pins s σ H D I hw =>
  wpAny_mono (h pins s σ H D (I.wish _) hw) (fun _ _ q => q.unwish) fun _ _ z => False.elim z
end

/-! ### blocks and small statements -/
section
variable {X : Cx} {st : Stmt} {rest : List Stmt} {t u : TS} {e : Expr} {te : TE} {pos : Pos}
def tNext : TS := fun D σ H => D.nx σ H
def tSeq (t u : TS) : TS := fun D σ H => t { D with nx := u D } σ H
theorem pss_nil : PSs X [] tNext := fun _ _ σ H _ I h => wpAny_execs_nil ⟨σ, H, I, h⟩
theorem pss_cons (h1 : PS X st t) (h2 : PSs X rest u) : PSs X (st :: rest) (tSeq t u) := by
  intro pins s σ H D I h
  refine wpAny_execs_cons (thn (h1 pins s σ H { D with nx := u D } I h) fun f s1 q => ?_)
  cases f with
  | next =>
    obtain ⟨σ', H', I', q⟩ := q
    exact h2 pins s1 σ' H' D I' q
  | ret v => exact q
  | brk => exact q
  | cont => exact q
theorem pss_one (h1 : PS X st t) : PSs X [st] t := by
  intro pins s σ H D I h
  refine wpAny_execs_cons (thn (h1 pins s σ H D I h) fun f s1 q => ?_)
  cases f with
  | next => exact wpAny_execs_nil q
  | ret v => exact q
  | brk => exact q
  | cont => exact q
/-- in a def's body nothing is shown -/
theorem Inv.quiet {pins : List (Addr × Obj)} {σ : St} {H : Hp} {s : Shared} (I : Inv X pins σ H s) : interactive X.env = false := by simp [interactive, I.ok.kind]
/-- an expression whose value is dropped -/
def tDrop (te : TE) : TS := fun D σ H => te σ H fun _ H1 => D.nx σ H1
theorem ps_expr (he : PE X e te) (hs : swapsWith e none pos.line X.env = pure false := by rfl) : PS X (.Expr e pos) (tDrop te) := by
  intro pins s σ H D I h
  exact wpAny_Expr_any (thn (he pins s σ H _ I h) fun v s1 ⟨x, H1, I1, r1, q1⟩ => ⟨σ, H1, I1, q1⟩) I.quiet hs
def tRet (te : TE) : TS := fun D σ H => te σ H D.rt
theorem ps_ret (he : PE X e te) : PS X (.Return (some e) pos) (tRet te) := by
  intro pins s σ H D I h
  exact wpAny_Return_some (thn (he pins s σ H _ I h) fun v s1 ⟨x, H1, I1, r1, q1⟩ => ⟨x, σ, H1, I1, r1, q1⟩)
def tIfS (c : TT) (t u : TS) : TS := fun D σ H => c σ H fun b H1 => if b = true then t D σ H1 else u D σ H1
theorem ps_if {c : Expr} {a b : List Stmt} {tc : TT} (hc : PT X c tc) (ha : PSs X a t) (hb : PSs X b u) : PS X (.If c a b pos) (tIfS tc t u) := by
  intro pins s σ H D I h
  refine wpAny_If (thn (hc pins s σ H _ I h) fun d s1 ⟨H1, I1, q1⟩ => ?_)
  cases d with
  | true => exact ha pins s1 σ H1 D I1 q1
  | false => exact hb pins s1 σ H1 D I1 q1
end

/-! ### targets -/
abbrev TG := V → St → Hp → (St → Hp → Prop) → Prop
abbrev TGs := List V → St → Hp → (St → Hp → Prop) → Prop
def PG (X : Cx) (target : Expr) (t : TG) : Prop :=
  ∀ (pins : List (Addr × Obj)) (s : Shared) (σ : St) (H : Hp) (v : V) (u : Value) (Q : St → Hp → Prop), Inv X pins σ H s → RelV v u → t v σ H Q →
    wpAny (model X.prog X.w) X.A (assign target X.env u) (fun _ s' => ∃ σ' H', Inv X pins σ' H' s' ∧ Q σ' H') X.xe s
/-- several targets, one after another -/
def PGs (X : Cx) (ts : List Expr) (t : TGs) : Prop :=
  ∀ (pins : List (Addr × Obj)) (s : Shared) (σ : St) (H : Hp) (vs : List V) (us : List Value) (Q : St → Hp → Prop), Inv X pins σ H s → Vals vs us → t vs σ H Q →
    wpAny (model X.prog X.w) X.A (assignInOrder ((assignEach ts X.env).map (·.2)) us) (fun _ s' => ∃ σ' H', Inv X pins σ' H' s' ∧ Q σ' H') X.xe s
section
variable {X : Cx} {pos : Pos}
def gName (i : Nat) : TG := fun v σ H Q => Q (σ.set i (some v)) H
theorem pg_name {i : Nat} {x : Str} (hN : X.N.Nodup) (hi : X.N[i]? = some x) (hx : Loc X.env.scope x) (hf : X.fn x = true ∨ X.env.scope.names.lookup x = some .local := by first | exact .inl rfl | exact .inr rfl | assumption) : PG X (.Name x pos) (gName i) := by
  intro pins s σ H v u Q I r h
  exact wpAny_assign_Name (store_ok I hN hi hx r (fun s' I' => ⟨_, H, I', h⟩) hf)
def gNil : TGs := fun vs σ H Q => vs = [] ∧ Q σ H
def gCons (t : TG) (u : TGs) : TGs := fun vs σ H Q => ∃ v r, vs = v :: r ∧ t v σ H fun σ' H' => u r σ' H' Q
theorem pgs_nil : PGs X [] gNil := by
  intro pins s σ H vs us Q I r h
  obtain ⟨e, h⟩ := h
  subst e
  cases r
  exact assignInOrder_nil ⟨σ, H, I, h⟩
theorem pgs_cons {e : Expr} {es : List Expr} {t : TG} {u : TGs} (h1 : PG X e t) (h2 : PGs X es u)
    (hs : (assignEach (e :: es) X.env).map (·.2) = assign e X.env :: (assignEach es X.env).map (·.2) := by rfl) : PGs X (e :: es) (gCons t u) := by
  intro pins s σ H vs us Q I r h
  obtain ⟨v, vr, e1, h⟩ := h
  subst e1
  cases r with
  | cons r rr =>
    rw [hs]
    refine assignInOrder_cons (thn (h1 pins s σ H _ _ _ I r h) fun _ s1 ⟨σ1, H1, I1, q1⟩ => ?_)
    exact h2 pins s1 σ1 H1 _ _ Q I1 rr q1
/-- (a, b, ..) = a tuple of that length -/
def gTup (K : PySem.W.Frag) (n : Nat) (t : TGs) : TG := fun v σ H Q => ∃ a xs, v = .ref a ∧ SqT K H a xs ∧ xs.length = n ∧ t xs σ H Q
theorem pg_tup {es : List Expr} {k : Nat} {t : TGs} {n : Nat} (hc : X.calm = true) (h : PGs X es t)
    (hn : (assignEach es X.env).length = n := by rfl) (hst : (assignEach es X.env).findIdx? (·.1) = none := by rfl) : PG X (.Tuple es k pos) (gTup X.K n t) := by
  intro pins s σ H v u Q I r hw
  obtain ⟨a, xs, e1, hq, hl, hw⟩ := hw
  subst e1
  cases r
  obtain ⟨its, rv, ht, hz⟩ := I.tuple hq
  refine assign_Tuple_tuple (I.ok.hd hc) ht (by simp [hn, ← hl, rv.length]) hst fun h' hx => ?_
  have I1 : Inv X pins σ H { s with heap := h' } := I.kept (t' := s.toks) fun b o e => hx b o (Nat.ne_of_lt (Heap.lt_size e)) e
  exact h pins _ σ H xs _ Q I1 (by simpa using rv) hw
/-- target = value -/
def tAsg (te : TE) (g : TG) : TS := fun D σ H => te σ H fun x H1 => g x σ H1 D.nx
theorem ps_asg {tg e : Expr} {te : TE} {g : TG} (he : PE X e te) (hg : PG X tg g) (hs : swapsWithSole [tg] e pos.line X.env = pure false := by rfl) (hw : swappedStores [tg] e X.env = pure none := by rfl)
    (h1 : (assignEach [tg] X.env).map (·.2) = [assign tg X.env] := by rfl) : PS X (.Assign [tg] e pos) (tAsg te g) := by
  intro pins s σ H D I h
  refine wpAny_Assign_stores (thn (he pins s σ H _ I h) fun v s1 ⟨x, H1, I1, r1, q1⟩ => ?_) hs hw
  rw [h1]
  exact thn (hg pins s1 σ H1 x v _ I1 r1 q1) fun _ s2 q => q
/-- name = value -/
theorem ps_set {i : Nat} {x : Str} {e : Expr} {te : TE} {pos' : Pos} (hN : X.N.Nodup) (hi : X.N[i]? = some x) (hx : Loc X.env.scope x) (he : PE X e te) (hs : swapsWith e (some (.Name x pos')) pos.line X.env = pure false := by rfl) (hf : X.fn x = true ∨ X.env.scope.names.lookup x = some .local := by first | exact .inl rfl | exact .inr rfl | assumption) :
    PS X (.Assign [.Name x pos'] e pos) (tAsg te (gName i)) := by
  intro pins s σ H D I h
  refine wpAny_Assign_Name (thn (he pins s σ H _ I h) fun v s1 ⟨y, H1, I1, r1, q1⟩ => ?_) hs
  exact store_ok I1 hN hi hx r1 (fun s2 I2 => ⟨_, H1, I2, q1⟩) hf
end

/-! ### while -/
section
variable {X : Cx} {pos : Pos}
/-- the invariant W with its measure -/
def tWhile (c : TT) (tb : TS) : TS := fun D σ H => ∃ W : Nat → St → Hp → Prop, (∃ m, W m σ H) ∧ ∀ m σ H, W m σ H →
  c σ H fun b H1 => if b = true then ∃ N : St → Hp → Prop, (∀ σ' H', N σ' H' → ∃ m', m' < m ∧ W m' σ' H') ∧ tb { D with nx := N, ct := N, bk := D.nx } σ H1 else D.nx σ H1
theorem ps_while {c : Expr} {body : List Stmt} {tc : TT} {tb : TS} (hp : PassesOwn (model X.prog X.w) X.A X.env X.xe) (hc : PT X c tc) (hb : PSs X body tb) : PS X (.While c body [] pos) (tWhile tc tb) := by
  intro pins s σ H D I h
  obtain ⟨W, ⟨m0, w0⟩, turn⟩ := h
  refine wpAny_While (codeAny_whileLoop (fun n s' => ∃ σ' H', Inv X pins σ' H' s' ∧ W n σ' H') ?_ m0 ⟨σ, H, I, w0⟩)
  rintro n s1 ⟨σ1, H1, I1, w1⟩
  refine wpAny_passesOwn hp (thn (hc pins s1 σ1 H1 _ I1 (turn n σ1 H1 w1)) fun b s2 ⟨H2, I2, q2⟩ => ?_)
  cases b with
  | true =>
    obtain ⟨N, hN, q2⟩ := q2
    rw [if_pos rfl]
    refine wpAny_passesOwn hp (thn (hb pins s2 σ1 H2 _ I2 q2) fun f s3 q3 => ?_)
    cases f with
    | next =>
      obtain ⟨σ3, H3, I3, n3⟩ := q3
      obtain ⟨m', hm, w3⟩ := hN σ3 H3 n3
      exact ⟨m', hm, σ3, H3, I3, w3⟩
    | cont =>
      obtain ⟨σ3, H3, I3, n3⟩ := q3
      obtain ⟨m', hm, w3⟩ := hN σ3 H3 n3
      exact ⟨m', hm, σ3, H3, I3, w3⟩
    | brk => exact q3
    | ret v => exact q3
  | false =>
    rw [if_neg Bool.false_ne_true]
    exact wpAny_execs_nil ⟨σ1, H2, I2, q2⟩
end

/-! ### what a loop or a comprehension walks -/
/-- at turn i: it yields x (the heap may grow), or it stops -/
structure It where
  go : Nat → Hp → Prop
  yld : Nat → Hp → V → Hp → Prop
  stop : Nat → Hp → Prop
/-- the iterator's own objects may turn: they are not the frame's, not pinned, younger than the entry (or a comprehension's own) -/
def FpOk (X : Cx) (pins : List (Addr × Obj)) (H : Hp) (b : Addr) : Prop :=
  H b = none ∧ b ≠ X.env.locals ∧ b ∉ X.fs ∧ (b ∈ X.ex ∨ X.s₀.heap.objs.size ≤ b) ∧ (∀ x c, X.env.cells.lookup x = some c → c ≠ b) ∧ ∀ p ∈ X.pn ++ pins, p.1 ≠ b
theorem Inv.fpOk {X : Cx} {pins : List (Addr × Obj)} {σ : St} {H H' : Hp} {s : Shared} {b : Addr} (I : Inv X pins σ H s) (hb : s.heap.objs.size ≤ b) (hn : H' b = none) : FpOk X pins H' b := by
  refine ⟨hn, Nat.ne_of_gt (Nat.lt_of_lt_of_le I.lt hb), I.nofs hb, .inr (Nat.le_trans I.sz hb), fun x c e z => ?_, fun p hp z => ?_⟩
  · obtain ⟨v, q⟩ := I.cell x c e
    exact absurd (Nat.lt_of_lt_of_le q.lt (by rw [z]; exact hb)) (Nat.lt_irrefl _)
  · exact absurd (Nat.lt_of_lt_of_le (Heap.lt_size (I.pin p hp).1) (by rw [z]; exact hb)) (Nat.lt_irrefl _)
structure Turn (P : Program) (w : World) (K : PySem.W.Frag) (tg : Expr) (J : It) (fp : List Addr) (it : Addr) (tn : Nat → Heap → Prop) : Prop where
  mem : it ∈ fp
  obj : ∀ i h, tn i h → ∀ b ∈ fp, ∃ o, h.get? b = some o ∧ ∀ v, o.data ≠ .cell v
  keep : ∀ i h h', tn i h → (∀ b ∈ fp, ∀ o, h.get? b = some o → h'.get? b = some o) → tn i h'
  item : ∀ (X : Cx), X.prog = P → X.w = w → X.K = K → X.calm = true → ∀ (i : Nat) (pins : List (Addr × Obj)) (s : Shared) (σ : St) (H : Hp) (E : Value → Shared → Prop), Inv X pins σ H s → (∀ b ∈ fp, FpOk X pins H b) → tn i s.heap → J.go i H →
    wpAny (model P w) X.A (pyNext (.ref it)) (fun r s1 => ∃ u, r = some u ∧
      wpAny (model P w) X.A (letOwnedTupleGo tg (.ref it) u) (fun _ s2 => ∃ x H', Inv X pins σ H' s2 ∧ RelV x u ∧ J.yld i H x H' ∧ tn (i + 1) s2.heap ∧ ∀ b ∈ fp, H' b = none) E s1) E s
  done : ∀ (X : Cx), X.prog = P → X.w = w → X.K = K → X.calm = true → ∀ (i : Nat) (pins : List (Addr × Obj)) (s : Shared) (σ : St) (H : Hp) (E : Value → Shared → Prop), Inv X pins σ H s → (∀ b ∈ fp, FpOk X pins H b) → tn i s.heap → J.stop i H →
    wpAny (model P w) X.A (pyNext (.ref it)) (fun r s1 => r = none ∧ Inv X pins σ H s1) E s
  self : ∀ (A : Around) (i : Nat) (s : Shared) (Q : Value → Shared → Prop) (E : Value → Shared → Prop), tn i s.heap → Q (.ref it) s → wpAny (model P w) A (pyIter (.ref it)) Q E s
abbrev TI := St → Hp → (It → Hp → Prop) → Prop
/-- an iterator has come -/
def PIE (X : Cx) (pins : List (Addr × Obj)) (σ : St) (tg : Expr) (R : It → Hp → Prop) (itv : Value) (s2 : Shared) : Prop :=
  ∃ (it : Addr) (fp : List Addr) (tn : Nat → Heap → Prop) (J : It) (H' : Hp), itv = .ref it ∧ Inv X pins σ H' s2 ∧ Turn X.prog X.w X.K tg J fp it tn ∧ tn 0 s2.heap ∧ (∀ b ∈ fp, FpOk X pins H' b) ∧ R J H'
def PI (X : Cx) (tg iter : Expr) (wi : TI) : Prop :=
  ∀ (pins : List (Addr × Obj)) (s : Shared) (σ : St) (H : Hp) (R : It → Hp → Prop), Inv X pins σ H s → wi σ H R →
    wpAny (model X.prog X.w) X.A (eval iter X.env) (fun v s1 => wpAny (model X.prog X.w) X.A (pyIter v) (PIE X pins σ tg R) X.xe s1) X.xe s

/-- the step ahead of the store is nothing for an iterator that keeps no tuple -/
theorem go_of {M : Model} {A : Around} {E : Value → Shared → Prop} {s : Shared} {tg : Expr} {it : Addr} {u : Value} {o : Obj} {n : String} {vs : Array Value} {Q : Unit → Shared → Prop} (ho : s.heap.get? it = some o) (hc : o.cls = .type n) (hd : o.data = .fields vs)
    (hn : ["enumerate", "zip", "dict_itemiterator", "dict_reverseitemiterator", "odict_iterator", "itertools.zip_longest", "itertools.pairwise"].contains n = false) (hQ : Q () s) : wpAny M A (letOwnedTupleGo tg (.ref it) u) Q E s := by
  unfold letOwnedTupleGo
  cases tg <;> first
    | exact wpAny_pure hQ
    | (cases u <;> first
        | exact wpAny_pure hQ
        | (refine wpAny_bind (wpAny_load ho ?_)
           rw [hc, hd]
           show wpAny M A (if (["enumerate", "zip", "dict_itemiterator", "dict_reverseitemiterator", "odict_iterator", "itertools.zip_longest", "itertools.pairwise"].contains n && vs[0]? == some (rawInt _)) = true then _ else _) Q E s
           rw [if_neg (by intro h; rw [hn, Bool.false_and] at h; cases h)]
           exact wpAny_pure hQ))

/-- the list at a, as it stands at each turn (a loop may append to it) -/
def Itl (K : PySem.W.Frag) (a : Addr) : It :=
  ⟨fun i H => ∃ xs x, SqL K H a xs ∧ xs[i]? = some x, fun i H x H' => H' = H ∧ ∀ xs, SqL K H a xs → xs[i]? = some x, fun i H => ∃ xs, SqL K H a xs ∧ xs.length ≤ i⟩
/-- lo, lo + 1, .. (n of them) -/
def Itr (lo : Int) (n : Nat) : It := ⟨fun i _ => i < n, fun i H x H' => H' = H ∧ x = .int (lo + i), fun i _ => n ≤ i⟩
theorem turn_list {P : Program} {w : World} {K : PySem.W.Frag} {tg : Expr} (a it : Addr) : Turn P w K tg (Itl K a) [it] it (fun i h => h.IsListIter it a i) where
  mem := by simp
  obj := fun i h st b hb => by
    have e : b = it := by simpa using hb
    subst e
    obtain ⟨o, e, c, d⟩ := st
    exact ⟨o, e, fun v z => by rw [d] at z; cases z⟩
  keep := fun i h h' st k => st.at fun o e => k it (by simp) o e
  item := by
    intro X hP hw hK hc i pins s σ H E I hf st hg
    subst hP hw hK
    obtain ⟨xs, x, hq, hx⟩ := hg
    obtain ⟨its, rv, p, hz⟩ := I.list hq
    obtain ⟨u, hu, ru⟩ := rv.get hx
    obtain ⟨f0, f1, f2, f3, f4, f5⟩ := hf it (by simp)
    refine wpAny_pyNext_list_item st p.isList (x := u) (by simpa using hu) fun h' st' sb => ?_
    have I1 : Inv X pins σ H { s with heap := h' } := I.turned (t' := s.toks) (fun b o hb e => (sb.2 b hb).trans e) f0 f1 f3 f4 f5
    obtain ⟨o, e, c, d⟩ := id st'
    exact ⟨u, rfl, go_of (s := { s with heap := h' }) e c d (by decide) ⟨x, H, I1, ru, ⟨rfl, fun ys hy => by rw [I.list_inj hy hq]; exact hx⟩, st', fun b hb => (hf b hb).1⟩⟩
  done := by
    intro X hP hw hK hc i pins s σ H E I hf st hg
    subst hP hw hK
    obtain ⟨xs, hq, hx⟩ := hg
    obtain ⟨its, rv, p, hz⟩ := I.list hq
    obtain ⟨f0, f1, f2, f3, f4, f5⟩ := hf it (by simp)
    have hl := rv.length
    exact wpAny_pyNext_list_end (I.ok.hd hc) st p.isList (by simp; omega) fun h' eb => ⟨rfl, I.turned (t' := s.toks) (fun b o hb e => eb b o hb e) f0 f1 f3 f4 f5⟩
  self := fun _ _ _ _ _ st h => wpAny_pyIter_listiter st h
theorem turn_range {P : Program} {w : World} {K : PySem.W.Frag} {tg : Expr} (it : Addr) (lo : Int) (n : Nat) : Turn P w K tg (Itr lo n) [it] it (fun i h => IsRangeIter h it (lo + (i : Nat) * 1) ((n : Int) - (i : Nat)) 1) where
  mem := by simp
  obj := fun i h st b hb => by
    have e : b = it := by simpa using hb
    subst e
    exact ⟨_, st, fun v z => by
      have z' : Data.fields _ = Data.cell v := z
      cases z'⟩
  keep := fun i h h' st k => k it (by simp) _ st
  item := by
    intro X hP hw hK hc i pins s σ H E I hf st hg
    subst hP hw hK
    obtain ⟨f0, f1, f2, f3, f4, f5⟩ := hf it (by simp)
    have W := Walks.range (prog := X.prog) (w := X.w) (I.ok.hd hc) it lo 1 n
    refine W.item i s _ _ hg st fun v h' tk hv st' kk => ?_
    obtain ⟨t, rfl⟩ := hv
    have I1 : Inv X pins σ H { s with heap := h', toks := tk } := I.turned (fun b o hb e => kk b o (by simpa using hb) e) f0 f1 f3 f4 f5
    refine ⟨_, rfl, go_of (s := { s with heap := h', toks := tk }) (n := "range_iterator") st' rfl rfl (by decide) ⟨.int (lo + i), H, I1, ⟨t, ?_⟩, ⟨rfl, rfl⟩, st', fun b hb => (hf b hb).1⟩⟩
    rw [Int.mul_one]
  done := by
    intro X hP hw hK hc i pins s σ H E I hf st hg
    subst hP hw hK
    obtain ⟨f0, f1, f2, f3, f4, f5⟩ := hf it (by simp)
    exact wpAny_pyNext_range_end (I.ok.hd hc) st (by have : n ≤ i := hg; omega) fun h' eb => ⟨rfl, I.turned (t' := s.toks) (fun b o hb e => eb b o hb e) f0 f1 f3 f4 f5⟩
  self := fun _ _ _ _ _ st h => wpAny_pyIter_rangeiter st h
end L2

namespace L2
open PySem PySem.Spec PyProof.Rows
section
variable {X : Cx} {tg : Expr}
def iList (K : PySem.W.Frag) (tl : TE) : TI := fun σ H R => tl σ H fun x H1 => ∃ a, x = .ref a ∧ (∃ xs, SqL K H1 a xs) ∧ R (Itl K a) H1
theorem pi_list {l : Expr} {tl : TE} (hl : PE X l tl) : PI X tg l (iList X.K tl) := by
  intro pins s σ H R I h
  refine thn (hl pins s σ H _ I h) fun v s1 ⟨x, H1, I1, r1, q1⟩ => ?_
  obtain ⟨a, e, ⟨xs, hq⟩, q⟩ := q1
  subst e
  cases r1
  obtain ⟨its, rv, p, hz⟩ := I1.list hq
  refine wpAny_pyIter_list p.isList ?_
  refine ⟨s1.heap.objs.size, [s1.heap.objs.size], _, _, H1, rfl, I1.kept (t' := s1.toks) fun b o e => Heap.get?_push_of_some _ e, turn_list a _, ⟨_, Heap.get?_push_size _ rfl, rfl, rfl⟩, fun b hb => ?_, q⟩
  have e : b = s1.heap.objs.size := by simpa using hb
  subst e
  exact I1.fpOk (Nat.le_refl _) (I1.hok.fresh (Nat.le_refl _))
/-- a range object just made, walked -/
theorem range_it {pins : List (Addr × Obj)} {σ : St} {H : Hp} {s : Shared} {R : It → Hp → Prop} {E : Value → Shared → Prop} {lo hi : Int} {t u v : Tok} {tk : Nat} (I : Inv X pins σ H s) (h1 : -(2 ^ 62) ≤ lo) (h2 : lo < 2 ^ 62) (h3 : -(2 ^ 62) ≤ hi) (h4 : hi < 2 ^ 62)
    (q : R (Itr lo (hi - lo).toNat) H) : wpAny (model X.prog X.w) X.A (pyIter (.ref s.heap.objs.size)) (PIE X pins σ tg R) E { s with heap := s.heap.push { cls := .type "range", data := .fields #[.int lo t, .int hi u, .int 1 v] }, toks := tk } := by
  refine wpAny_pyIter_range (IsRange.new ..) (small_one h1 h2 h3 h4) ?_
  have I1 : Inv X pins σ H { s with heap := s.heap.push { cls := .type "range", data := .fields #[.int lo t, .int hi u, .int 1 v] }, toks := tk } := I.kept fun b o e => Heap.get?_push_of_some _ e
  refine ⟨(s.heap.push { cls := .type "range", data := .fields #[.int lo t, .int hi u, .int 1 v] }).objs.size, [(s.heap.push { cls := .type "range", data := .fields #[.int lo t, .int hi u, .int 1 v] }).objs.size], _, _, H, rfl,
    I1.kept (t' := tk) fun b o e => Heap.get?_push_of_some _ e, turn_range _ lo (hi - lo).toNat, ?_, fun b hb => ?_, q⟩
  · have e1 : lo + ((0 : Nat) : Int) * 1 = lo := by simp
    have e2 : (((hi - lo).toNat : Nat) : Int) - ((0 : Nat) : Int) = Builtin.Range.rangeSize lo hi 1 := by rw [rangeSize_one]; split <;> omega
    show IsRangeIter _ _ (lo + ((0 : Nat) : Int) * 1) ((((hi - lo).toNat : Nat) : Int) - ((0 : Nat) : Int)) 1
    rw [e1, e2]
    exact Heap.get?_push_size _ rfl
  · have e : b = (s.heap.push { cls := .type "range", data := .fields #[.int lo t, .int hi u, .int 1 v] }).objs.size := by simpa using hb
    subst e
    exact I1.fpOk (Nat.le_refl _) (I1.hok.fresh (Nat.le_refl _))
def iRng1 (ta : TA) : TI := fun σ H R => ta σ H fun vs H1 => ∃ j : Int, vs = [.int j] ∧ -(2 ^ 62) ≤ j ∧ j < 2 ^ 62 ∧ R (Itr 0 j.toNat) H1
def iRng2 (ta : TA) : TI := fun σ H R => ta σ H fun vs H1 => ∃ i j : Int, vs = [.int i, .int j] ∧ (-(2 ^ 62) ≤ i ∧ i < 2 ^ 62 ∧ -(2 ^ 62) ≤ j ∧ j < 2 ^ 62) ∧ R (Itr i (j - i).toNat) H1
theorem pi_range1 {a : Expr} {ta : TA} {p pos : Pos} (hg : Gl X "range") (hm : X.mg "range" = none) (ha : PA X [a] ta) (hs : starEach [a] X.env = [(false, eval a X.env)] := by rfl) : PI X tg (.Call (.Name "range" p) [a] [] pos) (iRng1 ta) := by
  intro pins s σ H R I h
  refine Call_ (ld_blt I hg hm boot_range (PyProof.Rows.callWith_type1 (thn (ha pos pins s σ H _ I h) fun us s1 ⟨vs, H1, I1, r1, q1⟩ => ?_) hs rfl))
  obtain ⟨j, e, q1, q2, q⟩ := q1
  subst e
  cases r1 with
  | cons r rr =>
    cases rr
    obtain ⟨t, rfl⟩ := r
    exact call_range_1 (range_it I1 (by omega) (by omega) q1 q2 (by simpa using q))
theorem pi_range2 {a b : Expr} {ta : TA} {p pos : Pos} (hg : Gl X "range") (hm : X.mg "range" = none) (ha : PA X [a, b] ta) (hs : starEach [a, b] X.env = [(false, eval a X.env), (false, eval b X.env)] := by rfl) (hs2 : starEach [b] X.env = [(false, eval b X.env)] := by rfl) :
    PI X tg (.Call (.Name "range" p) [a, b] [] pos) (iRng2 ta) := by
  intro pins s σ H R I h
  refine Call_ (ld_blt I hg hm boot_range (PyProof.Rows.callWith_type1 (thn (ha pos pins s σ H _ I h) fun us s1 ⟨vs, H1, I1, r1, q1⟩ => ?_) (by rw [hs, hs2]) (by rw [hs2]; rfl)))
  obtain ⟨i, j, e, ⟨q1, q2, q3, q4⟩, q⟩ := q1
  subst e
  cases r1 with
  | cons r rr =>
    cases rr with
    | cons r' rr =>
      cases rr
      obtain ⟨t, rfl⟩ := r
      obtain ⟨t', rfl⟩ := r'
      exact call_range_2 (range_it I1 q1 q2 q3 q4 q)

/-! ### for -/
/-- W: the invariant by the turn and a measure; N: what the body is to reach -/
def tFor (wi : TI) (g : TG) (tb : TS) : TS := fun D σ H => wi σ H fun J H1 => ∃ W : Nat → Nat → St → Hp → Prop, (∃ m, W 0 m σ H1) ∧ ∀ i m σ H, W i m σ H →
  (J.stop i H ∧ D.nx σ H) ∨ (J.go i H ∧ ∃ N : St → Hp → Prop, (∀ σ' H', N σ' H' → ∃ m', m' < m ∧ W (i + 1) m' σ' H') ∧ ∀ x H', J.yld i H x H' → g x σ H' fun σ2 H2 => tb { D with nx := N, ct := N, bk := D.nx } σ2 H2)
/-- the records at fp as they stand -/
def pinsAt (fp : List Addr) (h : Heap) : List (Addr × Obj) := fp.filterMap fun b => (h.get? b).map fun o => (b, o)
theorem mem_pinsAt {fp : List Addr} {h : Heap} {b : Addr} {o : Obj} (hb : b ∈ fp) (e : h.get? b = some o) : (b, o) ∈ pinsAt fp h := List.mem_filterMap.mpr ⟨b, hb, by rw [e]; rfl⟩
theorem of_pinsAt {fp : List Addr} {h : Heap} {p : Addr × Obj} (hp : p ∈ pinsAt fp h) : p.1 ∈ fp ∧ h.get? p.1 = some p.2 := by
  obtain ⟨b, hb, e⟩ := List.mem_filterMap.mp hp
  cases q : h.get? b with
  | none => rw [q] at e; cases e
  | some o =>
    rw [q] at e
    have e' : (b, o) = p := Option.some.inj e
    subst e'
    exact ⟨hb, q⟩
theorem Inv.pinned {pins : List (Addr × Obj)} {σ : St} {H : Hp} {s : Shared} {fp : List Addr} (I : Inv X pins σ H s) (hf : ∀ b ∈ fp, FpOk X pins H b) (ho : ∀ b ∈ fp, ∃ o, s.heap.get? b = some o ∧ ∀ v, o.data ≠ .cell v) : Inv X (pins ++ pinsAt fp s.heap) σ H s :=
  I.pins_of fun p hp => (List.mem_append.mp hp).elim (fun z => I.pin p (List.mem_append_right _ z)) fun z => by
    obtain ⟨hb, e⟩ := of_pinsAt z
    obtain ⟨f0, f1, f2, _⟩ := hf p.1 hb
    obtain ⟨o, e', d⟩ := ho p.1 hb
    rw [e] at e'; cases e'
    exact ⟨e, f0, f1, f2, d⟩
theorem Inv.unpinned {pins pl : List (Addr × Obj)} {σ : St} {H : Hp} {s : Shared} (I : Inv X (pins ++ pl) σ H s) : Inv X pins σ H s := I.pins_of fun p hp => I.pin p (List.mem_append_right _ (List.mem_append_left _ hp))
theorem ps_for {iter : Expr} {body : List Stmt} {wi : TI} {g : TG} {tb : TS} {pos : Pos} (hp : PassesOwn (model X.prog X.w) X.A X.env X.xe) (hc : X.calm = true) (hi : PI X tg iter wi) (hg : PG X tg g) (hb : PSs X body tb)
    (hs : ∀ x, foldedSetIterable iter X.env x = pure x := by intro _; rfl) : PS X (.For tg iter body [] pos) (tFor wi g tb) := by
  intro pins s σ H D I h
  refine wpAny_For (thn (hi pins s σ H _ I h) fun v s1 h1 => thn h1 fun itv s2 h2 => ?_) hs
  obtain ⟨it, fp, tn, J, H2, e, I2, T, st2, f2, W, ⟨m0, w0⟩, turn⟩ := h2
  subst e
  -- what stays true of the iterator's objects through the loop
  have stat : ∀ {H' : Hp}, (∀ b ∈ fp, H' b = none) → ∀ b ∈ fp, FpOk X pins H' b := fun hn b hb => ⟨hn b hb, (f2 b hb).2⟩
  refine codeAny_forLoop_any (fun n s' => ∃ i σ' H', Inv X pins σ' H' s' ∧ tn i s'.heap ∧ (∀ b ∈ fp, H' b = none) ∧ W i n σ' H') ?_ m0 ⟨0, σ, H2, I2, st2, fun b hb => (f2 b hb).1, w0⟩
  rintro n s3 ⟨i, σ3, H3, I3, st3, fr3, w3⟩
  rcases turn i n σ3 H3 w3 with ⟨stop, qn⟩ | ⟨go, N, hN, step⟩
  · refine wpAny_passesOwn hp (thn (T.done X rfl rfl rfl hc i pins s3 σ3 H3 X.xe I3 (stat fr3) st3 stop) fun r s4 ⟨hr, I4⟩ => ?_)
    subst hr
    exact wpAny_execs_nil ⟨σ3, H3, I4, qn⟩
  · refine wpAny_passesOwn hp (thn (T.item X rfl rfl rfl hc i pins s3 σ3 H3 X.xe I3 (stat fr3) st3 go) fun r s4 ⟨u, hr, h4⟩ => ?_)
    subst hr
    refine wpAny_passesOwn hp (thn h4 fun _ s5 ⟨x, H5, I5, r5, y5, st5, fr5⟩ => ?_)
    have I5' := I5.pinned (stat fr5) (T.obj _ _ st5)
    refine wpAny_passesOwn hp (thn (hg _ s5 σ3 H5 x u _ I5' r5 (step x H5 y5)) fun _ s6 ⟨σ6, H6, I6, q6⟩ => ?_)
    refine wpAny_passesOwn hp (thn (hb _ s6 σ6 H6 _ I6 q6) fun f s7 q7 => ?_)
    have again : ∀ {σ7 : St} {H7 : Hp}, Inv X (pins ++ pinsAt fp s5.heap) σ7 H7 s7 → N σ7 H7 → ∃ m, m < n ∧ ∃ i σ' H', Inv X pins σ' H' s7 ∧ tn i s7.heap ∧ (∀ b ∈ fp, H' b = none) ∧ W i m σ' H' := fun {σ7 H7} I7 n7 => by
      obtain ⟨m', hm, w7⟩ := hN σ7 H7 n7
      refine ⟨m', hm, i + 1, σ7, H7, I7.unpinned, T.keep _ _ _ st5 fun b hb o e => (I7.pin (b, o) (List.mem_append_right _ (List.mem_append_right _ (mem_pinsAt hb e)))).1, fun b hb => ?_, w7⟩
      obtain ⟨o, e, d⟩ := T.obj _ _ st5 b hb
      exact (I7.pin (b, o) (List.mem_append_right _ (List.mem_append_right _ (mem_pinsAt hb e)))).2.1
    cases f with
    | next => obtain ⟨σ7, H7, I7, n7⟩ := q7; exact again I7 n7
    | cont => obtain ⟨σ7, H7, I7, n7⟩ := q7; exact again I7 n7
    | brk => obtain ⟨σ7, H7, I7, q7⟩ := q7; exact ⟨σ7, H7, I7.unpinned, q7⟩
    | ret v => obtain ⟨x7, σ7, H7, I7, r7, q7⟩ := q7; exact ⟨x7, σ7, H7, I7.unpinned, r7, q7⟩
end

/-! ### the forms one uses -/
/-- over a list that the body leaves as it is -/
theorem for_list {K : PySem.W.Frag} {a : Addr} {xs : List V} {g : TG} {tb : TS} {D : Ends} {σ : St} {H : Hp} (Pv : Nat → St → Hp → Prop) (h0 : Pv 0 σ H) (hl : ∀ i σ H, i ≤ xs.length → Pv i σ H → SqL K H a xs)
    (hs : ∀ i x σ H, xs[i]? = some x → Pv i σ H → g x σ H fun σ2 H2 => tb { D with nx := Pv (i + 1), ct := Pv (i + 1), bk := D.nx } σ2 H2) (hd : ∀ σ H, Pv xs.length σ H → D.nx σ H) :
    ∃ W : Nat → Nat → St → Hp → Prop, (∃ m, W 0 m σ H) ∧ ∀ i m σ H, W i m σ H →
      ((Itl K a).stop i H ∧ D.nx σ H) ∨ ((Itl K a).go i H ∧ ∃ N : St → Hp → Prop, (∀ σ' H', N σ' H' → ∃ m', m' < m ∧ W (i + 1) m' σ' H') ∧ ∀ x H', (Itl K a).yld i H x H' → g x σ H' fun σ2 H2 => tb { D with nx := N, ct := N, bk := D.nx } σ2 H2) := by
  refine ⟨fun i m σ H => m = xs.length - i ∧ i ≤ xs.length ∧ Pv i σ H, ⟨xs.length, by simp, Nat.zero_le _, h0⟩, ?_⟩
  rintro i m σ H ⟨rfl, hi, p⟩
  have q := hl i σ H hi p
  by_cases hlt : i < xs.length
  · refine .inr ⟨⟨xs, xs[i], q, by simp [hlt]⟩, Pv (i + 1), fun σ' H' p' => ⟨xs.length - (i + 1), by omega, rfl, hlt, p'⟩, fun x H' y => ?_⟩
    obtain ⟨e, y⟩ := y
    subst e
    exact hs i x σ _ (y xs q) p
  · have e : i = xs.length := by omega
    subst e
    exact .inl ⟨⟨xs, q, Nat.le_refl _⟩, hd σ H p⟩
theorem for_range {lo : Int} {n : Nat} {g : TG} {tb : TS} {D : Ends} {σ : St} {H : Hp} (Pv : Nat → St → Hp → Prop) (h0 : Pv 0 σ H)
    (hs : ∀ i σ H, i < n → Pv i σ H → g (.int (lo + i)) σ H fun σ2 H2 => tb { D with nx := Pv (i + 1), ct := Pv (i + 1), bk := D.nx } σ2 H2) (hd : ∀ σ H, Pv n σ H → D.nx σ H) :
    ∃ W : Nat → Nat → St → Hp → Prop, (∃ m, W 0 m σ H) ∧ ∀ i m σ H, W i m σ H →
      ((Itr lo n).stop i H ∧ D.nx σ H) ∨ ((Itr lo n).go i H ∧ ∃ N : St → Hp → Prop, (∀ σ' H', N σ' H' → ∃ m', m' < m ∧ W (i + 1) m' σ' H') ∧ ∀ x H', (Itr lo n).yld i H x H' → g x σ H' fun σ2 H2 => tb { D with nx := N, ct := N, bk := D.nx } σ2 H2) := by
  refine ⟨fun i m σ H => m = n - i ∧ i ≤ n ∧ Pv i σ H, ⟨n, by simp, Nat.zero_le _, h0⟩, ?_⟩
  rintro i m σ H ⟨rfl, hi, p⟩
  by_cases hlt : i < n
  · refine .inr ⟨hlt, Pv (i + 1), fun σ' H' p' => ⟨n - (i + 1), by omega, rfl, hlt, p'⟩, fun x H' y => ?_⟩
    obtain ⟨e, y⟩ := y
    subst e y
    exact hs i σ _ hlt p
  · have e : i = n := by omega
    subst e
    exact .inl ⟨Nat.le_refl _, hd σ H p⟩
end L2

namespace L2
open PySem PySem.Spec PyProof.Rows

abbrev R2 := V → V → Hp → VK → Prop
/-- a two-place operation on values: f is binaryOp op, inplaceOp op or compareOp op -/
def OpR (X : Cx) (f : Value → Value → Sem Value) (r : R2) : Prop :=
  ∀ (pins : List (Addr × Obj)) (s : Shared) (σ : St) (H : Hp) (x y : V) (v u : Value) (Q : VK), Inv X pins σ H s → RelV x v → RelV y u → r x y H Q →
    wpAny (model X.prog X.w) X.A (f v u) (EP X pins σ Q) X.xe s
/-- a one-place operation -/
def UnR (X : Cx) (f : Value → Sem Value) (r : V → Hp → VK → Prop) : Prop :=
  ∀ (pins : List (Addr × Obj)) (s : Shared) (σ : St) (H : Hp) (x : V) (v : Value) (Q : VK), Inv X pins σ H s → RelV x v → r x H Q →
    wpAny (model X.prog X.w) X.A (f v) (EP X pins σ Q) X.xe s
/-- a call of a value that is known (a builtin, a type) with values -/
def CallR (X : Cx) (f : Value) (r : List V → Hp → VK → Prop) : Prop :=
  ∀ (pins : List (Addr × Obj)) (s : Shared) (σ : St) (H : Hp) (xs : List V) (us : List Value) (Q : VK), Inv X pins σ H s → Vals xs us → r xs H Q →
    wpAny (model X.prog X.w) X.A (call f us) (EP X pins σ Q) X.xe s
def tOp (r : R2) (ta tb : TE) : TE := fun σ H Q => ta σ H fun x H1 => tb σ H1 fun y H2 => r x y H2 Q
def tUn (r : V → Hp → VK → Prop) (ta : TE) : TE := fun σ H Q => ta σ H fun x H1 => r x H1 Q
/-- ints in, under C, and a value out -/
def rI (C : Int → Int → Prop) (g : Int → Int → V) : R2 := fun x y H Q => ∃ i j, x = .int i ∧ y = .int j ∧ C i j ∧ Q (g i j) H
def rI0 (g : Int → Int → V) : R2 := fun x y H Q => ∃ i j, x = .int i ∧ y = .int j ∧ Q (g i j) H
def rU (g : Int → V) : V → Hp → VK → Prop := fun x H Q => ∃ i, x = .int i ∧ Q (g i) H

section
variable {X : Cx} {a b c : Expr} {ta tb tc : TE} {pos : Pos}

theorem binT (ha : PE X a ta) (hb : PE X b tb) {pins : List (Addr × Obj)} {s : Shared} {σ : St} {H : Hp} {R : V → V → Hp → Prop} (I : Inv X pins σ H s)
    (h : ta σ H fun x H1 => tb σ H1 fun y H2 => R x y H2) {Q : Value → Shared → Prop} {f : Value → Value → Sem Value}
    (hf : ∀ v u s2 x y H2, Inv X pins σ H2 s2 → RelV x v → RelV y u → R x y H2 → wpAny (model X.prog X.w) X.A (f v u) Q X.xe s2) :
    wpAny (model X.prog X.w) X.A (eval a X.env) (fun v s₁ => wpAny (model X.prog X.w) X.A (eval b X.env) (fun u s₂ => wpAny (model X.prog X.w) X.A (f v u) Q X.xe s₂) X.xe s₁) X.xe s := by
  refine thn (ha pins s σ H _ I h) fun v s1 ⟨x, H1, I1, r1, q1⟩ => ?_
  refine thn (hb pins s1 σ H1 _ I1 q1) fun u s2 ⟨y, H2, I2, r2, q2⟩ => ?_
  exact hf v u s2 x y H2 I2 r1 r2 q2

theorem pe_op {op : Operator} {r : R2} (ho : OpR X (binaryOp op) r) (ha : PE X a ta) (hb : PE X b tb) : PE X (.BinOp a op b pos) (tOp r ta tb) := by
  intro pins s σ H Q I h
  exact wpAny_BinOp (binT ha hb I h fun v u s2 x y H2 I2 rx ry q => ho pins s2 σ H2 x y v u Q I2 rx ry q)
theorem pe_un {op : UnaryOp} {r : V → Hp → VK → Prop} (ho : UnR X (unaryOp op) r) (ha : PE X a ta) : PE X (.UnaryOp op a pos) (tUn r ta) := by
  intro pins s σ H Q I h
  exact UnaryOp_ (thn (ha pins s σ H _ I h) fun v s1 ⟨x, H1, I1, r1, q1⟩ => ho pins s1 σ H1 x v Q I1 r1 q1)
/-! ### ints -/
theorem opI {f : Value → Value → Sem Value} {C : Int → Int → Prop} {g : Int → Int → Int}
    (rule : ∀ (i j : Int) (t u : Tok) (s : Shared) (Q : Value → Shared → Prop) (E : Value → Shared → Prop), C i j → Q (.int (g i j) s.toks) { s with toks := s.toks + 1 } → wpAny (model X.prog X.w) X.A (f (.int i t) (.int j u)) Q E s) :
    OpR X f (rI C fun i j => .int (g i j)) := by
  intro pins s σ H x y v u Q I rx ry h
  obtain ⟨i, j, rfl, rfl, hc, q⟩ := h
  obtain ⟨t, rfl⟩ := rx
  obtain ⟨t', rfl⟩ := ry
  exact rule i j t t' s _ _ hc ⟨.int (g i j), H, I.tok _, ⟨_, rfl⟩, q⟩
theorem opI0 {f : Value → Value → Sem Value} {g : Int → Int → Int}
    (rule : ∀ (i j : Int) (t u : Tok) (s : Shared) (Q : Value → Shared → Prop) (E : Value → Shared → Prop), Q (.int (g i j) s.toks) { s with toks := s.toks + 1 } → wpAny (model X.prog X.w) X.A (f (.int i t) (.int j u)) Q E s) :
    OpR X f (rI0 fun i j => .int (g i j)) := by
  intro pins s σ H x y v u Q I rx ry h
  obtain ⟨i, j, rfl, rfl, q⟩ := h
  obtain ⟨t, rfl⟩ := rx
  obtain ⟨t', rfl⟩ := ry
  exact rule i j t t' s _ _ ⟨.int (g i j), H, I.tok _, ⟨_, rfl⟩, q⟩
theorem opB0 {f : Value → Value → Sem Value} {g : Int → Int → Bool}
    (rule : ∀ (i j : Int) (t u : Tok) (s : Shared) (Q : Value → Shared → Prop) (E : Value → Shared → Prop), Q (.bool (g i j)) s → wpAny (model X.prog X.w) X.A (f (.int i t) (.int j u)) Q E s) :
    OpR X f (rI0 fun i j => .bl (g i j)) := by
  intro pins s σ H x y v u Q I rx ry h
  obtain ⟨i, j, rfl, rfl, q⟩ := h
  obtain ⟨t, rfl⟩ := rx
  obtain ⟨t', rfl⟩ := ry
  exact rule i j t t' s _ _ ⟨.bl (g i j), H, I, rfl, q⟩

def CDiv (i j : Int) : Prop := 0 < j ∧ j < 1073741824
def CPow (i j : Int) : Prop := 0 ≤ j ∧ j ≤ 1000000 ∧ i.natAbs < 2 ^ 64
def CMul (i j : Int) : Prop := (-(2 ^ 64) < i ∧ i < 2 ^ 64) ∨ (-(2 ^ 64) < j ∧ j < 2 ^ 64)
theorem CMul.ok {i j : Int} (h : CMul i j) : IntMulOk i j := by
  rcases h with ⟨h1, h2⟩ | ⟨h1, h2⟩
  · exact .of_left (intBits_le_64 h1 h2)
  · exact .of_right (intBits_le_64 h1 h2)
theorem op_add : OpR X (binaryOp .Add) (rI0 fun i j => .int (i + j)) := opI0 fun _ _ _ _ _ _ _ q => add_int q
theorem op_sub : OpR X (binaryOp .Sub) (rI0 fun i j => .int (i - j)) := opI0 fun _ _ _ _ _ _ _ q => sub_int q
theorem op_mul : OpR X (binaryOp .Mult) (rI CMul fun i j => .int (i * j)) := opI fun _ _ _ _ _ _ _ hc q => mul_int q hc.ok
/-- // by a positive divisor -/
theorem op_fdiv : OpR X (binaryOp .FloorDiv) (rI CDiv fun i j => .int (i / j)) := opI fun i j _ _ _ _ _ hc q => by
  have h1 : (0 : Int) < j := hc.1
  have h2 : j < 1073741824 := hc.2
  exact floordiv_int (by omega) (by rw [Int.fdiv_eq_ediv_of_nonneg i (by omega)]; exact q) (.inl (PyProof.noPylong_small (by omega)))
/-- % by a positive divisor of any size -/
theorem op_mod : OpR X (binaryOp .Mod) (rI (fun _ j => 0 < j) fun i j => .int (i % j)) := opI fun i j _ _ _ _ _ hc q => by
  have h1 : (0 : Int) < j := hc
  exact mod_int' (by omega) (by rw [Int.fmod_eq_emod_of_nonneg i (by omega)]; exact q)
theorem op_pow : OpR X (binaryOp .Pow) (rI CPow fun i j => .int (i ^ j.toNat)) := opI fun _ _ _ _ _ _ _ hc q => pow_int_small hc.1 hc.2.1 hc.2.2 q
theorem unI {f : Value → Sem Value} {g : Int → Int}
    (rule : ∀ (i : Int) (t : Tok) (s : Shared) (Q : Value → Shared → Prop) (E : Value → Shared → Prop), Q (.int (g i) s.toks) { s with toks := s.toks + 1 } → wpAny (model X.prog X.w) X.A (f (.int i t)) Q E s) :
    UnR X f (rU fun i => .int (g i)) := by
  intro pins s σ H x v Q I rx h
  obtain ⟨i, rfl, q⟩ := h
  obtain ⟨t, rfl⟩ := rx
  exact rule i t s _ _ ⟨.int (g i), H, I.tok _, ⟨_, rfl⟩, q⟩
theorem un_neg : UnR X (unaryOp .USub) (rU fun i => .int (-i)) := unI fun _ _ _ _ _ q => neg_int q
end

/-! ### comparisons -/
/-- the scalars that == tells apart as data does -/
def scal : V → V → Bool
  | .non, .non => true | .non, .int _ => true | .int _, .non => true | .non, .bl _ => true | .bl _, .non => true | .non, .str _ => true | .str _, .non => true
  | .int _, .int _ => true | .bl _, .bl _ => true | .str _, .str _ => true | .byt _, .byt _ => true
  | .int _, .str _ => true | .str _, .int _ => true | .bl _, .str _ => true | .str _, .bl _ => true
  | _, _ => false
def rEq : R2 := fun x y H Q => scal x y = true ∧ Q (.bl (decide (x = y))) H
def rNe : R2 := fun x y H Q => scal x y = true ∧ Q (.bl (!decide (x = y))) H

theorem dec_int {i j : Int} : decide (V.int i = V.int j) = (i == j) := by
  rw [Bool.eq_iff_iff]
  simp
theorem dec_bl {i j : Bool} : decide (V.bl i = V.bl j) = (i == j) := by
  rw [Bool.eq_iff_iff]
  simp
theorem dec_str {i j : Str} : decide (V.str i = V.str j) = (i == j) := by
  rw [Bool.eq_iff_iff]
  simp
theorem dec_byt {i j : Array UInt8} : decide (V.byt i = V.byt j) = (i.toList == j.toList) := by
  rw [Bool.eq_iff_iff]
  cases i
  cases j
  simp

section
variable {X : Cx} {a b c : Expr} {ta tb tc : TE} {pos : Pos}
theorem fin_bl {pins : List (Addr × Obj)} {σ : St} {H : Hp} {s : Shared} {Q : VK} {k k' : Bool} (I : Inv X pins σ H s) (q : Q (.bl k) H) (e : k = k') : EP X pins σ Q (.bool k') s := by
  subst e
  exact ⟨.bl k, H, I, rfl, q⟩
theorem op_eq : OpR X (compareOp .Eq) rEq := by
  intro pins s σ H x y v u Q I rx ry h
  obtain ⟨hs, q⟩ := h
  cases x with
  | non =>
    cases rx
    cases y with
    | non => cases ry; exact PySem.EqNone.eq_none_none (fin_bl I q (by simp))
    | bl j => cases ry; exact PySem.EqNone.eq_none_bool (fin_bl I q (by simp))
    | int j => obtain ⟨t', rfl⟩ := ry; exact PySem.EqNone.eq_none_int (fin_bl I q (by simp))
    | str j => obtain ⟨t', rfl⟩ := ry; exact PySem.EqNone.eq_none_str (fin_bl I q (by simp))
    | _ => exact absurd (show false = true from hs) Bool.false_ne_true
  | bl i =>
    cases rx
    cases y with
    | non => cases ry; exact PySem.EqNone.eq_bool_none (fin_bl I q (by simp))
    | bl j => cases ry; exact eq_bool (fin_bl I q dec_bl)
    | str j => obtain ⟨t', rfl⟩ := ry; exact PySem.EqMixed.eq_bool_str (fin_bl I q (by simp))
    | _ => exact absurd (show false = true from hs) Bool.false_ne_true
  | int i =>
    obtain ⟨t, rfl⟩ := rx
    cases y with
    | non => cases ry; exact PySem.EqNone.eq_int_none (fin_bl I q (by simp))
    | int j => obtain ⟨t', rfl⟩ := ry; exact eq_int (fin_bl I q dec_int)
    | str j => obtain ⟨t', rfl⟩ := ry; exact PySem.EqMixed.eq_int_str (fin_bl I q (by simp))
    | _ => exact absurd (show false = true from hs) Bool.false_ne_true
  | str i =>
    obtain ⟨t, rfl⟩ := rx
    cases y with
    | non => cases ry; exact PySem.EqNone.eq_str_none (fin_bl I q (by simp))
    | bl j => cases ry; exact PySem.EqMixed.eq_str_bool (fin_bl I q (by simp))
    | int j => obtain ⟨t', rfl⟩ := ry; exact PySem.EqMixed.eq_str_int (fin_bl I q (by simp))
    | str j => obtain ⟨t', rfl⟩ := ry; exact eq_str (fin_bl I q dec_str)
    | _ => exact absurd (show false = true from hs) Bool.false_ne_true
  | byt i =>
    obtain ⟨t, rfl⟩ := rx
    cases y with
    | byt j => obtain ⟨t', rfl⟩ := ry; exact PySem.W.eq_bytes (fin_bl I q dec_byt)
    | _ => exact absurd (show false = true from hs) Bool.false_ne_true
  | _ => cases y <;> exact absurd (show false = true from hs) Bool.false_ne_true
theorem op_ne : OpR X (compareOp .NotEq) rNe := by
  intro pins s σ H x y v u Q I rx ry h
  obtain ⟨hs, q⟩ := h
  cases x with
  | non =>
    cases rx
    cases y with
    | non => cases ry; exact PySem.EqNone.ne_none_none (fin_bl I q (by simp))
    | bl j => cases ry; exact PySem.EqNone.ne_none_bool (fin_bl I q (by simp))
    | int j => obtain ⟨t', rfl⟩ := ry; exact PySem.EqNone.ne_none_int (fin_bl I q (by simp))
    | str j => obtain ⟨t', rfl⟩ := ry; exact PySem.EqNone.ne_none_str (fin_bl I q (by simp))
    | _ => exact absurd (show false = true from hs) Bool.false_ne_true
  | bl i =>
    cases rx
    cases y with
    | non => cases ry; exact PySem.EqNone.ne_bool_none (fin_bl I q (by simp))
    | bl j => cases ry; exact ne_bool (fin_bl I q (congrArg not dec_bl))
    | str j => obtain ⟨t', rfl⟩ := ry; exact PySem.EqMixed.ne_bool_str (fin_bl I q (by simp))
    | _ => exact absurd (show false = true from hs) Bool.false_ne_true
  | int i =>
    obtain ⟨t, rfl⟩ := rx
    cases y with
    | non => cases ry; exact PySem.EqNone.ne_int_none (fin_bl I q (by simp))
    | int j => obtain ⟨t', rfl⟩ := ry; exact ne_int (fin_bl I q (congrArg not dec_int))
    | str j => obtain ⟨t', rfl⟩ := ry; exact PySem.EqMixed.ne_int_str (fin_bl I q (by simp))
    | _ => exact absurd (show false = true from hs) Bool.false_ne_true
  | str i =>
    obtain ⟨t, rfl⟩ := rx
    cases y with
    | non => cases ry; exact PySem.EqNone.ne_str_none (fin_bl I q (by simp))
    | bl j => cases ry; exact PySem.EqMixed.ne_str_bool (fin_bl I q (by simp))
    | int j => obtain ⟨t', rfl⟩ := ry; exact PySem.EqMixed.ne_str_int (fin_bl I q (by simp))
    | str j => obtain ⟨t', rfl⟩ := ry; exact ne_str (fin_bl I q (congrArg not dec_str))
    | _ => exact absurd (show false = true from hs) Bool.false_ne_true
  | byt i =>
    obtain ⟨t, rfl⟩ := rx
    cases y with
    | byt j => obtain ⟨t', rfl⟩ := ry; exact PySem.W.ne_bytes (fin_bl I q (congrArg not dec_byt))
    | _ => exact absurd (show false = true from hs) Bool.false_ne_true
  | _ => cases y <;> exact absurd (show false = true from hs) Bool.false_ne_true

theorem op_lt : OpR X (compareOp .Lt) (rI0 fun i j => .bl (decide (i < j))) := opB0 fun _ _ _ _ _ _ _ q => lt_int q
theorem op_le : OpR X (compareOp .LtE) (rI0 fun i j => .bl (decide (i ≤ j))) := opB0 fun _ _ _ _ _ _ _ q => le_int q
theorem op_gt : OpR X (compareOp .Gt) (rI0 fun i j => .bl (decide (j < i))) := opB0 fun _ _ _ _ _ _ _ q => gt_int q
theorem nomark (b : Expr) {op : CmpOp} (h : op ≠ .In := by decide) (h2 : op ≠ .NotIn := by decide) : behindInMarks op b = false := by
  have e1 : (op == CmpOp.In) = false := by cases op <;> first | rfl | exact absurd rfl h
  have e2 : (op == CmpOp.NotIn) = false := by cases op <;> first | rfl | exact absurd rfl h2
  cases b <;> simp [behindInMarks, e1, e2]
/-- a comparison as a value; hm: nomark b, or (for in, not in) by with_unfolding_all rfl -/
theorem pe_cmpR {op : CmpOp} {r : R2} (ho : OpR X (compareOp op) r) (ha : PE X a ta) (hb : PE X b tb) (hm : behindInMarks op b = false) : PE X (.Compare a [op] [b] pos) (tOp r ta tb) := by
  intro pins s σ H Q I h
  exact wpAny_Compare1 (binT ha hb I h fun v u s2 x y H2 I2 rx ry q => ho pins s2 σ H2 x y v u Q I2 rx ry q) hm
/-- a reading of a value as a test -/
def tTest (t : TE) : TT := fun σ H Q => t σ H fun x H' => ∃ k, x = .bl k ∧ Q k H'
theorem pt_cmpR {op : CmpOp} {r : R2} (ho : OpR X (compareOp op) r) (ha : PE X a ta) (hb : PE X b tb) (hm : behindInMarks op b = false) : PT X (.Compare a [op] [b] pos) (tTest (tOp r ta tb)) := by
  intro pins s σ H Q I h
  refine wpAny_isTrue_Compare1 (thn (ha pins s σ H _ I h) fun v s1 ⟨x, H1, I1, r1, q1⟩ => thn (hb pins s1 σ H1 _ I1 q1) fun u s2 ⟨y, H2, I2, r2, q2⟩ =>
    thn (ho pins s2 σ H2 x y v u _ I2 r1 r2 q2) fun c s3 ⟨z, H3, I3, r3, k, e, q3⟩ => ?_) hm
  subst e
  cases r3
  exact wpAny_truthy_bool ⟨H3, I3, q3⟩
/-- a op1 b op2 c -/
def tChain (r r' : R2) (ta tb tc : TE) : TE := fun σ H Q => ta σ H fun x H1 => tb σ H1 fun y H2 => r x y H2 fun z H3 => ∃ k, z = .bl k ∧
  (if k = true then tc σ H3 fun w' H4 => r' y w' H4 Q else Q (.bl false) H3)
theorem pe_chain {op op' : CmpOp} {r r' : R2} (ho : OpR X (compareOp op) r) (ho' : OpR X (compareOp op') r') (ha : PE X a ta) (hb : PE X b tb) (hc : PE X c tc)
    (hm : lastMarks [op, op'] [b, c] = false := by with_unfolding_all rfl) : PE X (.Compare a [op, op'] [b, c] pos) (tChain r r' ta tb tc) := by
  intro pins s σ H Q I h
  refine Compare_chain (thn (ha pins s σ H _ I h) fun v s1 ⟨x, H1, I1, r1, q1⟩ => chain_link (thn (hb pins s1 σ H1 _ I1 q1) fun u s2 ⟨y, H2, I2, r2, q2⟩ =>
    thn (ho pins s2 σ H2 x y v u _ I2 r1 r2 q2) fun d s3 ⟨z, H3, I3, r3, k, e, q3⟩ => ?_)) hm
  subst e
  cases r3
  refine wpAny_truthy_bool ?_
  cases k with
  | false => exact ite_ff ⟨.bl false, H3, I3, rfl, q3⟩
  | true => exact ite_tt (chain_last (thn (hc pins s3 σ H3 _ I3 q3) fun w' s4 ⟨z', H4, I4, r4, q4⟩ => ho' pins s4 σ H4 y z' u w' Q I4 r2 r4 q4))
theorem pt_chain {op op' : CmpOp} {r r' : R2} (ho : OpR X (compareOp op) r) (ho' : OpR X (compareOp op') r') (ha : PE X a ta) (hb : PE X b tb) (hc : PE X c tc)
    (hm : lastMarks [op, op'] [b, c] = false := by with_unfolding_all rfl) : PT X (.Compare a [op, op'] [b, c] pos) (tTest (tChain r r' ta tb tc)) := by
  intro pins s σ H Q I h
  refine isTrue_chain (thn (ha pins s σ H _ I h) fun v s1 ⟨x, H1, I1, r1, q1⟩ => test_link (thn (hb pins s1 σ H1 _ I1 q1) fun u s2 ⟨y, H2, I2, r2, q2⟩ =>
    thn (ho pins s2 σ H2 x y v u _ I2 r1 r2 q2) fun d s3 ⟨z, H3, I3, r3, k, e, q3⟩ => ?_)) hm
  subst e
  cases r3
  refine wpAny_truthy_bool ?_
  cases k with
  | false =>
    obtain ⟨k', e', q'⟩ := q3
    cases e'
    exact ite_ff ⟨H3, I3, q'⟩
  | true =>
    refine ite_tt (test_last (thn (hc pins s3 σ H3 _ I3 q3) fun w' s4 ⟨z', H4, I4, r4, q4⟩ => thn (ho' pins s4 σ H4 y z' u w' _ I4 r2 r4 q4) fun d' s5 ⟨z2, H5, I5, r5, k2, e2, q5⟩ => ?_))
    subst e2
    cases r5
    exact wpAny_truthy_bool ⟨H5, I5, q5⟩

theorem line63 : (sizeLine : Nat) < 2 ^ 63 := by rw [sizeLine_eq]; decide
/-! ### scalar builtins, by CallR -/
theorem vals1 {x : V} {us : List Value} (r : Vals [x] us) : ∃ u, us = [u] ∧ RelV x u := by
  cases r with
  | cons r1 r2 => cases r2; exact ⟨_, rfl, r1⟩
theorem vals2 {x y : V} {us : List Value} (r : Vals [x, y] us) : ∃ u w', us = [u, w'] ∧ RelV x u ∧ RelV y w' := by
  cases r with
  | cons r1 r2 =>
    cases r2 with
    | cons r3 r4 => cases r4; exact ⟨_, _, rfl, r1, r3⟩
theorem call_int1 : CallR X (.type "int") (fun xs H Q => (∃ i, xs = [.int i] ∧ Q (.int i) H) ∨ ∃ k, xs = [.bl k] ∧ Q (.int (if k then 1 else 0)) H) := by
  intro pins s σ H xs us Q I r h
  rcases h with ⟨i, rfl, q⟩ | ⟨k, rfl, q⟩
  · obtain ⟨u, rfl, t, rfl⟩ := vals1 r
    exact call_int_int ⟨.int i, H, I, ⟨_, rfl⟩, q⟩
  · obtain ⟨u, rfl, r1⟩ := vals1 r
    cases r1
    exact call_int_bool ⟨.int (if k then 1 else 0), H, I.tok _, ⟨_, rfl⟩, q⟩
end
end L2

namespace L2
open PySem PySem.Spec PyProof.Rows

/-! ### an instance, its attributes a map -/
structure ObjM (h : Heap) (x dx C : Addr) (mA : Str → Option Value) : Prop where
  obj : h.get? x = some (PySem.W.instObj C dx)
  ns : h.Ns1 dx mA
  ne : dx ≠ x

theorem lookIn_ns {h : Heap} {dx : Addr} {mA : Str → Option Value} (n : h.Ns1 dx mA) : ∃ od, h.get? dx = some od ∧ ∀ name, PySem.W.lookIn name od = some (mA name) := by
  obtain ⟨o, es, ep, ho, hd, hk, _, hm⟩ := n
  refine ⟨o, ho, fun name => ?_⟩
  have e := hm name
  unfold nsFind findBy at e
  rw [← Array.find?_toList] at e
  unfold PySem.W.lookIn
  rw [hd]
  dsimp only
  split
  · rename_i y q
    rw [q] at e
    exact congrArg some e
  · rename_i q
    rw [q] at e
    have a : es.toList.any (·.refKey) = false := by
      rw [List.any_eq_false]
      intro y hy
      obtain ⟨z, t, hkey⟩ := hk y (Array.mem_toList_iff.mp hy)
      simp [DictEntry.refKey, hkey]
    have a' : ¬ es.toList.any (·.refKey) = true := by rw [a]; exact Bool.false_ne_true
    rw [if_neg a']
    exact congrArg some e

theorem ObjM.look {h : Heap} {x dx C : Addr} {mA : Str → Option Value} (I : ObjM h x dx C mA) : ∃ od, PySem.W.InstAt h x (PySem.W.instObj C dx) C (some od) ∧ ∀ name, PySem.W.lookIn name od = some (mA name) :=
  let ⟨od, ho, hl⟩ := lookIn_ns I.ns
  ⟨od, ⟨I.obj, rfl, rfl, ho⟩, hl⟩

section
variable {prog : Program} {w : World} {A : Around} {E : Value → Shared → Prop} {s : Shared} {K : PySem.W.Frag} {x dx C f : Addr} {mA : Str → Option Value} {name : Str} {v : Value}

end

section
variable {P : Program} {w : World} {H H' : Hp} {h h' : Heap} {a C dx : Addr} {fs fs' : List (Str × V)}
theorem ins_get (hok : HOk P w H h) (e : H a = some (.ins C dx fs)) : ∃ mA, ObjM h a dx C mA ∧ (∀ f, RelO (fs.lookup f) (mA f)) ∧ PySem.Within mA (fs.map (·.1)) ∧ fs.length ≤ 1000 ∧ H dx = some (.own a) := by
  obtain ⟨d, z, ne, ob, mA, n, r, q⟩ := (show ObjOk P w H h a (.ins C dx fs) from hok a _ e)
  exact ⟨mA, ⟨ob, n, ne⟩, r, q, z, d⟩
end

/-! ### what of the text a class must have -/
structure Cls (K : PySem.W.Frag) (C : Addr) : Prop where
  pg : PySem.W.plainGet K C Str.empty = true
  hd : PySem.W.hasDictIn K C = true
  po : PySem.W.plainOver K C = true
  sa : PySem.W.findIn K (.ref C) "__setattr__" = some (some (.builtin "object.__setattr__"))
theorem Cls.get {K : PySem.W.Frag} {C : Addr} (c : Cls K C) (f : Str) : PySem.W.plainGet K C f = true := c.pg
section
variable {X : Cx} {pins : List (Addr × Obj)} {σ : St} {H : Hp} {s : Shared} {a C dx : Addr} {fs : List (Str × V)} {f : Str} {v : V} {A : Around} {E : Value → Shared → Prop}

end

section
variable {X : Cx} {o e value : Expr} {f : Str} {pos pos' tpos : Pos} {ta tv : TE}
end

/-! ### isinstance -/
section
variable {X : Cx} {pins : List (Addr × Obj)} {σ : St} {H : Hp} {s : Shared} {A : Around} {E : Value → Shared → Prop} {Q : Value → Shared → Prop} {c : Value} {b : Bool}
/-- the type of a value, as the fragment's deciders take it; for an instance its class -/
inductive TyOf (K : PySem.W.Frag) (H : Hp) : V → Value → Prop where
  | non : TyOf K H .non (.type "NoneType")
  | bl (x : Bool) : TyOf K H (.bl x) (.type "bool")
  | int (i : Int) : TyOf K H (.int i) (.type "int")
  | str (x : Str) : TyOf K H (.str x) (.type "str")
  | flt (x : UInt64) : TyOf K H (.flt x) (.type "float")
  | lst {a : Addr} {xs : List V} (e : H a = some (.lst xs)) : TyOf K H (.ref a) (.type "list")
  | frz {a : Addr} {o : Obj} {xs : List V} (e : H a = some (.frz o (.lst xs))) : TyOf K H (.ref a) (.type "list")
  | tup {a : Addr} {xs : List V} (e : H a = some (.tup xs)) : TyOf K H (.ref a) (.type "tuple")
  | dK {a : Addr} {kvs : List (Key × V)} (e : H a = some (.dK kvs)) : TyOf K H (.ref a) (.type "dict")
  | ins {a C dx : Addr} {fs : List (Str × V)} (e : H a = some (.ins C dx fs)) (cl : Cls K C) (ha : PySem.W.findIn K (.ref C) "__class__" = some (some (.builtin "object.__class__")))
      (hn : PySem.W.specialIn K (.builtin "object.__class__") "__get__" = some (some (.builtin "getset_descriptor.__get__"))) (htk : PySem.W.takesIn K (.builtin "object.__class__") = some true)
      (hm : PySem.W.mroIn K C (.type "object") = some true) : TyOf K H (.ref a) (.ref C)
/-- isinstance(x, c) for one class c, a built-in or an own one: kitOne's answer -/
theorem isinst_ok {x : V} {u t : Value} (I : Inv X pins σ H s) (rx : RelV x u) (ty : TyOf X.K H x t) (e : PySem.W.kitOne X.K t c = some b) (h : ∀ tk, Q (.bool b) { s with toks := tk }) :
    wpAny (model X.prog X.w) A (call (.builtin "isinstance") [u, c]) Q E s := by
  cases ty with
  | non => cases (show u = Value.none from rx); exact PySem.W.kia_one PySem.W.kitx_none I.kIn True.intro e (fun z => nomatch z) h
  | bl y => cases (show u = Value.bool y from rx); exact PySem.W.kia_one PySem.W.kitx_bool I.kIn True.intro e (fun z => nomatch z) h
  | int i => obtain ⟨t, q⟩ := (show ∃ t, u = Value.int i t from rx); cases q; exact PySem.W.kia_one PySem.W.kitx_int I.kIn True.intro e (fun z => nomatch z) h
  | str y => obtain ⟨t, q⟩ := (show ∃ t, u = Value.str y t from rx); cases q; exact PySem.W.kia_one PySem.W.kitx_str I.kIn True.intro e (fun z => nomatch z) h
  | flt y => obtain ⟨t, q⟩ := (show ∃ t, u = Value.float y t from rx); cases q; exact PySem.W.kia_one PySem.W.kitx_float I.kIn True.intro e (fun z => nomatch z) h
  | @lst a xs ea =>
    cases (show u = Value.ref a from rx)
    obtain ⟨_, _, n, _, h1⟩ := (show ObjOk X.prog X.w H s.heap a (.lst xs) from I.hok a _ ea)
    exact PySem.W.kia_one PySem.W.kitx_list I.kIn ⟨_, h1, rfl⟩ e (fun z => nomatch z) h
  | @frz a ob xs ea =>
    cases (show u = Value.ref a from rx)
    obtain ⟨_, _, _, n, _, h1⟩ := (show ObjOk X.prog X.w H s.heap a (.frz ob (.lst xs)) from I.hok a _ ea)
    exact PySem.W.kia_one PySem.W.kitx_list I.kIn ⟨_, h1, rfl⟩ e (fun z => nomatch z) h
  | @tup a xs ea =>
    cases (show u = Value.ref a from rx)
    obtain ⟨_, _, _, p⟩ := (show ObjOk X.prog X.w H s.heap a (.tup xs) from I.hok a _ ea)
    obtain ⟨o, h1, h2, _⟩ := p
    exact PySem.W.kia_one PySem.W.kitx_tuple I.kIn ⟨o, h1, h2⟩ e (fun z => nomatch z) h
  | @dK a kvs ea =>
    cases (show u = Value.ref a from rx)
    obtain ⟨_, _, vs, _, p⟩ := (show ObjOk X.prog X.w H s.heap a (.dK kvs) from I.hok a _ ea)
    obtain ⟨o, es, ep, h1, h2, _⟩ := p
    exact PySem.W.kia_one PySem.W.kitx_dict I.kIn ⟨o, h1, h2.1⟩ e (fun z => nomatch z) h
  | @ins a C dx fs ea cl ha hn htk hm =>
    cases (show u = Value.ref a from rx)
    obtain ⟨mA, O, _⟩ := ins_get I.hok ea
    obtain ⟨od, J, _⟩ := O.look
    exact PySem.W.kia_one (PySem.W.kitx_own (cl.get _) cl.hd ha hn htk hm) I.kIn J e (fun z => nomatch z) h
end
end L2

namespace L2
open PySem PySem.Spec PyProof.Rows

/-! ### room -/
structure Room (k : Nat) (A : Around) : Prop where
  hd : A.handled = none
  dp : A.depth + 3 * k + 5 < recursionLimit
  un : A.units + 16 * k + 200 < cLine
theorem Room.mono {j k : Nat} {A : Around} (r : Room k A) (h : j ≤ k) : Room j A := ⟨r.hd, by have := r.dp; omega, by have := r.un; omega⟩
theorem Room.deeper {k : Nat} {A : Around} (r : Room (k + 1) A) (env : Env) : Room k (A.deeper env) :=
  ⟨r.hd, by have := r.dp; show A.depth + 1 + 3 * k + 5 < _; omega, by have := r.un; show A.units + 3 + 16 * k + 200 < _; omega⟩
theorem Room.depth {k : Nat} {A : Around} (r : Room k A) : A.depth < recursionLimit := by have := r.dp; omega
theorem Room.units {k : Nat} {A : Around} (r : Room k A) : A.units + 64 < cLine := by have := r.un; omega
/-! ### argument lists and displays -/
def tNil : TA := fun _ H Q => Q [] H
def tCons (ta : TE) (tr : TA) : TA := fun σ H Q => ta σ H fun x H1 => tr σ H1 fun xs H2 => Q (x :: xs) H2
section
variable {X : Cx} {e : Expr} {es : List Expr} {te : TE} {t : TA} {pos : Pos}
theorem pa_nil : PA X [] tNil := fun _ _ _ _ H Q I h => Calls.spliced_nil ⟨[], H, I, .nil, h⟩
theorem pa_cons (ha : PE X e te) (hr : PA X es t) (hs : starEach (e :: es) X.env = (false, eval e X.env) :: starEach es X.env := by rfl) : PA X (e :: es) (tCons te t) := by
  intro pos pins s σ H Q I h
  rw [hs]
  show wpAny _ _ (spliced ((false, eval e X.env) :: backTo pos (starEach es X.env))) _ _ s
  refine Calls.spliced_cons (thn (ha pins s σ H _ I h) fun u s1 ⟨x, H1, I1, r1, q1⟩ => ?_)
  exact thn (hr pos pins s1 σ H1 _ I1 q1) fun us s2 ⟨xs, H2, I2, r2, q2⟩ => ⟨x :: xs, H2, I2, .cons r1 r2, q2⟩

/-- a tuple, a list of written items -/
def tTup (t : TA) : TE := fun σ H Q => t σ H fun xs H1 => xs.length ≤ sizeLine ∧ ∀ p, H1 p = none → Q (.ref p) (upd H1 p (.tup xs))
def tLst (t : TA) : TE := fun σ H Q => t σ H fun xs H1 => xs.length ≤ sizeLine ∧ ∀ p, H1 p = none → Q (.ref p) (upd H1 p (.lst xs))
theorem pe_tup {x1} (h : PA X es t) : PE X (.Tuple es x1 pos) (tTup t) := by
  intro pins s σ H Q I hq
  refine wpAny_Tuple_spliced (thn (h pos pins s σ H _ I hq) fun us s1 ⟨xs, H1, I1, r, z, q⟩ => ⟨by rw [← r.length]; exact z, ?_⟩)
  have hf : H1 s1.heap.objs.size = none := I1.hok.fresh (Nat.le_refl _)
  refine ⟨.ref s1.heap.objs.size, upd H1 s1.heap.objs.size (.tup xs), I1.laid (t' := s1.toks) (fun b u e => Heap.get?_push_of_some _ e) (Nat.le_refl _) ?_, rfl, q _ hf⟩
  exact ⟨z, us, r, ⟨_, Heap.get?_push_size _ rfl, rfl, _, rfl⟩⟩
theorem pe_lst (h : PA X es t) : PE X (.List es pos) (tLst t) := by
  intro pins s σ H Q I hq
  refine wpAny_List_spliced (thn (h pos pins s σ H _ I hq) fun us s1 ⟨xs, H1, I1, r, z, q⟩ => ⟨by rw [← r.length]; exact z, ?_⟩)
  have hf : H1 s1.heap.objs.size = none := I1.hok.fresh (Nat.le_refl _)
  refine ⟨.ref s1.heap.objs.size, upd H1 s1.heap.objs.size (.lst xs), I1.laid (t' := s1.toks) (fun b u e => Heap.get?_push_of_some _ e) (Nat.le_refl _) ?_, rfl, q _ hf⟩
  exact ⟨z, us, 0, r, Heap.get?_push_size _ rfl⟩
end

/-! ### what a def promises -/
/-- a def's promise: the bound arguments in the parameters' order, the heap, the wanted end, the wanted exception -/
abbrev Sp := List V → Hp → VK → XK → Prop
/-- how an exception lies behind a call (file 08 gives it): the callers' frames, abstract heap and state ahead of the call, the wish, the exception, the state -/
abbrev CXT := List Env → Hp → Shared → XK → Value → Shared → Prop

/-- the state at a call -/
structure Env0 (P : Program) (w : World) (K : PySem.W.Frag) (mg : Str → Option Value) (base : Heap) (A : Around) (outer : List Env) (s : Shared) (H : Hp) : Prop where
  frames : A.frames = some outer
  mod : Mod K mg base
  bs : ∀ b o, base.get? b = some o → s.heap.get? b = some o ∧ H b = none
  bsz : base.objs.size ≤ s.heap.objs.size
  funs : s.heap.FunFrames base outer
  frf : ∀ b ∈ frs outer, H b = none
  hok : HOk P w H s.heap
  bare : AllBare s.gens
/-- a call's end -/
def CE (outer : List Env) (P : Program) (w : World) (H : Hp) (s : Shared) (Q : VK) (u : Value) (s' : Shared) : Prop :=
  ∃ v H', s'.os = s.os ∧ AllBare s'.gens ∧ Un (frs outer) [] H H' s.heap s'.heap ∧ HOk P w H' s'.heap ∧ RelV v u ∧ Q v H'
def CR (CX : CXT) (outer : List Env) (P : Program) (w : World) (H : Hp) (s : Shared) (Q : VK) (E : XK) (r : Result) (s' : Shared) : Prop :=
  match r with
  | .ok (.ret u) => CE outer P w H s Q u s'
  | .ok _ => False
  | .error e => CX outer H s E e s'
structure FnOk (P : Program) (w : World) (K : PySem.W.Frag) (mg : Str → Option Value) (base : Heap) (CX : CXT) (k : Nat) (f : Addr) (fd : FuncData) (ps : List Str) (sp : Sp) : Prop where
  len : ∀ vs H Q E, sp vs H Q E → vs.length = ps.length
  run : ∀ (A : Around) (outer : List Env) (s : Shared) (H : Hp) (args : Args) (us : List Value) (vs : List V) (Q : VK) (E : XK), Room k A → Env0 P w K mg base A outer s H → BindsTo s fd args (ps.zip us) → Vals vs us → sp vs H Q E →
    codeAny (model P w) A (.call (.ref f) args) (CR CX outer P w H s Q E) s
section
variable {X : Cx} {pins : List (Addr × Obj)} {σ : St} {H : Hp} {s s' : Shared}
/-- from a body: what a callee wants -/
theorem Inv.env0 (I : Inv X pins σ H s) : Env0 X.prog X.w X.K X.mg X.base X.A X.stack s H :=
  ⟨I.ok.frames, I.ok.mod, I.bs, Nat.le_trans I.ok.bsz I.sz, I.stack, I.stkFree, I.hok, I.bare⟩
/-- behind a call -/
theorem Inv.after {Q : VK} {u : Value} (I : Inv X pins σ H s) (h : CE X.stack X.prog X.w H s Q u s') : EP X pins σ Q u s' := by
  obtain ⟨v, H', os, bare, un, hok, r, q⟩ := h
  obtain ⟨hh, g, d, t, os'⟩ := s'
  obtain rfl : os' = s.os := os
  exact ⟨v, H', I.call (h' := hh) (g' := g) (d' := d) (t' := t) (ch := []) un hok bare (fun b z => absurd z (by simp)), r, q⟩
end

/-! ### calls -/
/-- f(..): the written arguments, then the defaults dvs; E: what is wanted of an exception -/
def tCall (sp : Sp) (dvs : List V) (E : XK) (t : TA) : TE := fun σ H Q => t σ H fun vs H1 => sp (vs ++ dvs) H1 Q E
/-- how the parameters are bound: us the positional arguments, kw the keywords' values by name, ds the defaults that fill up -/
def Binds (K : PySem.W.Frag) (fd : FuncData) (ps : List Str) (ds : List Value) : Prop :=
  ∀ (s : Shared) (us : List Value), K.In s.heap → (us ++ ds).length = ps.length → BindsTo s fd ⟨us, []⟩ (ps.zip (us ++ ds))
/-- every parameter is given -/
theorem Binds.all {K : PySem.W.Frag} {fd : FuncData} {ps : List Str} (h : ∀ us : List Value, us.length = ps.length → bindArgs fd ⟨us, []⟩ = pure (ps.zip us)) : Binds K fd ps [] := fun s us _ hl => by
  rw [List.append_nil] at hl ⊢
  exact .of_eq (h us hl)

/-- an exception of a callee reaches what this body wants of exceptions -/
def Passes (CX : CXT) (X : Cx) (E : XK) : Prop := ∀ (pins : List (Addr × Obj)) (σ : St) (H : Hp) (s : Shared) (e : Value) (s' : Shared), Inv X pins σ H s → CX X.stack H s E e s' → X.xe e s'

section
variable {X : Cx} {CX : CXT} {k : Nat} {f C : Addr} {fd : FuncData} {ps : List Str} {sp : Sp} {dvs : List V} {ds : List Value} {E : XK} {x m : Str} {p pos apos : Pos} {e o : Expr} {es : List Expr} {ta : TE} {t : TA}

/-- the callee runs -/
theorem run_fn {pins : List (Addr × Obj)} {σ : St} {H : Hp} {s : Shared} {Q : VK} {us : List Value} {vs : List V} (F : FnOk X.prog X.w X.K X.mg X.base CX k f fd ps sp) (hr : Room k X.A) (hb : Binds X.K fd ps ds) (hd : Vals dvs ds) (hx : Passes CX X E)
    (I : Inv X pins σ H s) (r : Vals vs us) (h : sp (vs ++ dvs) H Q E) : wpAny (model X.prog X.w) X.A (call (.ref f) us) (EP X pins σ Q) X.xe s := by
  have r2 : Vals (vs ++ dvs) (us ++ ds) := r.append hd
  have hl : (us ++ ds).length = ps.length := by rw [← r2.length]; exact F.len _ _ _ _ h
  refine wpAny_call (codeAny_mono (F.run X.A X.stack s H ⟨us, []⟩ (us ++ ds) (vs ++ dvs) Q E hr I.env0 (hb s us I.kIn hl) r2 h) fun r s' hq => ?_)
  cases r with
  | error e => exact hx pins σ H s e s' I hq
  | ok fl =>
    cases fl with
    | ret u => exact I.after hq
    | next => exact False.elim hq
    | brk => exact False.elim hq
    | cont => exact False.elim hq

theorem pe_call (F : FnOk X.prog X.w X.K X.mg X.base CX k f fd ps sp) (hr : Room k X.A) (hg : Gl X x) (hm : X.mg x = some (.ref f)) (hk : PySem.W.keepIn X.K (.ref f) = true) (hb : Binds X.K fd ps ds) (hd : Vals dvs ds) (hx : Passes CX X E)
    (ha : PA X (e :: es) t) (hdb : (x == ("__debug__" : Str)) = false := by decide) (he : starEach (e :: es) X.env = (false, eval e X.env) :: starEach es X.env := by rfl) (hpl : (backTo pos (starEach es X.env)).any (·.1) = false := by rfl) :
    PE X (.Call (.Name x p) (e :: es) [] pos) (tCall sp dvs E t) := by
  intro pins s σ H Q I h
  refine wpAny_Call_Name_kw (ld_glob I hg hm ?_ hdb)
  refine PySem.W.callWith_K (h₀ := X.base) I.ok.mod.kin hk (thn (ha pos pins s σ H _ I h) fun us s1 ⟨vs, H1, I1, r, q⟩ => ⟨I1.kIn, ?_⟩) he hpl
  exact run_fn F hr hb hd hx I1 r q
end

section
variable {X : Cx} {CX : CXT} {k : Nat} {f C : Addr} {fd : FuncData} {ps ks : List Str} {sp : Sp} {E : XK} {x m : Str} {p pos apos kpos : Pos} {e o : Expr} {es : List Expr} {kws : List Keyword} {te ta : TE} {t tk : TA} {nm : Option Str}
variable {g : List Value → List Value → List Value} {gV : List V → List V → List V}
end

/-! ### a def's body keeps its promise -/
/-- names: the parameters first -/
structure FnScope (N P : List Str) (sc : Scope) : Prop where
  kind : sc.kind = .function
  co : sc.isCoroutine = false
  gen : sc.isGenerator = false
  nd : N.Nodup
  pre : N.take P.length = P
  par : ∀ x ∈ P, sc.names.lookup x = some .local ∨ sc.names.lookup x = some .cell
  nofree : ∀ y ∈ sc.names, y.2 ≠ .free

theorem bindL_out {kindOf : Str → Option NameKind} {x : Str} : ∀ {binds : List (Str × Value)} {m : Str → Option Value}, (∀ v, (x, v) ∉ binds) → bindL kindOf binds m x = m x
  | [], _, _ => rfl
  | (n, v) :: r, m, h => by
    unfold bindL
    rw [bindL_out fun w hw => h w (List.mem_cons_of_mem _ hw)]
    split
    · have : x ≠ n := by rintro rfl; exact h v List.mem_cons_self
      simp [this]
    · rfl
theorem bindC_out {kindOf : Str → Option NameKind} {x : Str} : ∀ {binds : List (Str × Value)} {m : Str → Option Value}, (∀ v, (x, v) ∉ binds) → bindC kindOf binds m x = m x
  | [], _, _ => rfl
  | (n, v) :: r, m, h => by
    unfold bindC
    rw [bindC_out fun w hw => h w (List.mem_cons_of_mem _ hw)]
    split
    · rfl
    · have : x ≠ n := by rintro rfl; exact h v List.mem_cons_self
      simp [this]
theorem bindL_get {kindOf : Str → Option NameKind} {x : Str} {v : Value} : ∀ {P : List Str} {vs : List Value} {i : Nat} {m : Str → Option Value}, P.Nodup → P[i]? = some x → vs[i]? = some v → kindOf x = some .local →
    bindL kindOf (P.zip vs) m x = some v
  | [], _, _, _, _, h, _, _ => by simp at h
  | _ :: _, [], _, _, _, _, h, _ => by simp at h
  | p :: P, w :: vs, 0, m, nd, h1, h2, hk => by
    simp at h1 h2; subst h1; subst h2
    show bindL kindOf ((p, w) :: P.zip vs) m p = _
    unfold bindL
    rw [bindL_out fun v hv => (List.nodup_cons.mp nd).1 (List.of_mem_zip hv).1, if_pos hk]
    simp
  | p :: P, w :: vs, i + 1, m, nd, h1, h2, hk => by
    show bindL kindOf ((p, w) :: P.zip vs) m x = _
    unfold bindL
    exact bindL_get (i := i) (List.nodup_cons.mp nd).2 (by simpa using h1) (by simpa using h2) hk
theorem bindC_get {kindOf : Str → Option NameKind} {x : Str} {v : Value} : ∀ {P : List Str} {vs : List Value} {i : Nat} {m : Str → Option Value}, P.Nodup → P[i]? = some x → vs[i]? = some v → kindOf x ≠ some .local →
    bindC kindOf (P.zip vs) m x = some v
  | [], _, _, _, _, h, _, _ => by simp at h
  | _ :: _, [], _, _, _, _, h, _ => by simp at h
  | p :: P, w :: vs, 0, m, nd, h1, h2, hk => by
    simp at h1 h2; subst h1; subst h2
    show bindC kindOf ((p, w) :: P.zip vs) m p = _
    unfold bindC
    rw [bindC_out fun v hv => (List.nodup_cons.mp nd).1 (List.of_mem_zip hv).1, if_neg hk]
    simp
  | p :: P, w :: vs, i + 1, m, nd, h1, h2, hk => by
    show bindC kindOf ((p, w) :: P.zip vs) m x = _
    unfold bindC
    exact bindC_get (i := i) (List.nodup_cons.mp nd).2 (by simpa using h1) (by simpa using h2) hk

/-- the names' values at the entry -/
def start (N : List Str) (vs : List V) : St := vs.map some ++ List.replicate (N.length - vs.length) none

/-- the context of a def's body, at its entry; an exception leaves the frame, then lies as CX says -/
def cxOf (CX : CXT) (P : Program) (w : World) (K : PySem.W.Frag) (mg : Str → Option Value) (base : Heap) (N : List Str) (qual : Str) (scope : Scope) (f : Addr) (cd : Value) (A : Around) (outer : List Env) (s : Shared) (H : Hp) (E : XK) : Cx where
  prog := P
  w := w
  K := K
  mg := mg
  base := base
  A := A.deeper (envOfC qual scope s.heap.objs.size f cd)
  N := N
  s₀ := s
  H₀ := H
  env := envOfC qual scope s.heap.objs.size f cd
  outer := outer
  stack := envOfC qual scope s.heap.objs.size f cd :: outer
  ex := []
  calm := true
  fn := fun _ => true
  pn := []
  xe := fun e s' => wpAny (model P w) (A.deeper (envOfC qual scope s.heap.objs.size f cd)) (leaving (envOfC qual scope s.heap.objs.size f cd) e) (fun _ s'' => CX outer H s E e s'') (fun e' s'' => CX outer H s E e' s'') s'

theorem cell_has {sc : Scope} {n : Nat} {x : Str} (h : sc.names.lookup x = some .cell) : ∃ c, (cellsFrom n sc.names []).lookup x = some c := by
  have q := PySem.W.cellsFrom_some sc.names n [] (.inl h)
  exact Option.isSome_iff_exists.mp q

theorem inv_start {CX : CXT} {P : Program} {w : World} {K : PySem.W.Frag} {mg : Str → Option Value} {base : Heap} {N ps : List Str} {qual : Str} {scope : Scope} {f : Addr} {cd : Value} {A : Around} {outer : List Env} {s s1 : Shared} {H : Hp} {E : XK} {us : List Value} {vs : List V}
    (S : FnScope N ps scope) (hd : A.handled = none) (e0 : Env0 P w K mg base A outer s H) (hl : vs.length = ps.length) (r : Vals vs us)
    (x : InCallC s s.heap.objs.size (bindL (envOfC qual scope s.heap.objs.size f cd).kindOf (ps.zip us) fun _ => none) (cellsFrom (s.heap.objs.size + 1) scope.names []) (bindC (envOfC qual scope s.heap.objs.size f cd).kindOf (ps.zip us) fun _ => none) s1) :
    Inv (cxOf CX P w K mg base N qual scope f cd A outer s H E) [] (start N vs) H s1 := by
  have hpl : ps.length ≤ N.length := by have := congrArg List.length S.pre; rw [List.length_take] at this; omega
  obtain ⟨h1, tk, rfl, hk⟩ := x.done
  have noA : ∀ b : Addr, b ∉ (cxOf CX P w K mg base N qual scope f cd A outer s H E).ex := fun b z => absurd (show b ∈ ([] : List Addr) from z) (by simp)
  refine ⟨⟨e0.mod, S.kind, rfl, rfl, Nat.le_refl _, fun y z c h1 h2 => ?_, fun y hy => ?_, fun y c _ h => ?_, fun _ => hd, Around.frames_deeper e0.frames, .inr ⟨rfl, rfl⟩, fun b z => absurd z (noA b), e0.bs, e0.bsz, fun b _ _ => noA b, fun b z => absurd z (noA b), e0.funs, e0.frf⟩,
    rfl, e0.bare, Un.kept hk, ⟨_, x.toInCall.ns, fun i y v h1 h2 h3 => ?_⟩, fun y c h => ⟨_, x.cell y c h⟩, e0.hok.fresh (Nat.le_refl _), fun y c h => ?_, fun p hp => absurd (show p ∈ ([] : List (Addr × Obj)) from hp) (by simp), e0.hok.kept hk, ?_⟩
  · exact name_of_addr x.apart (PySem.mem_of_lookup h1) (PySem.mem_of_lookup h2)
  · have hy : scope.names.lookup y = some .cell ∨ scope.names.lookup y = some .free := hy
    rcases hy with hy | hy
    · exact cell_has hy
    · exact absurd rfl (S.nofree _ (PySem.mem_of_lookup hy))
  · exact Nat.le_of_lt (x.above y c (PySem.mem_of_lookup h))
  · have hi : i < vs.length := by
      unfold start at h2
      by_cases hi : i < vs.length
      · exact hi
      · rw [List.getElem?_append_right (by simpa using hi)] at h2
        rw [List.getElem?_replicate] at h2
        split at h2 <;> cases h2
    have ha : vs[i]? = some v := by
      unfold start at h2
      rw [List.getElem?_append_left (by simpa using hi), List.getElem?_map] at h2
      cases e : vs[i]? with
      | none => rw [e] at h2; cases h2
      | some a => rw [e] at h2; cases h2; rfl
    obtain ⟨u, hu, rv⟩ := r.get ha
    have hp : ps[i]? = some y := by
      rw [← S.pre, List.getElem?_take_of_lt (by omega)]; exact h1
    have ndP : ps.Nodup := by rw [← S.pre]; exact S.nd.sublist (List.take_sublist _ _)
    refine ⟨u, rv, ?_⟩
    rcases S.par y (List.mem_of_getElem? hp) with k | k
    · exact .inl ⟨k, bindL_get ndP hp hu k⟩
    · obtain ⟨c, e⟩ := cell_has (n := s.heap.objs.size + 1) k
      refine .inr ⟨.inl k, c, e, ?_⟩
      have q := x.cell y c e
      rw [bindC_get ndP hp hu (by show scope.names.lookup y ≠ _; rw [k]; decide)] at q
      exact q
  · exact e0.hok.fresh (Nat.le_of_lt (x.above y c (PySem.mem_of_lookup h)))
  · unfold start
    show _ = N.length
    rw [List.length_append, List.length_map, List.length_replicate]
    omega

/-- THE RULE: a def (or a method) of the text, by its body. The body's reading t is chosen for each entry; it is run at the parameters' values -/
theorem fn_of {CX : CXT} {P : Program} {w : World} {K : PySem.W.Frag} {mg : Str → Option Value} {base : Heap} {k : Nat} {f : Addr} {name qual : Str} {params : Arguments} {body : List Stmt} {scope : Scope} {dV kV doc pm cdv ct oc : Value} {an od : Option Addr}
    {osl : Array (Option Value)} {N ps : List Str} {sp : Sp} (lk : K.lookup f = some ⟨oc, od, .func (PySem.W.fnOf name qual params body scope dV kV doc pm an cdv ct), osl⟩) (hcd : PySem.W.codeIn K cdv qual = true) (S : FnScope N ps scope)
    (len : ∀ vs H Q E, sp vs H Q E → vs.length = ps.length)
    (hbody : ∀ (A : Around) (outer : List Env) (s : Shared) (H : Hp) (vs : List V) (Q : VK) (E : XK), Room k (A.deeper (envOfC qual scope s.heap.objs.size f cdv)) → sp vs H Q E →
      ∃ t, PSs (cxOf CX P w K mg base N qual scope f cdv A outer s H E) body t ∧ t { nx := fun _ H' => Q .non H', rt := Q } (start N vs) H) :
    FnOk P w K mg base CX (k + 1) f (PySem.W.fnOf name qual params body scope dV kV doc pm an cdv ct) ps sp := by
  refine ⟨len, fun A outer s H args us vs Q E hr e0 hb r hsp => ?_⟩
  have hl := len _ _ _ _ hsp
  have KX : K.In s.heap := e0.mod.kin.keeps fun b o e => (e0.bs b o e).1
  have lim : s.heap.NoLimit := e0.mod.nolimit.keeps fun b o e => (e0.bs b o e).1
  have hkind : ∀ y ∈ ps.zip us, scope.names.lookup y.1 = some .local ∨ (scope.names.lookup y.1 = some .cell ∧ ((cellsFrom (s.heap.objs.size + 1) scope.names []).lookup y.1).isSome = true) := fun ⟨n, v⟩ hy => by
    rcases S.par n (List.of_mem_zip hy).1 with q | q
    · exact .inl q
    · exact .inr ⟨q, PySem.W.cellsFrom_some _ _ _ (.inl q)⟩
  refine codeAny_call_function hr.depth (KX _ _ lk) rfl S.co S.gen rfl (PySem.W.codeRec_of KX hcd) (hb _ _ _ _ ?_)
  refine wpAny_newFunctionEnv_cells S.kind hkind fun env he s1 x => ?_
  subst he
  refine ⟨lim.keeps x.toInCall.keep, codeAny_func ?_⟩
  obtain ⟨t, ht, hq⟩ := hbody A outer s H vs Q E (hr.deeper _) hsp
  have I : Inv (cxOf CX P w K mg base N qual scope f cdv A outer s H E) [] (start N vs) H s1 := inv_start S hr.hd e0 hl r x
  refine wpAny_mono (ht [] s1 (start N vs) H _ I hq) (fun fl s' hs => ?_) fun e s' hs => hs
  have fin : ∀ {σ' : St} {H' : Hp} {v : V} {u : Value}, Inv (cxOf CX P w K mg base N qual scope f cdv A outer s H E) [] σ' H' s' → RelV v u → Q v H' → CE outer P w H s Q u s' :=
    fun {σ' H' v u} J rv q => ⟨v, H', J.os, J.bare, J.base, J.hok, rv, q⟩
  cases fl with
  | ret u =>
    obtain ⟨v, σ', H', J, rv, q⟩ := hs
    exact fin J rv q
  | next =>
    obtain ⟨σ', H', J, q⟩ := hs
    exact fin (v := V.non) (u := Value.none) J rfl q
  | brk =>
    obtain ⟨_, _, _, q⟩ := hs
    exact False.elim q
  | cont =>
    obtain ⟨_, _, _, q⟩ := hs
    exact False.elim q
end L2

namespace L2
open PySem PySem.Spec PyProof.Rows
section
variable {X : Cx} {x : Str} {p pos : Pos} {e : Expr} {es : List Expr} {t : TA} {id T : String} {r : List V → Hp → VK → Prop}

def tCB (r : List V → Hp → VK → Prop) (t : TA) : TE := fun σ H Q => t σ H fun vs H1 => r vs H1 Q
/-- f(e, ..), f a built-in function -/
theorem pe_callB (hc : CallR X (.builtin id) r) (hg : Gl X x) (hm : X.mg x = none) (hv : bootBuiltins x = some (.builtin id)) (ha : PA X (e :: es) t) (hn : x ≠ "__name__" := by decide) (hdb : (x == ("__debug__" : Str)) = false := by decide)
    (he : starEach (e :: es) X.env = (false, eval e X.env) :: starEach es X.env := by rfl) (hpl : (backTo pos (starEach es X.env)).any (·.1) = false := by rfl) : PE X (.Call (.Name x p) (e :: es) [] pos) (tCB r t) := by
  intro pins s σ H Q I h
  refine wpAny_Call_Name_kw (ld_blt I hg hm hv ?_ hn hdb)
  exact PyProof.Rows.callWith_builtin1 (thn (ha pos pins s σ H _ I h) fun us s1 ⟨vs, H1, I1, r1, q1⟩ => hc pins s1 σ H1 vs us Q I1 r1 q1) he hpl
/-- T(e, ..), T a built-in type -/
theorem pe_callTy (hc : CallR X (.type T) r) (hg : Gl X x) (hm : X.mg x = none) (hv : bootBuiltins x = some (.type T)) (ha : PA X (e :: es) t) (hn : x ≠ "__name__" := by decide) (hdb : (x == ("__debug__" : Str)) = false := by decide)
    (he : starEach (e :: es) X.env = (false, eval e X.env) :: starEach es X.env := by rfl) (hpl : (backTo pos (starEach es X.env)).any (·.1) = false := by rfl) : PE X (.Call (.Name x p) (e :: es) [] pos) (tCB r t) := by
  intro pins s σ H Q I h
  refine wpAny_Call_Name_kw (ld_blt I hg hm hv ?_ hn hdb)
  exact PyProof.Rows.callWith_type1 (thn (ha pos pins s σ H _ I h) fun us s1 ⟨vs, H1, I1, r1, q1⟩ => hc pins s1 σ H1 vs us Q I1 r1 q1) he hpl
end
end L2

namespace HT
open PySem PyProof.Rows

section
open PySem.SeqAt
open PySem.AutoSeq1 (wpAny_loadPart')
open PySem.MeetsSeq PySem.MeetsSeq2 PySem.MeetsSeq3

end

section
variable {prog : Program} {w : World} {A : Around} {E : Value → Shared → Prop} {s : Shared}

/-! ### t[a:b], not the whole -/
/-- a slice's bound as a place among n (d where it is left out) -/
def sIx (n d : Nat) : Option Int → Nat
  | none => d
  | some v => if v < 0 then (v + (n : Int)).toNat else min v.toNat n
theorem sIx_nat (n d k : Nat) : sIx n d (some (k : Int)) = min k n := by
  show (if (k : Int) < 0 then ((k : Int) + (n : Int)).toNat else min (k : Int).toNat n) = min k n
  rw [if_neg (by omega), Int.toNat_natCast]
end
end HT

namespace L2
open PySem PySem.Spec PyProof.Rows

/-! ### the parts of a slice -/
abbrev TO := St → Hp → (Option Int → Hp → Prop) → Prop
/-- a slice's part (left out, or an int) -/
def PO (X : Cx) (e : Option Expr) (t : TO) : Prop :=
  ∀ (pins : List (Addr × Obj)) (s : Shared) (σ : St) (H : Hp) (Q : Option Int → Hp → Prop), Inv X pins σ H s → t σ H Q →
    wpAny (model X.prog X.w) X.A (evalPart e X.env) (fun u s' => ∃ o H', Inv X pins σ H' s' ∧ IsPart u o ∧ Q o H') X.xe s
def tNoPart : TO := fun _ H Q => Q none H
def tPart (t : TE) : TO := fun σ H Q => t σ H fun x H1 => ∃ i, x = .int i ∧ Q (some i) H1

section
variable {X : Cx} {e : Expr} {te : TE} {lo hi : Option Expr} {tl th : TO} {pos p2 : Pos}

theorem po_none : PO X none tNoPart := by
  intro pins s σ H Q I h
  rw [evalPart_none]
  exact wpAny_pure ⟨none, H, I, .none, h⟩
theorem po_some (h : PE X e te) : PO X (some e) (tPart te) := by
  intro pins s σ H Q I hw
  rw [evalPart_some]
  refine thn (h pins s σ H _ I hw) fun u s1 ⟨x, H1, I1, r1, q1⟩ => ?_
  obtain ⟨i, rfl, q⟩ := q1
  obtain ⟨t, rfl⟩ := r1
  exact ⟨some i, H1, I1, .int i t, q⟩

/-- what a slice of a value is, by values: the slice object stands at sl -/
def SlR (X : Cx) (r : V → Option Int → Option Int → Hp → VK → Prop) : Prop :=
  ∀ (pins : List (Addr × Obj)) (s : Shared) (σ : St) (H : Hp) (x : V) (v vl vu : Value) (lo hi : Option Int) (sl : Addr) (Q : VK), Inv X pins σ H s → RelV x v → s.heap.IsSliceOf sl vl vu .none → IsPart vl lo → IsPart vu hi → r x lo hi H Q →
    ∃ T id, typeLookup (.type T) "__getitem__" = pure (some (.builtin id)) ∧ s.TypeIs v T ∧ wpAny (model X.prog X.w) X.A (getItem v (.ref sl)) (EP X pins σ Q) X.xe s
def tSl (r : V → Option Int → Option Int → Hp → VK → Prop) (te : TE) (tl th : TO) : TE := fun σ H Q => te σ H fun x H1 => tl σ H1 fun l H2 => th σ H2 fun u H3 => r x l u H3 Q
/-- a[lo:hi], any a -/
theorem pe_slice {r : V → Option Int → Option Int → Hp → VK → Prop} (hr : SlR X r) (he : PE X e te) (hl : PO X lo tl) (hu : PO X hi th) : PE X (.Subscript e (.Slice lo hi none p2) pos) (tSl r te tl th) := by
  intro pins s σ H Q I h
  refine Subscript_ (thn (he pins s σ H _ I h) fun v s1 ⟨x, H1, I1, r1, q1⟩ => ?_)
  refine wpAny_Slice (thn (hl pins s1 σ H1 _ I1 q1) fun vl s2 ⟨l, H2, I2, pl, q2⟩ => thn (hu pins s2 σ H2 _ I2 q2) fun vu s3 ⟨u, H3, I3, pu, q3⟩ => ?_)
  rw [evalPart_none]
  refine wpAny_pure ?_
  have I4 : Inv X pins σ H3 { s3 with heap := s3.heap.push { cls := .type "slice", data := .fields #[vl, vu, .none] } } := I3.kept (t' := s3.toks) fun b ob q => Heap.get?_push_of_some _ q
  obtain ⟨T, id, hT, ht, hg⟩ := hr pins { s3 with heap := s3.heap.push { cls := .type "slice", data := .fields #[vl, vu, .none] } } σ H3 x v vl vu l u s3.heap.objs.size Q I4 r1 (Heap.IsSliceOf.new ..) pl pu q3
  show wpAny (model X.prog X.w) X.A (subscriptTail e (.Slice lo hi none p2) v (.ref s3.heap.objs.size)) (EP X pins σ Q) X.xe { s3 with heap := s3.heap.push { cls := .type "slice", data := .fields #[vl, vu, .none] } }
  exact tail_any (ops := [.ref s3.heap.objs.size, v]) ht hT hg (by with_unfolding_all rfl)

/-- the items of xs[lo:hi] -/
def cutV (xs : List V) (lo hi : Option Int) : List V := (xs.drop (HT.sIx xs.length 0 lo)).take (HT.sIx xs.length xs.length hi - HT.sIx xs.length 0 lo)
theorem cutV_length (xs : List V) (lo hi : Option Int) : (cutV xs lo hi).length ≤ xs.length := by
  unfold cutV
  rw [List.length_take, List.length_drop]
  omega
end
end L2

namespace L2
open PySem PySem.Spec PyProof.Rows

/-! ### places -/
/-- the place that an index of any sign means -/
def ixN (n : Nat) (i : Int) : Option Nat := if 0 ≤ i then (if i < n then some i.toNat else none) else if -(n : Int) ≤ i then some (i + n).toNat else none
def atI {α : Type} (xs : List α) (i : Int) : Option α := (ixN xs.length i).bind fun j => xs[j]?
theorem ixN_seq {n : Nat} {i : Int} {j : Nat} (h : ixN n i = some j) : seqIndex? i n = some j ∧ j < n ∧ -(n : Int) ≤ i ∧ i < n := by
  unfold ixN at h
  by_cases h0 : 0 ≤ i
  · rw [if_pos h0] at h
    by_cases h1 : i < n
    · rw [if_pos h1] at h
      have e : i.toNat = j := Option.some.inj h
      exact ⟨by rw [seqIndex_of h0 h1, e], by omega, by omega, h1⟩
    · rw [if_neg h1] at h; cases h
  · rw [if_neg h0] at h
    by_cases h1 : -(n : Int) ≤ i
    · rw [if_pos h1] at h
      have e : (i + n).toNat = j := Option.some.inj h
      exact ⟨by rw [seqIndex_neg (by omega) h1, e], by omega, h1, by omega⟩
    · rw [if_neg h1] at h; cases h
theorem atI_get {α : Type} {xs : List α} {i : Int} {v : α} (h : atI xs i = some v) : ∃ j, seqIndex? i xs.length = some j ∧ xs[j]? = some v ∧ j < xs.length ∧ -(xs.length : Int) ≤ i ∧ i < xs.length := by
  unfold atI at h
  cases e : ixN xs.length i with
  | none => rw [e] at h; cases h
  | some j =>
    rw [e] at h
    obtain ⟨h1, h2, h3, h4⟩ := ixN_seq e
    exact ⟨j, h1, h, h2, h3, h4⟩
theorem atI_nat {α : Type} {xs : List α} {j : Nat} {v : α} (h : xs[j]? = some v) : atI xs (j : Int) = some v := by
  have hj : j < xs.length := (List.getElem?_eq_some_iff.mp h).1
  have e : ixN xs.length (j : Int) = some j := by
    unfold ixN
    rw [if_pos (by omega), if_pos (by omega)]; simp
  unfold atI; rw [e]; exact h
/-! ### what may be subscripted -/
/-- what stands as an index of a plain subscript -/
def PlainIx (b : Expr) : Prop := ∀ o i, subscripted b false o i = operate [o, i] (getItem o i)
/-- a subscript by values -/
def IxR (X : Cx) (r : R2) : Prop :=
  ∀ (value slice : Expr) (pins : List (Addr × Obj)) (s : Shared) (σ : St) (H : Hp) (x y : V) (v u : Value) (Q : VK), Inv X pins σ H s → RelV x v → RelV y u → r x y H Q →
    subscripted slice false v u = operate [v, u] (getItem v u) → wpAny (model X.prog X.w) X.A (subscriptTail value slice v u) (EP X pins σ Q) X.xe s
/-- a call of a builtin's method by values: the receiver, the arguments -/
def MtR (X : Cx) (id : String) (r : V → List V → Hp → VK → Prop) : Prop :=
  ∀ (pins : List (Addr × Obj)) (s : Shared) (σ : St) (H : Hp) (x : V) (xs : List V) (v : Value) (us : List Value) (Q : VK), Inv X pins σ H s → RelV x v → Vals xs us → r x xs H Q →
    wpAny (model X.prog X.w) X.A (call (.builtin id) (v :: us)) (EP X pins σ Q) X.xe s
section
variable {X : Cx} {a b : Expr} {ta tb : TE} {pos : Pos}
/-- a[b] -/
theorem pe_ix {r : R2} (hr : IxR X r) (ha : PE X a ta) (hb : PE X b tb) (hs : PlainIx b) : PE X (.Subscript a b pos) (tOp r ta tb) := by
  intro pins s σ H Q I h
  exact Subscript_ (binT ha hb I h fun v u s2 x y H2 I2 rx ry q => hr a b pins s2 σ H2 x y v u Q I2 rx ry q (hs _ _))

def rIxL (K : PySem.W.Frag) : R2 := fun x y H Q => ∃ p xs i v, x = .ref p ∧ y = .int i ∧ SqL K H p xs ∧ atI xs i = some v ∧ Q v H
def rIxT (K : PySem.W.Frag) : R2 := fun x y H Q => ∃ p xs i v, x = .ref p ∧ y = .int i ∧ SqT K H p xs ∧ atI xs i = some v ∧ Q v H
theorem ix_list : IxR X (rIxL X.K) := by
  intro value slice pins s σ H x y v u Q I rx ry h hs
  obtain ⟨p, xs, i, z, rfl, rfl, hq, he, q⟩ := h
  cases rx
  obtain ⟨t, rfl⟩ := ry
  obtain ⟨its, r, pl, hz⟩ := I.list hq
  obtain ⟨j, h1, h2, h3, h4, h5⟩ := atI_get he
  obtain ⟨w, ew, rw'⟩ := r.get h2
  have hl := r.length
  have hn := line63
  have fin : EP X pins σ Q w s := ⟨z, H, I, rw', q⟩
  by_cases h0 : 0 ≤ i
  · have hj : i.toNat = j := by
      rw [seqIndex_of h0 h5] at h1
      exact Option.some.inj h1
    exact item_listR pl.isList h0 (by omega) (by rw [hj]; simpa using ew) fin hs
  · have hj : (i + (its.toArray.size : Int)).toNat = j := by
      rw [seqIndex_neg (by omega) h4] at h1
      rw [List.size_toArray, ← hl]
      exact Option.some.inj h1
    exact subscriptTail_builtinR (x := w) pl.isList.typeIs slot_list_getitem.lookup
      (wpAny_getItem_list_neg (Q := fun r s' => r = w ∧ EP X pins σ Q r s') pl.isList (by omega) (by rw [List.size_toArray] <;> omega) (by omega) (by rw [hj]; simpa using ew) ⟨rfl, fin⟩) hs
theorem ix_tup : IxR X (rIxT X.K) := by
  intro value slice pins s σ H x y v u Q I rx ry h hs
  obtain ⟨p, xs, i, z, rfl, rfl, hq, he, q⟩ := h
  cases rx
  obtain ⟨t, rfl⟩ := ry
  obtain ⟨its, r, pl, hz⟩ := I.tuple hq
  obtain ⟨j, h1, h2, h3, h4, h5⟩ := atI_get he
  obtain ⟨w, ew, rw'⟩ := r.get h2
  have hl := r.length
  have hn := line63
  have fin : EP X pins σ Q w s := ⟨z, H, I, rw', q⟩
  exact subscriptTail_builtinR (x := w) pl.typeIs slot_tuple_getitem.lookup
    (getItem_tuple (j := j) (Q := fun r s' => r = w ∧ EP X pins σ Q r s') pl (by omega) (by omega) (by rw [List.size_toArray, ← hl]; exact h1) (by simpa using ew) ⟨rfl, fin⟩) hs
/-! ### slices -/
theorem slice_bounds (lo hi : Option Int) (n : Nat) : (sliceBounds lo hi none n).1 = ((HT.sIx n 0 lo : Nat) : Int) ∧ (sliceBounds lo hi none n).2.1 = ((HT.sIx n n hi : Nat) : Int) ∧ (sliceBounds lo hi none n).2.2 = 1 := by
  refine ⟨?_, ?_, rfl⟩
  · cases lo with
    | none => simp [sliceBounds, HT.sIx]
    | some i =>
      simp only [sliceBounds, HT.sIx, Option.getD_none, show (1 : Int) > 0 by decide, if_true]
      by_cases h : i < 0
      · simp only [h, if_true] <;> omega
      · simp only [h, if_false] <;> omega
  · cases hi with
    | none => simp [sliceBounds, HT.sIx]
    | some i =>
      simp only [sliceBounds, HT.sIx, Option.getD_none, show (1 : Int) > 0 by decide, if_true]
      by_cases h : i < 0
      · simp only [h, if_true] <;> omega
      · simp only [h, if_false] <;> omega
theorem slicePick_cut (its : List Value) (lo hi : Option Int) : slicePick its.toArray lo hi none = ((its.drop (HT.sIx its.length 0 lo)).take (HT.sIx its.length its.length hi - HT.sIx its.length 0 lo)).toArray := by
  obtain ⟨h1, h2, h3⟩ := slice_bounds lo hi its.toArray.size
  unfold slicePick
  rw [h1, h2, h3]
  simp only [sliceRange_one, pick_run, List.size_toArray] <;> rfl
/-- xs[lo:hi] of a list: a new list -/
def rSlL (K : PySem.W.Frag) : V → Option Int → Option Int → Hp → VK → Prop := fun x lo hi H Q => ∃ a xs, x = .ref a ∧ SqL K H a xs ∧ ∀ p, H p = none → Q (.ref p) (upd H p (.lst (cutV xs lo hi)))
theorem sl_list : SlR X (rSlL X.K) := by
  intro pins s σ H x v vl vu lo hi sl Q I rx hs pl pu h
  obtain ⟨a, xs, rfl, hx, q⟩ := h
  cases rx
  obtain ⟨its, r, ht, hz⟩ := I.list hx
  have hlen := r.length
  refine ⟨"list", _, slot_list_getitem.lookup, ht.isList.typeIs, ?_⟩
  refine wpAny_getItem_list_slice ht.isList hs pl pu .none (by simp) ?_ (by rw [List.size_toArray] <;> omega)
  rw [slicePick_cut, ← hlen]
  refine ⟨.ref s.heap.objs.size, _, I.laid (t' := s.toks) (o := .lst (cutV xs lo hi)) (fun b ob q => Heap.get?_push_of_some _ q) (Nat.le_refl _) ?_, rfl, q _ (I.hok.fresh (Nat.le_refl _))⟩
  exact ⟨Nat.le_trans (cutV_length xs lo hi) hz, _, 0, (r.drop (HT.sIx xs.length 0 lo)).take (HT.sIx xs.length xs.length hi - HT.sIx xs.length 0 lo), Heap.get?_push_size _ rfl⟩

/-! ### len, list(x), tuple(x) of any list or tuple that is read -/
theorem call_len_seq : CallR X (.builtin "len") (fun xs H Q => ∃ p ys, xs = [.ref p] ∧ (SqL X.K H p ys ∨ SqT X.K H p ys) ∧ Q (.int ys.length) H) := by
  intro pins s σ H xs us Q I r h
  obtain ⟨p, ys, rfl, hq, q⟩ := h
  obtain ⟨u, rfl, rx⟩ := vals1 r
  cases rx
  have hn := line63
  rcases hq with hq | hq
  · obtain ⟨its, r', pl, hz⟩ := I.list hq
    have hlen := r'.length
    exact Calls.call_len_list pl.isList (by simp only [List.size_toArray] <;> omega) ⟨.int ys.length, H, I.tok _, ⟨s.toks + 1, by rw [List.size_toArray, hlen]⟩, q⟩
  · obtain ⟨its, r', pl, hz⟩ := I.tuple hq
    have hlen := r'.length
    exact len_tuple pl (by simp only [List.size_toArray] <;> omega) ⟨.int ys.length, H, I.tok _, ⟨s.toks + 1, by rw [List.size_toArray, hlen]⟩, q⟩
theorem call_list_of : CallR X (.type "list") (fun xs H Q => ∃ p ys, xs = [.ref p] ∧ (SqL X.K H p ys ∨ SqT X.K H p ys) ∧ ∀ l, H l = none → Q (.ref l) (upd H l (.lst ys))) := by
  intro pins s σ H xs us Q I r h
  obtain ⟨p, ys, rfl, hq, q⟩ := h
  obtain ⟨u, rfl, rx⟩ := vals1 r
  cases rx
  have fin : ∀ (its : List Value), Vals ys its → ys.length ≤ sizeLine → ∀ (h' : Heap) (c' : Nat), (∀ b o', s.heap.get? b = some o' → h'.get? b = some o') →
      h'.get? s.heap.objs.size = some { cls := .type "list", dict := none, data := .seq its.toArray c', slots := #[] } → EP X pins σ Q (.ref s.heap.objs.size) { s with heap := h' } := fun its r' hz h' c' kp e =>
    ⟨.ref s.heap.objs.size, _, I.laid (t' := s.toks) kp (Nat.le_refl _) (show ObjOk X.prog X.w _ h' _ (.lst ys) from ⟨hz, its, c', r', e⟩), rfl, q _ (I.hok.fresh (Nat.le_refl _))⟩
  rcases hq with hq | hq
  · obtain ⟨its, r', pl, hz⟩ := I.list hq
    have hlen := r'.length
    obtain ⟨o, ho, hc, n, hd⟩ := pl.isList
    exact call_list_seq p (.inl rfl) ho hc hd (fun h' c' kp e => fin its r' hz h' c' kp e) (by simp only [List.size_toArray] <;> omega)
  · obtain ⟨its, r', pl, hz⟩ := I.tuple hq
    have hlen := r'.length
    obtain ⟨o, ho, hc, n, hd⟩ := pl
    exact call_list_seq p (.inr rfl) ho hc hd (fun h' c' kp e => fin its r' hz h' c' kp e) (by simp only [List.size_toArray] <;> omega)
theorem call_tuple_of : CallR X (.type "tuple") (fun xs H Q => ∃ p ys, xs = [.ref p] ∧ ((SqL X.K H p ys ∧ ∀ l, H l = none → Q (.ref l) (upd H l (.tup ys))) ∨ (SqT X.K H p ys ∧ Q (.ref p) H))) := by
  intro pins s σ H xs us Q I r h
  obtain ⟨p, ys, rfl, h⟩ := h
  obtain ⟨u, rfl, rx⟩ := vals1 r
  cases rx
  rcases h with ⟨hq, q⟩ | ⟨hq, q⟩
  · obtain ⟨its, r', pl, hz⟩ := I.list hq
    have hlen := r'.length
    refine call_tuple_list pl.isList (fun h' kp => ?_) (by simp only [List.size_toArray] <;> omega)
    have I1 : Inv X pins σ H { s with heap := h' } := I.kept (t' := s.toks) kp
    have I2 : Inv X pins σ (upd H h'.objs.size (.tup ys)) { s with heap := h'.push { cls := .type "tuple", data := .seq its.toArray } } :=
      I1.laid (t' := s.toks) (fun b o e => Heap.get?_push_of_some _ e) (Nat.le_refl _) (show ObjOk X.prog X.w _ _ _ (.tup ys) from ⟨hz, its, r', IsTup.new _ _⟩)
    exact ⟨.ref h'.objs.size, _, I2, rfl, q _ (I1.hok.fresh (Nat.le_refl _))⟩
  · obtain ⟨its, r', pl, hz⟩ := I.tuple hq
    exact call_tuple_same pl ⟨.ref p, H, I, rfl, q⟩

/-! ### the call of a builtin's method: o.m(..) -/
/-- the value is of that builtin type -/
def tyV (K : PySem.W.Frag) (T : String) (x : V) (H : Hp) : Prop := match x with
  | .str _ => T = "str"
  | .int _ => T = "int"
  | .ref p => (T = "list" ∧ ∃ xs, SqL K H p xs) ∨ (T = "tuple" ∧ ∃ o, K.lookup p = some o ∧ o.cls = .type "tuple" ∧ o.dict = none) ∨
      (T = "dict" ∧ ∃ kvs, H p = some (.dK kvs)) ∨ (T = "set" ∧ ∃ S n, H p = some (.set S n))
  | _ => False
theorem tyV_is {pins : List (Addr × Obj)} {σ : St} {H : Hp} {s : Shared} {T : String} {x : V} {v : Value} (I : Inv X pins σ H s) (r : RelV x v) (ty : tyV X.K T x H) :
    s.TypeIs v T ∧ ∀ a, v = .ref a → ∃ ob, s.heap.get? a = some ob ∧ ob.dict = none := by
  cases x with
  | str z =>
    obtain ⟨t, rfl⟩ := r
    cases (show T = "str" from ty)
    exact ⟨typeIs_str s z t, fun _ e => nomatch e⟩
  | int i =>
    obtain ⟨t, rfl⟩ := r
    cases (show T = "int" from ty)
    exact ⟨typeIs_int s i t, fun _ e => nomatch e⟩
  | ref p =>
    cases r
    rcases ty with ⟨rfl, xs, hq⟩ | ⟨rfl, o, hk, hc, hd⟩ | ⟨rfl, hk⟩ | ⟨rfl, S, n, hk⟩
    · obtain ⟨its, _, pl, _⟩ := I.list hq
      refine ⟨pl.isList.typeIs, fun a e => ?_⟩
      cases e
      obtain ⟨o, n, e, c, hd, _⟩ := pl
      exact ⟨o, e, hd⟩
    · refine ⟨⟨o, I.kIn p o hk, hc⟩, fun a e => ?_⟩
      cases e
      exact ⟨o, I.kIn _ o hk, hd⟩
    · have z : ∃ o, s.heap.get? p = some o ∧ o.ExactDict := by
        obtain ⟨kvs, hk⟩ := hk
        obtain ⟨_, _, _, _, o, _, _, e, ex, _⟩ := I.hok p _ hk
        exact ⟨o, e, ex⟩
      obtain ⟨o, e, ex⟩ := z
      refine ⟨⟨o, e, ex.1⟩, fun a e2 => ?_⟩
      cases e2
      exact ⟨o, e, ex.2.1⟩
    · obtain ⟨o, _, _, _, e, ex, _⟩ := I.hok p _ hk
      refine ⟨⟨o, e, ex.1⟩, fun a e2 => ?_⟩
      cases e2
      exact ⟨o, e, ex.2.1⟩
  | _ => exact False.elim ty
def tBM (K : PySem.W.Frag) (T : String) (r : V → List V → Hp → VK → Prop) (to : TE) (t : TA) : TE := fun σ H Q => to σ H fun x H1 => tyV K T x H1 ∧ t σ H1 fun xs H2 => r x xs H2 Q
variable {o e : Expr} {es : List Expr} {to : TE} {t : TA} {name : Str} {apos cpos : Pos} {T id : String} {r : V → List V → Hp → VK → Prop}
theorem pe_bm (pa : PlainAttrs T) (slot : Slot T name id) (hty : typeOf (.builtin id) = pure (.type "method_descriptor")) (hm : MtR X id r) (ho : PE X o to) (ha : PA X (e :: es) t)
    (hbase : attributeBase o name X.env (eval o X.env) = eval o X.env := by rfl)
    (hfew : ((backTo cpos (starEach (e :: es) X.env)).all (fun x => !x.1) && (backToKw cpos (keywordEach [] X.env)).all (fun x => x.1.isSome)
      && decide ((e :: es).length + ([] : List Keyword).length + (if ([] : List Keyword).isEmpty then 0 else 1) < 30)) = true := by rfl)
    (hline : (apos.endLine == cpos.line) = true := by rfl) (hs : starEach (e :: es) X.env = (false, eval e X.env) :: starEach es X.env := by rfl) (hplain : (backTo cpos (starEach es X.env)).any (·.1) = false := by rfl) :
    PE X (.Call (.Attribute o name apos) (e :: es) [] cpos) (tBM X.K T r to t) := by
  intro pins s σ H Q I h
  refine wpAny_Call_method_late hbase hfew hline rfl (thn (ho pins s σ H _ I h) fun v s1 ⟨x, H1, I1, r1, ty, q1⟩ => ?_)
  obtain ⟨h1, h2⟩ := tyV_is I1 r1 ty
  refine ⟨T, id, pa, slot, hty, h1, h2, ?_⟩
  have hA := ha cpos pins s1 σ H1 _ I1 q1
  rw [hs] at hA ⊢
  refine Calls.callWith_builtin (by show (false || (backTo cpos (starEach es X.env)).any (·.1)) = false; rw [hplain] <;> rfl) (Calls.evalArgs_plain ?_)
  exact thn hA fun us s2 ⟨vs, H2, I2, r2, q2⟩ => hm pins s2 σ H2 x vs v us Q I2 r1 r2 q2
/- xs.append(e), list.index on a module's tuple .. are MtR facts of 06m -/
end
end L2

namespace L2
open PySem PySem.Spec PyProof.Rows

def MtM (X : Cx) (id : String) (r : V → List V → Hp → VK → Prop) : Prop :=
  ∀ (pins : List (Addr × Obj)) (s : Shared) (σ : St) (H : Hp) (x : V) (xs : List V) (v : Value) (us : List Value) (Q : VK), Inv X pins σ H s → RelV x v → Vals xs us → r x xs H Q →
    wpAny (model X.prog X.w) X.A (call (.builtin id) (v :: us)) (EP X pins σ Q) X.xe s

/-! ### lists of values -/
theorem Vals.one : ∀ {x : V} {us : List Value}, Vals [x] us → ∃ u, us = [u] ∧ RelV x u
  | _, _, .cons r .nil => ⟨_, rfl, r⟩
section
variable {X : Cx} {pins : List (Addr × Obj)} {σ : St} {H : Hp} {s : Shared} {l b : Addr} {xs ys zs : List V}

/-! ### the two steps: a tracked list is rewritten, a new list is laid -/
theorem Inv.lset {its its' : List Value} {n : Nat} {f : Array Value → Array Value} {t' : Nat} (I : Inv X pins σ H s) (hH : H l = some (.lst xs))
    (e : s.heap.get? l = some { cls := .type "list", data := .seq its.toArray n }) (hf : f its.toArray = its'.toArray) (hv : Vals ys its') (hz : ys.length ≤ sizeLine) :
    Inv X pins σ (upd H l (.lst ys)) { s with heap := s.heap.update l (Obj.mapSeq f), toks := t' } := by
  have q := PySem.IsL.update e f
  rw [hf] at q
  refine I.write (x := l) (e := l) (by rw [hH]; exact trivial) (.inl rfl) (fun b' u hb hu => (Heap.get?_update_other s.heap (Obj.mapSeq f) (Ne.symm hb)).trans hu) ⟨_, q⟩ ?_
  exact ⟨hz, its', _, hv, q⟩
theorem Inv.lnew {its : List Value} {t' : Nat} (I : Inv X pins σ H s) (hv : Vals ys its) (hz : ys.length ≤ sizeLine) :
    Inv X pins σ (upd H s.heap.objs.size (.lst ys)) { s with heap := s.heap.push { cls := .type "list", data := .seq its.toArray }, toks := t' } :=
  I.laid (fun _ _ q => Heap.get?_push_of_some _ q) (Nat.le_refl _) ⟨hz, its, 0, hv, Heap.get?_push_size _ rfl⟩
theorem Inv.fresh (I : Inv X pins σ H s) : H s.heap.objs.size = none := I.hok.fresh (Nat.le_refl _)
theorem Inv.lstM (I : Inv X pins σ H s) (hH : H l = some (.lst xs)) : xs.length ≤ sizeLine ∧ ∃ (its : List Value) (n : Nat), Vals xs its ∧ xs.length = its.length ∧ s.heap.get? l = some { cls := .type "list", data := .seq its.toArray n } := by
  obtain ⟨z, its, n, r, e⟩ := I.hok l _ hH
  exact ⟨z, its, n, r, r.length, e⟩

end

section
variable {X : Cx}

/-! ### methods -/
def rAppend : V → List V → Hp → VK → Prop := fun x vs H Q => ∃ l xs y, x = .ref l ∧ vs = [y] ∧ H l = some (.lst xs) ∧ xs.length < sizeLine ∧ Q .non (upd H l (.lst (xs ++ [y])))
theorem mt_append : MtM X "list.append" rAppend := by
  intro pins s σ H x vs v us Q I rx rv h
  obtain ⟨l, xs, y, rfl, rfl, hH, hz, q⟩ := h
  cases rx
  obtain ⟨u, rfl, ru⟩ := rv.one
  obtain ⟨z, its, n, r, hl, e⟩ := I.lstM hH
  refine call_meets F.slot_list_append ⟨_, e, rfl⟩ F.entry_list_append (F.args_list_append_2 _ _) (PySem.list_append l its.toArray n u (by rw [List.size_toArray]; omega)) ⟨e, ?_⟩
  refine ⟨.non, _, I.lset (its' := its ++ [u]) hH e (by simp) (r.append (.cons ru .nil)) ?_, rfl, q⟩
  rw [List.length_append, List.length_singleton]
  omega

/-! ### list + list, list += list, list * int -/
def rCat : R2 := fun x y H Q => ∃ l b xs zs, x = .ref l ∧ y = .ref b ∧ H l = some (.lst xs) ∧ H b = some (.lst zs) ∧ xs.length + zs.length ≤ sizeLine ∧ ∀ p, H p = none → Q (.ref p) (upd H p (.lst (xs ++ zs)))
theorem op_cat : OpR X (binaryOp .Add) rCat := by
  intro pins s σ H x y v u Q I rx ry h
  obtain ⟨l, b, xs, zs, rfl, rfl, hH, hB, hz, q⟩ := h
  cases rx
  cases ry
  obtain ⟨z, its, n, r, hl, e⟩ := I.lstM hH
  obtain ⟨z2, its2, n2, r2, hl2, e2⟩ := I.lstM hB
  refine PySem.P.add_list e e2 ?_ (by rw [List.size_toArray, List.size_toArray]; omega)
  have ea : its.toArray ++ its2.toArray = (its ++ its2).toArray := by simp
  rw [ea]
  exact ⟨.ref _, _, I.lnew (t' := s.toks) (r.append r2) (by rw [List.length_append]; omega), rfl, q _ I.fresh⟩
end

/-! ### xs[a:b] = ys -/
section
variable {prog : Program} {w : World} {A : Around} {E : Value → Shared → Prop} {s : Shared}
set_option maxRecDepth 100000 in
end

section
variable {X : Cx}
end
end L2

namespace Att
open PySem PySem.W PySem.Calls PyProof.Rows

/-! ### the script -/
theorem ints_of_wellAll {P : Params} {h : Heap} : ∀ (ns : List Int) (vs : List Value), WellAll P h vs (ns.map WData.int) → IntsAre vs ns := by
  intro ns
  induction ns with
  | nil =>
    intro vs w
    rw [List.map_nil] at w
    cases w
    exact .nil
  | cons n ns ih =>
    intro vs w
    rw [List.map_cons] at w
    cases w with
    | cons a b =>
      cases a
      exact .cons _ _ (ih _ b)

theorem script_of {l : OpenLaw} {n : Nat} (hn : l.most = some n) {P : Params} {h : Heap} {args : List WData} {vals : List Value}
    (hpre : l.row.toRowW.claim.pre args = true) (hwl : WellAll P h vals args) :
    ∃ a vs ns, vals = [Value.ref a] ∧ args = [WData.list (ns.map WData.int)] ∧ h.get? a = some { cls := .type "list", data := .seq vs.toArray } ∧ IntsAre vs ns ∧ ns.length ≤ n := by
  have hsh : WShape.hasAll [] args [.list .int] = true := (pre_splitW hpre).1
  have hc : l.pre.holds [] { args := args } = true := (pre_splitW hpre).2
  obtain ⟨d, r, rfl, h1, h2⟩ := hasAllW_cons hsh
  obtain rfl := hasAllW_nil h2
  obtain ⟨xs, rfl, h3⟩ := hasW_list h1
  obtain ⟨ns, rfl⟩ := items_int h3
  have hlen : ns.length ≤ n := by
    unfold OpenLaw.pre at hc
    have h4 : (WTm.not (.lt (.lit (.int (n : Int))) (.len (.arg 0)))).holds [] { args := [.list (ns.map .int)] } = true := by
      have h4 := (holds_andW hc).1
      rw [hn] at h4
      exact h4
    have h5 := condW_of h4 (w_not (w_lt w_lit (w_len_list (w_arg rfl))))
    rw [List.length_map] at h5
    refine Nat.le_of_not_lt fun q => ?_
    have q' : (n : Int) < ((ns.length : Nat) : Int) := by omega
    first
      | (rw [decide_eq_true q'] at h5; exact absurd h5 (by decide))
      | (simp at h5; omega)
  cases hwl with
  | cons w1 w2 =>
    cases w2
    cases w1 with
    | list ho hall => exact ⟨_, _, ns, rfl, rfl, ho, ints_of_wellAll ns _ hall, hlen⟩

theorem post_true (l : OpenLaw) (args : List WData) : l.row.toRowW.claim.post args (.bool true) args = true :=
  postW_of (r := l.row.toRowW) (X := (true == true))
    (show WShape.has [] (.bool true) .bool = true by first | rfl | decide | simp [WShape.has, WShape.arms, WShape.armsAll])
    (show (WTm.eq .res (.lit (.bool true))).value [] { args := args, res := some (.bool true), after := args } = some (.bool (true == true)) from w_eq_bool (w_res rfl) w_lit) rfl

/-- the same from a codeAny of the CALL (for a layer whose function contracts speak of calls) -/
theorem attach_call {l : OpenLaw} {n : Nat} {q : Program} {loose : List Str} {XP : (Str → Option Value) → Heap → Prop} {YP : World → Heap → Prop} {d : DefRec}
    (hn : l.most = some n) (hdf : d.params.defaults = [])
    (call : ∀ (w : World) (s₀ s₁ : Shared) (mg mb : Str → Option Value) (fa : Addr) (o : Obj) (pm cd doc : Value) (a : Addr) (vs : List Value) (ns : List Int),
      Ground q loose [] XP w s₀ mg mb s₁.heap → YP w s₁.heap →
      s₁.heap.get? fa = some o → o.data = .func (docDef d.name d.params d.body d.scope pm cd doc) → s₁.heap.CodeRec cd d.name → mg d.name = some (.ref fa) →
      s₁.heap.get? a = some { cls := .type "list", data := .seq vs.toArray } → IntsAre vs ns → ns.length ≤ n → s₁.gens = #[] →
      codeAny (model l.prog w) callerA (.call (.ref fa) ⟨[.ref a], []⟩) (fun r s' => r = .ok (.ret (.bool true)) ∧ OldK s₁.heap s'.heap ∧ s'.os = s₁.os ∧ AllBare s'.gens) s₁) :
    WalkO q loose XP YP l.row.toRowW d [] (fun f vs => PySem.call f vs) := by
  intro w s₀ s₁ mg mb G Y fa o pm cd doc dV kV ho hd hcd hD hmg hg args vals as hpre hlay hrd hwl hlo
  obtain rfl : dV = .none := Dflts.none hD hdf
  obtain rfl : kV = .none := Dflts.noKw hD
  obtain ⟨a, vs, ns, rfl, rfl, hobj, hints, hlen⟩ := script_of hn hpre hwl
  refine enter_call (codeAny_mono (call w s₀ s₁ mg mb fa o pm cd doc a vs ns G Y ho (fd_plain hd) hcd hmg hobj hints hlen hg) fun r s' hq => ?_)
  obtain ⟨rfl, h2, h3, h4⟩ := hq
  exact ⟨.inl ⟨.bool true, .bool true, [], rfl, fun _ => rfl, .bool true, post_true l _, fun _ => ⟨List.Pairwise.nil, fun _ hm => (nomatch hm)⟩⟩, h2, h3, h4⟩

/-! ### rules over ANY heap (no ledger) from facts about the written part K: the library's own take a ledger (News) for what they write -/
section
variable {prog : Program} {w : World} {A : Around} {E : Value → Shared → Prop} {s : Shared} {K : Frag}

def ledger (h : Heap) (L d : Addr) : List (Addr × Obj) := (List.range h.objs.size).filterMap fun a => if a = L ∨ a = d then none else (h.get? a).map fun o => (a, o)
end
end Att

namespace L2
open PySem PySem.Spec PyProof.Rows

theorem vals_ints : ∀ {vs : List Value} {ns : List Int}, IntsAre vs ns → Vals (ns.map V.int) vs
  | _, _, .nil => .nil
  | _, _, .cons n t h => .cons ⟨t, rfl⟩ (vals_ints h)

/-- nothing is tracked but the script, known to the object (or it is an object of the module) -/
def Only (H : Hp) : Prop := ∀ b, H b = none ∨ ∃ o xs, H b = some (.frz o (.lst xs))

/-- THE HEAD: the law's promise, at the heap behind the top. F, the promise of the law's def, may use that base is part of the heap (so K.In base, base.Ns mainGlobals mg stand in Mod) -/
theorem law_call {P : Program} {w : World} {K : PySem.W.Frag} {mg mb : Str → Option Value} {CX : CXT} {k : Nat} {fa a : Addr} {fd : FuncData} {x : Str} {sp : Sp} {s₁ : Shared} {vs : List Value} {ns : List Int}
    (KX : K.In s₁.heap) (hns : s₁.heap.Ns mainGlobals mg) (hb : s₁.heap.Ns builtinsNs mb) (hbb : ∀ x : Str, x ≠ "__name__" → mb x = bootBuiltins x) (hlim : s₁.heap.NoLimit) (hg : s₁.gens = #[])
    (ha : s₁.heap.get? a = some { cls := .type "list", data := .seq vs.toArray }) (hi : IntsAre vs ns) (hl : ns.length ≤ sizeLine) (hr : Room k callerA)
    (F : ∀ base : Heap, K.In base → base.Ns mainGlobals mg → FnOk P w K mg base CX k fa fd [x] sp) (hbind : ∀ (s : Shared) (u : Value), BindsTo s fd ⟨[u], []⟩ [(x, u)])
    (hsp : ∀ H : Hp, Only H → SqL K H a (ns.map V.int) → sp [.ref a] H (fun v _ => v = .bl true) fun _ _ _ => False)
    (hCX : ∀ H e s', CX [] H s₁ (fun _ _ _ => False) e s' → False) :
    codeAny (model P w) callerA (.call (.ref fa) ⟨[.ref a], []⟩) (fun r s' => r = .ok (.ret (.bool true)) ∧ OldK s₁.heap s'.heap ∧ s'.os = s₁.os ∧ AllBare s'.gens) s₁ := by
  have rv := vals_ints hi
  have lenV := hi.length
  -- from an abstract heap in which nothing but the script may be tracked
  have core : ∀ H : Hp, Only H → SqL K H a (ns.map V.int) → HOk P w H s₁.heap → (∀ b, H b ≠ none → b = a) → (H a ≠ none → K.lookup a = none) →
      codeAny (model P w) callerA (.call (.ref fa) ⟨[.ref a], []⟩) (fun r s' => r = .ok (.ret (.bool true)) ∧ OldK s₁.heap s'.heap ∧ s'.os = s₁.os ∧ AllBare s'.gens) s₁ := by
    intro H hO hS hok hA hK
    have base_of : ∀ {b : Addr} {o : Obj}, s₁.heap.get? b = some o → H b = none → (hidT s₁.heap H).get? b = some o := fun e n => hidT_get e n
    have noA : ∀ {b : Addr} {o : Obj} {es : Array DictEntry} {ep : Nat}, s₁.heap.get? b = some o → o.data = .dict es ep → H b = none := fun {b o es ep} e d => by
      cases q : H b with
      | none => rfl
      | some u =>
        have e' : b = a := hA b (by rw [q]; simp)
        subst e'
        rw [ha] at e; cases e
        have d' : Data.seq vs.toArray _ = Data.dict es ep := d
        cases d'
    have nsK : ∀ {b : Addr} {m : Str → Option Value}, s₁.heap.Ns b m → (hidT s₁.heap H).Ns b m := fun {b m} ⟨o, es, ep, e, d, r⟩ => ⟨o, es, ep, base_of e (noA e d), d, r⟩
    have hKb : K.In (hidT s₁.heap H) := fun b o e => base_of (KX b o e) (by
      cases q : H b with
      | none => rfl
      | some u =>
        have e' : b = a := hA b (by rw [q]; simp)
        subst e'
        rw [hK (by rw [q]; simp)] at e; cases e)
    have hM : Mod K mg (hidT s₁.heap H) := ⟨hKb, nsK hns, ⟨mb, nsK hb, hbb⟩, let ⟨mc, h1, h2⟩ := hlim; ⟨mc, nsK h1, h2⟩⟩
    have e0 : Env0 P w K mg (hidT s₁.heap H) callerA [] s₁ H := ⟨rfl, hM, fun b o e => of_hidT e, Nat.le_of_eq (hidT_size _ _), trivial, fun b hb => absurd (show b ∈ ([] : List Addr) from hb) (by simp), hok, .of_eq hg⟩
    refine codeAny_mono ((F _ hKb (nsK hns)).run callerA [] s₁ H ⟨[.ref a], []⟩ [.ref a] [.ref a] _ _ hr e0 (hbind s₁ (.ref a)) (.cons rfl .nil) (hsp H hO hS)) fun r s' h => ?_
    cases r with
    | error e => exact (hCX H e s' h).elim
    | ok fl =>
      cases fl with
      | next => exact False.elim h
      | brk => exact False.elim h
      | cont => exact False.elim h
      | ret u =>
        obtain ⟨v, H', os, bare, un, hok', r', q⟩ := h
        have q' : v = .bl true := q
        subst q'
        obtain rfl : u = Value.bool true := r'
        refine ⟨rfl, OldK.of_keep fun b o e => ?_, os, bare⟩
        cases q : H b with
        | none => exact un.keep b o e q (by intro z; exact absurd (show b ∈ ([] : List Addr) from z) (by simp)) (by simp)
        | some u =>
          rcases hO b with z | ⟨ob, xs, z⟩
          · rw [q] at z; cases z
          · have z2 := un.frzs b ob _ z
            obtain ⟨e1, _⟩ := hok b _ z
            obtain ⟨e2, _⟩ := hok' b _ z2
            rw [e] at e1; cases e1
            exact e2
  cases hk : K.lookup a with
  | some o =>
    -- the script is one of the module's own objects
    have e := KX a o hk
    rw [ha] at e
    cases e
    refine core (fun _ => none) (fun _ => .inl rfl) (.inr ⟨_, vs.toArray, _, hk, rfl, rfl, rfl, by rw [List.size_toArray, lenV]; exact hl, by simpa using rv⟩) (fun b u z => by have z' : (none : Option HO) = some u := z; cases z') (fun b z => absurd rfl z) fun z => absurd rfl z
  | none =>
    refine core (fun b => if b = a then some (.frz { cls := .type "list", data := .seq vs.toArray } (.lst (ns.map V.int))) else none) (fun b => ?_) (.inl (.inr ⟨{ cls := .type "list", data := .seq vs.toArray }, if_pos rfl⟩)) (fun b u z => ?_) (fun b z => ?_) fun _ => hk
    · by_cases hb : b = a
      · exact .inr ⟨_, _, if_pos hb⟩
      · exact .inl (if_neg hb)
    · by_cases hb : b = a
      · have z' := (if_pos hb).symm.trans z
        cases z'
        subst hb
        exact ⟨ha, by rw [List.length_map]; exact hl, vs, _, rv, ha⟩
      · have z' := (if_neg hb).symm.trans z
        cases z'
    · by_cases hb : b = a
      · exact hb
      · exact absurd (if_neg hb) z
end L2

namespace L2
open PySem PySem.Spec PyProof.Rows

/-- the goal that k_head leaves (case hc), from the law's promise. F gives the function object fd (K's own) once, then the promise over every base -/
theorem walk_of {l : PySem.W.OpenLaw} {n k : Nat} {q : Program} {loose : List Str} {XP : (Str → Option Value) → Heap → Prop} {YP : World → Heap → Prop} {d : DefRec} {K : Params → PySem.W.Frag} {CX : World → CXT} {sp : World → Sp} {x : Str}
    (hn : l.most = some n) (hn2 : n ≤ sizeLine) (hdf : d.params.defaults = []) (hr : Room k callerA)
    (hY : ∀ (w : World) (h : Heap), YP w h → (K w.params).In h)
    (F : ∀ (w : World) (mg : Str → Option Value) (fa : Addr) (h : Heap), (K w.params).In h → h.Ns mainGlobals mg → mg d.name = some (.ref fa) →
      ∃ fd : FuncData, (∀ (s : Shared) (u : Value), BindsTo s fd ⟨[u], []⟩ [(x, u)]) ∧
        ∀ base : Heap, (K w.params).In base → base.Ns mainGlobals mg → FnOk l.prog w (K w.params) mg base (CX w) k fa fd [x] (sp w))
    (hsp : ∀ (w : World) (H : Hp) (a : Addr) (ns : List Int), ns.length ≤ n → Only H → SqL (K w.params) H a (ns.map V.int) → sp w [.ref a] H (fun v _ => v = .bl true) fun _ _ _ => False)
    (hCX : ∀ (w : World) (H : Hp) (s : Shared) (e : Value) (s' : Shared), CX w [] H s (fun _ _ _ => False) e s' → False) :
    PySem.W.WalkO q loose XP YP l.row.toRowW d [] (fun f vs => PySem.call f vs) := by
  refine Att.attach_call hn hdf fun w s₀ s₁ mg mb fa o pm cd doc a vs ns G Y ho hd hcd hmg hobj hints hlen hg => ?_
  have KX := hY w _ Y
  obtain ⟨fd, hb, hF⟩ := F w mg fa _ KX G.T.g hmg
  exact law_call KX G.T.g G.T.b G.T.builtins G.T.nolimit hg hobj hints (Nat.le_trans hlen hn2) hr hF hb (fun H hO hS => hsp w H a ns hlen hO hS) fun H e s' => hCX w H s₁ e s'
end L2



/-! SHORT WORDS over the layer: a def of the text, its body, what a loop and a test want. -/
namespace L2
open PySem PySem.Spec PyProof.Rows

def defArgs (s : Stmt) : Arguments := match s with
  | .FunctionDef _ a _ _ _ _ _ _ _ _ => a
  | _ => { posonlyargs := [], args := [], vararg := none, kwonlyargs := [], kw_defaults := [], kwarg := none, defaults := [] }
def defBody (s : Stmt) : List Stmt := match s with
  | .FunctionDef _ _ b _ _ _ _ _ _ _ => b
  | _ => []
def defScope (s : Stmt) : Scope := match s with
  | .FunctionDef _ _ _ _ _ _ sc _ _ _ => sc
  | _ => { kind := .function, names := [], isGenerator := false, isCoroutine := false }

/-! ### no exception leaves a def -/
abbrev CX0 : CXT := fun _ _ _ _ _ _ => False
abbrev E0 : XK := fun _ _ _ => False
theorem pass0 {X : Cx} : Passes CX0 X E0 := fun _ _ _ _ _ _ _ h => h.elim

/-! ### a def (or method) of the text as it stands behind the top -/
structure Fun (K : PySem.W.Frag) (x qual : Str) (st : Stmt) (f : Addr) (fd : FuncData) : Prop where
  ex : ∃ (oc : Value) (od : Option Addr) (kV doc pm : Value) (an : Option Addr) (cdv ct : Value) (osl : Array (Option Value)),
    fd = PySem.W.fnOf x qual (defArgs st) (defBody st) (defScope st) .none kV doc pm an cdv ct ∧ K.lookup f = some ⟨oc, od, .func fd, osl⟩ ∧ PySem.W.codeIn K cdv qual = true
  kp : PySem.W.keepIn K (.ref f) = true
section
variable {P : Program} {w : World} {K : PySem.W.Frag} {mg : Str → Option Value} {base : Heap}
/-- THE RULE for a def: its body as a term of rules, and the reading of that term -/
theorem Fun.ok {x qual : Str} {st : Stmt} {f : Addr} {fd : FuncData} {N ps : List Str} {k : Nat} {sp : Sp} (F : Fun K x qual st f fd) (S : FnScope N ps (defScope st)) (len : ∀ vs H Q E, sp vs H Q E → vs.length = ps.length)
    (hbody : ∀ (cdv : Value) (A : Around) (outer : List Env) (s : Shared) (H : Hp) (vs : List V) (Q : VK) (E : XK), Room k (A.deeper (envOfC qual (defScope st) s.heap.objs.size f cdv)) → sp vs H Q E →
      ∃ t, PSs (cxOf CX0 P w K mg base N qual (defScope st) f cdv A outer s H E).nox (defBody st) t ∧ t { nx := fun _ H' => Q .non H', rt := Q } (start N vs) H) : FnOk P w K mg base CX0 (k + 1) f fd ps sp := by
  obtain ⟨oc, od, kV, doc, pm, an, cdv, ct, osl, rfl, lk, hcd⟩ := F.ex
  refine fn_of lk hcd S len fun A outer s H vs Q E hr hsp => ?_
  obtain ⟨t, h, q⟩ := hbody cdv A outer s H vs Q E hr hsp
  exact ⟨t, h.nox, q⟩
theorem fun_mk {x qual : Str} {st : Stmt} {f : Addr} {oc : Value} {od an : Option Addr} {osl : Array (Option Value)} {kV doc pm cdv ct : Value} (l : K.lookup f = some ⟨oc, od, .func (PySem.W.fnOf x qual (defArgs st) (defBody st) (defScope st) .none kV doc pm an cdv ct), osl⟩)
    (c : PySem.W.codeIn K cdv qual = true) (k : PySem.W.keepIn K (.ref f) = true) : Fun K x qual st f (PySem.W.fnOf x qual (defArgs st) (defBody st) (defScope st) .none kV doc pm an cdv ct) := ⟨⟨oc, od, kV, doc, pm, an, cdv, ct, osl, rfl, l, c⟩, k⟩
end
/-! ### expressions in short: the name that stands in the i-th slot -/
section
variable {X : Cx}
theorem pv (i : Nat) {x : Str} {pos : Pos} (hN : X.N[i]? = some x := by rfl) (hv : Vis X.env.scope x := by first | exact Or.inl rfl | exact Or.inr (Or.inl rfl) | exact Or.inr (Or.inr rfl)) (hd : (x == ("__debug__" : Str)) = false := by decide)
    (hcd : (x == ("__classdict__" : Str)) = false := by decide) : PE X (.Name x pos) (tVar i) := pe_var hN hv hd hcd
end

/-! ### tests -/
theorem iteF {A B : Prop} (h : B) : if false = true then A else B := by
  rw [if_neg Bool.false_ne_true]
  exact h
theorem iteT {A B : Prop} (h : A) : if true = true then A else B := by
  rw [if_pos rfl]
  exact h
/-! ### heaps -/
/-- all that was tracked is as it was -/
def Same (H H' : Hp) : Prop := ∀ b o, H b = some o → H' b = some o
theorem Same.refl (H : Hp) : Same H H := fun _ _ h => h
theorem Same.trans {H H1 H2 : Hp} (a : Same H H1) (b : Same H1 H2) : Same H H2 := fun c o h => b c o (a c o h)
theorem Same.seq {K : PySem.W.Frag} {H H' : Hp} {a : Addr} {xs : List V} (e : Same H H') (h : SqL K H a xs) : SqL K H' a xs := by
  rcases h with (h | ⟨o, h⟩) | h
  · exact .inl (.inl (e _ _ h))
  · exact .inl (.inr ⟨o, e _ _ h⟩)
  · exact .inr h

end L2
namespace L2
open PySem PySem.Spec PyProof.Rows

/-! ### what a call made and dropped may be forgotten -/
theorem ObjOk.swap {P : Program} {w : World} {H H' : Hp} {h h' : Heap} {a : Addr} {o : HO} (x : ObjOk P w H h a o) (y : ObjOk P w H' h' a o) : ObjOk P w H h' a o := by
  induction o with
  | ins C dx fs => exact ⟨x.1, y.2⟩
  | frz ob u ih => exact ⟨y.1, ih x.2 y.2⟩
  | _ => exact y
theorem HOk.forget {P : Program} {w : World} {H H' : Hp} {h h' : Heap} (a : HOk P w H h) (b : HOk P w H' h') (s : Same H H') : HOk P w H h' := fun x o e => (a x o e).swap (b x o (s x o e))
theorem Un.forget {fs ex : List Addr} {H H' : Hp} {h h' : Heap} (u : Un fs ex H H' h h') : Un fs ex H H h h' :=
  ⟨u.keep, u.slot, fun _ _ _ n _ => n, u.there, fun _ _ q => q, fun _ _ _ q => q, fun b ps q => ⟨#[], by rw [q]; simp⟩⟩
theorem FnOk.forget {P : Program} {w : World} {K : PySem.W.Frag} {mg : Str → Option Value} {base : Heap} {CX : CXT} {k : Nat} {f : Addr} {fd : FuncData} {ps : List Str} {sp sp' : Sp} (F : FnOk P w K mg base CX k f fd ps sp)
    (h : ∀ vs H Q E, sp' vs H Q E → sp vs H (fun v H' => Same H H' ∧ Q v H) E) : FnOk P w K mg base CX k f fd ps sp' where
  len := fun vs H Q E q => F.len _ _ _ _ (h _ _ _ _ q)
  run := fun A outer s H args us vs Q E hr e0 hb hv hs => by
    refine codeAny_mono (F.run A outer s H args us vs _ E hr e0 hb hv (h _ _ _ _ hs)) fun r s' q => ?_
    cases r with
    | error e => exact q
    | ok fl =>
      cases fl with
      | ret u =>
        obtain ⟨v, H', os, bare, un, hok, rv, sm, qv⟩ := q
        exact ⟨v, H, os, bare, un.forget, e0.hok.forget hok sm, rv, qv⟩
      | next => exact q
      | brk => exact q
      | cont => exact q

/-! ### a def of the text, a def that keeps a promise -/
structure Src (K : PySem.W.Frag) (mg : Str → Option Value) (x : Str) (st : Stmt) (ps : List Str) : Prop where
  ex : ∃ (f : Addr) (fd : FuncData), Fun K x x st f fd ∧ mg x = some (.ref f) ∧ ∀ us : List Value, us.length = ps.length → bindArgs fd ⟨us, []⟩ = pure (ps.zip us)
structure Def (P : Program) (w : World) (K : PySem.W.Frag) (mg : Str → Option Value) (base : Heap) (k : Nat) (x : Str) (ps : List Str) (sp : Sp) : Prop where
  ex : ∃ (f : Addr) (fd : FuncData), FnOk P w K mg base CX0 k f fd ps sp ∧ mg x = some (.ref f) ∧ PySem.W.keepIn K (.ref f) = true ∧ (∀ us : List Value, us.length = ps.length → bindArgs fd ⟨us, []⟩ = pure (ps.zip us)) ∧
    ∃ o, K.lookup f = some o ∧ o.data = .func fd
section
variable {P : Program} {w : World} {K : PySem.W.Frag} {mg : Str → Option Value} {base : Heap} {x : Str} {st : Stmt} {N ps : List Str} {k : Nat} {sp : Sp}
theorem Src.ok (S : Src K mg x st ps) (sc : FnScope N ps (defScope st)) (len : ∀ vs H Q E, sp vs H Q E → vs.length = ps.length)
    (hbody : ∀ (f : Addr) (cdv : Value) (A : Around) (outer : List Env) (s : Shared) (H : Hp) (vs : List V) (Q : VK) (E : XK), Room k (A.deeper (envOfC x (defScope st) s.heap.objs.size f cdv)) → sp vs H Q E →
      ∃ t, PSs (cxOf CX0 P w K mg base N x (defScope st) f cdv A outer s H E).nox (defBody st) t ∧ t { nx := fun _ H' => Q .non H', rt := Q } (start N vs) H) : Def P w K mg base (k + 1) x ps sp := by
  obtain ⟨f, fd, F, hm, hb⟩ := S.ex
  refine ⟨f, fd, F.ok sc len (fun cdv => hbody f cdv), hm, F.kp, hb, ?_⟩
  obtain ⟨oc, od, kV, doc, pm, an, cdv, ct, osl, e, lk, hcd⟩ := F.ex
  exact ⟨_, lk, rfl⟩
/-- .. what it made is dropped -/
theorem Src.okF (S : Src K mg x st ps) (sc : FnScope N ps (defScope st)) (len : ∀ vs H Q E, sp vs H Q E → vs.length = ps.length)
    (hbody : ∀ (f : Addr) (cdv : Value) (A : Around) (outer : List Env) (s : Shared) (H : Hp) (vs : List V) (Q : VK) (E : XK), Room k (A.deeper (envOfC x (defScope st) s.heap.objs.size f cdv)) → sp vs H Q E →
      ∃ t, PSs (cxOf CX0 P w K mg base N x (defScope st) f cdv A outer s H E).nox (defBody st) t ∧ t { nx := fun _ H' => Same H H' ∧ Q .non H, rt := fun v H' => Same H H' ∧ Q v H } (start N vs) H) : Def P w K mg base (k + 1) x ps sp := by
  obtain ⟨f, fd, F, hm, hb⟩ := S.ex
  have G : FnOk P w K mg base CX0 (k + 1) f fd ps (fun vs H R E => ∃ Q, sp vs H Q E ∧ R = fun v H' => Same H H' ∧ Q v H) :=
    F.ok sc (fun vs H R E ⟨Q, h, _⟩ => len vs H Q E h) fun cdv A outer s H vs R E hr ⟨Q, h, e⟩ => by
      subst e
      exact hbody f cdv A outer s H vs Q E hr h
  refine ⟨f, fd, G.forget fun vs H Q E h => ⟨Q, h, rfl⟩, hm, F.kp, hb, ?_⟩
  obtain ⟨oc, od, kV, doc, pm, an, cdv, ct, osl, e, lk, hcd⟩ := F.ex
  exact ⟨_, lk, rfl⟩
theorem src_mk {h : Heap} {f : Addr} {oc : Value} {od an : Option Addr} {osl : Array (Option Value)} {kV doc pm cdv ct : Value} (X : K.In h) (G : h.Ns mainGlobals mg) (a : PySem.W.nsIn K mainGlobals x = some (some (.ref f)))
    (l : K.lookup f = some ⟨oc, od, .func (PySem.W.fnOf x x (defArgs st) (defBody st) (defScope st) .none kV doc pm an cdv ct), osl⟩) (c : PySem.W.codeIn K cdv x = true) (k : PySem.W.keepIn K (.ref f) = true)
    (hb : ∀ us : List Value, us.length = ps.length → bindArgs (PySem.W.fnOf x x (defArgs st) (defBody st) (defScope st) .none kV doc pm an cdv ct) ⟨us, []⟩ = pure (ps.zip us)) : Src K mg x st ps :=
  ⟨f, _, fun_mk l c k, PySem.W.mg_of X G a, hb⟩
theorem gint_mk {h : Heap} {i : Int} {t : Tok} (X : K.In h) (G : h.Ns mainGlobals mg) (a : PySem.W.nsIn K mainGlobals x = some (some (.int i t))) : ∃ t, mg x = some (.int i t) := ⟨t, PySem.W.mg_of X G a⟩
end
/-- the goal that k_head leaves, from the law's promise -/
theorem walk_def {l : PySem.W.OpenLaw} {lv : Nat} {q : Program} {loose : List Str} {XP : (Str → Option Value) → Heap → Prop} {YP : World → Heap → Prop} {d : DefRec} {K : Params → PySem.W.Frag} {sp : PySem.W.Frag → Sp} {x : Str} {st : Stmt}
    (hn : l.most = some 63) (hdf : d.params.defaults = []) (hnm : d.name = "law") (hr : Room lv callerA)
    (hY : ∀ (w : World) (h : Heap), YP w h → (K w.params).In h)
    (F : ∀ (w : World) (mg : Str → Option Value) (h : Heap), (K w.params).In h → h.Ns mainGlobals mg →
      Src (K w.params) mg "law" st [x] ∧ ∀ base : Heap, Def l.prog w (K w.params) mg base lv "law" [x] (sp (K w.params)))
    (hsp : ∀ (K : PySem.W.Frag) (H : Hp) (a : Addr) (ns : List Int), ns.length ≤ 63 → SqL K H a (ns.map V.int) → sp K [.ref a] H (fun v _ => v = .bl true) fun _ _ _ => False) :
    PySem.W.WalkO q loose XP YP l.row.toRowW d [] (fun f vs => PySem.call f vs) := by
  refine L2.walk_of (n := 63) (k := lv) (x := x) (CX := fun _ => CX0) (sp := fun w => sp (K w.params)) hn (by decide) hdf hr hY ?_ (fun w H a ns h1 h2 h3 => hsp (K w.params) H a ns h1 h3) fun _ _ _ _ _ z => z
  intro w mg fa h KX G hmg
  obtain ⟨S, D⟩ := F w mg h KX G
  obtain ⟨f, fd, Fn, hm, hb⟩ := S.ex
  obtain ⟨oc, od, kV, doc, pm, an, cdv, ct, osl, e, lk, hcd⟩ := Fn.ex
  refine ⟨fd, fun s u => .of_eq (hb [u] rfl), fun base _ _ => ?_⟩
  obtain ⟨f', fd', ok, hm', _, _, o, lk', ho⟩ := (D base).ex
  rw [hnm, hm] at hmg
  rw [hm] at hm'
  cases hmg
  cases hm'
  rw [lk] at lk'
  cases lk'
  cases ho
  exact ok

/-! ### rules of ours -/
section
variable {X : Cx} {x : Str} {p pos : Pos} {e : Expr} {es : List Expr} {t : TA} {j k : Nat} {ps : List Str} {sp : Sp}
theorem pe_fn (D : Def X.prog X.w X.K X.mg X.base j x ps sp) (hr : Room k X.A) (ha : PA X (e :: es) t) (hg : Gl X x := by rfl) (hj : j ≤ k := by decide) (hdb : (x == ("__debug__" : Str)) = false := by decide)
    (he : starEach (e :: es) X.env = (false, eval e X.env) :: starEach es X.env := by rfl) (hpl : (backTo pos (starEach es X.env)).any (·.1) = false := by rfl) :
    PE X (.Call (.Name x p) (e :: es) [] pos) (tCall sp [] E0 t) := by
  obtain ⟨f, fd, F, hm, hk, hb, _⟩ := D.ex
  exact pe_call F (hr.mono hj) hg hm hk (.all hb) .nil pass0 ha hdb he hpl
theorem pe_gint {i : Int} (h : ∃ t, X.mg x = some (.int i t)) (hg : Gl X x := by rfl) (hd : (x == ("__debug__" : Str)) = false := by decide) : PE X (.Name x pos) (tC (.int i)) := by
  obtain ⟨t, h⟩ := h
  exact pe_glob hg h ⟨t, rfl⟩ hd
theorem call_isinst : CallR X (.builtin "isinstance") (fun xs H Q => ∃ x t n b, xs = [x, .ty n] ∧ TyOf X.K H x t ∧ PySem.W.kitOne X.K t (.type n) = some b ∧ Q (.bl b) H) := by
  intro pins s σ H xs us Q I r h
  obtain ⟨x, t, n, b, rfl, ty, e, q⟩ := h
  obtain ⟨u, w', rfl, rx, rn⟩ := vals2 r
  cases rn
  exact isinst_ok I rx ty e fun tk => ⟨.bl b, H, I.tok tk, rfl, q⟩
end
/-! ### tests -/
theorem ifI {a b : Int} {A B : Prop} (h1 : a = b → A) (h2 : ¬ a = b → B) : if decide (V.int a = V.int b) = true then A else B := by
  by_cases h : a = b
  · rw [if_pos (by rw [h]; simp)]; exact h1 h
  · rw [if_neg (by simpa using h)]; exact h2 h
theorem ifNI {a b : Int} {A B : Prop} (h1 : ¬ a = b → A) (h2 : a = b → B) : if (!decide (V.int a = V.int b)) = true then A else B := by
  by_cases h : a = b
  · rw [if_neg (by rw [h]; simp)]; exact h2 h
  · rw [if_pos (by simpa using h)]; exact h1 h
theorem ifD {p A B : Prop} [Decidable p] (h1 : p → A) (h2 : ¬ p → B) : if decide p = true then A else B := by
  by_cases h : p
  · rw [if_pos (by simpa using h)]; exact h1 h
  · rw [if_neg (by simpa using h)]; exact h2 h
theorem dI {a b : Int} : decide (V.int a = V.int b) = decide (a = b) := by
  by_cases h : a = b <;> simp [h]
/-- an item of a list of ints at a bounded place -/
theorem at_ints {ns : List Int} {k : Int} (h0 : 0 ≤ k) (h : k < (ns.length : Int)) : atI (ns.map V.int) k = some (.int (ns.getD k.toNat 0)) := by
  have hk : k.toNat < ns.length := by omega
  have q : atI (ns.map V.int) ((k.toNat : Nat) : Int) = some (.int (ns.getD k.toNat 0)) := atI_nat (by rw [List.getElem?_map, List.getElem?_eq_getElem hk, List.getD_eq_getElem?_getD, List.getElem?_eq_getElem hk] <;> rfl)
  rw [show ((k.toNat : Nat) : Int) = k by omega] at q
  exact q
/-! ### a statement whose end is told by a word of one's own -/
def tCut (t : TS) : TS := fun D σ H => ∃ Mid : St → Hp → Prop, t { D with nx := Mid } σ H ∧ ∀ σ' H', Mid σ' H' → D.nx σ' H'
theorem ps_cut {X : Cx} {st : Stmt} {t : TS} (h : PS X st t) : PS X st (tCut t) := by
  intro pins s σ H D I ⟨Mid, hq, hm⟩
  refine thn (h pins s σ H _ I hq) fun f s' q => ?_
  cases f with
  | next =>
    obtain ⟨σ', H', I', q⟩ := q
    exact ⟨σ', H', I', hm σ' H' q⟩
  | ret v => exact q
  | brk => exact q
  | cont => exact q
end L2
namespace L2
open PySem PySem.Spec PyProof.Rows
/-! ### list comprehensions with one clause -/
theorem noE {α : Type} {M : Model} {A : Around} {s : Shared} {t : Sem α} {Q : α → Shared → Prop} {E : Value → Shared → Prop} (h : wpAny M A t Q (fun _ _ => False) s) : wpAny M A t Q E s := wpAny_mono h (fun _ _ q => q) fun _ _ z => z.elim
section
variable {prog : Program} {w : World} {A : Around} {R : Result → Shared → Prop} {s : Shared}
/-- a turn: the item, then (where the test holds) the element, put to the list -/
theorem comp_loop {elt target iter : Expr} {scope : Scope} {pos : Pos} {it acc : Value} {env : Env} (I : Nat → Shared → Prop)
    (turn : ∀ n s, I n s → wpAny (model prog w) A (pyNext it) (fun r s₁ => match r with
      | none => R (.ok .next) s₁
      | some v => wpAny (model prog w) A (letOwnedTupleGo target it v) (fun _ s₂ => wpAny (model prog w) A (assign target env v) (fun _ s₃ => wpAny (model prog w) A (eval elt env) (fun y s₄ =>
          wpAny (model prog w) A (call (.builtin "list.append") [acc, y]) (fun _ s₅ => ∃ m, m < n ∧ I m s₅) (fun _ _ => False) s₄) (fun _ _ => False) s₃) (fun _ _ => False) s₂) (fun _ _ => False) s₁) (fun _ _ => False) s)
    (n : Nat) (h : I n s) : codeAny (model prog w) A (.compLoop (.ListComp elt [⟨target, iter, [], 0⟩] scope pos) 0 it acc env) R s := by
  refine codeAny_loop rfl I (fun n s hI => ?_) n h
  show wpAny _ _ (Sem.onRaise (compTurn (.ListComp elt [⟨target, iter, [], 0⟩] scope pos) 0 it acc env) _) _ _ s
  refine wpAny_noted (noE ?_)
  rw [compTurn_list1]
  refine wpAny_bind (wpAny_standAt (wpAny_bind (wpAny_mono (turn n s hI) (fun r s₁ h₁ => ?_) fun _ _ z => z)))
  cases r with
  | none => exact wpAny_pure h₁
  | some v =>
    refine wpAny_bind (wpAny_mono h₁ (fun _ s₂ h₂ => ?_) fun _ _ z => z)
    refine wpAny_bind (wpAny_mono h₂ (fun _ s₃ h₃ => ?_) fun _ _ z => z)
    refine wpAny_bind (wpAny_bind (wpAny_mono h₃ (fun y s₄ h₄ => ?_) fun _ _ z => z))
    refine wpAny_bind (wpAny_mono h₄ (fun _ s₅ h₅ => ?_) fun _ _ z => z)
    exact wpAny_pure (wpAny_pure ⟨rfl, h₅⟩)
theorem comp_loop_if {elt target iter c : Expr} {scope : Scope} {pos : Pos} {it acc : Value} {env : Env} (I : Nat → Shared → Prop)
    (turn : ∀ n s, I n s → wpAny (model prog w) A (pyNext it) (fun r s₁ => match r with
      | none => R (.ok .next) s₁
      | some v => wpAny (model prog w) A (letOwnedTupleGo target it v) (fun _ s₂ => wpAny (model prog w) A (assign target env v) (fun _ s₃ => wpAny (model prog w) A (isTrue c env (eval c env)) (fun b s₄ =>
          if b = true then wpAny (model prog w) A (eval elt env) (fun y s₅ =>
            wpAny (model prog w) A (call (.builtin "list.append") [acc, y]) (fun _ s₆ => ∃ m, m < n ∧ I m s₆) (fun _ _ => False) s₅) (fun _ _ => False) s₄
          else ∃ m, m < n ∧ I m s₄) (fun _ _ => False) s₃) (fun _ _ => False) s₂) (fun _ _ => False) s₁) (fun _ _ => False) s)
    (n : Nat) (h : I n s) : codeAny (model prog w) A (.compLoop (.ListComp elt [⟨target, iter, [c], 0⟩] scope pos) 0 it acc env) R s := by
  refine codeAny_loop rfl I (fun n s hI => ?_) n h
  show wpAny _ _ (Sem.onRaise (compTurn (.ListComp elt [⟨target, iter, [c], 0⟩] scope pos) 0 it acc env) _) _ _ s
  refine wpAny_noted (noE ?_)
  rw [compTurn_list]
  refine wpAny_bind (wpAny_standAt (wpAny_bind (wpAny_mono (turn n s hI) (fun r s₁ h₁ => ?_) fun _ _ z => z)))
  cases r with
  | none => exact wpAny_pure h₁
  | some v =>
    refine wpAny_bind (wpAny_mono h₁ (fun _ s₂ h₂ => ?_) fun _ _ z => z)
    refine wpAny_bind (wpAny_mono h₂ (fun _ s₃ h₃ => ?_) fun _ _ z => z)
    simp only [List.forIn_cons, List.forIn_nil, if_true, bind_assoc, pure_bind]
    refine wpAny_bind (wpAny_mono h₃ (fun b s₄ h₄ => ?_) fun _ _ z => z)
    cases b with
    | true =>
      simp only [if_true] at h₄ ⊢
      refine wpAny_bind (wpAny_mono h₄ (fun y s₅ h₅ => ?_) fun _ _ z => z)
      refine wpAny_bind (wpAny_mono h₅ (fun _ s₆ h₆ => ?_) fun _ _ z => z)
      exact wpAny_pure ⟨rfl, h₆⟩
    | false =>
      simp only [Bool.false_eq_true, if_false] at h₄ ⊢
      exact wpAny_pure ⟨rfl, h₄⟩
end
/-- the cells that the block takes over -/
def closOf (sc : Scope) (env : Env) : List (Str × Addr) := (sc.names.filterMap fun p => if p.2 == .free then (env.cells.lookup p.1).map fun c => (p.1, c) else none).reverse
/-- the block's run: its frame's dict, the state and heap ahead of it, pins, iterators -/
structure Blk where
  C : Addr
  s : Shared
  H : Hp
  pn : List (Addr × Obj)
  ex : List Addr
def Cx.block (X : Cx) (sc : Scope) (x : Str) (ix : List Nat) (b : Blk) : Cx where
  prog := X.prog
  w := X.w
  K := X.K
  mg := X.mg
  base := X.base
  A := X.A
  N := x :: ix.map fun i => X.N.getD i x
  s₀ := b.s
  H₀ := b.H
  env := compEnvC sc (closOf sc X.env) b.C X.env
  outer := X.stack
  stack := X.stack
  ex := b.ex
  fn := fun _ => false
  calm := X.calm
  pn := b.pn
  xe := fun _ _ => False
def capts (σ : St) (ix : List Nat) : St := ix.map fun i => σ.getD i none
def CapOk (X : Cx) (sc : Scope) (x : Str) (i : Nat) : Prop :=
  (X.env.kindOf (X.N.getD i x) = some .cell ∨ X.env.kindOf (X.N.getD i x) = some .free) ∧ ((relabel sc X.env).names.lookup (X.N.getD i x) = some .cell ∨ (relabel sc X.env).names.lookup (X.N.getD i x) = some .free) ∧
    (closOf sc X.env).lookup (X.N.getD i x) = X.env.cells.lookup (X.N.getD i x)
def CapsOk (X : Cx) (sc : Scope) (x : Str) : List Nat → Prop
  | [] => True
  | i :: r => CapOk X sc x i ∧ CapsOk X sc x r
theorem CapsOk.get {X : Cx} {sc : Scope} {x : Str} : ∀ {ix : List Nat}, CapsOk X sc x ix → ∀ i ∈ ix, CapOk X sc x i
  | [], _, _, h => nomatch h
  | _ :: _, h, _, hi => (List.mem_cons.mp hi).elim (fun e => e ▸ h.1) fun z => CapsOk.get h.2 _ z
def SubOk (cells : List (Str × Addr)) : List (Str × Addr) → Prop
  | [] => True
  | p :: r => cells.lookup p.1 = some p.2 ∧ SubOk cells r
theorem SubOk.get {cells : List (Str × Addr)} : ∀ {cl : List (Str × Addr)}, SubOk cells cl → ∀ y c, cl.lookup y = some c → cells.lookup y = some c
  | [], _, _, _, h => by simp at h
  | p :: r, h, y, c, e => by
    rw [List.lookup_cons] at e
    cases q : y == p.1 with
    | true =>
      rw [q] at e
      have e1 : p.2 = c := Option.some.inj e
      rw [eq_of_beq q, ← e1]
      exact h.1
    | false =>
      rw [q] at e
      exact SubOk.get h.2 y c e
def HasOk (cl : List (Str × Addr)) : List (Str × NameKind) → Prop
  | [] => True
  | p :: r => (p.2 = .cell ∨ p.2 = .free → ∃ c, cl.lookup p.1 = some c) ∧ HasOk cl r
theorem HasOk.get {cl : List (Str × Addr)} : ∀ {ns : List (Str × NameKind)}, HasOk cl ns → ∀ p ∈ ns, p.2 = .cell ∨ p.2 = .free → ∃ c, cl.lookup p.1 = some c
  | [], _, _, h => nomatch h
  | _ :: _, h, _, hp => (List.mem_cons.mp hp).elim (fun e => e ▸ h.1) fun z => HasOk.get h.2 _ z
structure CompOk (X : Cx) (sc : Scope) (x : Str) (ix : List Nat) : Prop where
  clos : closureFor sc X.env = pure (closOf sc X.env)
  cell : ∀ y ∈ sc.names, y.2 ≠ .cell
  kind : sc.kind = .function
  names : ∀ y ∈ sc.names, y.2 = .local → sc.names.lookup y.1 = some .local
  var : sc.names.lookup x = some .local
  nd : (x :: ix.map fun i => X.N.getD i x).Nodup
  cap : CapsOk X sc x ix
  sub : SubOk X.env.cells (closOf sc X.env)
  has : HasOk (closOf sc X.env) (relabel sc X.env).names
section
variable {X : Cx} {pins : List (Addr × Obj)} {σ : St} {H : Hp} {s : Shared} {sc : Scope} {x : Str} {ix : List Nat} {fp : List Addr}
theorem block_ok (I : Inv X pins σ H s) (O : CompOk X sc x ix) (hf : ∀ b ∈ fp, FpOk X pins H b) (hx : ∀ b ∈ fp, ∃ o, s.heap.get? b = some o) : (X.block sc x ix ⟨s.heap.objs.size, s, H, X.pn ++ pins, fp⟩).Ok where
  mod := I.ok.mod
  kind := O.kind
  glob := I.ok.glob
  blt := I.ok.blt
  above := Nat.le_refl _
  inj := fun y z c h1 h2 => I.ok.inj y z c (O.sub.get y c h1) (O.sub.get z c h2)
  has := fun y h => by
    have h' : (relabel sc X.env).names.lookup y = some .cell ∨ (relabel sc X.env).names.lookup y = some .free := h
    rcases h' with h' | h'
    · exact O.has.get _ (PySem.mem_of_lookup h') (.inl rfl)
    · exact O.has.get _ (PySem.mem_of_lookup h') (.inr rfl)
  cab := fun _ _ h => absurd (show false = true from h) Bool.false_ne_true
  hd := I.ok.hd
  frames := I.ok.frames
  stk := .inl rfl
  exf := fun b hb => by
    obtain ⟨o, e⟩ := hx b hb
    exact ⟨Nat.ne_of_lt (Heap.lt_size e), fun y c h => (hf b hb).2.2.2.2.1 y c (O.sub.get y c h)⟩
  bs := I.bs
  bsz := Nat.le_trans I.ok.bsz I.sz
  noex := fun b o e hb => by
    rcases (hf b hb).2.2.2.1 with z | z
    · exact I.ok.noex b o e z
    · exact absurd (Nat.lt_of_lt_of_le (Heap.lt_size e) (Nat.le_trans I.ok.bsz z)) (Nat.lt_irrefl _)
  exfs := fun b hb z => (List.mem_cons.mp (I.stkSub b z)).elim (hf b hb).2.1 (hf b hb).2.2.1
  funs := I.stack
  frf := I.stkFree
theorem block_inv {h₁ : Heap} {m : Str → Option Value} {tk : Nat} (I : Inv X pins σ H s) (O : CompOk X sc x ix) (hf : ∀ b ∈ fp, FpOk X pins H b) (hx : ∀ b ∈ fp, ∃ o, s.heap.get? b = some o)
    (hn : h₁.Ns s.heap.objs.size m) (keep : ∀ b o, s.heap.get? b = some o → h₁.get? b = some o) :
    Inv (X.block sc x ix ⟨s.heap.objs.size, s, H, X.pn ++ pins, fp⟩) [] (none :: capts σ ix) H { s with heap := h₁, toks := tk } := by
  refine ⟨block_ok I O hf hx, rfl, I.bare, Un.kept keep, ⟨m, hn, fun i y v e1 e2 _ => ?_⟩, fun y c h => ?_, I.hok.fresh (Nat.le_refl _), fun y c h => I.freeC y c (O.sub.get y c h), fun p hp => ?_, I.hok.kept keep, ?_⟩
  · cases i with
    | zero => cases e2
    | succ j =>
      have e1' : (ix.map fun i => X.N.getD i x)[j]? = some y := e1
      have e2' : (capts σ ix)[j]? = some (some v) := e2
      unfold capts at e2'
      rw [List.getElem?_map] at e1' e2'
      cases q : ix[j]? with
      | none => rw [q] at e1'; cases e1'
      | some i =>
        rw [q] at e1' e2'
        have e3 : X.N.getD i x = y := Option.some.inj e1'
        have e4 : σ.getD i none = some v := Option.some.inj e2'
        obtain ⟨c1, c2, c3⟩ := O.cap.get i (List.mem_of_getElem? q)
        rw [e3] at c1 c2 c3
        have e5 : σ[i]? = some (some v) := by
          rw [List.getD_eq_getElem?_getD] at e4
          cases z : σ[i]? with
          | none => rw [z] at e4; cases e4
          | some a => rw [z] at e4; exact congrArg some e4
        have hl : i < X.N.length := by
          rw [← I.len]
          exact (List.getElem?_eq_some_iff.mp e5).1
        have e6 : X.N[i]? = some y := by
          rw [List.getD_eq_getElem?_getD, List.getElem?_eq_getElem hl] at e3
          rw [List.getElem?_eq_getElem hl]
          exact congrArg some e3
        obtain ⟨m0, _, l0⟩ := I.loc
        have vis : Vis X.env.scope y := by
          rcases c1 with z | z
          · exact .inr (.inl z)
          · exact .inr (.inr z)
        obtain ⟨u, ru, lu⟩ := l0 i y v e6 e5 vis
        refine ⟨u, ru, ?_⟩
        rcases lu with ⟨k, _⟩ | ⟨_, c, hc, o, ho, hd⟩
        · rcases c1 with z | z
          · rw [z] at k; cases k
          · rw [z] at k; cases k
        · exact .inr ⟨c2, c, c3.trans hc, o, keep c o ho, hd⟩
  · obtain ⟨v, o, ho, hd⟩ := I.cell y c (O.sub.get y c h)
    exact ⟨v, o, keep c o ho, hd⟩
  · have hp' : p ∈ X.pn ++ pins := by
      rcases List.mem_append.mp hp with z | z
      · exact z
      · cases z
    obtain ⟨e, n, ne, nf, d⟩ := I.pin p hp'
    exact ⟨keep _ _ e, n, Nat.ne_of_lt (Heap.lt_size e), fun z => (List.mem_cons.mp (I.stkSub _ z)).elim ne nf, d⟩
  · show (none :: capts σ ix).length = (x :: ix.map fun i => X.N.getD i x).length
    simp [capts]
/-- back from the block -/
theorem block_back {pins' : List (Addr × Obj)} {σ' : St} {H' : Hp} {s' : Shared} (I : Inv X pins σ H s) (hf : ∀ b ∈ fp, FpOk X pins H b) (J : Inv (X.block sc x ix ⟨s.heap.objs.size, s, H, X.pn ++ pins, fp⟩) pins' σ' H' s') : Inv X pins σ H' s' :=
  I.call' J.os J.base J.hok J.bare fun b hb => ⟨(hf b hb).2.2.2.1, (hf b hb).2.1, (hf b hb).2.2.2.2.1, (hf b hb).2.2.2.2.2⟩
theorem Inv.addpin {b : Addr} {o : Obj} (I : Inv X pins σ H s) (e : s.heap.get? b = some o) (hn : H b = none) (hL : b ≠ X.env.locals) (hf : b ∉ X.fs) (hd : ∀ v, o.data ≠ .cell v) : Inv X (pins ++ [(b, o)]) σ H s :=
  I.pins_of fun p hp => (List.mem_append.mp hp).elim (fun z => I.pin p (List.mem_append_right _ z)) fun z => by
    have e' : p = (b, o) := by simpa using z
    subst e'
    exact ⟨e, hn, hL, hf, hd⟩
end
/-- what the block does, turn by turn: W by the turn, a measure, the list so far -/
def Turns (ix : List Nat) (te : TE) (σ : St) (J : It) (l : Addr) (R : Hp → Prop) (W : Nat → Nat → List V → Hp → Prop) : Prop :=
  ∀ i m xs H', W i m xs H' → H' l = some (.lst xs) ∧ ((J.stop i H' ∧ R H') ∨ (J.go i H' ∧ xs.length < sizeLine ∧ ∀ x H2, J.yld i H' x H2 →
    te (some x :: capts σ ix) H2 fun v H3 => H3 l = some (.lst xs) ∧ ∃ m', m' < m ∧ W (i + 1) m' (xs ++ [v]) (upd H3 l (.lst (xs ++ [v])))))
def tComp (ix : List Nat) (wi : TI) (te : TE) : TE := fun σ H Q => wi σ H fun J H1 => ∀ l, H1 l = none → ∃ W : Nat → Nat → List V → Hp → Prop, (∃ m, W 0 m [] (upd H1 l (.lst []))) ∧ Turns ix te σ J l (Q (.ref l)) W
section
variable {X : Cx} {pins : List (Addr × Obj)} {σ : St} {H : Hp} {s : Shared} {sc : Scope} {x : Str} {ix : List Nat} {fp : List Addr} {elt iter : Expr} {te : TE} {wi : TI} {px pos : Pos}
theorem comp_core {it : Addr} {tn : Nat → Heap → Prop} {J : It} {use : Option (Value → Sem Unit)} {Q : Value → Shared → Prop} {E : Value → Shared → Prop} (O : CompOk X sc x ix) (hel : ∀ b, PE (X.block sc x ix b) elt te) (hc : X.calm = true)
    (I : Inv X pins σ H s) (T : Turn X.prog X.w X.K (.Name x px) J fp it tn) (st : tn 0 s.heap) (hf : ∀ b ∈ fp, FpOk X pins H b) (R : Addr → Hp → Prop)
    (h : ∀ l, H l = none → ∃ W : Nat → Nat → List V → Hp → Prop, (∃ m, W 0 m [] (upd H l (.lst []))) ∧ Turns ix te σ J l (R l) W)
    (fin : ∀ l C m s' H', Inv X pins σ H' s' → s'.heap.Ns C m → FpOk X pins H' C → R l H' → compPost (model X.prog X.w) X.A E use Q (.ref l) C (.ok .next) s') :
    wpAny (model X.prog X.w) X.A (newList []) (fun acc s₃ => wpAny (model X.prog X.w) X.A (newFunctionEnv sc X.env.globals (closOf sc X.env) [] X.env.qual none .none (some X.env)) (fun cenv s₄ =>
      codeAny (model X.prog X.w) X.A (.compStart (.ListComp elt [⟨.Name x px, iter, [], 0⟩] sc pos) 0 (.ref it) acc { cenv with scope := relabel sc X.env }) (compPost (model X.prog X.w) X.A E use Q acc cenv.locals) s₄) E s₃) E s := by
  refine wpAny_newObj_type (wpAny_newFunctionEnv O.cell (by intro y hy; simp at hy) (fun h₁ hns hsb => ?_) O.kind)
  dsimp only at hns hsb ⊢
  have hl0 : H s.heap.objs.size = none := I.hok.fresh (Nat.le_refl _)
  obtain ⟨W, ⟨m0, w0⟩, tr⟩ := h s.heap.objs.size hl0
  have I3 : Inv X pins σ (upd H s.heap.objs.size (.lst [])) { s with heap := s.heap.push { cls := .type "list", dict := none, data := .seq ([] : List Value).toArray } } :=
    I.laid (t' := s.toks) (fun b o e => Heap.get?_push_of_some _ e) (Nat.le_refl _) ⟨Nat.zero_le _, [], 0, .nil, Heap.get?_push_size _ rfl⟩
  have ofp : ∀ b ∈ fp, ∃ o, s.heap.get? b = some o := fun b hb => by
    obtain ⟨o, e, _⟩ := T.obj 0 _ st b hb
    exact ⟨o, e⟩
  generalize e3 : s.heap.push { cls := .type "list", dict := none, data := .seq ([] : List Value).toArray } = G at I3 hns hsb ⊢
  have ofp3 : ∀ b ∈ fp, ∃ o, G.get? b = some o := fun b hb => by
    obtain ⟨o, e⟩ := ofp b hb
    exact ⟨o, by rw [← e3]; exact Heap.get?_push_of_some _ e⟩
  have nl : ∀ b ∈ fp, b ≠ s.heap.objs.size := fun b hb => by
    obtain ⟨o, e⟩ := ofp b hb
    exact Nat.ne_of_lt (Heap.lt_size e)
  have hf3 : ∀ b ∈ fp, FpOk X pins (upd H s.heap.objs.size (.lst [])) b := fun b hb => ⟨by rw [upd_ne (nl b hb)]; exact (hf b hb).1, (hf b hb).2⟩
  have keep3 : ∀ b o, G.get? b = some o → h₁.get? b = some o := fun b o e => hsb.extBut b o (Nat.ne_of_lt (Heap.lt_size e)) (Heap.get?_push_of_some _ e)
  have stk : tn 0 h₁ := T.keep _ _ _ st fun b hb o e => keep3 b o (by rw [← e3]; exact Heap.get?_push_of_some _ e)
  have J0 := block_inv (tk := s.toks + ([] : List (Str × Value)).length) I3 O hf3 ofp3 hns keep3
  -- what stays true of the iterator
  have stat : ∀ {H' : Hp}, (∀ b ∈ fp, H' b = none) → ∀ b ∈ fp, FpOk (X.block sc x ix ⟨G.objs.size, { s with heap := G }, upd H s.heap.objs.size (.lst []), X.pn ++ pins, fp⟩) [] H' b := fun hn b hb => by
    obtain ⟨o, e⟩ := ofp3 b hb
    refine ⟨hn b hb, Nat.ne_of_lt (Heap.lt_size e), fun z => (List.mem_cons.mp (I3.stkSub _ z)).elim (hf b hb).2.1 (hf b hb).2.2.1, .inl hb, fun y c q => (hf b hb).2.2.2.2.1 y c (O.sub.get y c q), fun p hp => ?_⟩
    have hp' : p ∈ X.pn ++ pins := by
      rcases List.mem_append.mp hp with z | z
      · exact z
      · cases z
    exact (hf b hb).2.2.2.2.2 p hp'
  have loop : ∀ s4 : Shared, s4 = { s with heap := h₁, toks := s.toks + ([] : List (Str × Value)).length } →
      codeAny (model X.prog X.w) X.A (.compLoop (.ListComp elt [⟨.Name x px, iter, [], 0⟩] sc pos) 0 (.ref it) (.ref s.heap.objs.size) (compEnvC sc (closOf sc X.env) G.objs.size X.env))
        (compPost (model X.prog X.w) X.A E use Q (.ref s.heap.objs.size) G.objs.size) s4 := by
    rintro s4 rfl
    refine comp_loop (fun n s' => ∃ i xs H' z, Inv (X.block sc x ix ⟨G.objs.size, { s with heap := G }, upd H s.heap.objs.size (.lst []), X.pn ++ pins, fp⟩) [] (z :: capts σ ix) H' s' ∧ tn i s'.heap ∧ (∀ b ∈ fp, H' b = none) ∧ W i n xs H') ?_ m0
      ⟨0, [], _, none, J0, stk, fun b hb => (hf3 b hb).1, w0⟩
    rintro n s5 ⟨i, xs, H5, z, I5, st5, fr5, w5⟩
    obtain ⟨hl5, h5⟩ := tr i n xs H5 w5
    rcases h5 with ⟨stop, r5⟩ | ⟨go, hz, step⟩
    · refine thn (T.done (X.block sc x ix ⟨G.objs.size, { s with heap := G }, upd H s.heap.objs.size (.lst []), X.pn ++ pins, fp⟩) rfl rfl rfl hc i [] s5 _ H5 _ I5 (stat fr5) st5 stop) fun r s6 ⟨hr, I6⟩ => ?_
      subst hr
      obtain ⟨m6, hn6, _⟩ := I6.loc
      refine fin _ _ m6 s6 H5 (block_back I3 hf3 I6) hn6 ?_ r5
      exact I3.fpOk (Nat.le_refl _) I6.free
    · refine thn (T.item (X.block sc x ix ⟨G.objs.size, { s with heap := G }, upd H s.heap.objs.size (.lst []), X.pn ++ pins, fp⟩) rfl rfl rfl hc i [] s5 _ H5 _ I5 (stat fr5) st5 go) fun r s6 ⟨u, hr, h6⟩ => ?_
      subst hr
      refine thn h6 fun _ s7 ⟨y, H7, I7, r7, y7, st7, fr7⟩ => ?_
      have I7' := I7.pinned (stat fr7) (T.obj _ _ st7)
      have lx : (relabel sc X.env).names.lookup x = some .local := lookup_relabel_local O.var
      refine thn ((pg_name (i := 0) O.nd rfl (Or.inl lx) (Or.inr lx) : PG (X.block sc x ix ⟨G.objs.size, { s with heap := G }, upd H s.heap.objs.size (.lst []), X.pn ++ pins, fp⟩) (.Name x px) (gName 0)) _ s7 _ H7 y u (fun σ' H' => σ' = some y :: capts σ ix ∧ H' = H7) I7' r7 ⟨rfl, rfl⟩) fun _ s8 ⟨σ8, H8, I8, e8, e8'⟩ => ?_
      subst e8 e8'
      refine thn (hel _ _ s8 _ H8 _ I8 (step y H8 y7)) fun v9 s9 ⟨v, H9, I9, r9, hl9, m', hm, w9⟩ => ?_
      refine thn (mt_append _ s9 _ H9 (.ref s.heap.objs.size) [v] (.ref s.heap.objs.size) [v9] (fun _ H' => H' = upd H9 s.heap.objs.size (.lst (xs ++ [v]))) I9 rfl (.cons r9 .nil) ⟨_, xs, v, rfl, rfl, hl9, hz, rfl⟩) fun _ s10 ⟨_, H10, I10, _, e10⟩ => ?_
      subst e10
      refine ⟨m', hm, i + 1, xs ++ [v], _, some y, I10.unpinned, T.keep _ _ _ st7 fun b hb o e => (I10.pin (b, o) (List.mem_append_right _ (List.mem_append_right _ (mem_pinsAt hb e)))).1, fun b hb => ?_, w9⟩
      obtain ⟨o, e, d⟩ := T.obj _ _ st7 b hb
      exact (I10.pin (b, o) (List.mem_append_right _ (List.mem_append_right _ (mem_pinsAt hb e)))).2.1
  exact codeAny_compStart_list (loop _ rfl) (T.self _ 0 _ _ _ stk (loop _ rfl))
/-- [elt for x in iter] -/
theorem pe_comp (O : CompOk X sc x ix) (hi : PI X (.Name x px) iter wi) (hel : ∀ b, PE (X.block sc x ix b) elt te) (hc : X.calm = true := by rfl) (hs : ∀ v, foldedSetIterable iter X.env v = pure v := by intro _; rfl) :
    PE X (.ListComp elt [⟨.Name x px, iter, [], 0⟩] sc pos) (tComp ix wi te) := by
  intro pins s σ H Q I h
  rw [eval_ListComp]
  refine wpAny_comprehension_free (use := none) rfl hs O.clos O.kind O.names (thn (hi pins s σ H _ I h) fun xv s1 h1 => thn h1 fun itv s2 h2 => ?_)
  obtain ⟨it, fp, tn, J, H2, e, I2, T, st2, f2, hq⟩ := h2
  subst e
  refine comp_core O hel hc I2 T st2 f2 (fun l H' => Q (.ref l) H') hq ?_
  intro l C m s' H' I' hn hf r
  refine ⟨m, hn, fun h' hb => ⟨.ref l, H', ?_, rfl, r⟩⟩
  exact I'.turned (t' := s'.toks) (fun b o hne e => hb.extBut b o hne e) hf.1 hf.2.1 hf.2.2.2.1 hf.2.2.2.2.1 hf.2.2.2.2.2
/-- y = [elt for x in iter], y a plain local -/
theorem ps_setc {y : Str} {i : Nat} {py spos : Pos} (hN : X.N.Nodup) (hiy : X.N[i]? = some y) (hy : X.env.scope.names.lookup y = some .local) (O : CompOk X sc x ix) (hi : PI X (.Name x px) iter wi) (hel : ∀ b, PE (X.block sc x ix b) elt te)
    (hc : X.calm = true := by rfl) (hs : ∀ v, foldedSetIterable iter X.env v = pure v := by intro _; rfl) (hsw : swapsWith (.ListComp elt [⟨.Name x px, iter, [], 0⟩] sc pos) (some (.Name y py)) spos.line X.env = pure true := by rfl) :
    PS X (.Assign [.Name y py] (.ListComp elt [⟨.Name x px, iter, [], 0⟩] sc pos) spos) (tAsg (tComp ix wi te) (gName i)) := by
  intro pins s σ H D I h
  rw [exec_Assign_Name_used _ _ _ _ hsw]
  refine wpAny_bind (wpAny_standAt (wpAny_bind ?_))
  show wpAny _ X.A (do let _ ← comprehension (.ListComp elt [⟨.Name x px, iter, [], 0⟩] sc pos) sc X.env _ (newList []) false (eval iter X.env) (some (assign (.Name y py) X.env))) _ _ s
  refine wpAny_bind (wpAny_mono (wpAny_comprehension_free (use := some (assign (.Name y py) X.env)) (Q := fun _ s' => SP X pins D .next s') rfl hs O.clos O.kind O.names
    (thn (hi pins s σ H _ I h) fun xv s1 h1 => thn h1 fun itv s2 h2 => ?_)) (fun _ s' hq => wpAny_pure (wpAny_pure hq)) fun _ _ e => e)
  obtain ⟨it, fp, tn, J, H2, e, I2, T, st2, f2, hq⟩ := h2
  subst e
  refine comp_core O hel hc I2 T st2 f2 (fun l H' => D.nx (σ.set i (some (.ref l))) H') hq ?_
  intro l C m s' H' I' hn hf r
  obtain ⟨o, es, ep, ho, hd, hr⟩ := id hn
  have Ip := I'.addpin ho hf.1 hf.2.1 hf.2.2.1 (by intro v z; rw [hd] at z; cases z)
  refine thn ((pg_name (i := i) hN hiy (Or.inl hy) (Or.inr hy) : PG X (.Name y py) (gName i)) _ s' σ H' (.ref l) (.ref l) (fun σ' H'' => σ' = σ.set i (some (.ref l)) ∧ H'' = H') Ip rfl ⟨rfl, rfl⟩) fun _ s'' ⟨σ'', H'', I'', e1, e2⟩ => ?_
  subst e1 e2
  have pc := (I''.pin (C, o) (List.mem_append_right _ (List.mem_append_right _ List.mem_cons_self))).1
  refine ⟨m, ⟨o, es, ep, pc, hd, hr⟩, fun h' hb => ⟨_, _, ?_, r⟩⟩
  exact I''.unpinned.turned (t' := s''.toks) (fun b o hne e => hb.extBut b o hne e) hf.1 hf.2.1 hf.2.2.2.1 hf.2.2.2.2.1 hf.2.2.2.2.2
end
def TurnsIf (ix : List Nat) (tt : TT) (te : TE) (σ : St) (J : It) (l : Addr) (R : Hp → Prop) (W : Nat → Nat → List V → Hp → Prop) : Prop :=
  ∀ i m xs H', W i m xs H' → H' l = some (.lst xs) ∧ ((J.stop i H' ∧ R H') ∨ (J.go i H' ∧ xs.length < sizeLine ∧ ∀ x H2, J.yld i H' x H2 →
    tt (some x :: capts σ ix) H2 fun b H3 => if b = true then te (some x :: capts σ ix) H3 fun v H4 => H4 l = some (.lst xs) ∧ ∃ m', m' < m ∧ W (i + 1) m' (xs ++ [v]) (upd H4 l (.lst (xs ++ [v]))) else ∃ m', m' < m ∧ W (i + 1) m' xs H3))
def tCompIf (ix : List Nat) (wi : TI) (tt : TT) (te : TE) : TE := fun σ H Q => wi σ H fun J H1 => ∀ l, H1 l = none → ∃ W : Nat → Nat → List V → Hp → Prop, (∃ m, W 0 m [] (upd H1 l (.lst []))) ∧ TurnsIf ix tt te σ J l (Q (.ref l)) W
section
variable {X : Cx} {pins : List (Addr × Obj)} {σ : St} {H : Hp} {s : Shared} {sc : Scope} {x : Str} {ix : List Nat} {fp : List Addr} {elt iter c : Expr} {te : TE} {tt : TT} {wi : TI} {px pos : Pos}
theorem comp_coreIf {it : Addr} {tn : Nat → Heap → Prop} {J : It} {use : Option (Value → Sem Unit)} {Q : Value → Shared → Prop} {E : Value → Shared → Prop} (O : CompOk X sc x ix) (htt : ∀ b, PT (X.block sc x ix b) c tt) (hel : ∀ b, PE (X.block sc x ix b) elt te) (hc : X.calm = true)
    (I : Inv X pins σ H s) (T : Turn X.prog X.w X.K (.Name x px) J fp it tn) (st : tn 0 s.heap) (hf : ∀ b ∈ fp, FpOk X pins H b) (R : Addr → Hp → Prop)
    (h : ∀ l, H l = none → ∃ W : Nat → Nat → List V → Hp → Prop, (∃ m, W 0 m [] (upd H l (.lst []))) ∧ TurnsIf ix tt te σ J l (R l) W)
    (fin : ∀ l C m s' H', Inv X pins σ H' s' → s'.heap.Ns C m → FpOk X pins H' C → R l H' → compPost (model X.prog X.w) X.A E use Q (.ref l) C (.ok .next) s') :
    wpAny (model X.prog X.w) X.A (newList []) (fun acc s₃ => wpAny (model X.prog X.w) X.A (newFunctionEnv sc X.env.globals (closOf sc X.env) [] X.env.qual none .none (some X.env)) (fun cenv s₄ =>
      codeAny (model X.prog X.w) X.A (.compStart (.ListComp elt [⟨.Name x px, iter, [c], 0⟩] sc pos) 0 (.ref it) acc { cenv with scope := relabel sc X.env }) (compPost (model X.prog X.w) X.A E use Q acc cenv.locals) s₄) E s₃) E s := by
  refine wpAny_newObj_type (wpAny_newFunctionEnv O.cell (by intro y hy; simp at hy) (fun h₁ hns hsb => ?_) O.kind)
  dsimp only at hns hsb ⊢
  have hl0 : H s.heap.objs.size = none := I.hok.fresh (Nat.le_refl _)
  obtain ⟨W, ⟨m0, w0⟩, tr⟩ := h s.heap.objs.size hl0
  have I3 : Inv X pins σ (upd H s.heap.objs.size (.lst [])) { s with heap := s.heap.push { cls := .type "list", dict := none, data := .seq ([] : List Value).toArray } } :=
    I.laid (t' := s.toks) (fun b o e => Heap.get?_push_of_some _ e) (Nat.le_refl _) ⟨Nat.zero_le _, [], 0, .nil, Heap.get?_push_size _ rfl⟩
  have ofp : ∀ b ∈ fp, ∃ o, s.heap.get? b = some o := fun b hb => by
    obtain ⟨o, e, _⟩ := T.obj 0 _ st b hb
    exact ⟨o, e⟩
  generalize e3 : s.heap.push { cls := .type "list", dict := none, data := .seq ([] : List Value).toArray } = G at I3 hns hsb ⊢
  have ofp3 : ∀ b ∈ fp, ∃ o, G.get? b = some o := fun b hb => by
    obtain ⟨o, e⟩ := ofp b hb
    exact ⟨o, by rw [← e3]; exact Heap.get?_push_of_some _ e⟩
  have nl : ∀ b ∈ fp, b ≠ s.heap.objs.size := fun b hb => by
    obtain ⟨o, e⟩ := ofp b hb
    exact Nat.ne_of_lt (Heap.lt_size e)
  have hf3 : ∀ b ∈ fp, FpOk X pins (upd H s.heap.objs.size (.lst [])) b := fun b hb => ⟨by rw [upd_ne (nl b hb)]; exact (hf b hb).1, (hf b hb).2⟩
  have keep3 : ∀ b o, G.get? b = some o → h₁.get? b = some o := fun b o e => hsb.extBut b o (Nat.ne_of_lt (Heap.lt_size e)) (Heap.get?_push_of_some _ e)
  have stk : tn 0 h₁ := T.keep _ _ _ st fun b hb o e => keep3 b o (by rw [← e3]; exact Heap.get?_push_of_some _ e)
  have J0 := block_inv (tk := s.toks + ([] : List (Str × Value)).length) I3 O hf3 ofp3 hns keep3
  -- what stays true of the iterator
  have stat : ∀ {H' : Hp}, (∀ b ∈ fp, H' b = none) → ∀ b ∈ fp, FpOk (X.block sc x ix ⟨G.objs.size, { s with heap := G }, upd H s.heap.objs.size (.lst []), X.pn ++ pins, fp⟩) [] H' b := fun hn b hb => by
    obtain ⟨o, e⟩ := ofp3 b hb
    refine ⟨hn b hb, Nat.ne_of_lt (Heap.lt_size e), fun z => (List.mem_cons.mp (I3.stkSub _ z)).elim (hf b hb).2.1 (hf b hb).2.2.1, .inl hb, fun y c q => (hf b hb).2.2.2.2.1 y c (O.sub.get y c q), fun p hp => ?_⟩
    have hp' : p ∈ X.pn ++ pins := by
      rcases List.mem_append.mp hp with z | z
      · exact z
      · cases z
    exact (hf b hb).2.2.2.2.2 p hp'
  have loop : ∀ s4 : Shared, s4 = { s with heap := h₁, toks := s.toks + ([] : List (Str × Value)).length } →
      codeAny (model X.prog X.w) X.A (.compLoop (.ListComp elt [⟨.Name x px, iter, [c], 0⟩] sc pos) 0 (.ref it) (.ref s.heap.objs.size) (compEnvC sc (closOf sc X.env) G.objs.size X.env))
        (compPost (model X.prog X.w) X.A E use Q (.ref s.heap.objs.size) G.objs.size) s4 := by
    rintro s4 rfl
    refine comp_loop_if (fun n s' => ∃ i xs H' z, Inv (X.block sc x ix ⟨G.objs.size, { s with heap := G }, upd H s.heap.objs.size (.lst []), X.pn ++ pins, fp⟩) [] (z :: capts σ ix) H' s' ∧ tn i s'.heap ∧ (∀ b ∈ fp, H' b = none) ∧ W i n xs H') ?_ m0
      ⟨0, [], _, none, J0, stk, fun b hb => (hf3 b hb).1, w0⟩
    rintro n s5 ⟨i, xs, H5, z, I5, st5, fr5, w5⟩
    obtain ⟨hl5, h5⟩ := tr i n xs H5 w5
    rcases h5 with ⟨stop, r5⟩ | ⟨go, hz, step⟩
    · refine thn (T.done (X.block sc x ix ⟨G.objs.size, { s with heap := G }, upd H s.heap.objs.size (.lst []), X.pn ++ pins, fp⟩) rfl rfl rfl hc i [] s5 _ H5 _ I5 (stat fr5) st5 stop) fun r s6 ⟨hr, I6⟩ => ?_
      subst hr
      obtain ⟨m6, hn6, _⟩ := I6.loc
      refine fin _ _ m6 s6 H5 (block_back I3 hf3 I6) hn6 ?_ r5
      exact I3.fpOk (Nat.le_refl _) I6.free
    · refine thn (T.item (X.block sc x ix ⟨G.objs.size, { s with heap := G }, upd H s.heap.objs.size (.lst []), X.pn ++ pins, fp⟩) rfl rfl rfl hc i [] s5 _ H5 _ I5 (stat fr5) st5 go) fun r s6 ⟨u, hr, h6⟩ => ?_
      subst hr
      refine thn h6 fun _ s7 ⟨y, H7, I7, r7, y7, st7, fr7⟩ => ?_
      have I7' := I7.pinned (stat fr7) (T.obj _ _ st7)
      have lx : (relabel sc X.env).names.lookup x = some .local := lookup_relabel_local O.var
      refine thn ((pg_name (i := 0) O.nd rfl (Or.inl lx) (Or.inr lx) : PG (X.block sc x ix ⟨G.objs.size, { s with heap := G }, upd H s.heap.objs.size (.lst []), X.pn ++ pins, fp⟩) (.Name x px) (gName 0)) _ s7 _ H7 y u (fun σ' H' => σ' = some y :: capts σ ix ∧ H' = H7) I7' r7 ⟨rfl, rfl⟩) fun _ s8 ⟨σ8, H8, I8, e8, e8'⟩ => ?_
      subst e8 e8'
      refine thn (htt _ _ s8 _ H8 _ I8 (step y H8 y7)) fun b s9 ⟨H9, I9, q9⟩ => ?_
      have kp : ∀ {σ0 : St} {H0 : Hp} {s0 : Shared}, Inv (X.block sc x ix ⟨G.objs.size, { s with heap := G }, upd H s.heap.objs.size (.lst []), X.pn ++ pins, fp⟩) ([] ++ pinsAt fp s7.heap) σ0 H0 s0 → tn (i + 1) s0.heap ∧ ∀ b ∈ fp, H0 b = none := fun {σ0 H0 s0} I0 => by
        refine ⟨T.keep _ _ _ st7 fun b hb o e => (I0.pin (b, o) (List.mem_append_right _ (List.mem_append_right _ (mem_pinsAt hb e)))).1, fun b hb => ?_⟩
        obtain ⟨o, e, d⟩ := T.obj _ _ st7 b hb
        exact (I0.pin (b, o) (List.mem_append_right _ (List.mem_append_right _ (mem_pinsAt hb e)))).2.1
      cases b with
      | false =>
        rw [if_neg Bool.false_ne_true] at q9 ⊢
        obtain ⟨m', hm, w9⟩ := q9
        exact ⟨m', hm, i + 1, xs, _, some y, I9.unpinned, (kp I9).1, (kp I9).2, w9⟩
      | true =>
        rw [if_pos rfl] at q9 ⊢
        refine thn (hel _ _ s9 _ H9 _ I9 q9) fun v9 s10 ⟨v, H10, I10, r10, hl10, m', hm, w10⟩ => ?_
        refine thn (mt_append _ s10 _ H10 (.ref s.heap.objs.size) [v] (.ref s.heap.objs.size) [v9] (fun _ H' => H' = upd H10 s.heap.objs.size (.lst (xs ++ [v]))) I10 rfl (.cons r10 .nil) ⟨_, xs, v, rfl, rfl, hl10, hz, rfl⟩) fun _ s11 ⟨_, H11, I11, _, e11⟩ => ?_
        subst e11
        exact ⟨m', hm, i + 1, xs ++ [v], _, some y, I11.unpinned, (kp I11).1, (kp I11).2, w10⟩
  exact codeAny_compStart_list (loop _ rfl) (T.self _ 0 _ _ _ stk (loop _ rfl))
end
theorem same_new {H : Hp} {p : Addr} (h : H p = none) (o : HO) : Same H (upd H p o) := fun b u q => by rw [upd_ne (ne_of_none q h)]; exact q
section
variable {X : Cx}
theorem intsAre_vals : ∀ {ns : List Int} {us : List Value}, Vals (ns.map V.int) us → IntsAre us ns
  | [], _, .nil => .nil
  | n :: ns, _, .cons ⟨t, e⟩ r => by
    subst e
    exact .cons n t (intsAre_vals r)
end
end L2
namespace L2
open PySem PySem.Spec PyProof.Rows
/-! ### == and != by data -/
mutual
inductive RdV (K : PySem.W.Frag) (H : Hp) : V → PyData → Prop
  | non : RdV K H .non .none
  | bl (b : Bool) : RdV K H (.bl b) (.bool b)
  | int (i : Int) : RdV K H (.int i) (.int i)
  | str (x : Str) : RdV K H (.str x) (.str x)
  | lst {a : Addr} {xs : List V} {ds : List PyData} : SqL K H a xs → RdVs K H xs ds → RdV K H (.ref a) (.list ds)
  | tup {a : Addr} {xs : List V} {ds : List PyData} : SqT K H a xs → RdVs K H xs ds → RdV K H (.ref a) (.tuple ds)
inductive RdVs (K : PySem.W.Frag) (H : Hp) : List V → List PyData → Prop
  | nil : RdVs K H [] []
  | cons {x : V} {d : PyData} {xs : List V} {ds : List PyData} : RdV K H x d → RdVs K H xs ds → RdVs K H (x :: xs) (d :: ds)
end
theorem RdVs.ints {K : PySem.W.Frag} {H : Hp} : ∀ ns : List Int, RdVs K H (ns.map V.int) (ns.map PyData.int)
  | [] => .nil
  | n :: r => .cons (.int n) (RdVs.ints r)
section
variable {X : Cx} {pins : List (Addr × Obj)} {σ : St} {H : Hp} {s : Shared} {pos : Pos}
mutual
theorem RdV.reads (I : Inv X pins σ H s) : ∀ {x : V} {d : PyData} {u : Value}, RdV X.K H x d → RelV x u → ∃ as, Reads s.heap u d as
  | _, _, _, .non, r => by cases r; exact ⟨_, .none⟩
  | _, _, _, .bl b, r => by cases r; exact ⟨_, .bool b⟩
  | _, _, _, .int i, r => by obtain ⟨t, rfl⟩ := r; exact ⟨_, .int i t⟩
  | _, _, _, .str x, r => by obtain ⟨t, rfl⟩ := r; exact ⟨_, .str x t⟩
  | _, _, _, .lst h hs, r => by
    cases r
    obtain ⟨its, rv, pl, hz⟩ := I.list h
    obtain ⟨as, q⟩ := RdVs.reads I hs rv
    obtain ⟨o, n, e, c, hd, dt⟩ := pl
    exact ⟨_, reads_list_at e c dt (by simpa using q)⟩
  | _, _, _, .tup h hs, r => by
    cases r
    obtain ⟨its, rv, pl, hz⟩ := I.tuple h
    obtain ⟨as, q⟩ := RdVs.reads I hs rv
    obtain ⟨o, e, c, n, dt⟩ := pl
    exact ⟨_, reads_tuple_at e c dt (by simpa using q)⟩
theorem RdVs.reads (I : Inv X pins σ H s) : ∀ {xs : List V} {ds : List PyData} {us : List Value}, RdVs X.K H xs ds → Vals xs us → ∃ as, ReadsAll s.heap us ds as
  | _, _, _, .nil, .nil => ⟨_, .nil⟩
  | _, _, _, .cons h hs, .cons r rs => by
    obtain ⟨as, q⟩ := RdV.reads I h r
    obtain ⟨bs, q'⟩ := RdVs.reads I hs rs
    exact ⟨_, .cons q q'⟩
end
def rEqD (K : PySem.W.Frag) : R2 := fun x y H Q => ∃ d e, RdV K H x d ∧ RdV K H y e ∧ SeqAt.shaped d = true ∧ SeqAt.shaped e = true ∧ Q (.bl (PyData.eqv d e)) H
def rNeD (K : PySem.W.Frag) : R2 := fun x y H Q => ∃ d e, RdV K H x d ∧ RdV K H y e ∧ SeqAt.shaped d = true ∧ SeqAt.shaped e = true ∧ Q (.bl (!PyData.eqv d e)) H
theorem op_eqD (hu : X.A.units + 64 < cLine) : OpR X (compareOp .Eq) (rEqD X.K) := by
  intro pins s σ H x y v u Q I rx ry h
  obtain ⟨d, e, hd, he, sd, se, q⟩ := h
  obtain ⟨as, ra⟩ := hd.reads I rx
  obtain ⟨bs, rb⟩ := he.reads I ry
  exact eq_dataH ra rb sd se hu ⟨.bl _, H, I, rfl, q⟩
theorem op_neD (hu : X.A.units + 64 < cLine) : OpR X (compareOp .NotEq) (rNeD X.K) := by
  intro pins s σ H x y v u Q I rx ry h
  obtain ⟨d, e, hd, he, sd, se, q⟩ := h
  obtain ⟨as, ra⟩ := hd.reads I rx
  obtain ⟨bs, rb⟩ := he.reads I ry
  exact ne_dataH ra rb sd se hu ⟨.bl _, H, I, rfl, q⟩
end
/-! ### isinstance of the plain kinds -/
def kinds : List String := ["NoneType", "bool", "int", "str", "list", "tuple", "dict"]
theorem kit_int {K : PySem.W.Frag} {T : String} (h : T ∈ kinds) : PySem.W.kitOne K (.type T) (.type "int") = some (decide (T = "int" ∨ T = "bool")) := by
  simp only [kinds, List.mem_cons, List.not_mem_nil, or_false] at h
  rcases h with rfl | rfl | rfl | rfl | rfl | rfl | rfl <;> rfl
theorem kit_bool {K : PySem.W.Frag} {T : String} (h : T ∈ kinds) : PySem.W.kitOne K (.type T) (.type "bool") = some (decide (T = "bool")) := by
  simp only [kinds, List.mem_cons, List.not_mem_nil, or_false] at h
  rcases h with rfl | rfl | rfl | rfl | rfl | rfl | rfl <;> rfl
/-- a flat thing or one of the three kinds of containers -/
def IsKind (K : PySem.W.Frag) (H : Hp) (x : V) (T : String) : Prop := TyOf K H x (.type T) ∧ T ∈ kinds
theorem iteNF {A B : Prop} (h : A) : if (!false) = true then A else B := iteT (B := B) h
theorem iteNT {A B : Prop} (h : B) : if (!true) = true then A else B := iteF (A := A) h
theorem ifND {p A B : Prop} [Decidable p] (h1 : ¬ p → A) (h2 : p → B) : if (!decide p) = true then A else B := by
  by_cases h : p
  · rw [if_neg (by simpa using h)]; exact h2 h
  · rw [if_pos (by simpa using h)]; exact h1 h
/-- a power of two written numbers -/
theorem pe_powc {X : Cx} {a b v : Int} {j j' : Nat} {p p' pos : Pos} (h : a ^ b.toNat = v) (hb : CPow a b) : PE X (.BinOp (.Constant (.int a) j p) .Pow (.Constant (.int b) j' p') pos) (tC (.int v)) := by
  intro pins s σ H Q I hq
  exact pe_op op_pow pe_int pe_int pins s σ H Q I ⟨_, _, rfl, rfl, hb, by show Q (V.int (a ^ b.toNat)) H; rw [h]; exact hq⟩
end L2
namespace L2
open PySem PySem.Spec PyProof.Rows
/-! ### an exception that flies -/
theorem ObjOk.get {P : Program} {w : World} {H : Hp} {h : Heap} {a : Addr} {o : HO} (x : ObjOk P w H h a o) : ∃ u, h.get? a = some u := by
  cases o with
  | lst xs => obtain ⟨_, _, _, _, e⟩ := x; exact ⟨_, e⟩
  | tup xs => obtain ⟨_, _, _, _, e, _⟩ := x; exact ⟨_, e⟩
  | dK kvs => obtain ⟨_, _, _, _, _, _, _, e, _⟩ := x; exact ⟨_, e⟩
  | set S n => obtain ⟨_, _, _, _, e, _⟩ := x; exact ⟨_, e⟩
  | ins C dx fs => obtain ⟨_, _, _, e, _⟩ := x; exact ⟨_, e⟩
  | own y => exact x
  | xd fs => obtain ⟨_, ⟨_, _, _, e, _⟩, _⟩ := x; exact ⟨_, e⟩
  | rng lo hi => obtain ⟨_, _, _, e⟩ := x; exact ⟨_, e⟩
  | frz ob u => obtain ⟨e, _⟩ := x; exact ⟨_, e⟩
  | tbl ps => exact ⟨_, (show h.get? a = some _ from x)⟩
  | met f y => exact ⟨_, (show h.get? a = some _ from x)⟩
  | ext φ => obtain ⟨_, e, _⟩ := x; exact e
theorem HOk.gone {P : Program} {w : World} {H : Hp} {h : Heap} {a : Addr} (x : HOk P w H h) (e : h.get? a = none) : H a = none := by
  cases q : H a with
  | none => rfl
  | some o =>
    obtain ⟨u, z⟩ := (x a o q).get
    rw [e] at z; cases z
/-- new since g, not tracked; its class C -/
structure ExcAt (g : Heap) (H : Hp) (h : Heap) (e : Addr) (C : Value) : Prop where
  new : g.get? e = none
  free : H e = none
  ex : ∃ oe vs T oT ts a0, h.get? e = some oe ∧ (oe.cls = C ∧ vs[0]? = some a0) ∧ oe.data = .fields vs ∧ vs[1]? = some (.ref T) ∧ (g.get? T = none ∧ H T = none) ∧ T ≠ e ∧ h.get? T = some oT ∧ oT.data = .fields ts ∧ ts[3]? = some .none
def CXX (P : Program) (w : World) : CXT := fun outer H s E ev s' => ∃ e C H', ev = .ref e ∧ E C none H' ∧ s'.os = s.os ∧ AllBare s'.gens ∧ Un (frs outer) [] H H' s.heap s'.heap ∧ HOk P w H' s'.heap ∧ ExcAt s.heap H' s'.heap e C
structure Flew (X : Cx) (hid : List Addr) (h h' : Heap) : Prop where
  keep : ∀ b o, h.get? b = some o → b ∉ frs X.stack → b ∉ hid → h'.get? b = some o
  slot : h.UpToSlots h'
section
variable {X : Cx} {pins : List (Addr × Obj)} {σ : St} {H : Hp} {s : Shared} {h' : Heap} {hid : List Addr}
theorem Inv.unFlew (I : Inv X pins σ H s) (F : Flew X hid s.heap h') (hh : ∀ b ∈ hid, X.s₀.heap.get? b = none) : Un X.fs X.ex X.H₀ H X.s₀.heap h' where
  keep := fun b o q n hb hx => F.keep b o (I.base.keep b o q n hb hx)
    (fun z => (List.mem_cons.mp (I.stkSub b z)).elim (fun e => absurd (Nat.lt_of_lt_of_le (Heap.lt_size q) I.ok.above) (by rw [e]; exact Nat.lt_irrefl _)) hb) (fun z => by rw [hh b z] at q; cases q)
  slot := fun b o q n hb hx => by
    obtain ⟨sl, e1⟩ := I.base.slot b o q n hb hx
    obtain ⟨_, o', ho', hd⟩ := I.funs.mem hb
    rw [e1] at ho'; cases ho'
    obtain ⟨sl', e2⟩ := F.slot b _ e1 hd
    exact ⟨sl', e2⟩
  free := I.base.free
  there := fun b o q hx => by
    obtain ⟨o', e1⟩ := I.base.there b o q hx
    by_cases z : b ∈ frs X.stack
    · obtain ⟨_, o'', ho, hd⟩ := I.stack.mem z
      rw [e1] at ho; cases ho
      obtain ⟨sl, e2⟩ := F.slot b _ e1 hd
      exact ⟨_, e2⟩
    · exact ⟨o', F.keep b o' e1 z (fun y => by rw [hh b y] at q; cases q)⟩
  tups := I.base.tups
  frzs := I.base.frzs
  tbls := I.base.tbls
theorem Inv.hokFlew (I : Inv X pins σ H s) (F : Flew X hid s.heap h') (hf : ∀ b ∈ hid, H b = none) : HOk X.prog X.w H h' := fun a o q => by
  refine (I.hok a o q).stay (fun b u hb r => ?_) (fun _ z => z) fun _ _ z => z
  have t : H b ≠ none := by
    rcases hb with rfl | hb
    · rw [q]; exact fun z => nomatch z
    · rw [hb]; exact fun z => nomatch z
  exact F.keep b u r (fun z => t (I.stkFree b z)) fun z => t (hf b z)
theorem cell_flew {h : Heap} {c : Addr} {v : Option Value} (F : h.UpToSlots h') (z : h.IsCell c v) : h'.IsCell c v := by
  obtain ⟨o, ho, hd⟩ := z
  obtain ⟨sl, e⟩ := F c o ho (fun vs q => by rw [hd] at q; cases q)
  exact ⟨_, e, hd⟩
theorem Inv.flew (I : Inv X pins σ H s) (F : Flew X hid s.heap h') (hh : ∀ b ∈ hid, X.s₀.heap.get? b = none ∧ H b = none ∧ ∀ p ∈ X.pn ++ pins, p.1 ≠ b) : Inv X pins σ H { s with heap := h' } := by
  refine ⟨I.ok, I.os, I.bare, I.unFlew F fun b hb => (hh b hb).1, ?_, fun x c e => ?_, I.free, I.freeC, fun p hp => ?_, I.hokFlew F fun b hb => (hh b hb).2.1, I.len⟩
  · obtain ⟨m, hn, hl⟩ := I.loc
    refine ⟨m, F.slot.ns hn, fun i x v e1 e2 e3 => ?_⟩
    obtain ⟨u, r, l⟩ := hl i x v e1 e2 e3
    refine ⟨u, r, ?_⟩
    rcases l with l | ⟨k, c, e, z⟩
    · exact .inl l
    · exact .inr ⟨k, c, e, cell_flew F.slot z⟩
  · obtain ⟨v, z⟩ := I.cell x c e
    exact ⟨v, cell_flew F.slot z⟩
  · obtain ⟨e, n, ne, nf, d⟩ := I.pin p hp
    exact ⟨F.keep p.1 p.2 e (fun z => (List.mem_cons.mp (I.stkSub _ z)).elim ne nf) (fun z => (hh p.1 z).2.2 p hp rfl), n, ne, nf, d⟩
theorem exc_of {B h'' : Heap} {l : List Env} {e : Addr} {C a0 : Value} (I : Inv X pins σ H s) (F : Flew X hid s.heap h'') (hB : ∀ b o, s.heap.get? b = some o → b ∉ frs X.stack → b ∉ hid → B.get? b = some o)
    (fl : Heap.FlyingW B l e C a0 h'') (hh : ∀ b ∈ hid, X.s₀.heap.get? b = none ∧ H b = none) (he : X.s₀.heap.get? e = none ∧ H e = none) (hex : ∀ b, b ∉ X.ex) : ExcAt X.s₀.heap H h'' e C := by
  obtain ⟨_, _, _, oe, vs, T, oT, ts, h1, h2, h3, h4, h5, h6, h7, h8, h9⟩ := fl
  have key : ∀ o, s.heap.get? T = some o → T ∈ hid := fun o q => by
    by_cases z : T ∈ hid
    · exact z
    · exfalso
      by_cases y : T ∈ frs X.stack
      · obtain ⟨_, o', ho, hd⟩ := I.stack.mem y
        obtain ⟨sl, e2⟩ := F.slot T o' ho hd
        rw [h7] at e2; cases e2
        exact hd ts h8
      · have := hB T o q y z
        rw [h5] at this; cases this
  refine ⟨he.1, he.2, oe, vs, T, oT, ts, a0, h1, h2, h3, h4, ⟨?_, ?_⟩, h6, h7, h8, h9⟩
  · cases q : X.s₀.heap.get? T with
    | none => rfl
    | some o =>
      obtain ⟨o', e1⟩ := I.base.there T o q (hex T)
      rw [(hh T (key o' e1)).1] at q; cases q
  · cases q : H T with
    | none => rfl
    | some u =>
      obtain ⟨o', e1⟩ := (I.hok T u q).get
      rw [(hh T (key o' e1)).2] at q; cases q
end
section
variable {P : Program} {w : World} {K : PySem.W.Frag} {mg : Str → Option Value} {base : Heap} {N : List Str} {qual : Str} {scope : Scope} {f : Addr} {cd : Value} {A : Around} {outer : List Env} {s₀ : Shared} {H₀ : Hp} {E : XK}
theorem xe_made {pins : List (Addr × Obj)} {σ : St} {H : Hp} {s : Shared} {h' : Heap} {e : Addr} {C : Value} {vs : List Value} (I : Inv (cxOf (CXX P w) P w K mg base N qual scope f cd A outer s₀ H₀ E) pins σ H s)
    (hx : Heap.MadeExcOf s.heap h' e C vs) (hE : E C none H) : (cxOf (CXX P w) P w K mg base N qual scope f cd A outer s₀ H₀ E).xe (.ref e) { s with heap := h' } := by
  refine wpAny_leaves_madeW (base := PySem.W.hideAll s.heap (frs (cxOf (CXX P w) P w K mg base N qual scope f cd A outer s₀ H₀ E).stack)) (h := s.heap) (outer := outer) (L := s₀.heap.objs.size) I.ok.frames rfl (fun b o q => PySem.W.of_hideAll _ q)
    (PySem.W.funFrames_hide I.stack fun env he a ha => List.mem_filterMap.mpr ⟨env, he, ha⟩) hx fun h'' t x1 x2 x3 x4 => ?_
  have F : Flew (cxOf (CXX P w) P w K mg base N qual scope f cd A outer s₀ H₀ E) [] s.heap h'' := ⟨fun b o q n _ => x1.1 b o (PySem.W.hideAll_get _ q n), (Heap.UpToSlots.of_keeps hx.keeps).trans x4⟩
  refine ⟨e, C, H, rfl, hE, I.os, I.bare, I.unFlew F (fun b z => absurd z (by simp)), I.hokFlew F (fun b z => absurd z (by simp)), exc_of I F (fun b o q n _ => PySem.W.hideAll_get _ q n) x1 (fun b z => absurd z (by simp)) ⟨?_, I.hok.gone hx.new⟩ fun b z => absurd (show b ∈ ([] : List Addr) from z) (by simp)⟩
  cases q : s₀.heap.get? e with
  | none => exact q
  | some o =>
    obtain ⟨o', e1⟩ := I.base.there e o q fun z => absurd (show e ∈ ([] : List Addr) from z) (by simp)
    rw [hx.new] at e1; cases e1
theorem passX0 {X : Cx} : Passes (CXX P w) X E0 := fun _ _ _ _ _ _ _ ⟨_, _, _, _, hE, _⟩ => hE.elim
end
/-! ### a def that may raise -/
structure DefX (P : Program) (w : World) (K : PySem.W.Frag) (mg : Str → Option Value) (base : Heap) (k : Nat) (x : Str) (ps : List Str) (sp : Sp) : Prop where
  ex : ∃ (f : Addr) (fd : FuncData), FnOk P w K mg base (CXX P w) k f fd ps sp ∧ mg x = some (.ref f) ∧ PySem.W.keepIn K (.ref f) = true ∧ (∀ us : List Value, us.length = ps.length → bindArgs fd ⟨us, []⟩ = pure (ps.zip us))
section
variable {P : Program} {w : World} {K : PySem.W.Frag} {mg : Str → Option Value} {base : Heap} {x : Str} {st : Stmt} {N ps : List Str} {k : Nat} {sp : Sp}
theorem Src.okX (S : Src K mg x st ps) (sc : FnScope N ps (defScope st)) (len : ∀ vs H Q E, sp vs H Q E → vs.length = ps.length)
    (hbody : ∀ (f : Addr) (cdv : Value) (A : Around) (outer : List Env) (s : Shared) (H : Hp) (vs : List V) (Q : VK) (E : XK), Room k (A.deeper (envOfC x (defScope st) s.heap.objs.size f cdv)) → sp vs H Q E →
      ∃ t, PSs (cxOf (CXX P w) P w K mg base N x (defScope st) f cdv A outer s H E) (defBody st) t ∧ t { nx := fun _ H' => Q .non H', rt := Q } (start N vs) H) : DefX P w K mg base (k + 1) x ps sp := by
  obtain ⟨f, fd, F, hm, hb⟩ := S.ex
  have kp := F.kp
  obtain ⟨oc, od, kV, doc, pm, an, cdv, ct, osl, rfl, lk, hcd⟩ := F.ex
  exact ⟨f, _, fn_of lk hcd sc len (hbody f cdv), hm, kp, hb⟩
end
section
variable {X : Cx} {x : Str} {p pos : Pos} {e : Expr} {es : List Expr} {t : TA} {j k : Nat} {ps : List Str} {sp : Sp}
theorem pe_fnX {E : XK} (D : DefX X.prog X.w X.K X.mg X.base j x ps sp) (hr : Room k X.A) (hx : Passes (CXX X.prog X.w) X E) (ha : PA X (e :: es) t) (hg : Gl X x := by rfl) (hj : j ≤ k := by decide) (hdb : (x == ("__debug__" : Str)) = false := by decide)
    (he : starEach (e :: es) X.env = (false, eval e X.env) :: starEach es X.env := by rfl) (hpl : (backTo pos (starEach es X.env)).any (·.1) = false := by rfl) :
    PE X (.Call (.Name x p) (e :: es) [] pos) (tCall sp [] E t) := by
  obtain ⟨f, fd, F, hm, hk, hb⟩ := D.ex
  exact pe_call F (hr.mono hj) hg hm hk (.all hb) .nil hx ha hdb he hpl
end
/-! ### own classes of exceptions -/
def bmV : List Value := [.type "ValueError", .type "Exception", .type "BaseException", .type "object"]
/-- the address of the class of that name -/
def cA (K : PySem.W.Frag) (x : Str) : Addr := match PySem.W.nsIn K mainGlobals x with
  | some (some (.ref C)) => C
  | _ => 0
theorem cA_of {K : PySem.W.Frag} {x : Str} {C : Addr} (e : PySem.W.nsIn K mainGlobals x = some (some (.ref C))) : cA K x = C := by unfold cA; rw [e]
/-- what isinstance asks of the class of an exception -/
structure XK1 (K : PySem.W.Frag) (C : Addr) : Prop where
  ga : PySem.W.findIn K (.ref C) "__getattribute__" = some (some (.builtin "BaseException.__getattribute__"))
  gh : PySem.W.findIn K (.ref C) "__getattr__" = some none
  cl : PySem.W.findIn K (.ref C) "__class__" = some (some (.builtin "object.__class__"))
  gt : PySem.W.specialIn K (.builtin "object.__class__") "__get__" = some (some (.builtin "getset_descriptor.__get__"))
  tk : PySem.W.takesIn K (.builtin "object.__class__") = some true
  ob : PySem.W.mroIn K C (.type "object") = some true
  be : PySem.W.subIn K (.ref C) (.type "BaseException") = some true
/-- .. and what raising it asks -/
structure XK2 (K : PySem.W.Frag) (C : Addr) : Prop where
  ok : PySem.W.excIn K C bmV "ValueError.__new__" = true
theorem exc_obj {K : PySem.W.Frag} {h : Heap} {C : Addr} {bmB : List Value} {newId : String} (X : K.In h) (q : PySem.W.excIn K C bmB newId = true) :
    ∃ bm N nm qn bs hdct sn sub ab col dd k0 k1 k2 k3 k5 mN, h.get? C = some (excClassObj nm qn C N bs bm hdct sn sub ab col dd k0 k1 k2 k3 k5 newId) ∧ h.Ns N mN ∧ mN "__init__" = none ∧ OwnTail h bmB bm := by
  unfold PySem.W.excIn at q
  split at q
  · rename_i dd cd sl ho
    split at q
    · rename_i C' bm k0 k1 k2 k3 n k5 hm hs
      simp only [Bool.and_eq_true, Bool.not_eq_true', beq_iff_eq] at q
      obtain ⟨⟨⟨⟨⟨e1, e2⟩, hdel⟩, ht⟩, hok⟩, hni⟩ := q
      subst e1 e2
      obtain ⟨nm, bs, mro, ns, qn, hd, sn, sub, ab, col, del⟩ := cd
      dsimp only at hm hdel hok hni
      subst hm hdel
      obtain ⟨l⟩ := sl
      have hl : l = [k0, k1, k2, k3, some (.builtin n), k5] := hs
      subst hl
      exact ⟨bm, ns, nm, qn, bs, hd, sn, sub, ab, col, dd, k0, k1, k2, k3, k5, _, X _ _ ho, .of_isNs (PySem.W.isNs_of_in X hok), PySem.W.nsMap_none_of_in X hok hni, PySem.W.tail_of_in X ht⟩
    · cases q
  · cases q
section
variable {X : Cx} {x : Str} {np cpos pos : Pos} {e0 : Expr} {rest : List Expr} {t : TA} {E : XK}
def tRaise (C : Addr) (E : XK) (t : TA) : TS := fun _ σ H => t σ H fun vs H1 => vs.length ≤ sizeLine ∧ E (.ref C) none H1
/-- raise C(e, ..) -/
theorem ps_raise (hm : X.mg x = some (.ref (cA X.K x))) (xk : XK2 X.K (cA X.K x)) (hE : ∀ pins σ H s h' e vs, Inv X pins σ H s → Heap.MadeExcOf s.heap h' e (.ref (cA X.K x)) vs → E (.ref (cA X.K x)) none H → X.xe (.ref e) { s with heap := h' })
    (ha : PA X (e0 :: rest) t) (hc : X.calm = true := by rfl) (hg : Gl X x := by rfl) (hd : (x == ("__debug__" : Str)) = false := by decide) (he : starEach (e0 :: rest) X.env = (false, eval e0 X.env) :: starEach rest X.env := by rfl)
    (hpl : (backTo cpos (starEach rest X.env)).any (·.1) = false := by rfl) : PS X (.Raise (some (.Call (.Name x np) (e0 :: rest) [] cpos)) none pos) (tRaise (cA X.K x) E t) := by
  intro pins s σ H D I h
  obtain ⟨bm, N, nm, qn, bs, hdct, sn, sub, ab, col, dd, k0, k1, k2, k3, k5, mN, hC, hN, hni, T⟩ := exc_obj I.ok.mod.kin xk.ok
  refine wpAny_Raise_call_subT (C := cA X.K x) (nm := nm) (q := qn) (N := N) (bs := bs) (bm := bm) (hdct := hdct) (sn := sn) (sub := sub) (ab := ab) (col := col) (dd := dd) (k0 := k0) (k1 := k1) (k2 := k2) (k3 := k3) (k5 := k5)
    PySem.F.excBase_ValueError (mN := mN) (T.hasType PySem.F.excBase_ValueError.hasBase) (I.ok.hd hc) (by rw [he]; show (false || (backTo cpos (starEach rest X.env)).any (·.1)) = false; rw [hpl]; rfl) hni (ld_glob I hg hm ⟨rfl, ?_⟩ hd)
  have h2 := ha cpos pins s σ H _ I h
  rw [he] at h2 ⊢
  refine Calls.evalArgs_plain (thn h2 fun us s1 hq => ?_)
  obtain ⟨vs, H1, I1, r, hz, hE1⟩ := hq
  exact ⟨rfl, by rw [← r.length]; exact hz, I1.bk _ _ hC, hN.keeps I1.bk, T.keeps I1.bk, fun h' e hx => hE pins σ H1 s1 h' e us I1 hx hE1⟩
end
/-! ### isinstance of an exception -/
def ExcO (e : Addr) (C : Value) : HO := .ext fun h => ∃ o vs, h.get? e = some o ∧ o.cls = C ∧ o.data = .fields vs
section
open PySem.Builtin PySem.Builtin.ObjectAttr PySem.Builtin.Getset_descriptor
variable {prog : Program} {w : World} {A : Around} {E : Value → Shared → Prop} {s : Shared} {K : PySem.W.Frag} {e C : Addr} {oe : Obj}
theorem xtype {M : Model} {h : Heap} (hx : h.get? e = some oe) (hc : oe.cls = .ref C) : PySem.W.Looks M h (typeOf (.ref e)) (.ref C) := hc ▸ (PySem.W.Looks.ld hx).andThen .now
theorem xclass_get {R : Result → Shared → Prop} {tp : Value} (X : K.In s.heap) (hx : s.heap.get? e = some oe) (hc : oe.cls = .ref C) (hm : PySem.W.mroIn K C (.type "object") = some true) (h : R (.ok (.ret (.ref C))) s) :
    codeAny (model prog w) A (.call (.builtin "getset_descriptor.__get__") ⟨[.builtin "object.__class__", .ref e, tp], []⟩) R s := by
  obtain ⟨hh, g, dr, t, os⟩ := s
  have M0 := xtype (M := model prog w) hx hc
  have M1 := PySem.W.looks_mroIn (M := model prog w) X hm
  refine codeAny_call_builtin PySem.W.KF.slot_gs.plain PySem.W.KF.entry_gs (PySem.W.KF.slot_gs.check _ _ _ _ _ _ _ _ PySem.W.KF.type_class (PySem.W.KF.args_gs _ _ _) ?_)
  unfold Builtin.«getset_descriptor.__get__» descrGet
  rw [PySem.W.dga_obj]
  refine wpAny_bind (wpAny_pure ?_)
  unfold descrGetter descrCheckInstance descrNameAndClass isInstance
  simp only [PySem.W.KF.owner_class]
  repeat lk
  refine ⟨Code.quiet_builtin _ (by decide +kernel), codeAny_builtin PySem.W.KF.entry_class ?_⟩
  unfold Builtin.«object.__class__» shownTypeOf
  repeat lk
  exact h
theorem xfind {M : Model} {h : Heap} (X : K.In h) (Z : XK1 K C) : PySem.W.Looks M h (find (.ref e) (.ref C) "__class__") (.bind (.builtin "getset_descriptor.__get__") (.builtin "object.__class__")) := by
  intro A Q E s k q
  have X' := X.keeps k
  obtain ⟨hh, g, d, t, os⟩ := s
  have L1 := PySem.W.looks_findIn (M := M) X' Z.cl
  have L2 := PySem.W.looks_specialIn (M := M) X' Z.gt
  have L3 := PySem.W.looks_takesIn (M := M) X' Z.tk
  unfold find
  refine wpAny_bind (L1.at (wpAny_bind (L2.at (wpAny_bind (wpAny_bind (L3.at ?_))))))
  repeat lk
  exact q
theorem xclass_attr {Q : Option Value → Shared → Prop} (X : K.In s.heap) (Z : XK1 K C) (hx : s.heap.get? e = some oe) (hc : oe.cls = .ref C) (h : Q (some (.ref C)) { s with toks := s.toks + 1 }) :
    wpAny (model prog w) A (getAttr? (.ref e) "__class__") Q E s := by
  obtain ⟨hh, g, d, t, os⟩ := s
  have L0 := xtype (M := model prog w) hx hc
  have L1 := PySem.W.looks_findIn (M := model prog w) X Z.ga
  have L2 := PySem.W.looks_findIn (M := model prog w) X Z.gh
  have L3 := xfind (M := model prog w) (e := e) X Z
  have L4 := PySem.W.looks_subIn (M := model prog w) X Z.be
  have hk : builtinKind "BaseException.__getattribute__" = some .slot := by decide +kernel
  have hsplit : splitId "BaseException.__getattribute__" = some ("BaseException", "__getattribute__") := by decide +kernel
  unfold getAttr? getAttrBy? getAttrBy
  refine wpAny_bind (wpAny_mkText (wpAny_bind (wpAny_attempt (wpAny_holding (wpAny_bind (L0.at (wpAny_bind (L1.at ?_))))))))
  have hne : (Value.builtin "BaseException.__getattribute__" == Value.builtin "object.__getattribute__") = false := by decide +kernel
  dsimp only
  rw [if_neg (by rw [hne, Bool.and_false]; exact Bool.false_ne_true)]
  unfold getAttrByItsOwn hookBefore
  rw [if_pos (show onTheHeap (Value.ref C) = true from rfl)]
  refine wpAny_bind (L2.at ?_)
  refine wpAny_bind (wpAny_attempt (wpAny_holding ?_))
  unfold callGetattribute boundAndCalled
  rw [if_neg (show ¬ (false && onTheHeap (Value.builtin "BaseException.__getattribute__")) = true from Bool.false_ne_true)]
  refine wpAny_bind (wpAny_of_eq (PySem.F.attr_ValueError.ga.bind (.ref e)) ?_)
  refine wpAny_call (codeAny_call_builtin PySem.F.attr_ValueError.ga.plain PySem.F.entry_bexc_ga ?_)
  have ha := F.args_bexc_ga (.ref e) (.str "__class__" t)
  simp only [checkBuiltinCall, hk, hsplit]
  unfold isInstance
  repeat (any_goals (first | with_reducible refine PySem.W.Looks.at (by assumption) ?_ | wp_step))
  refine xclass_get (s := ⟨hh, g, d, t + 1, os⟩) X hx hc Z.ob (wpAny_pure ?_)
  show wpAny _ _ (handedOut (.ref C)) _ _ _
  repeat (any_goals (first | assumption | wp_step))
end
end L2
namespace L2
open PySem PySem.Spec PyProof.Rows
section
variable {K : PySem.W.Frag} {e C : Addr}
theorem cls_of_mro {v : Value} {b : Bool} (h : PySem.W.mroIn K C v = some b) : ∃ c d cd sl, K.lookup C = some ⟨c, d, .cls cd, sl⟩ := by
  unfold PySem.W.mroIn PySem.W.clsIn at h
  obtain ⟨cd, hc, _⟩ := Option.bind_eq_some_iff.mp h
  split at hc
  · rename_i c d cd' sl ho
    exact ⟨c, d, cd', sl, ho⟩
  · cases hc
theorem kitx_exc (Z : XK1 K C) : PySem.W.KitX K (.ref e) (.ref C) (fun h => ∃ o vs, h.get? e = some o ∧ o.cls = .ref C ∧ o.data = .fields vs) where
  ty := fun M h X p => by
    obtain ⟨o, vs, h1, h2, _⟩ := p
    exact xtype h1 h2
  it := fun M h X _ => by
    obtain ⟨c, d, cd, sl, ho⟩ := cls_of_mro Z.ob
    intro A Q E s k q
    unfold isType loadHead
    exact wpAny_bind (wpAny_loadPart (k _ _ (X _ _ ho)) (wpAny_pure q))
  ne := fun h tp dd its n sl X htp => by
    obtain ⟨c, d, cd, sl', ho⟩ := cls_of_mro Z.ob
    refine Bool.eq_false_iff.mpr fun q => ?_
    have e : C = tp := Value.ref.inj (beq_iff_eq.mp q)
    subst e
    have z := (X _ _ ho).symm.trans htp
    cases z
  ca := fun X p k => by
    obtain ⟨o, vs, h1, h2, _⟩ := p
    exact xclass_attr X Z h1 h2 k
end
section
variable {X : Cx}
theorem exc_get {pins : List (Addr × Obj)} {σ : St} {H : Hp} {s : Shared} {e : Addr} {C : Value} (I : Inv X pins σ H s) (h : H e = some (ExcO e C)) : ∃ o vs, s.heap.get? e = some o ∧ o.cls = C ∧ o.data = .fields vs := (I.hok e _ h).1
/-- isinstance(e, C), C an own class or a built-in one -/
theorem call_isiO (K : PySem.W.Frag) (hK : X.K = K := by rfl) : CallR X (.builtin "isinstance") (fun xs H Q => ∃ e C D b, xs = [.ref e, .ref D] ∧ H e = some (ExcO e (.ref C)) ∧ XK1 K C ∧ PySem.W.kitOne K (.ref C) (.ref D) = some b ∧ Q (.bl b) H) := by
  subst hK
  intro pins s σ H xs us Q I r h
  obtain ⟨e, C, D, b, rfl, he, Z, kit, q⟩ := h
  obtain ⟨u, v, rfl, ru, rv⟩ := vals2 r
  cases ru
  cases rv
  exact PySem.W.kia_one (kitx_exc Z) I.kIn (exc_get I he) kit (fun z => nomatch z) fun tk => ⟨.bl b, H, I.tok tk, rfl, q⟩
theorem call_isiB (K : PySem.W.Frag) (hK : X.K = K := by rfl) : CallR X (.builtin "isinstance") (fun xs H Q => ∃ e C n b, xs = [.ref e, .ty n] ∧ H e = some (ExcO e (.ref C)) ∧ XK1 K C ∧ PySem.W.kitOne K (.ref C) (.type n) = some b ∧ Q (.bl b) H) := by
  subst hK
  intro pins s σ H xs us Q I r h
  obtain ⟨e, C, D, b, rfl, he, Z, kit, q⟩ := h
  obtain ⟨u, v, rfl, ru, rv⟩ := vals2 r
  cases ru
  cases rv
  exact PySem.W.kia_one (kitx_exc Z) I.kIn (exc_get I he) kit (fun z => nomatch z) fun tk => ⟨.bl b, H, I.tok tk, rfl, q⟩
theorem vals_refs : ∀ {ds : List Addr} {us : List Value}, Vals (ds.map V.ref) us → us = ds.map Value.ref
  | [], _, .nil => rfl
  | d :: ds, _, .cons r t => by
    cases r
    rw [vals_refs t]; rfl
/-- isinstance(e, (C, D, ..)), own classes -/
theorem call_isiT (K : PySem.W.Frag) (hK : X.K = K := by rfl) : CallR X (.builtin "isinstance") (fun xs H Q => ∃ (e C tp : Addr) (ds : List Addr) (b : Bool), xs = [.ref e, .ref tp] ∧ H e = some (ExcO e (.ref C)) ∧ XK1 K C ∧ H tp = some (.tup (ds.map V.ref)) ∧ PySem.W.kitAny K (.ref C) (ds.map Value.ref) = some b ∧ Q (.bl b) H) := by
  subst hK
  intro pins s σ H xs us Q I r h
  obtain ⟨e, C, tp, ds, b, rfl, he, Z, ht, kit, q⟩ := h
  obtain ⟨u, v, rfl, ru, rv⟩ := vals2 r
  cases ru
  cases rv
  obtain ⟨its, vi, pl, hz⟩ := I.tuple (SqT.of ht)
  have ei := vals_refs vi
  subst ei
  obtain ⟨o, ho, hc, n, hd⟩ := pl
  obtain ⟨c, dd, dt, sl⟩ := o
  dsimp only at hc hd
  subst hc hd
  exact PySem.W.kia_tup (kitx_exc Z) I.kIn (exc_get I he) ho kit (fun z => nomatch z) fun tk => ⟨.bl b, H, I.tok tk, rfl, q⟩
end
/-! ### try: y = f(..) except C as n: suite -/
abbrev Cx.held (X : Cx) (e : Addr) : Cx := { X with A := X.A.mark (some (.ref e)), calm := false, xe := fun _ _ => False }
section
variable {X : Cx} {pins : List (Addr × Obj)} {σ : St} {H : Hp} {s : Shared} {e : Addr}
theorem Inv.held (I : Inv X pins σ H s) (e : Addr) : Inv (X.held e) pins σ H s :=
  ⟨⟨I.ok.mod, I.ok.kind, I.ok.glob, I.ok.blt, I.ok.above, I.ok.inj, I.ok.has, I.ok.cab, fun z => (Bool.false_ne_true z).elim, I.ok.frames, I.ok.stk, I.ok.exf, I.ok.bs, I.ok.bsz, I.ok.noex, I.ok.exfs, I.ok.funs, I.ok.frf⟩,
    I.os, I.bare, I.base, I.loc, I.cell, I.free, I.freeC, I.pin, I.hok, I.len⟩
theorem Inv.unheld (ok : X.Ok) (I : Inv (X.held e) pins σ H s) : Inv X pins σ H s := ⟨ok, I.os, I.bare, I.base, I.loc, I.cell, I.free, I.freeC, I.pin, I.hok, I.len⟩
theorem Inv.track {o : HO} (I : Inv X pins σ H s) (hn : H e = none) (h0 : X.s₀.heap.get? e = none) (hL : e ≠ X.env.locals) (hC : ∀ x c, X.env.cells.lookup x = some c → c ≠ e) (hp : ∀ p ∈ X.pn ++ pins, p.1 ≠ e)
    (new : ObjOk X.prog X.w (upd H e o) s.heap e o) : Inv X pins σ (upd H e o) s := by
  refine ⟨I.ok, I.os, I.bare, ⟨I.base.keep, I.base.slot, fun b u q n hx => ?_, I.base.there, fun b xs q => ?_, fun b u v q => ?_, fun b ps q => ?_⟩, I.loc, I.cell, ?_, fun x c q => ?_, fun p q => ?_, fun b u q => ?_, I.len⟩
  · rw [upd_ne (fun z => by rw [z, h0] at q; cases q)]
    exact I.base.free b u q n hx
  · have z := I.base.tups b xs q
    rw [upd_ne (ne_of_none z hn)]; exact z
  · have z := I.base.frzs b u v q
    rw [upd_ne (ne_of_none z hn)]; exact z
  · obtain ⟨more, z⟩ := I.base.tbls b ps q
    exact ⟨more, by rw [upd_ne (ne_of_none z hn)]; exact z⟩
  · rw [upd_ne (Ne.symm hL)]; exact I.free
  · rw [upd_ne (hC x c q)]; exact I.freeC x c q
  · obtain ⟨a, b, c, d, f⟩ := I.pin p q
    exact ⟨a, by rw [upd_ne (hp p q)]; exact b, c, d, f⟩
  · by_cases hb : b = e
    · subst hb
      rw [upd_same] at q; cases q
      exact new
    · rw [upd_ne hb] at q
      exact (I.hok b u q).stay (fun _ _ _ z => z) (fun c z => by rw [upd_ne (ne_of_none z hn)]; exact z) fun c xs z => by rw [upd_ne (ne_of_none z hn)]; exact z
theorem Inv.forgetLoc {h' : Heap} {m' : Str → Option Value} {t' : Nat} (I : Inv X pins σ H s) (hn : h'.Ns X.env.locals m') (hs : Heap.SameBut X.env.locals s.heap h') : Inv X pins (List.replicate X.N.length none) H { s with heap := h', toks := t' } := by
  have neL : ∀ b o, X.s₀.heap.get? b = some o → b ≠ X.env.locals := fun b o q => Nat.ne_of_lt (Nat.lt_of_lt_of_le (Heap.lt_size q) I.ok.above)
  refine ⟨I.ok, I.os, I.bare, ⟨fun b o q n hb hx => (hs.2 b (neL b o q)).trans (I.base.keep b o q n hb hx), fun b o q n hb hx => ?_, I.base.free, fun b o q hx => ?_, I.base.tups, I.base.frzs, I.base.tbls⟩, ⟨m', hn, fun i x v e1 e2 e3 => ?_⟩, fun x c q => ?_, I.free, I.freeC, fun p hp => ?_, fun a o q => ?_, by rw [List.length_replicate]⟩
  · obtain ⟨sl, e1⟩ := I.base.slot b o q n hb hx
    exact ⟨sl, (hs.2 b (neL b o q)).trans e1⟩
  · obtain ⟨o', e1⟩ := I.base.there b o q hx
    exact ⟨o', (hs.2 b (neL b o q)).trans e1⟩
  · rw [List.getElem?_replicate] at e2
    split at e2 <;> cases e2
  · obtain ⟨v, o, ho, hd⟩ := I.cell x c q
    exact ⟨v, o, (hs.2 c (I.cne x c q)).trans ho, hd⟩
  · obtain ⟨a, b, c, d, f⟩ := I.pin p hp
    exact ⟨(hs.2 p.1 c).trans a, b, c, d, f⟩
  · refine (I.hok a o q).stay (fun b u hb r => (hs.2 b ?_).trans r) (fun _ z => z) fun _ _ z => z
    intro z
    have t : H b ≠ none := by
      rcases hb with rfl | hb
      · rw [q]; exact fun z => nomatch z
      · rw [hb]; exact fun z => nomatch z
    exact t (by rw [z]; exact I.free)
end
end L2
namespace L2
open PySem PySem.Spec PyProof.Rows
/-! ### the facts of classes, as they stand behind the top -/
section
variable {K : PySem.W.Frag} {h : Heap} {mg : Str → Option Value} {x y : Str} {C D : Addr} {v : Bool} {n : String}
theorem nsHave (X : K.In h) (a : PySem.W.nsIn K mainGlobals x = some (some (.ref C))) : PySem.W.nsIn K mainGlobals x = some (some (.ref C)) := a
theorem m_mk (X : K.In h) (G : h.Ns mainGlobals mg) (a : PySem.W.nsIn K mainGlobals x = some (some (.ref C))) : mg x = some (.ref (cA K x)) := by
  rw [cA_of a]; exact PySem.W.mg_of X G a
theorem x2_mk (a : PySem.W.nsIn K mainGlobals x = some (some (.ref C))) (q : PySem.W.excIn K C [.type "ValueError", .type "Exception", .type "BaseException", .type "object"] "ValueError.__new__" = true) : XK2 K (cA K x) := by
  rw [cA_of a]; exact ⟨q⟩
theorem x1_mk (a : PySem.W.nsIn K mainGlobals x = some (some (.ref C))) (q1 : PySem.W.findIn K (.ref C) "__getattribute__" = some (some (.builtin "BaseException.__getattribute__"))) (q2 : PySem.W.findIn K (.ref C) "__getattr__" = some none)
    (q3 : PySem.W.findIn K (.ref C) "__class__" = some (some (.builtin "object.__class__"))) (q4 : PySem.W.specialIn K (.builtin "object.__class__") "__get__" = some (some (.builtin "getset_descriptor.__get__")))
    (q5 : PySem.W.takesIn K (.builtin "object.__class__") = some true) (q6 : PySem.W.mroIn K C (.type "object") = some true) (q7 : PySem.W.subIn K (.ref C) (.type "BaseException") = some true) : XK1 K (cA K x) := by
  rw [cA_of a]; exact ⟨q1, q2, q3, q4, q5, q6, q7⟩
theorem kit_mk (a : PySem.W.nsIn K mainGlobals x = some (some (.ref C))) (b : PySem.W.nsIn K mainGlobals y = some (some (.ref D))) (q : PySem.W.kitOne K (.ref C) (.ref D) = some v) : PySem.W.kitOne K (.ref (cA K x)) (.ref (cA K y)) = some v := by
  rw [cA_of a, cA_of b]; exact q
theorem kitB_mk (a : PySem.W.nsIn K mainGlobals x = some (some (.ref C))) (q : PySem.W.kitOne K (.ref C) (.type n) = some v) : PySem.W.kitOne K (.ref (cA K x)) (.type n) = some v := by
  rw [cA_of a]; exact q
inductive NL (K : PySem.W.Frag) : List Str → List Addr → Prop
  | nil : NL K [] []
  | cons {x : Str} {C : Addr} {xs : List Str} {Cs : List Addr} (a : PySem.W.nsIn K mainGlobals x = some (some (.ref C))) (l : NL K xs Cs) : NL K (x :: xs) (C :: Cs)
theorem NL.eq {xs : List Str} {Cs : List Addr} (l : NL K xs Cs) : xs.map (cA K) = Cs := by
  induction l with
  | nil => rfl
  | cons a _ ih => rw [List.map_cons, cA_of a, ih]
theorem any_mk {xs : List Str} {Cs : List Addr} (a : PySem.W.nsIn K mainGlobals x = some (some (.ref C))) (l : NL K xs Cs) (q : PySem.W.kitAny K (.ref C) (Cs.map Value.ref) = some v) :
    PySem.W.kitAny K (.ref (cA K x)) ((xs.map (cA K)).map Value.ref) = some v := by
  rw [cA_of a, l.eq]; exact q
theorem exm_mk (a : PySem.W.nsIn K mainGlobals x = some (some (.ref C))) (b : PySem.W.nsIn K mainGlobals y = some (some (.ref D))) (q1 : PySem.W.subIn K (.ref D) (.type "BaseException") = some true)
    (q2 : PySem.W.isClsIn K D = true) (q3 : PySem.W.typeIn K (.ref D) = some (.type "type")) (q4 : PySem.W.subIn K (.ref C) (.ref D) = some true) : PySem.W.exmOne K (.ref (cA K x)) (.ref (cA K y)) = some true := by
  rw [cA_of a, cA_of b]
  unfold PySem.W.exmOne PySem.W.kitCls
  unfold PySem.W.isClsIn at q2
  rw [q1, if_pos (by decide)]
  dsimp only
  rw [q2, q3, if_pos (by decide)]
  exact q4
end
end L2
namespace L2
open PySem PySem.Spec PyProof.Rows
section
variable {P : Program} {w : World} {K : PySem.W.Frag} {mg : Str → Option Value} {base : Heap} {x : Str} {st : Stmt} {N ps : List Str} {k : Nat} {sp : Sp}
end
section
variable {X : Cx} {x : Str} {p pos : Pos} {e : Expr} {es : List Expr} {t : TA} {j k : Nat} {ps : List Str} {sp : Sp}
end
/-! ### lists by what is true of each item -/
theorem at_mem {xs : List V} {k : Int} (h0 : 0 ≤ k) (h : k < (xs.length : Int)) : ∃ v, atI xs k = some v ∧ v ∈ xs := by
  have hk : k.toNat < xs.length := by omega
  have q : atI xs ((k.toNat : Nat) : Int) = some xs[k.toNat] := atI_nat (List.getElem?_eq_getElem hk)
  rw [show ((k.toNat : Nat) : Int) = k by omega] at q
  exact ⟨_, q, List.getElem_mem hk⟩
theorem mem1 {v : V} {xs : List V} {p : V → Prop} (h : p v) (t : ∀ x ∈ xs, p x) : ∀ x ∈ v :: xs, p x := fun x hx => by
  rcases List.mem_cons.mp hx with rfl | hx
  · exact h
  · exact t x hx
theorem mem0 {p : V → Prop} : ∀ x ∈ ([] : List V), p x := fun x hx => by cases hx
theorem same_gone {H H' : Hp} {a : Addr} (s : Same H H') (h : H' a = none) : H a = none := by
  cases q : H a with
  | none => rfl
  | some o => rw [s a o q] at h; cases h
/-- a list that is newer than H is changed -/
theorem same_put {H H' : Hp} {l : Addr} {o : HO} (s : Same H H') (h : H l = none) : Same H (upd H' l o) := fun b u q => by
  rw [upd_ne (ne_of_none q h)]; exact s b u q
/-! ### lists of ints as data -/
theorem canLay_ints : ∀ ns : List Int, PyData.canLayAll0 (ns.map PyData.int) = true
  | [] => by simp [PyData.canLayAll0]
  | n :: ns => by simp [PyData.canLayAll0, PyData.canLay0, canLay_ints ns]
theorem depth_ints : ∀ ns : List Int, PyData.depthAll (ns.map PyData.int) = 0
  | [] => by simp [PyData.depthAll]
  | n :: ns => by simp [PyData.depthAll, PyData.depth, depth_ints ns]
theorem shaped_ints (ns : List Int) : SeqAt.shaped (.list (ns.map PyData.int)) = true := by
  simp [SeqAt.shaped, PyData.canLay0, PyData.depth, canLay_ints, depth_ints]
end L2
namespace L2
open PySem PySem.W PyProof.Rows
def tSeqN (t u : TS) : TS := tSeq t u
theorem pss_consN {X : Cx} {st : Stmt} {rest : List Stmt} {t u : TS} (h1 : PS X st t) (h2 : PSs X rest u) : PSs X (st :: rest) (tSeqN t u) := pss_cons h1 h2
def Mkd (p : Prop) : Prop := p
variable {t1 t2 t3 t4 t5 t6 t7 t8 t9 t10 : TS} {D : Ends} {σ : St} {H : Hp}
theorem sqG (h : Mkd (tSeqN t1 t2 D σ H)) : tSeqN t1 t2 D σ H := h
theorem sqN2 (h : let v1 := t2; tSeq t1 v1 D σ H) : Mkd ((tSeqN t1 t2) D σ H) := h
theorem sqN3 (h : let v2 := t3; let v1 := tSeq t2 v2; tSeq t1 v1 D σ H) : Mkd ((tSeqN t1 (tSeqN t2 t3)) D σ H) := h
theorem sqN4 (h : let v3 := t4; let v2 := tSeq t3 v3; let v1 := tSeq t2 v2; tSeq t1 v1 D σ H) : Mkd ((tSeqN t1 (tSeqN t2 (tSeqN t3 t4))) D σ H) := h
theorem sqN5 (h : let v4 := t5; let v3 := tSeq t4 v4; let v2 := tSeq t3 v3; let v1 := tSeq t2 v2; tSeq t1 v1 D σ H) : Mkd ((tSeqN t1 (tSeqN t2 (tSeqN t3 (tSeqN t4 t5)))) D σ H) := h
theorem sqN6 (h : let v5 := t6; let v4 := tSeq t5 v5; let v3 := tSeq t4 v4; let v2 := tSeq t3 v3; let v1 := tSeq t2 v2; tSeq t1 v1 D σ H) : Mkd ((tSeqN t1 (tSeqN t2 (tSeqN t3 (tSeqN t4 (tSeqN t5 t6))))) D σ H) := h
theorem sqN7 (h : let v6 := t7; let v5 := tSeq t6 v6; let v4 := tSeq t5 v5; let v3 := tSeq t4 v4; let v2 := tSeq t3 v3; let v1 := tSeq t2 v2; tSeq t1 v1 D σ H) : Mkd ((tSeqN t1 (tSeqN t2 (tSeqN t3 (tSeqN t4 (tSeqN t5 (tSeqN t6 t7)))))) D σ H) := h
theorem sqN8 (h : let v7 := t8; let v6 := tSeq t7 v7; let v5 := tSeq t6 v6; let v4 := tSeq t5 v5; let v3 := tSeq t4 v4; let v2 := tSeq t3 v3; let v1 := tSeq t2 v2; tSeq t1 v1 D σ H) : Mkd ((tSeqN t1 (tSeqN t2 (tSeqN t3 (tSeqN t4 (tSeqN t5 (tSeqN t6 (tSeqN t7 t8))))))) D σ H) := h
theorem sqN9 (h : let v8 := t9; let v7 := tSeq t8 v8; let v6 := tSeq t7 v7; let v5 := tSeq t6 v6; let v4 := tSeq t5 v5; let v3 := tSeq t4 v4; let v2 := tSeq t3 v3; let v1 := tSeq t2 v2; tSeq t1 v1 D σ H) : Mkd ((tSeqN t1 (tSeqN t2 (tSeqN t3 (tSeqN t4 (tSeqN t5 (tSeqN t6 (tSeqN t7 (tSeqN t8 t9)))))))) D σ H) := h
theorem sqN10 (h : let v9 := t10; let v8 := tSeq t9 v9; let v7 := tSeq t8 v8; let v6 := tSeq t7 v7; let v5 := tSeq t6 v6; let v4 := tSeq t5 v5; let v3 := tSeq t4 v4; let v2 := tSeq t3 v3; let v1 := tSeq t2 v2; tSeq t1 v1 D σ H) : Mkd ((tSeqN t1 (tSeqN t2 (tSeqN t3 (tSeqN t4 (tSeqN t5 (tSeqN t6 (tSeqN t7 (tSeqN t8 (tSeqN t9 t10))))))))) D σ H) := h
inductive Ee4 {α0 α1 α2 α3 : Type} (p : α0 → α1 → α2 → α3 → Prop) : Prop | mk (x0 : α0) (x1 : α1) (x2 : α2) (x3 : α3) (h : p x0 x1 x2 x3) : Ee4 p
inductive Aa3 (a0 a1 a2 : Prop) : Prop | mk (h0 : a0) (h1 : a1) (h2 : a2) : Aa3 a0 a1 a2
inductive Aa4 (a0 a1 a2 a3 : Prop) : Prop | mk (h0 : a0) (h1 : a1) (h2 : a2) (h3 : a3) : Aa4 a0 a1 a2 a3
inductive Aa6 (a0 a1 a2 a3 a4 a5 : Prop) : Prop | mk (h0 : a0) (h1 : a1) (h2 : a2) (h3 : a3) (h4 : a4) (h5 : a5) : Aa6 a0 a1 a2 a3 a4 a5
inductive Aa7 (a0 a1 a2 a3 a4 a5 a6 : Prop) : Prop | mk (h0 : a0) (h1 : a1) (h2 : a2) (h3 : a3) (h4 : a4) (h5 : a5) (h6 : a6) : Aa7 a0 a1 a2 a3 a4 a5 a6
end L2
/-! min and max of a list of whole numbers -/
namespace L2
open PySem PySem.Spec PyProof.Rows
section
variable {X : Cx}
end
end L2
namespace L2
open PySem PySem.Spec PyProof.Rows
section
variable {prog : Program} {w : World} {A : Around} {E : Value → Shared → Prop} {s : Shared} {K : PySem.W.Frag} {e C f : Addr} {oe : Obj}
end
section
open PySem.Builtin PySem.Builtin.ObjectAttr
variable {prog : Program} {w : World} {A : Around} {E : Value → Shared → Prop} {s : Shared} {K : PySem.W.Frag} {e C f dx : Addr} {oe : Obj} {vs : Array Value} {mA : Str → Option Value} {name : Str} {v : Value}
end
section
open PySem.Builtin PySem.Builtin.ObjectAttr
variable {prog : Program} {w : World} {A : Around} {E : Value → Shared → Prop} {s : Shared} {K : PySem.W.Frag} {x C f dx : Addr} {o : Obj} {vs : Array Value} {mA : Str → Option Value} {name : Str} {v : Value}
set_option maxHeartbeats 2000000 in
end
section
variable {X : Cx} {pins : List (Addr × Obj)} {σ : St} {H : Hp} {s : Shared} {e : Addr}
theorem Inv.freshX (I : Inv X pins σ H s) (hn : s.heap.get? e = none) (hex : X.ex = []) : X.s₀.heap.get? e = none ∧ e ≠ X.env.locals ∧ (∀ x c, X.env.cells.lookup x = some c → c ≠ e) ∧ ∀ p ∈ X.pn ++ pins, p.1 ≠ e := by
  refine ⟨?_, fun z => ?_, fun x c q z => ?_, fun p hp z => ?_⟩
  · cases q : X.s₀.heap.get? e with
    | none => rfl
    | some o =>
      obtain ⟨o', e1⟩ := I.base.there e o q (by rw [hex]; simp)
      rw [hn] at e1; cases e1
  · obtain ⟨m, ⟨o, es, ep, ho, _⟩, _⟩ := I.loc
    rw [← z, hn] at ho; cases ho
  · obtain ⟨v, o, ho, hd⟩ := I.cell x c q
    rw [z, hn] at ho; cases ho
  · have := (I.pin p hp).1
    rw [z, hn] at this; cases this
theorem Inv.trackNew {o : HO} {h' : Heap} {t' : Nat} (I : Inv X pins σ H s) (k : ∀ b u, s.heap.get? b = some u → h'.get? b = some u) (hn : s.heap.get? e = none) (hex : X.ex = []) (new : ObjOk X.prog X.w (upd H e o) h' e o) :
    Inv X pins σ (upd H e o) { s with heap := h', toks := t' } :=
  let ⟨a, b, c, d⟩ := I.freshX hn hex
  (I.kept (t' := t') k).track (I.hok.gone hn) a b c d new
end
section
variable {X : Cx} {x : Str} {np pos : Pos} {e0 : Expr} {rest : List Expr} {t : TA}
end
section
variable {X : Cx} {o value : Expr} {name : Str} {pos pos' : Pos} {ta tv : TE} {C f : Addr}
end
section
variable {X : Cx} {x : Str} {np pos : Pos} {e0 : Expr} {t : TA} {C f : Addr} {fd : FuncData} {ps : List Str} {name : Str} {j k : Nat}
end
/-! ### the facts, as they stand behind the top -/
section
variable {X : Cx} {o : Expr} {name : Str} {pos : Pos} {ta : TE} {C : Addr}
end
section
variable {K : PySem.W.Frag} {h : Heap} {mg : Str → Option Value} {x : Str} {C f D : Addr}
end
end L2
namespace L2
open PySem PySem.Spec PyProof.Rows
/-! ### sets of whole numbers: what stands in the table, and how it is walked -/
namespace SetL
def Up (xs : Array Nat) : Prop := xs.toList.Pairwise (· < ·)
theorem up_lt {xs : Array Nat} (h : Up xs) {i j : Nat} (hi : i < j) (hj : j < xs.size) (d e : Nat) : xs.getD i d < xs.getD j e := by
  have hi' : i < xs.size := by omega
  have q := List.pairwise_iff_getElem.mp h i j (by simpa using hi') (by simpa using hj) hi
  simpa [Array.getD, hi', hj] using q
theorem go_spec {xs : Array Nat} {j : Nat} (h : Up xs) : ∀ (fuel lo hi : Nat), lo ≤ hi → hi ≤ xs.size → hi - lo ≤ fuel → (∀ i, i < lo → xs.getD i j < j) → (∀ i, hi ≤ i → i < xs.size → j ≤ xs.getD i j) →
    SetTable.below.go xs j fuel lo hi ≤ xs.size ∧ (∀ i, i < SetTable.below.go xs j fuel lo hi → xs.getD i j < j) ∧ ∀ i, SetTable.below.go xs j fuel lo hi ≤ i → i < xs.size → j ≤ xs.getD i j
  | 0, lo, hi, h1, h2, h3, a, b => by
    unfold SetTable.below.go
    exact ⟨by omega, a, fun i p q => b i (by omega) q⟩
  | fuel + 1, lo, hi, h1, h2, h3, a, b => by
    unfold SetTable.below.go
    by_cases hl : lo < hi
    · rw [if_pos hl]
      dsimp only
      by_cases hm : xs.getD ((lo + hi) / 2) j < j
      · rw [if_pos hm]
        refine go_spec h fuel _ hi (by omega) h2 (by omega) (fun i q => ?_) b
        by_cases e : i = (lo + hi) / 2
        · rw [e]; exact hm
        · exact Nat.lt_trans (up_lt h (by omega) (by omega) j j) hm
      · rw [if_neg hm]
        refine go_spec h fuel lo _ (by omega) (by omega) (by omega) a (fun i q r => ?_)
        by_cases e : i = (lo + hi) / 2
        · rw [e]; omega
        · have := up_lt h (i := (lo + hi) / 2) (j := i) (by omega) r j j
          omega
    · rw [if_neg hl]
      exact ⟨by omega, a, fun i p q => b i (by omega) q⟩
theorem below_spec {xs : Array Nat} (h : Up xs) (j : Nat) : SetTable.below xs j ≤ xs.size ∧ (∀ i, i < SetTable.below xs j → xs.getD i j < j) ∧ ∀ i, SetTable.below xs j ≤ i → i < xs.size → j ≤ xs.getD i j := by
  unfold SetTable.below
  exact go_spec h _ _ _ (Nat.zero_le _) (Nat.le_refl _) (by omega) (fun i q => by omega) fun i p q => by omega
theorem up_insert {xs : Array Nat} {j : Nat} (h : Up xs) (hj : xs[SetTable.below xs j]? ≠ some j) : Up (SetTable.insertAt xs (SetTable.below xs j) j) := by
  obtain ⟨h0, h1, h2⟩ := below_spec h j
  generalize SetTable.below xs j = p at *
  unfold Up
  rw [SetTable.toList_insertAt]
  have e : xs.toList = xs.toList.take p ++ xs.toList.drop p := (List.take_append_drop p _).symm
  have hp : (xs.toList.take p ++ xs.toList.drop p).Pairwise (· < ·) := by rw [← e]; exact h
  obtain ⟨a, b, c⟩ := List.pairwise_append.mp hp
  have lo : ∀ x ∈ xs.toList.take p, x < j := fun x hx => by
    obtain ⟨i, hi, rfl⟩ := List.mem_iff_getElem.mp hx
    rw [List.length_take, Array.length_toList] at hi
    have := h1 i (by omega)
    rw [List.getElem_take]
    simpa [Array.getD, show i < xs.size by omega] using this
  have hi : ∀ x ∈ xs.toList.drop p, j < x := fun x hx => by
    obtain ⟨i, hi, rfl⟩ := List.mem_iff_getElem.mp hx
    rw [List.length_drop, Array.length_toList] at hi
    have q := h2 (p + i) (by omega) (by omega)
    rw [List.getElem_drop]
    have g : xs.getD (p + i) j = xs.toList[p + i]'(by rw [Array.length_toList]; omega) := by simp [Array.getD, show p + i < xs.size by omega]
    rw [g] at q
    refine Nat.lt_of_le_of_ne q fun z => ?_
    by_cases i0 : i = 0
    · subst i0
      apply hj
      rw [Array.getElem?_eq_getElem (by omega : p < xs.size), z]
      simp
    · have q0 := h2 p (Nat.le_refl _) (by omega)
      have lt := up_lt h (i := p) (j := p + i) (by omega) (by omega) j j
      rw [g, ← z] at lt
      omega
  exact List.pairwise_append.mpr ⟨a, List.pairwise_cons.mpr ⟨hi, b⟩, fun x hx y hy => by
    rcases List.mem_cons.mp hy with rfl | hy
    · exact lo x hx
    · exact c x hx y hy⟩
/-- what holds of the table of a set that was filled and never lost anything -/
structure Tab (bt : Bool) (t : SetTable) : Prop where
  led : t.led = !bt
  dum : t.dummies = #[]
  up : t.plain = true → Up t.place
theorem has_none (j : Nat) : SetTable.has #[] j = false := by simp [SetTable.has]
theorem slot_cases {t : SetTable} (hd : t.dummies = #[]) (j : Nat) : t.slot j ≠ .dummy := by
  unfold SetTable.slot
  dsimp only
  split
  · intro z; cases z
  · rw [hd, has_none]; intro z; simp at z
theorem probe_empty {t : SetTable} (hd : t.dummies = #[]) {f : Nat → Int} {h : Int} : ∀ (fuel : Nat) (p : SetTable.Probe) {j : Nat} {d : Option Nat}, p.dummy = none → SetTable.probe.go t f h fuel p = some (.empty j d) → d = none ∧ t.slot j = .empty
  | 0, p, j, d, hp, e => by simp [SetTable.probe.go] at e
  | fuel + 1, p, j, d, hp, e => by
    have adv : ∀ q : SetTable.Probe, q.dummy = none → (t.advance q).dummy = none := fun q hq => by
      unfold SetTable.advance
      split
      · exact hq
      · exact hq
    unfold SetTable.probe.go at e
    cases hs : t.slot p.j with
    | empty =>
      rw [hs] at e
      cases e
      exact ⟨hp, hs⟩
    | dummy => exact absurd hs (slot_cases hd _)
    | live i =>
      rw [hs] at e
      dsimp only at e
      split at e
      · cases e
      · exact probe_empty hd fuel _ (adv p hp) e
theorem free_slot {t : SetTable} (hd : t.dummies = #[]) {h : Int} {j : Nat} {b : Bool} (e : t.freeSlot h = some (j, b)) : t.place[SetTable.below t.place j]? ≠ some j := by
  unfold SetTable.freeSlot at e
  split at e
  · rename_i j' d' q
    obtain ⟨rfl, hs⟩ := probe_empty hd _ _ rfl (show SetTable.probe.go t _ h _ _ = _ from q)
    cases e
    intro z
    have z' : t.place[SetTable.below t.place j']? = some j' := z
    unfold SetTable.slot at hs
    dsimp only at hs
    rw [if_pos (by rw [z']; simp)] at hs
    cases hs
  · cases e
theorem tab_stand {bt : Bool} {t : SetTable} (T : Tab bt t) (n : Nat) : Tab bt (t.standIn n) := ⟨T.led, rfl, fun z => by cases z⟩
theorem tab_put {bt : Bool} {t : SetTable} (T : Tab bt t) {j : Nat} (hj : t.place[SetTable.below t.place j]? ≠ some j) : Tab bt (t.put j).1 :=
  ⟨T.led, by show (if SetTable.has t.dummies j then _ else t.dummies) = #[]; rw [T.dum, has_none]; rfl, fun z => up_insert (T.up z) hj⟩
theorem tab_new {bt : Bool} {t : SetTable} (T : Tab bt t) (es : Array (Int × Value)) (h : Int) (x : Value) : Tab bt (layNew t es h x).2.1 := by
  unfold layNew
  split
  · rename_i j b e
    dsimp only
    unfold SetTable.orStandIn
    split
    · exact tab_put T (free_slot T.dum e)
    · exact tab_stand (tab_put T (free_slot T.dum e)) _
  · exact tab_stand T _
theorem up_live (owner : Array (Option Nat)) (m : Nat) : (((List.range m).filterMap fun j => (owner.getD j none).map (fun k => (j, k))).map (·.1)).Pairwise (· < ·) := by
  have e : (((List.range m).filterMap fun j => (owner.getD j none).map (fun k => (j, k))).map (·.1)) = (List.range m).filter fun j => (owner.getD j none).isSome := by
    generalize List.range m = l
    induction l with
    | nil => rfl
    | cons a l ih =>
      cases q : owner.getD a none with
      | none => rw [List.filterMap_cons, q, List.filter_cons, q]; simpa using ih
      | some k => rw [List.filterMap_cons, q, List.filter_cons, q]; simpa using ih
  rw [e]
  exact List.Pairwise.filter _ (List.pairwise_lt_range)
theorem tab_re {bt : Bool} {t : SetTable} (T : Tab bt t) (es : Array (Int × Value)) (n : Nat) : Tab bt (relayAll t es n).2.1 := by
  unfold relayAll
  split
  · rename_i t' order e
    dsimp only
    split
    · unfold SetTable.relaid SetTable.laid at e
      simp only [Option.bind_eq_bind, Option.bind_eq_some_iff] at e
      obtain ⟨owner, _, e⟩ := e
      cases e
      refine ⟨T.led, rfl, fun _ => ?_⟩
      unfold Up
      simpa using up_live owner _
    · exact tab_stand T _
  · exact tab_stand T _
theorem tab_fresh (bt : Bool) : Tab bt (.fresh 0 0 (!bt)) := ⟨rfl, rfl, fun _ => List.Pairwise.nil⟩
end SetL
end L2
namespace L2
open PySem PySem.Spec PyProof.Rows
namespace SetL
def intOf : Value → Int
  | .int i _ => i
  | _ => 0
theorem intOf_is {k : Int} {v : Value} (h : Value.isInt k v = true) : intOf v = k := by
  obtain ⟨t, rfl⟩ := Value.isInt_shape h
  rfl
/-- the set at a has just the whole numbers ms, in the order of its entries -/
structure SetI (prog : Program) (w : World) (h : Heap) (a : Addr) (ms : List Int) : Prop where
  ex : ∃ o es ep t, (h.get? a = some o ∧ o.ExactSet ∧ o.data = .set es ep t) ∧ (ElemsOf (intKind prog w) es.toList ∧ es.size < scanBound ∧ t.fits es.size = true) ∧ Tab (w.params.followText "set-order") t ∧
    es.toList.map (fun e => intOf e.2) = ms
  nd : ms.Nodup
theorem elems_is {prog : Program} {w : World} {l : List (Int × Value)} (hl : ElemsOf (intKind prog w) l) (k : Int) : (∃ e ∈ l, Value.isInt k e.2 = true) ↔ k ∈ l.map fun e => intOf e.2 := by
  constructor
  · rintro ⟨e, he, q⟩
    exact List.mem_map.mpr ⟨e, he, intOf_is q⟩
  · intro q
    obtain ⟨e, he, rfl⟩ := List.mem_map.mp q
    obtain ⟨⟨k', hk, _⟩, _⟩ := hl e he
    refine ⟨e, he, ?_⟩
    rw [intOf_is hk]; exact hk
section
variable {prog : Program} {w : World} {A : Around} {E : Value → Shared → Prop} {s : Shared} {a : Addr} {ms : List Int} {k : Int} {tk : Tok}
theorem xadd {Q : Bool → Shared → Prop} (S : SetI prog w s.heap a ms) (room : ms.length + 1 < scanBound)
    (hQ : ∀ b h' ms', Heap.SameBut a s.heap h' → SetI prog w h' a ms' → (∀ m, m ∈ ms' ↔ m ∈ ms ∨ m = k) → ms'.length ≤ ms.length + 1 → Q b { s with heap := h' }) :
    wpAny (model prog w) A (setAddHashed a (.int k tk) (hashInt k)) Q E s := by
  obtain ⟨⟨o, es, ep, t, ⟨ho, hex, hd⟩, ⟨hel, hb, hf⟩, T, rfl⟩, nd⟩ := S
  have hlen : (es.toList.map fun e => intOf e.2).length = es.size := by simp
  have hkey : (intKind prog w).is k (.int k tk) = true := intKind_is prog w k tk
  unfold setAddHashed setAddHashedIn
  refine wpAny_holding (wpAny_bind (wpAny_setState_of ho hd hf ?_))
  dsimp only
  rw [byScan_of (knd := intKind prog w) rfl hb hel]
  simp only [↓reduceIte]
  unfold setAddByScan
  refine wpAny_bind (wpAny_bind (wpAny_rule (wpAny_bind (wpAny_setScan_of (knd := intKind prog w) hkey ho hd hf hel ?_))))
  cases hr : List.findIdx? (fun e => (intKind prog w).is k e.2) es.toList with
  | some j =>
    obtain ⟨hj, hpj, _⟩ := List.findIdx?_eq_some_iff_getElem.mp hr
    have hm : k ∈ es.toList.map fun e => intOf e.2 := (elems_is hel k).mp ⟨es.toList[j], List.getElem_mem hj, hpj⟩
    refine wpAny_pure (wpAny_pure ?_)
    have z := hQ false s.heap _ (Heap.SameBut.refl a s.heap) ⟨⟨o, es, ep, t, ⟨ho, hex, hd⟩, ⟨hel, hb, hf⟩, T, rfl⟩, nd⟩ (fun m => ⟨.inl, fun q => q.elim id fun e => e ▸ hm⟩) (by omega)
    exact z
  | none =>
    have hm : k ∉ es.toList.map fun e => intOf e.2 := fun q => by
      obtain ⟨e, he, hp⟩ := (elems_is hel k).mpr q
      have := List.findIdx?_eq_none_iff.mp hr e he
      rw [show (intKind prog w).is k e.2 = true from hp] at this
      cases this
    dsimp only
    have hperm := layNew_perm t es (hashInt k) (.int k tk)
    have hfits := layNew_fits t es (hashInt k) (.int k tk)
    have T1 := tab_new T es (hashInt k) (.int k tk)
    generalize layNew t es (hashInt k) (.int k tk) = L at hperm hfits T1 ⊢
    obtain ⟨es1, t1, dm, gave⟩ := L
    dsimp only at hperm hfits T1 ⊢
    rw [Array.toList_push] at hperm
    have el1 : ElemsOf (intKind prog w) es1.toList := (hel.push (k := k) hkey rfl).perm hperm
    have sz1 : es1.size = es.size + 1 := by rw [← Array.length_toList, hperm.length_eq, List.length_append, Array.length_toList]; rfl
    have hb1 : es1.size < scanBound := by omega
    have pm : (es1.toList.map fun e => intOf e.2).Perm ((es.toList.map fun e => intOf e.2) ++ [k]) := by
      have := hperm.map fun e => intOf e.2
      rw [List.map_append] at this
      exact this
    have nd1 : (es1.toList.map fun e => intOf e.2).Nodup := pm.nodup_iff.mpr (List.nodup_append.mpr ⟨nd, (List.pairwise_singleton _ _), fun x hx y hy z => hm (by rw [List.mem_singleton] at hy; rw [← hy, ← z]; exact hx)⟩)
    have mm : ∀ m, m ∈ (es1.toList.map fun e => intOf e.2) ↔ m ∈ (es.toList.map fun e => intOf e.2) ∨ m = k := fun m => by rw [pm.mem_iff, List.mem_append, List.mem_singleton]
    have len1 : (es1.toList.map fun e => intOf e.2).length ≤ (es.toList.map fun e => intOf e.2).length + 1 := by rw [pm.length_eq, List.length_append]; exact Nat.le_refl _
    have fin : ∀ h' es2 t2 ep2 o2, (h'.get? a = some o2 ∧ o2.ExactSet ∧ o2.data = .set es2 ep2 t2) → es2.toList.Perm es1.toList → t2.fits es2.size = true → Tab (w.params.followText "set-order") t2 → Heap.SameBut a s.heap h' → Q true { s with heap := h' } :=
      fun h' es2 t2 ep2 o2 hg p2 f2 T2 sb => by
        have q2 := p2.map fun e => intOf e.2
        have z2 : es2.size = es1.size := by rw [← Array.length_toList, p2.length_eq, Array.length_toList]
        refine hQ true h' _ sb ⟨⟨o2, es2, ep2, t2, hg, ⟨el1.perm p2, by omega, f2⟩, T2, rfl⟩, q2.nodup_iff.mpr nd1⟩ (fun m => (q2.mem_iff).trans (mm m)) ?_
        rw [q2.length_eq]; exact len1
    have put : ∀ {h : Heap} {o1 : Obj} {e1 : Array (Int × Value)} {p1 : Nat} {u1 : SetTable}, h.get? a = some o1 → o1.ExactSet → o1.data = .set e1 p1 u1 → ∀ (e2 : Array (Int × Value)) (u2 : SetTable),
        (h.update a (Obj.putSet e2 u2)).get? a = some { o1 with data := .set e2 (p1 + 1) u2 } := fun {h o1 e1 p1 u1} q1 _ q3 e2 u2 => by
      have z := Heap.get?_update_self (Obj.putSet e2 u2) q1 (by rw [putSet_of e2 u2 q3]; rfl)
      rw [putSet_of e2 u2 q3] at z
      exact z
    have tl : ∀ (Q' : Option Bool → Shared → Prop), (∀ h', Q true { s with heap := h' } → Q' (some true) { s with heap := h' }) → wpAny (model prog w) A (storeSet a es1 t1) (fun _ s1 => (dm = false ∧ t1.tooFull = true → ∀ g : Sem Unit, (∀ Q₀ : Unit → Shared → Prop, Q₀ () s1 → wpAny (model prog w) A g Q₀ E s1) →
        wpAny (model prog w) A (g >>= fun _ => storeSet a (relayAll t1 es1 (SetTable.grown es1.size)).1 (relayAll t1 es1 (SetTable.grown es1.size)).2.1 >>= fun _ => pure (some true)) Q' E s1) ∧ Q' (some true) s1) E s := fun Q' hq => by
      refine wpAny_storeSet_of ho hd ?_ (fits_of_scanBound hb1)
      have g1 := put ho hex hd es1 t1
      have sb1 := Heap.SameBut.update s.heap a (Obj.putSet es1 t1)
      refine ⟨fun _ g hg => wpAny_bind (hg _ ?_), hq _ (fin _ es1 t1 _ _ ⟨g1, hex, rfl⟩ .rfl hfits T1 sb1)⟩
      have p2 := relayAll_perm t1 es1 (SetTable.grown es1.size)
      have f2 := relayAll_fits t1 es1 (SetTable.grown es1.size)
      have T2 := tab_re T1 es1 (SetTable.grown es1.size)
      generalize relayAll t1 es1 (SetTable.grown es1.size) = L2 at p2 f2 T2 ⊢
      obtain ⟨es2, t2, gv2⟩ := L2
      dsimp only at p2 f2 T2 ⊢
      have z2 : es2.size = es1.size := by rw [← Array.length_toList, p2.length_eq, Array.length_toList]
      refine wpAny_bind (wpAny_storeSet_of g1 rfl (wpAny_pure (hq _ ?_)) (fits_of_scanBound (by omega)))
      exact fin _ es2 t2 _ _ ⟨put g1 hex rfl es2 t2, hex, rfl⟩ p2 f2 T2 (sb1.trans (Heap.SameBut.update _ a _))
    refine wpAny_bind ?_
    cases gave
    all_goals
      first | refine wpAny_pure ?_ | refine wpAny_rule ?_
      split
      all_goals
        refine wpAny_bind ?_
        try rw [hashByValue_scannable 8 (show (Value.int k tk).scannable = true from rfl)]
        refine wpAny_pure ?_
        simp only [plainKind, ↓reduceIte]
        refine wpAny_bind (wpAny_mono (tl (fun r s' => wpAny (model prog w) A (match r with | some added => pure added | none => setAddHashedIn a (Value.int k tk) (hashInt k) 99999) Q E s') fun h' z => wpAny_pure z) (fun _ s1 hz => ?_) fun _ _ z => z)
        obtain ⟨hz1, hz2⟩ := hz
        split
        · rename_i hc
          simp only [Bool.and_eq_true, Bool.not_eq_true'] at hc
          refine hz1 hc _ fun Q₀ q₀ => ?_
          generalize (relayAll t1 es1 (SetTable.grown es1.size)).2.2 = gb
          cases gb
          · exact wpAny_pure q₀
          · exact wpAny_rule q₀
        · exact wpAny_pure hz2
end
end SetL
end L2
namespace L2
open PySem PySem.Spec PyProof.Rows
namespace SetL
theorem SetI.keep {prog : Program} {w : World} {h h' : Heap} {a : Addr} {ms : List Int} (S : SetI prog w h a ms) (k : ∀ o, h.get? a = some o → h'.get? a = some o) : SetI prog w h' a ms := by
  obtain ⟨⟨o, es, ep, t, ⟨ho, r⟩, r2⟩, nd⟩ := S
  exact ⟨⟨o, es, ep, t, ⟨k o ho, r⟩, r2⟩, nd⟩
section
variable {prog : Program} {w : World} {A : Around} {R : Result → Shared → Prop} {I a : Addr} {fp wr : List Addr} {G : Array GenState → Array GenState → Prop} {n : Nat} {P : Nat → Value → Prop} {St : Nat → Shared → Prop} {val : Nat → Int}
theorem xloop (W : WalksS prog w A.in1 I fp wr G n P St) (ha : a ∉ fp) (hval : ∀ i v, P i v → ∃ t, v = .int (val i) t) (hb : n + 1 < scanBound) : ∀ (k i : Nat) (s : Shared) (ms : List Int), n - i = k → i ≤ n → St i s → SetI prog w s.heap a ms →
      (∀ m, m ∈ ms ↔ m ∈ (List.range i).map val) → ms.length ≤ i →
      (∀ s' ms', Moved (a :: wr) G s s' → SetI prog w s'.heap a ms' → (∀ m, m ∈ ms' ↔ m ∈ (List.range n).map val) → ms'.length ≤ n → R (.ok (.ret .none)) s') →
      codeAny (model prog w) A (.builtin "set.update.loop" ⟨[.ref a, .ref I], []⟩) R s := by
  have aw : a ∉ wr := fun z => ha (W.sub _ z)
  have sub : ∀ b ∈ wr, b ∈ a :: wr := fun b z => List.mem_cons_of_mem _ z
  intro k
  induction k with
  | zero =>
    intro i s ms hk hi st S mm hl hR
    obtain rfl : i = n := by omega
    refine codeAny_builtin PyProof.Rows.F.entry_set_update_loop ?_
    rw [Around.under_plainId PyProof.Rows.F.plain_set_update_loop _]
    show wpAny _ A.in1 (pyNext (.ref I) >>= _) _ _ s
    refine wpAny_bind (W.done s _ _ st fun s' mv => wpAny_pure (hR s' ms (mv.mono sub) (S.keep fun o e => mv.heap a o aw e) mm hl))
  | succ k ih =>
    intro i s ms hk hi st S mm hl hR
    have lt : i < n := by omega
    refine codeAny_builtin PyProof.Rows.F.entry_set_update_loop ?_
    rw [Around.under_plainId PyProof.Rows.F.plain_set_update_loop _]
    show wpAny _ A.in1 (pyNext (.ref I) >>= _) _ _ s
    refine wpAny_bind (W.item i s _ _ lt st fun v s' hP st' mv => ?_)
    obtain ⟨t, rfl⟩ := hval i v hP
    have S' := S.keep (h' := s'.heap) fun o e => mv.heap a o aw e
    show wpAny _ A.in1 (holding [Value.int (val i) t] (setAdd a (.int (val i) t)) >>= _) _ _ s'
    refine wpAny_bind (wpAny_holding ?_)
    unfold setAdd
    refine wpAny_holding (wpAny_bind ((intKind prog w).pyHash (k := val i) (intKind_is _ _ _ _) ?_))
    refine xadd (s := { s' with toks := s'.toks + 1 }) (ms := ms) S' (by omega) fun b h' ms' sb S2 mm2 l2 => ?_
    refine wpAny_pure ⟨plainId_quiet PyProof.Rows.F.plain_set_update_loop _, ih (i + 1) _ ms' (by omega) lt (W.frame _ s' _ _ st' (Nat.le_succ _) fun b hb o e => ?_) S2 (fun m => ?_) (by omega) fun s2 ms2 mv2 => hR s2 ms2 ?_⟩
    · rw [sb.2 b (fun z : b = a => ha (by rw [← z]; exact hb))]; exact e
    · rw [mm2, mm, List.range_succ, List.map_append, List.mem_append]
      simp
    · refine Moved.trans W.gtrans ((mv.mono sub).then_heap (Nat.le_succ _) fun b o hb e => ?_) mv2
      rw [sb.2 b (fun z : b = a => hb (by rw [z]; exact List.mem_cons_self))]; exact e
end
section
variable {prog : Program} {w : World} {A : Around} {E : Value → Shared → Prop} {s : Shared}
abbrev empty (w : World) : Obj := { cls := .type "set", dict := none, data := .set #[] 0 (.fresh 0 0 (!w.params.followText "set-order")) }
theorem new1 (v : Value) {R : Result → Shared → Prop} (h : R (.ok (.ret (.ref s.heap.objs.size))) { s with heap := s.heap.push (empty w) }) :
    codeAny (model prog w) A (.call (.builtin "set.__new__") ⟨[.type "set", v], []⟩) R s := by
  refine codeAny_of_tree ?_
  show wpAny _ A.in1 (checkBuiltinCall "set.__new__" ⟨[.type "set", v], []⟩ >>= fun _ => again (.builtin "set.__new__" ⟨[.type "set", v], []⟩)) _ _ s
  refine wpAny_bind (wpAny_of_eq (PySem.F.newCall_set_1 v) (wpAny_pure ⟨plainId_quiet PySem.F.plain_set_new _, codeAny_builtin PySem.F.entry_set_new ?_⟩))
  rw [Around.under_plainId PySem.F.plain_set_new _]
  unfold Builtin.«set.__new__» Builtin.Frozenset.newClass
  have sub := sub_set_self
  obtain ⟨hp, g, d, tk, os⟩ := s
  dsimp only
  wp_walk
  refine wpAny_askSetting (wpAny_pure ?_)
  simp only [newObj]
  refine wpAny_bind (wpAny_alloc (wpAny_pure (wpAny_pure ?_)))
  exact h
theorem empty_set {h : Heap} : SetI prog w (h.push (empty w)) h.objs.size [] :=
  ⟨⟨_, #[], 0, _, ⟨Heap.get?_push_size _ rfl, ⟨rfl, rfl, rfl⟩, rfl⟩, ⟨(fun e he => by simp at he), by decide, rfl⟩, tab_fresh _, rfl⟩, List.Pairwise.nil⟩
end
end SetL
end L2
namespace L2
open PySem PySem.Spec PyProof.Rows
namespace SetL
section
variable {prog : Program} {w : World} {A : Around} {E : Value → Shared → Prop} {s : Shared}
theorem range_ints : ∀ ns : List Int, (List.range ns.length).map (fun i => ns.getD i 0) = ns := fun ns => by
  apply List.ext_getElem?
  intro i
  rw [List.getElem?_map]
  by_cases h : i < ns.length
  · rw [List.getElem?_range h, List.getElem?_eq_getElem h]
    simp [h]
  · rw [List.getElem?_eq_none (by rw [List.length_range]; omega), List.getElem?_eq_none (by omega)]
    rfl
/-- __init__ of the new set, from a list of whole numbers -/
theorem init1 {l : Addr} {items : Array Value} {ns : List Int} (hh : A.handled = none) (hl : s.heap.IsList l items) (hi : IntsAre items.toList ns) (hb : items.size + 1 < scanBound) {R : Result → Shared → Prop}
    (h : ∀ h' tk ms, SetI prog w h' s.heap.objs.size ms → (∀ m, m ∈ ms ↔ m ∈ ns) → ms.length ≤ ns.length → (∀ b o, b < s.heap.objs.size → s.heap.get? b = some o → h'.get? b = some o) → R (.ok (.ret .none)) { s with heap := h', toks := tk }) :
    codeAny (model prog w) A (.call (.builtin "set.__init__") ⟨[.ref s.heap.objs.size, .ref l], []⟩) R { s with heap := s.heap.push (empty w) } := by
  have hn : items.size = ns.length := by rw [← IntsAre.length hi]; simp
  have at0 : (s.heap.push (empty w)).get? s.heap.objs.size = some (empty w) := Heap.get?_push_size _ rfl
  have ty : Shared.TypeIs { s with heap := s.heap.push (empty w) } (.ref s.heap.objs.size) "set" := ⟨_, at0, rfl⟩
  refine codeAny_call_builtin PySem.F.called_set.init.plain PySem.F.entry_set_init (check_set_init_1 ty ?_)
  obtain ⟨ol, hol, hcl, nl, hdl⟩ := id hl
  have lS : l < s.heap.objs.size := Heap.lt_size hol
  obtain ⟨oc, od, odt, osl⟩ := ol
  dsimp only at hcl hdl
  subst hcl hdl
  have hol' := Heap.get?_push_of_some (empty w) hol
  have n1 := PySem.F.sub_list_set
  have n2 := PySem.F.sub_list_frozenset
  have n3 : (Value.type "list" == Value.type "dict") = false := by decide
  have l1 : (s.heap.push (empty w)).IsList l items := ⟨_, hol', rfl, nl, rfl⟩
  unfold Builtin.«set.__init__» noKeywords Builtin.Frozenset.updateFrom
  generalize hPI : pyIter = PI
  wp_walk
  subst hPI
  refine wpAny_pyIter_list l1 (wpAny_bind (wpAny_runValue ?_))
  have h3 : A.in1.in1.handled = none := by simp [hh]
  have sz : (s.heap.push (empty w)).objs.size = s.heap.objs.size + 1 := Heap.size_push _ _
  have ne : l ≠ (s.heap.push (empty w)).objs.size := by rw [sz]; exact Nat.ne_of_lt (Nat.lt_succ_of_lt lS)
  have nf : s.heap.objs.size ∉ [(s.heap.push (empty w)).objs.size, l] := by
    rw [sz]
    simp only [List.mem_cons, List.not_mem_nil, or_false, not_or]
    exact ⟨Nat.ne_of_lt (Nat.lt_succ_self _), Nat.ne_of_gt lS⟩
  have S0 : SetI prog w ((s.heap.push (empty w)).push { cls := .type "list_iterator", data := .fields #[.ref l, .int 0 0] }) s.heap.objs.size [] := empty_set.keep fun o e => Heap.get?_push_of_some _ e
  refine xloop (val := fun i => ns.getD i 0) ((Walks.list h3 _ l ne items).toS) nf (fun i v q => IntsAre.int_at hi i v (by rw [Array.getElem?_toList]; exact q)) hb (items.size - 0) 0 _ [] (by omega) (Nat.zero_le _)
    ?xst ?xS (fun m => by simp) (Nat.zero_le _) ?_
  case xst => exact ⟨⟨_, Heap.get?_push_size _ rfl, rfl, rfl⟩, l1.push _⟩
  case xS => exact S0
  intro s' ms mv S mm len
  obtain ⟨h', g', d', tk', os'⟩ := s'
  obtain rfl : g' = s.gens := mv.gens
  obtain rfl : d' = s.drawn := mv.drawn
  obtain rfl : os' = s.os := mv.os
  refine wpAny_pure ?_
  show wpAny _ _ (ret Value.none) _ _ _
  refine wpAny_pure (h h' tk' ms S (fun m => ?_) (by omega) fun b o lt e => ?_)
  · rw [mm, hn, range_ints]
  · refine mv.heap b o ?_ (Heap.get?_push_of_some _ (Heap.get?_push_of_some _ e))
    rw [sz]
    simp only [List.mem_cons, List.not_mem_nil, or_false, not_or]
    exact ⟨Nat.ne_of_lt lt, Nat.ne_of_lt (Nat.lt_succ_of_lt lt)⟩
set_option maxHeartbeats 3200000 in
theorem set_of_list {l : Addr} {items : Array Value} {ns : List Int} (hh : A.handled = none) (hl : s.heap.IsList l items) (hi : IntsAre items.toList ns) (hb : items.size + 1 < scanBound) {Q : Value → Shared → Prop}
    (h : ∀ h' tk ms, SetI prog w h' s.heap.objs.size ms → (∀ m, m ∈ ms ↔ m ∈ ns) → ms.length ≤ ns.length → (∀ b o, b < s.heap.objs.size → s.heap.get? b = some o → h'.get? b = some o) → Q (.ref s.heap.objs.size) { s with heap := h', toks := tk }) :
    wpAny (model prog w) A (call (.type "set") [.ref l]) Q E s := by
  obtain ⟨c, tl, hmro⟩ := PySem.F.called_set.mro
  have m1 := PySem.F.called_set.made
  have m2 := PySem.F.called_set.sub
  have m3 := PySem.F.called_set.notType
  have m4 := PySem.F.called_set.canCreate
  have m5 := PySem.F.typeCall_set_1 (.ref l)
  refine wpAny_call (codeAny_of_tree ?_)
  show wpAny _ _ (callAny (.type "set") _) _ _ _
  refine wpAny_pure ⟨Code.quiet_builtin _ (by decide +kernel), codeAny_builtin PySem.F.entry_type_call ?_⟩
  rw [Around.under_plain (weight_type_call_type "set" [.ref l] []) rfl]
  repeat (any_goals (first | assumption | wp_step))
  refine new1 (.ref l) ?_
  have at0 : (s.heap.push (empty w)).get? s.heap.objs.size = some (empty w) := Heap.get?_push_size _ rfl
  have ty : Shared.TypeIs { s with heap := s.heap.push (empty w) } (.ref s.heap.objs.size) "set" := ⟨_, at0, rfl⟩
  have i1 := PySem.F.called_set.init.lookup
  have i2 := PySem.F.called_set.init.bind (.ref s.heap.objs.size)
  show wpAny _ _ _ _ _ _
  repeat (any_goals (first | assumption | wp_step))
  refine init1 (by simp [hh]) hl hi hb fun h' tk ms S mm len kp => ?_
  show wpAny _ _ _ _ _ _
  repeat (any_goals (first | assumption | wp_step))
  exact h _ _ _ S mm len kp
end
end SetL
end L2
namespace L2
open PySem PySem.Spec PyProof.Rows
namespace SetL
theorem si_next : Slot "set_iterator" "__next__" "set_iterator.__next__" := .of (owner := "set_iterator") (n := "__next__") (by rw [typeLookup_type, builtinLookup_eq_fast]; kernel_rfl) (by decide +kernel) (by decide +kernel) (by decide +kernel)
  (by first | exact .inl (by decide +kernel) | exact .inr (by decide +kernel)) (by rw [isSubtype_type]; kernel_rfl)
theorem si_iter : Slot "set_iterator" "__iter__" "set_iterator.__iter__" := .of (owner := "set_iterator") (n := "__iter__") (by rw [typeLookup_type, builtinLookup_eq_fast]; kernel_rfl) (by decide +kernel) (by decide +kernel) (by decide +kernel)
  (by first | exact .inl (by decide +kernel) | exact .inr (by decide +kernel)) (by rw [isSubtype_type]; kernel_rfl)
theorem en_next : entryFor table "set_iterator.__next__" = some Builtin.«set_iterator.__next__» := entryFor_of_fast (by kernel_rfl)
theorem en_iter : entryFor table "set_iterator.__iter__" = some Builtin.«dict_keyiterator.__iter__» := entryFor_alias (id' := "dict_keyiterator.__iter__") (by kernel_rfl) rfl (by decide +kernel) (by kernel_rfl)
theorem en_siter : entryFor table "set.__iter__" = some Builtin.«frozenset.__iter__» := entryFor_alias (id' := "frozenset.__iter__") (by kernel_rfl) rfl (by decide +kernel) (by kernel_rfl)
theorem ar_next (a : Value) : argsOk "set_iterator.__next__" ⟨[a], []⟩ := by unfold argsOk; kernel_rfl
theorem ar_iter (a : Value) : argsOk "set_iterator.__iter__" ⟨[a], []⟩ := by unfold argsOk; kernel_rfl
/-- the iterator at I, at its i-th turn -/
def IterAt (h : Heap) (I a : Addr) (first : Value) (i n ep : Nat) : Prop := ∃ o, h.get? I = some o ∧ o.cls = .type "set_iterator" ∧ o.data = .fields #[first, .int i 0, .ref a, .int n 0, .int ep 0]
theorem IterAt.ty {s : Shared} {I a : Addr} {first : Value} {i n ep : Nat} (h : IterAt s.heap I a first i n ep) : s.TypeIs (.ref I) "set_iterator" := let ⟨_, a, b, _⟩ := h; ⟨_, a, b⟩
theorem IterAt.keep {h h' : Heap} {I a : Addr} {first : Value} {i n ep : Nat} (x : IterAt h I a first i n ep) (k : ∀ o, h.get? I = some o → h'.get? I = some o) : IterAt h' I a first i n ep := let ⟨o, a, b⟩ := x; ⟨o, k o a, b⟩
/-- the object of the set -/
def ObjAt (h : Heap) (a : Addr) (es : Array (Int × Value)) (ep : Nat) (t : SetTable) : Prop := ∃ o, h.get? a = some o ∧ o.data = .set es ep t ∧ t.fits es.size = true
theorem ObjAt.keep {h h' : Heap} {a : Addr} {es : Array (Int × Value)} {ep : Nat} {t : SetTable} (x : ObjAt h a es ep t) (k : ∀ o, h.get? a = some o → h'.get? a = some o) : ObjAt h' a es ep t := let ⟨o, a, b⟩ := x; ⟨o, k o a, b⟩
section
variable {prog : Program} {w : World} {A : Around} {E : Value → Shared → Prop} {s : Shared} {I a : Addr} {es : Array (Int × Value)} {ep : Nat} {t : SetTable}
theorem state_at {Q : (Array (Int × Value) × Nat × SetTable) → Shared → Prop} (O : ObjAt s.heap a es ep t) (h : Q (es, ep, t) s) : wpAny (model prog w) A (setState a) Q E s := by
  obtain ⟨o, ho, hd, hf⟩ := O
  exact wpAny_setState_of ho hd hf h
theorem iter_self {first : Value} {i n : Nat} {Q : Value → Shared → Prop} (h : IterAt s.heap I a first i n ep) (q : Q (.ref I) s) : wpAny (model prog w) A (pyIter (.ref I)) Q E s := by
  refine wpAny_pyIter_slot h.ty si_iter (wpAny_call_entry si_iter h.ty en_iter ?_ (ar_iter _))
  exact wpAny_pure ⟨_, rfl, "set_iterator", _, h.ty, si_next.lookup, q⟩
/-- the end: StopIteration, caught by pyNext -/
theorem stop_here {Q : Option Value → Shared → Prop} {h1 : Heap} (hh : A.handled = none) (q : ∀ h', (∀ b o, h1.get? b = some o → h'.get? b = some o) → Q none { s with heap := h' }) :
    wpAny (model prog w) A.in1 (newExc (.type "StopIteration") [] >>= fun e => raiseNew e : Sem Fin) (fun fin s' => ∃ v, fin = .done (.ret v) ∧ wpAny (model prog w) A (match (Except.ok (some v) : Except Value (Option Value)) with | .ok (some v) => pure (some v) | .ok none => unsupported "iter:the-iterator's-class-has-lost-its-__next__-amid-the-walk" | .error e => do if ← isInstance e (.type "StopIteration") then pure none else throw e) Q E s')
      (fun e s' => wpAny (model prog w) A (do if ← isInstance e (.type "StopIteration") then pure none else throw e) Q E s') { s with heap := h1 } := by
  refine wpAny_bind ?_
  simp only [newExc, newTuple]
  refine wpAny_bind (wpAny_newObj_type ?_ (by size_fits))
  refine wpAny_bind (m := firstArgMember _ _) (wpAny_of_eq (a := Value.none) (by first | rfl | (simp only [firstArgMember]; rfl)) ?_)
  refine wpAny_newObj_type ?_ (by size_fits)
  simp only [raiseNew]
  refine wpAny_bind (wpAny_handled ?_)
  rw [show A.in1.handled = none from hh]
  refine wpAny_bind (wpAny_pure (wpAny_throw ?_))
  refine wpAny_bind (wpAny_isInstance (T := "StopIteration") (b := true) ⟨_, Heap.get?_push_size _ rfl, rfl⟩ isSubtype_stop ?_)
  exact wpAny_pure (q _ fun b o e => Heap.get?_push_of_some _ (Heap.get?_push_of_some _ e))
end
end SetL
end L2
namespace L2
open PySem PySem.Spec PyProof.Rows
namespace SetL
section
variable {prog : Program} {w : World} {A : Around} {E : Value → Shared → Prop} {s : Shared} {I a : Addr} {es : Array (Int × Value)} {ep : Nat} {t : SetTable}
theorem put_field {h : Heap} {o : Obj} {vs : Array Value} {j : Nat} {x : Value} (ho : h.get? I = some o) (hd : o.data = .fields vs) : (h.update I (Obj.mapFields (·.setIfInBounds j x))).get? I = some (Obj.mapFields (·.setIfInBounds j x) o) :=
  Heap.get?_update_self _ ho (Obj.isFreed_of_fields (Obj.data_mapFields hd _))
theorem next_int {F i : Nat} {r : Option (Value × Nat)} {Q : Option Value → Shared → Prop} (hh : A.handled = none) (It : IterAt s.heap I a (.int F 0) i es.size ep) (O : ObjAt s.heap a es ep t)
    (st : ∀ (A' : Around) (E' : Value → Shared → Prop) (Q' : Option (Value × Nat) → Shared → Prop), Q' r s → wpAny (model prog w) A' (setNext a F i ep) Q' E' s)
    (h1 : ∀ x F', r = some (x, F') → ∀ h', Heap.SameBut I s.heap h' → IterAt h' I a (.int F' 0) (i + 1) es.size ep → Q (some x) { s with heap := h' })
    (h2 : r = none → ∀ h', (∀ b o, b ≠ I → s.heap.get? b = some o → h'.get? b = some o) → Q none { s with heap := h' }) : wpAny (model prog w) A (pyNext (.ref I)) Q E s := by
  obtain ⟨o, ho, hc, hd⟩ := id It
  unfold pyNext
  refine wpAny_bind (wpAny_attempt (wpAny_callSpecial?_slot (name := Str.ofString "__next__") It.ty si_next (wpAny_call_entry si_next It.ty en_next ?_ (ar_next _))))
  unfold Builtin.«set_iterator.__next__»
  refine wpAny_bind (wpAny_of_eq (a := (Value.ref I, [])) rfl ?_)
  show wpAny _ _ (fieldsOf (.ref I) >>= _) _ _ s
  refine wpAny_bind (wpAny_fieldsOf ho hd ?_)
  show wpAny _ _ (setEntries a >>= _) _ _ s
  refine wpAny_bind ?_
  unfold setEntries
  refine wpAny_bind (state_at O (wpAny_pure ?_))
  dsimp only
  rw [if_neg (by simp)]
  simp only [Int.toNat_natCast]
  refine wpAny_bind (st _ _ _ ?_)
  cases r with
  | some xf =>
    obtain ⟨x, F'⟩ := xf
    refine wpAny_bind (wpAny_setField ho hd (by simp) ?_)
    have ho1 := put_field (j := 0) (x := rawInt F') ho hd
    have hd1 := Obj.data_mapFields hd (f := (·.setIfInBounds 0 (rawInt F')))
    refine wpAny_bind (wpAny_setField ho1 hd1 (by simp) (wpAny_pure ⟨x, rfl, wpAny_pure (h1 x F' rfl _ ((Heap.SameBut.update ..).trans (Heap.SameBut.update ..)) ?_)⟩))
    refine ⟨_, put_field ho1 hd1, (Obj.cls_mapFields ..).trans ((Obj.cls_mapFields ..).trans hc), ?_⟩
    rw [Obj.data_mapFields hd1]
    simp [rawInt]
  | none =>
    refine wpAny_bind (wpAny_setField ho hd (by simp) ?_)
    refine stop_here hh fun h' k => h2 rfl h' fun b o hb e => k b o ?_
    exact (Heap.get?_update_ne _ _ _ _ hb).trans e
end
end SetL
end L2
namespace L2
open PySem PySem.Spec PyProof.Rows
namespace SetL
section
variable {prog : Program} {w : World} {A : Around} {E : Value → Shared → Prop} {s : Shared} {I a T : Addr} {es : Array (Int × Value)} {ep : Nat} {t : SetTable} {ps : Array Value}
def PlacesAt (h : Heap) (T : Addr) (ps : Array Value) : Prop := ∃ o n, h.get? T = some o ∧ o.data = .seq ps n
theorem PlacesAt.keep {h h' : Heap} (x : PlacesAt h T ps) (k : ∀ o, h.get? T = some o → h'.get? T = some o) : PlacesAt h' T ps := let ⟨o, n, a, b⟩ := x; ⟨o, n, k o a, b⟩
theorem next_drawn {i : Nat} {Q : Option Value → Shared → Prop} (hh : A.handled = none) (It : IterAt s.heap I a (.ref T) i es.size ep) (O : ObjAt s.heap a es ep t) (P : PlacesAt s.heap T ps)
    (h1 : ∀ p, ps[i]? = some (.int p 0) → ∀ k x, es[p.toNat]? = some (k, x) → ∀ h', Heap.SameBut I s.heap h' → IterAt h' I a (.ref T) (i + 1) es.size ep → Q (some x) { s with heap := h' })
    (h2 : ps[i]? = none → ∀ h', (∀ b o, b ≠ I → s.heap.get? b = some o → h'.get? b = some o) → Q none { s with heap := h' })
    (hp : ps[i]? = none ∨ ∃ p k x, ps[i]? = some (.int p 0) ∧ es[p.toNat]? = some (k, x)) : wpAny (model prog w) A (pyNext (.ref I)) Q E s := by
  obtain ⟨o, ho, hc, hd⟩ := id It
  obtain ⟨oT, nT, hT, hdT⟩ := P
  unfold pyNext
  refine wpAny_bind (wpAny_attempt (wpAny_callSpecial?_slot (name := Str.ofString "__next__") It.ty si_next (wpAny_call_entry si_next It.ty en_next ?_ (ar_next _))))
  unfold Builtin.«set_iterator.__next__»
  refine wpAny_bind (wpAny_of_eq (a := (Value.ref I, [])) rfl ?_)
  show wpAny _ _ (fieldsOf (.ref I) >>= _) _ _ s
  refine wpAny_bind (wpAny_fieldsOf ho hd ?_)
  show wpAny _ _ (setEntries a >>= _) _ _ s
  refine wpAny_bind ?_
  unfold setEntries
  refine wpAny_bind (state_at O (wpAny_pure ?_))
  dsimp only
  rw [if_neg (by simp)]
  simp only [Int.toNat_natCast]
  refine wpAny_bind (wpAny_seqItems hT hdT ?_)
  dsimp only
  rcases hp with hp | ⟨p, k, x, hp, hx⟩
  · rw [hp]
    refine wpAny_bind (wpAny_setField ho hd (by simp) ?_)
    have ho1 := put_field (j := 0) (x := rawInt 0) ho hd
    have hd1 := Obj.data_mapFields hd (f := (·.setIfInBounds 0 (rawInt 0)))
    refine wpAny_bind (wpAny_setField ho1 hd1 (by simp) ?_)
    refine stop_here hh fun h' k => h2 hp h' fun b o hb e => k b o ?_
    exact (Heap.get?_update_ne _ _ _ _ hb).trans ((Heap.get?_update_ne _ _ _ _ hb).trans e)
  · rw [hp]
    dsimp only
    refine wpAny_bind ?_
    unfold setNextDrawn
    refine wpAny_bind (state_at O ?_)
    dsimp only
    rw [if_neg (by simp), hx]
    refine wpAny_pure (wpAny_bind (wpAny_setField ho hd (by simp) (wpAny_pure ⟨x, rfl, wpAny_pure (h1 p hp k x hx _ (Heap.SameBut.update ..) ?_)⟩)))
    refine ⟨_, put_field ho hd, (Obj.cls_mapFields ..).trans hc, ?_⟩
    rw [Obj.data_mapFields hd]
    simp [rawInt]
/-- a walk by slots -/
theorem walks_int (hh : A.handled = none) (ne : a ≠ I) {F : Nat → Nat} {ord : Nat → Value} (st : ∀ i, i ≤ es.size → ∀ (s : Shared), ObjAt s.heap a es ep t → ∀ (A' : Around) (E' : Value → Shared → Prop) (Q' : Option (Value × Nat) → Shared → Prop),
      Q' (if i < es.size then some (ord i, F (i + 1)) else none) s → wpAny (model prog w) A' (setNext a (F i) i ep) Q' E' s) :
    Walks prog w A I [I, a] [I] es.size (fun i v => v = ord i) (fun i h => i ≤ es.size ∧ IterAt h I a (.int (F i) 0) i es.size ep ∧ ObjAt h a es ep t) where
  sub := fun b hb => by simp at hb; simp [hb]
  frame := fun _ _ _ st k => ⟨st.1, st.2.1.keep fun o e => k I (by simp) o e, st.2.2.keep fun o e => k a (by simp) o e⟩
  item := fun i s Q E hi h hQ => by
    refine next_int hh h.2.1 h.2.2 (fun A' E' Q' q => st i h.1 s h.2.2 A' E' Q' q) (fun x F' e h' sb It => ?_) fun e => ?_
    · rw [if_pos hi] at e
      cases e
      exact hQ _ h' s.toks rfl ⟨hi, It, h.2.2.keep fun o e => (sb.2 a ne).trans e⟩ fun b o hb e => (sb.2 b fun z => hb (by simp [z])).trans e
    · rw [if_pos hi] at e; cases e
  done := fun s Q E h hQ => by
    refine next_int hh h.2.1 h.2.2 (fun A' E' Q' q => st _ h.1 s h.2.2 A' E' Q' q) (fun x F' e => ?_) fun _ h' k => hQ h' s.toks fun b o hb e => k b o (fun z => hb (by simp [z])) e
    rw [if_neg (Nat.lt_irrefl _)] at e; cases e
  self := fun _ _ _ _ h q => iter_self h.2.1 q
/-- a walk by places that were drawn -/
theorem walks_drawn (hh : A.handled = none) (ne : a ≠ I) (nT : T ≠ I) {ord : List Nat} (hps : ps = (ord.map fun i : Nat => rawInt i).toArray) (hl : ord.length = es.size) (ho : ∀ i ∈ ord, i < es.size) :
    Walks prog w A I [I, a, T] [I] es.size (fun i v => ∃ j, ord[i]? = some j ∧ ∃ k, es[j]? = some (k, v)) (fun i h => i ≤ es.size ∧ (IterAt h I a (.ref T) i es.size ep ∧ ObjAt h a es ep t) ∧ PlacesAt h T ps) where
  sub := fun b hb => by simp at hb; simp [hb]
  frame := fun _ _ _ st k => ⟨st.1, ⟨st.2.1.1.keep fun o e => k I (by simp) o e, st.2.1.2.keep fun o e => k a (by simp) o e⟩, st.2.2.keep fun o e => k T (by simp) o e⟩
  item := fun i s Q E hi h hQ => by
    have hj : i < ord.length := by omega
    have e0 : ps[i]? = some (.int (ord[i] : Nat) 0) := by rw [hps]; simp [hj, rawInt]
    have hlt := ho ord[i] (List.getElem_mem hj)
    obtain ⟨⟨k0, x0⟩, q0⟩ : ∃ q, es[ord[i]]? = some q := ⟨_, Array.getElem?_eq_getElem hlt⟩
    refine next_drawn hh h.2.1.1 h.2.1.2 h.2.2 (fun p ep' k x ex h' sb It => ?_) (fun e => by rw [e0] at e; cases e) (.inr ⟨_, k0, x0, e0, by simpa using q0⟩)
    rw [e0] at ep'
    cases ep'
    refine hQ x h' s.toks ⟨ord[i], List.getElem?_eq_getElem hj, k, by simpa using ex⟩ ⟨hi, ⟨It, h.2.1.2.keep fun o e => (sb.2 a ne).trans e⟩, h.2.2.keep fun o e => (sb.2 T nT).trans e⟩ fun b o hb e => (sb.2 b fun z => hb (by simp [z])).trans e
  done := fun s Q E h hQ => by
    have e0 : ps[es.size]? = none := by rw [hps]; simp; omega
    exact next_drawn hh h.2.1.1 h.2.1.2 h.2.2 (fun p ep' => by rw [e0] at ep'; cases ep') (fun _ h' k => hQ h' s.toks fun b o hb e => k b o (fun z => hb (by simp [z])) e) (.inl e0)
  self := fun _ _ _ _ h q => iter_self h.2.1.1 q
end
end SetL
end L2
namespace L2
open PySem PySem.Spec PyProof.Rows
namespace SetL
theorem erase_perm {α : Type} : ∀ (l : List α) (i : Nat) (h : i < l.length), (l[i] :: l.eraseIdx i).Perm l
  | x :: xs, 0, _ => .refl _
  | x :: xs, i + 1, h => (List.Perm.swap x _ _).trans ((erase_perm xs i (by simpa using h)).cons x)
theorem pick_go {α : Type} (next : Nat → Nat) : ∀ (fuel k : Nat) (left : List α) (out : Array α), left.length = fuel → (pickOrder.go next fuel k left out).toList.Perm (out.toList ++ left)
  | 0, k, left, out, h => by
    have : left = [] := List.length_eq_zero_iff.mp h
    subst this
    unfold pickOrder.go
    simp
  | fuel + 1, k, left, out, h => by
    have lt : next k % left.length < left.length := Nat.mod_lt _ (by omega)
    unfold pickOrder.go
    rw [List.getElem?_eq_getElem lt]
    dsimp only
    refine (pick_go next fuel (k + 1) _ _ (by rw [List.length_eraseIdx_of_lt lt, h]; rfl)).trans ?_
    rw [Array.toList_push, List.append_assoc]
    refine List.Perm.append_left _ ?_
    exact erase_perm left _ lt
theorem pick_perm {α : Type} (next : Nat → Nat) (xs : Array α) : (pickOrder next xs).toList.Perm xs.toList := by
  unfold pickOrder
  simpa using pick_go next xs.size 0 xs.toList #[] (by simp)
/-- the slot from which the i-th turn looks -/
def slotAt (t : SetTable) (i : Nat) : Nat := if i = 0 then 0 else t.place.getD (i - 1) 0 + 1
theorem below_at {t : SetTable} (h : Up t.place) {i : Nat} (hi : i ≤ t.place.size) : SetTable.below t.place (slotAt t i) = i := by
  obtain ⟨h0, h1, h2⟩ := below_spec h (slotAt t i)
  generalize SetTable.below t.place (slotAt t i) = p at *
  have gd : ∀ j, j < t.place.size → ∀ d e, t.place.getD j d = t.place.getD j e := fun j hj d e => by simp [Array.getD, hj]
  by_cases hz : i = 0
  · subst hz
    refine Nat.eq_zero_of_not_pos fun hp => ?_
    have := h1 0 hp
    unfold slotAt at this
    rw [if_pos rfl] at this
    omega
  · have e : slotAt t i = t.place.getD (i - 1) 0 + 1 := by unfold slotAt; rw [if_neg hz]
    rcases Nat.lt_trichotomy p i with lt | rfl | gt
    · have := h2 (i - 1) (by omega) (by omega)
      rw [gd _ (by omega) _ 0, e] at this
      omega
    · rfl
    · have := h1 i gt
      have u := up_lt h (i := i - 1) (j := i) (by omega) (by omega) 0 0
      rw [gd _ (by omega) _ 0, e] at this
      omega
section
variable {prog : Program} {w : World} {a : Addr} {es : Array (Int × Value)} {ep : Nat} {t : SetTable}
theorem next_plain (hb : w.params.followText "set-order" = false) (T : Tab false t) (hf : t.fits es.size = true) (hp : (!t.plain && decide (es.size > 1)) = false) (i : Nat) (hi : i ≤ es.size) (s : Shared) (O : ObjAt s.heap a es ep t) (A' : Around)
    (E' : Value → Shared → Prop) (Q' : Option (Value × Nat) → Shared → Prop) (q : Q' (if i < es.size then some ((es.getD i (0, .none)).2, slotAt t (i + 1)) else none) s) : wpAny (model prog w) A' (setNext a (slotAt t i) i ep) Q' E' s := by
  have fz : t.place.size = es.size := by simp [SetTable.fits] at hf; exact hf.1
  have up : Up t.place := by
    by_cases pl : t.plain = true
    · exact T.up pl
    · have : es.size ≤ 1 := by simp [pl] at hp; exact hp
      unfold Up
      have l1 : t.place.toList.length ≤ 1 := by rw [Array.length_toList]; omega
      match hq : t.place.toList, l1 with
      | [], _ => exact .nil
      | [x], _ => exact List.pairwise_singleton _ _
      | _ :: _ :: _, z => simp at z
  unfold setNext
  refine wpAny_bind (state_at O ?_)
  unfold setsByText
  refine wpAny_bind (wpAny_bind (wpAny_askSetting (wpAny_pure ?_)))
  rw [show (model prog w).w.params.followText "set-order" = false from hb]
  rw [if_neg Bool.false_ne_true]
  dsimp only
  show wpAny _ _ (if (!t.plain && decide (es.size > 1)) = true then _ else _) _ _ _
  rw [if_neg (by rw [hp]; exact Bool.false_ne_true)]
  refine wpAny_bind ?_
  show wpAny _ _ (if (!t.led && !es.isEmpty) = true then _ else _) _ _ _
  rw [if_neg (by rw [T.led]; simp)]
  refine wpAny_pure ?_
  rw [below_at up (by omega)]
  refine wpAny_pure ?_
  by_cases lt : i < es.size
  · rw [if_pos lt] at q
    rw [Array.getElem?_eq_getElem lt, Array.getElem?_eq_getElem (by omega : i < t.place.size)]
    dsimp only
    have e1 : (es.getD i (0, .none)).2 = es[i].2 := by simp [Array.getD, lt]
    have e2 : slotAt t (i + 1) = t.place[i]'(by omega) + 1 := by simp [slotAt, Array.getD, show i < t.place.size by omega]
    rw [e1, e2] at q
    exact q
  · rw [if_neg lt] at q
    rw [Array.getElem?_eq_none (by omega)]
    exact q
theorem next_text (hb : w.params.followText "set-order" = true) (i : Nat) (hi : i ≤ es.size) (s : Shared) (O : ObjAt s.heap a es ep t) (A' : Around)
    (E' : Value → Shared → Prop) (Q' : Option (Value × Nat) → Shared → Prop) (q : Q' (if i < es.size then some (((pickOrder (w.params.setOrder a ep) es).getD i (0, .none)).2, 0) else none) s) : wpAny (model prog w) A' (setNext a 0 i ep) Q' E' s := by
  have sz : (pickOrder (w.params.setOrder a ep) es).size = es.size := by
    have := (pick_perm (w.params.setOrder a ep) es).length_eq
    simpa using this
  unfold setNext
  refine wpAny_bind (state_at O ?_)
  unfold setsByText
  refine wpAny_bind (wpAny_bind (wpAny_askSetting (wpAny_pure ?_)))
  rw [show (model prog w).w.params.followText "set-order" = true from hb, if_pos rfl]
  dsimp only
  rw [if_neg (by simp)]
  refine wpAny_bind ?_
  unfold setWalk
  refine wpAny_bind (state_at O ?_)
  unfold setsByText
  refine wpAny_bind (wpAny_bind (wpAny_askSetting (wpAny_pure ?_)))
  rw [show (model prog w).w.params.followText "set-order" = true from hb, if_pos rfl]
  refine wpAny_bind (wpAny_askSetting (wpAny_pure (wpAny_pure ?_)))
  show Q' (Option.map (fun e => (e.2, 0)) (pickOrder (w.params.setOrder a ep) es)[i]?) s
  by_cases lt : i < es.size
  · rw [if_pos lt] at q
    rw [Array.getElem?_eq_getElem (by omega)]
    have e1 : ((pickOrder (w.params.setOrder a ep) es).getD i (0, .none)).2 = ((pickOrder (w.params.setOrder a ep) es)[i]'(by omega)).2 := by simp [Array.getD, show i < (pickOrder (w.params.setOrder a ep) es).size by omega]
    rw [e1] at q
    exact q
  · rw [if_neg lt] at q
    rw [Array.getElem?_eq_none (by omega)]
    exact q
end
end SetL
end L2
namespace L2
open PySem PySem.Spec PyProof.Rows
namespace SetL
section
variable {prog : Program} {w : World} {A : Around} {E : Value → Shared → Prop}
theorem choose_any {src : Source} {n : Nat} {s : Shared} {Q : Nat → Shared → Prop} (hn : 0 < n) (h : ∀ i d, i < n → Q i { s with drawn := d }) : wpAny (model prog w) A (choose src n) Q E s :=
  fun Γ p hΓ => ⟨by omega, h _ _ (Nat.mod_lt _ hn)⟩
theorem draw_perm {α : Type} : ∀ (n : Nat) (xs : List α) (s : Shared) (Q : List α → Shared → Prop), xs.length = n → (∀ l d, l.Perm xs → Q l { s with drawn := d }) → wpAny (model prog w) A (drawOrder n xs) Q E s
  | 0, xs, s, Q, hl, h => by
    have : xs = [] := List.length_eq_zero_iff.mp hl
    subst this
    unfold drawOrder
    exact wpAny_pure (h [] s.drawn (.refl _))
  | n + 1, [], s, Q, hl, h => by simp at hl
  | n + 1, x :: xs, s, Q, hl, h => by
    unfold drawOrder
    refine wpAny_bind (choose_any (by simp) fun i d hi => ?_)
    rw [List.getElem?_eq_getElem hi]
    refine wpAny_bind (draw_perm n _ _ _ (by rw [List.length_eraseIdx_of_lt hi, hl]; rfl) fun l d' hp => wpAny_pure (h _ d' ?_))
    exact (hp.cons _).trans (erase_perm (x :: xs) i hi)
end
theorem items_eq {P : Nat → Value → Prop} {acc : Array Value} {n : Nat} {f : Nat → Value} (h : ItemsOf P acc n) (hf : ∀ i v, i < n → P i v → v = f i) : acc.toList = (List.range n).map f := by
  apply List.ext_getElem?
  intro j
  rw [List.getElem?_map]
  by_cases lt : j < n
  · have e : acc.toList[j]? = some (acc[j]'(by rw [h.1]; exact lt)) := by rw [Array.getElem?_toList]; exact Array.getElem?_eq_getElem _
    rw [e, List.getElem?_range lt]
    exact congrArg some (hf j _ lt (h.2 j _ (Array.getElem?_eq_getElem _)))
  · rw [List.getElem?_eq_none (by rw [Array.length_toList, h.1]; omega), List.getElem?_eq_none (by rw [List.length_range]; omega)]
    rfl
theorem range_arr {α β : Type} (xs : Array α) (d : α) (f : α → β) : (List.range xs.size).map (fun i => f (xs.getD i d)) = xs.toList.map f := by
  apply List.ext_getElem?
  intro j
  rw [List.getElem?_map, List.getElem?_map]
  by_cases lt : j < xs.size
  · rw [List.getElem?_range lt, Array.getElem?_toList, Array.getElem?_eq_getElem lt]
    simp [Array.getD, lt]
  · rw [List.getElem?_eq_none (by rw [List.length_range]; omega), List.getElem?_eq_none (by rw [Array.length_toList]; omega)]
    rfl
section
variable {prog : Program} {w : World} {A : Around} {E : Value → Shared → Prop} {s : Shared} {a : Addr} {es : Array (Int × Value)} {ep : Nat} {t : SetTable}
/-- iter(a set): a walk that meets each of its elements once -/
theorem iter_set {B : Around} {Q : Value → Shared → Prop} (hB : B.handled = none) (ty : s.TypeIs (.ref a) "set") (O : ObjAt s.heap a es ep t) (T : Tab (w.params.followText "set-order") t) (hz : es.size ≤ sizeLine)
    (hQ : ∀ I h' d' fp P (St : Nat → Heap → Prop), Walks prog w B I fp [I] es.size P St → St 0 h' → (∀ b ∈ fp, b = a ∨ (s.heap.objs.size ≤ b ∧ b < h'.objs.size)) → (∀ acc, ItemsOf P acc es.size → acc.toList.Perm (es.toList.map (·.2))) →
      (∀ b o, s.heap.get? b = some o → h'.get? b = some o) → s.heap.objs.size ≤ I → Q (.ref I) { s with heap := h', drawn := d' }) : wpAny (model prog w) A (pyIter (.ref a)) Q E s := by
  have hf : t.fits es.size = true := O.choose_spec.2.2
  have alt : a < s.heap.objs.size := Heap.lt_size O.choose_spec.1
  refine wpAny_pyIter_slot ty PySem.F.slot_set_iter (wpAny_call_entry PySem.F.slot_set_iter ty en_siter ?_ (PySem.F.args_set_iter_1 _))
  unfold Builtin.«frozenset.__iter__» Builtin.Frozenset.slot0
  refine wpAny_bind (wpAny_bind (wpAny_of_eq (a := (Value.ref a, [])) rfl (wpAny_of_eq (a := a) rfl ?_)))
  unfold Builtin.Frozenset.sizeOf setEntries
  refine wpAny_bind (wpAny_bind (wpAny_bind (state_at O (wpAny_pure (wpAny_pure ?_)))))
  unfold setDrawn setsByText
  refine wpAny_bind (wpAny_bind (state_at O (wpAny_bind (wpAny_bind (wpAny_askSetting (wpAny_pure (wpAny_pure ?_)))))))
  show wpAny _ _ (if (!w.params.followText "set-order" && (!t.plain && decide (es.size > 1))) = true then _ else _) _ _ _
  have body : ∀ (first : Value) (s1 : Shared), ObjAt s1.heap a es ep t → (∀ I h', h' = s1.heap.push { cls := .type "set_iterator", data := .fields #[first, .int (0 : Nat) 0, .ref a, .int es.size 0, .int ep 0] } → I = s1.heap.objs.size → IterAt h' I a first 0 es.size ep → ObjAt h' a es ep t → Q (.ref I) { s1 with heap := h' }) →
      wpAny (model prog w) A.in1 (setEpoch a >>= fun e => newFields "set_iterator" [first, rawInt 0, .ref a, rawInt es.size, rawInt e] >>= fun x => ret x) (fun fin s' => ∃ v, fin = .done (.ret v) ∧ ∃ T' r, s'.TypeIs v T' ∧ typeLookup (.type T') "__next__" = pure (some r) ∧ Q v s') E s1 := fun first s1 O1 q => by
    unfold setEpoch
    refine wpAny_bind (wpAny_bind (state_at O1 (wpAny_pure ?_)))
    refine wpAny_bind (wpAny_newObj_type (wpAny_pure ?_))
    have g : (s1.heap.push { cls := .type "set_iterator", data := .fields #[first, .int (0 : Nat) 0, .ref a, .int es.size 0, .int ep 0] }).get? s1.heap.objs.size = some { cls := .type "set_iterator", data := .fields #[first, .int (0 : Nat) 0, .ref a, .int es.size 0, .int ep 0] } := Heap.get?_push_size _ rfl
    exact ⟨_, rfl, "set_iterator", _, ⟨_, g, rfl⟩, si_next.lookup, q _ _ rfl rfl ⟨_, g, rfl, rfl⟩ (O1.keep fun o e => Heap.get?_push_of_some _ e)⟩
  have pin : ∀ (F : Nat → Nat) (ord : Nat → Value), F 0 = 0 → (∀ i, i ≤ es.size → ∀ (s : Shared), ObjAt s.heap a es ep t → ∀ (A' : Around) (E' : Value → Shared → Prop) (Q' : Option (Value × Nat) → Shared → Prop),
      Q' (if i < es.size then some (ord i, F (i + 1)) else none) s → wpAny (model prog w) A' (setNext a (F i) i ep) Q' E' s) → ((List.range es.size).map ord).Perm (es.toList.map (·.2)) →
      wpAny (model prog w) A.in1 (setEpoch a >>= fun e => newFields "set_iterator" [rawInt 0, rawInt 0, .ref a, rawInt es.size, rawInt e] >>= fun x => ret x) (fun fin s' => ∃ v, fin = .done (.ret v) ∧ ∃ T' r, s'.TypeIs v T' ∧ typeLookup (.type T') "__next__" = pure (some r) ∧ Q v s') E s := fun F ord F0 st pm => by
    refine body (rawInt 0) s O fun I h' eh eI It O' => ?_
    have Ilt : I < h'.objs.size := by rw [eh, eI, Heap.size_push]; exact Nat.lt_succ_self _
    refine hQ I h' s.drawn [I, a] _ _ (walks_int (prog := prog) (w := w) (A := B) hB (by rw [eI]; exact Nat.ne_of_lt alt) st) ⟨Nat.zero_le _, by rw [F0]; exact It, O'⟩ (fun b hb => ?_) (fun acc hacc => ?_) (fun b o e => by rw [eh]; exact Heap.get?_push_of_some _ e) (by rw [eI]; exact Nat.le_refl _)
    · simp only [List.mem_cons, List.not_mem_nil, or_false] at hb
      rcases hb with rfl | rfl
      · exact .inr ⟨by rw [eI]; exact Nat.le_refl _, Ilt⟩
      · exact .inl rfl
    · rw [items_eq hacc fun i v _ q => q]
      exact pm
  by_cases hd : (!w.params.followText "set-order" && (!t.plain && decide (es.size > 1))) = true
  · rw [if_pos hd]
    refine wpAny_bind (draw_perm es.size (List.range es.size) s _ (by simp) fun ord d hp => ?_)
    have ol : ord.length = es.size := by rw [hp.length_eq]; simp
    refine wpAny_bind (wpAny_newObj_type ?_ ?_)
    · refine body (.ref s.heap.objs.size) { s with heap := s.heap.push { cls := .type "tuple", data := .seq (ord.map fun i : Nat => rawInt i).toArray }, drawn := d } (O.keep fun o e => Heap.get?_push_of_some _ e) fun I h' eh eI It O' => ?_
      have eI' : I = s.heap.objs.size + 1 := by rw [eI]; exact Heap.size_push _ _
      have Ilt : h'.objs.size = s.heap.objs.size + 2 := by rw [eh, Heap.size_push, Heap.size_push]
      have P : PlacesAt h' s.heap.objs.size (ord.map fun i : Nat => rawInt i).toArray := ⟨_, _, by rw [eh]; exact Heap.get?_push_of_some _ (Heap.get?_push_size _ rfl), rfl⟩
      refine hQ I h' d [I, a, s.heap.objs.size] _ _ (walks_drawn (prog := prog) (w := w) (A := B) hB (by rw [eI']; exact Nat.ne_of_lt (Nat.lt_succ_of_lt alt)) (by rw [eI']; exact Nat.ne_of_lt (Nat.lt_succ_self _)) rfl ol fun i hi => by
        have := hp.mem_iff.mp hi
        simpa using this) ⟨Nat.zero_le _, ⟨It, O'⟩, P⟩ (fun b hb => ?_) (fun acc hacc => ?_) (fun b o e => by rw [eh]; exact Heap.get?_push_of_some _ (Heap.get?_push_of_some _ e)) (by rw [eI']; exact Nat.le_succ _)
      · simp only [List.mem_cons, List.not_mem_nil, or_false] at hb
        rcases hb with rfl | rfl | rfl
        · exact .inr ⟨by rw [eI']; exact Nat.le_succ _, by rw [Ilt, eI']; exact Nat.lt_succ_self _⟩
        · exact .inl rfl
        · exact .inr ⟨Nat.le_refl _, by rw [Ilt]; exact Nat.lt_succ_of_lt (Nat.lt_succ_self _)⟩
      · have e1 : acc.toList = (List.range es.size).map fun i => (es.getD (ord.getD i 0) (0, .none)).2 := items_eq hacc fun i v lt ⟨j, hj, k, hk⟩ => by
          have hlt : j < es.size := by
            have := hp.mem_iff.mp (List.mem_of_getElem? hj)
            simpa using this
          have hi : i < ord.length := by omega
          rw [List.getElem?_eq_getElem hi] at hj
          cases hj
          rw [Array.getElem?_eq_getElem hlt] at hk
          cases hq : es[ord[i]]
          rw [hq] at hk
          cases hk
          simp [Array.getD, hi, hlt, hq]
        rw [e1]
        have e2 : (List.range es.size).map (fun i => (es.getD (ord.getD i 0) (0, .none)).2) = ord.map fun j => (es.getD j (0, .none)).2 := by
          have := range_arr ord.toArray 0 fun j => (es.getD j (0, .none)).2
          simpa [ol] using this
        rw [e2, ← range_arr es (0, .none) (·.2)]
        exact hp.map _
    · show (ord.map fun i : Nat => rawInt i).toArray.size ≤ sizeLine
      simp [ol, hz]
  · rw [if_neg hd]
    refine wpAny_bind (wpAny_pure ?_)
    cases hb : w.params.followText "set-order" with
    | true =>
      refine pin (fun _ => 0) (fun i => ((pickOrder (w.params.setOrder a ep) es).getD i (0, .none)).2) rfl (fun i hi s O A' E' Q' q => next_text hb i hi s O A' E' Q' q) ?_
      have sz : (pickOrder (w.params.setOrder a ep) es).size = es.size := by
        have := (pick_perm (w.params.setOrder a ep) es).length_eq
        simpa using this
      rw [← sz, range_arr]
      exact (pick_perm _ _).map _
    | false =>
      have T' := T
      rw [hb] at T'
      rw [hb] at hd
      refine pin (slotAt t) (fun i => (es.getD i (0, .none)).2) rfl (fun i hi s O A' E' Q' q => next_plain hb T' hf (by simpa using hd) i hi s O A' E' Q' q) ?_
      rw [range_arr]
end
end SetL
end L2
namespace L2
open PySem PySem.Spec PyProof.Rows
namespace SetL
theorem len_set : typeLookup (.type "set") "__len__" = pure (some (.builtin "set.__len__")) := by rw [typeLookup_type, builtinLookup_eq_fast]; kernel_rfl
theorem wp_if {M : Model} {A : Around} {α : Type} {Q : α → Shared → Prop} {E : Value → Shared → Prop} {s : Shared} {c : Prop} [Decidable c] {x y : Sem α} (hc : c) (h : wpAny M A x Q E s) : wpAny M A (if c then x else y) Q E s := by rw [if_pos hc]; exact h
theorem wp_ifn {M : Model} {A : Around} {α : Type} {Q : α → Shared → Prop} {E : Value → Shared → Prop} {s : Shared} {c : Prop} [Decidable c] {x y : Sem α} (hc : ¬ c) (h : wpAny M A y Q E s) : wpAny M A (if c then x else y) Q E s := by rw [if_neg hc]; exact h
section
variable {prog : Program} {w : World} {A : Around} {E : Value → Shared → Prop} {s : Shared} {a : Addr} {es : Array (Int × Value)} {ep : Nat} {t : SetTable}
theorem hint_set {Q : Bool → Shared → Prop} (ty : s.TypeIs (.ref a) "set") (q : Q false s) : wpAny (model prog w) A (Builtin.List.listLengthHint (.ref a)) Q E s := by
  unfold Builtin.List.listLengthHint
  refine wpAny_bind (wpAny_specialOf ty len_set ?_)
  generalize hid : ("set.__len__" : String) = id0
  have h1 : splitId id0 = some ("set", "__len__") := by subst hid; decide +kernel
  dsimp only
  rw [h1]
  subst hid
  refine wpAny_bind (wpAny_isInstance (b := true) ty (by rw [isSubtype_type]; kernel_rfl) ?_)
  refine wp_ifn (by simp) (wp_if (by decide +kernel) (wpAny_bind (wpAny_typeOf ty ?_)))
  exact wpAny_pure q
theorem collect_set {Q : List Value → Shared → Prop} (hh : A.handled = none) (ty : s.TypeIs (.ref a) "set") (O : ObjAt s.heap a es ep t) (T : Tab (w.params.followText "set-order") t) (hz : es.size ≤ sizeLine)
    (hQ : ∀ vs h' d' tk, vs.Perm (es.toList.map (·.2)) → (∀ b o, s.heap.get? b = some o → h'.get? b = some o) → Q vs { s with heap := h', drawn := d', toks := tk }) : wpAny (model prog w) A (collect (.ref a)) Q E s := by
  have alt : a < s.heap.objs.size := Heap.lt_size O.choose_spec.1
  unfold collect
  refine wpAny_bind (wpAny_runValue (codeAny_builtin PySem.F.entry_proto_collect ?_))
  rw [Around.under_plainId PySem.F.plain_proto_collect _]
  show wpAny _ A.in1 (newList [] >>= fun l => again (.builtin "list.__iadd__" ⟨[l, .ref a], []⟩)) _ _ s
  refine wpAny_bind (wpAny_newObj_type ?_)
  refine wpAny_pure ⟨plainId_quiet PySem.F.plain_list_iadd _, codeAny_builtin PySem.F.entry_list_iadd ?_⟩
  rw [Around.under_plainId PySem.F.plain_list_iadd _]
  show wpAny _ A.in1 (Builtin.List.listExtendWith (.ref s.heap.objs.size) (.ref a) (.ref s.heap.objs.size)) _ _ _
  have ne : Builtin.List.listSameRef (.ref s.heap.objs.size) (.ref a) = false := by
    have : s.heap.objs.size ≠ a := Nat.ne_of_gt alt
    simp [Builtin.List.listSameRef, this]
  obtain ⟨oa, hoa, hca⟩ := id ty
  have ty1 : ({ s with heap := s.heap.push { cls := .type "list", data := .seq ([] : List Value).toArray } } : Shared).TypeIs (.ref a) "set" := ⟨oa, Heap.get?_push_of_some _ hoa, hca⟩
  unfold Builtin.List.listExtendWith
  refine wpAny_bind (wpAny_typeOf ty1 ?_)
  rw [if_neg (by rw [ne]; decide)]
  refine wpAny_bind (iter_set (B := A.in1) (by simp [hh]) ty1 (O.keep fun o e => Heap.get?_push_of_some _ e) T hz fun I h' d' fp P St W st0 hfp pm kp hI => ?_)
  have S1 : h'.get? s.heap.objs.size = some { cls := .type "list", data := .seq ([] : List Value).toArray } := kp _ _ (Heap.get?_push_size _ rfl)
  refine wpAny_bind (wpAny_holding (hint_set ⟨oa, kp _ _ (Heap.get?_push_of_some _ hoa), hca⟩ ?_))
  refine wp_if (by decide +kernel) (wpAny_bind (wpAny_rule (wpAny_bind ?_)))
  unfold Builtin.List.listTouch
  have g1 : (h'.update s.heap.objs.size (Obj.mapSeq (·.push Value.none))).get? s.heap.objs.size = some { cls := .type "list", data := .seq #[.none] 1 } := Heap.get?_update_self _ S1 rfl
  have g2 : ((h'.update s.heap.objs.size (Obj.mapSeq (·.push Value.none))).update s.heap.objs.size (Obj.mapSeq (·.pop))).get? s.heap.objs.size = some { cls := .type "list", data := .seq #[] 2 } := Heap.get?_update_self _ g1 rfl
  refine wpAny_bind (listUpdate_at S1 rfl (listUpdate_at g1 rfl ?_ (by decide) (by decide)) (by decide) (by decide))
  have Sf : s.heap.objs.size ∉ fp := fun z => by
    rcases hfp _ z with e | ⟨e, _⟩
    · exact absurd alt (by rw [← e]; exact Nat.lt_irrefl _)
    · rw [Heap.size_push] at e
      exact Nat.not_succ_le_self _ e
  have st1 : St 0 ((h'.update s.heap.objs.size (Obj.mapSeq (·.push Value.none))).update s.heap.objs.size (Obj.mapSeq (·.pop))) := W.frame 0 h' _ st0 fun b hb o e => by
    have nb : b ≠ s.heap.objs.size := fun z => Sf (z ▸ hb)
    exact (Heap.get?_update_ne _ _ _ _ nb).trans ((Heap.get?_update_ne _ _ _ _ nb).trans e)
  refine wpAny_pure ⟨plainId_quiet PySem.F.plain_extend_loop _, codeAny_extend_loopS W.toS hz _ Sf _ es.size 0 _ #[] 2 rfl (Nat.zero_le _) st1 g2 (ItemsOf.nil P) fun s' acc c mv S' hacc => ?_⟩
  show wpAny _ A (load s.heap.objs.size >>= _) _ _ s'
  refine wpAny_bind (wpAny_load S' (wpAny_pure ?_))
  obtain ⟨h2, g', d2, tk', os'⟩ := s'
  obtain rfl : g' = s.gens := mv.gens
  obtain rfl : os' = s.os := mv.os
  refine hQ acc.toList h2 d2 tk' (pm acc hacc) fun b o e => mv.heap b o ?_ ?_
  · intro z
    have lt := Heap.lt_size e
    rcases List.mem_cons.mp z with z | z
    · exact absurd lt (by rw [z]; exact Nat.lt_irrefl _)
    · have z' : b = I := by simpa using z
      rw [z'] at lt
      have : s.heap.objs.size + 1 ≤ I := by rw [← Heap.size_push]; exact hI
      exact absurd (Nat.lt_of_lt_of_le lt (Nat.le_trans (Nat.le_succ _) this)) (Nat.lt_irrefl _)
  · have nb : b ≠ s.heap.objs.size := Nat.ne_of_lt (Heap.lt_size e)
    exact (Heap.get?_update_ne _ _ _ _ nb).trans ((Heap.get?_update_ne _ _ _ _ nb).trans (kp b o (Heap.get?_push_of_some _ e)))
end
end SetL
end L2
namespace L2
open PySem PySem.Spec PyProof.Rows
namespace SetL
theorem ints_of : ∀ {vs : List Value}, (∀ v ∈ vs, ∃ m t, v = .int m t) → IntsAre vs (vs.map intOf)
  | [], _ => .nil
  | v :: vs, h => by
    obtain ⟨m, t, rfl⟩ := h v (List.mem_cons_self)
    exact .cons m t (ints_of fun v hv => h v (List.mem_cons_of_mem _ hv))
section
variable {prog : Program} {w : World} {A : Around} {E : Value → Shared → Prop} {s : Shared} {a : Addr} {ms : List Int}
end
end SetL
end L2
namespace L2
open PySem PySem.Spec PyProof.Rows
/-- a set of just the whole numbers ms -/
def SetO (P : Program) (w : World) (a : Addr) (ms : List Int) : HO := .ext fun h => SetL.SetI P w h a ms
theorem SetL.SetI.obj {P : Program} {w : World} {h : Heap} {a : Addr} {ms : List Int} (S : SetL.SetI P w h a ms) : ∃ o, h.get? a = some o := let ⟨⟨o, _, _, _, ⟨e, _⟩, _⟩, _⟩ := S; ⟨o, e⟩
section
variable {X : Cx} {pins : List (Addr × Obj)} {σ : St} {H : Hp} {s : Shared}
theorem Inv.drew (I : Inv X pins σ H s) (d : Drawn) : Inv X pins σ H { s with drawn := d } := ⟨I.ok, I.os, I.bare, I.base, I.loc, I.cell, I.free, I.freeC, I.pin, I.hok, I.len⟩
/-- set(xs), xs a list of whole numbers -/
theorem call_setI (hc : X.calm = true) : CallR X (.type "set") (fun xs H Q => ∃ (l : Addr) (ns : List Int), xs = [.ref l] ∧ SqL X.K H l (ns.map V.int) ∧ ns.length < 4000 ∧
    ∀ (p : Addr) (H' : Hp) (ms : List Int), H p = none → Same H H' → H' p = some (SetO X.prog X.w p ms) → ms.Nodup → (∀ m, m ∈ ms ↔ m ∈ ns) → ms.length ≤ ns.length → Q (.ref p) H') := by
  intro pins s σ H xs us Q I r h
  obtain ⟨l, ns, rfl, hq, hl, q⟩ := h
  obtain ⟨u, rfl, rx⟩ := vals1 r
  cases rx
  obtain ⟨its, rv, pl, hz⟩ := I.list hq
  have len : its.length = ns.length := by rw [← rv.length, List.length_map]
  refine SetL.set_of_list (I.ok.hd hc) pl.isList (by simpa using intsAre_vals rv) (by show its.toArray.size + 1 < 4096; simp; omega) fun h' tk ms S mm lm kp => ?_
  have k : ∀ b o, s.heap.get? b = some o → h'.get? b = some o := fun b o e => kp b o (Heap.lt_size e) e
  refine ⟨.ref s.heap.objs.size, _, I.laid (o := SetO X.prog X.w s.heap.objs.size ms) k (Nat.le_refl _) ⟨S, S.obj, fun h1 h2 p e => p.keep e⟩, rfl, q _ _ ms (I.hok.fresh (Nat.le_refl _)) (same_new (I.hok.fresh (Nat.le_refl _)) _) upd_same S.nd mm lm⟩
end
end L2
namespace L2
open PySem PySem.Spec PyProof.Rows
/-! ### for a, b in zip(xs, ys): two lists -/
section
variable {X : Cx} {pins : List (Addr × Obj)} {σ : St} {H : Hp} {s : Shared} {h' : Heap}
end
end L2
namespace L2
open PySem PySem.Spec PyProof.Rows
/-! ### within a comprehension's block: the written part is named -/
theorem ix_tupK {X : Cx} (K : PySem.W.Frag) (h : X.K = K := by rfl) : IxR X (rIxT K) := by subst h; exact ix_tup
/-! ### lists of tuples of two whole numbers each (tables, spans) -/
inductive Rows2 (K : PySem.W.Frag) (H : Hp) : List V → List (Int × Int) → Prop
  | nil : Rows2 K H [] []
  | cons {p : Addr} {s : Int × Int} {xs : List V} {l : List (Int × Int)} : H p = some (.tup [.int s.1, .int s.2]) → Rows2 K H xs l → Rows2 K H (.ref p :: xs) (s :: l)
section
variable {K : PySem.W.Frag} {H H' : Hp} {xs ys zs : List V} {l : List (Int × Int)} {p : Addr} {s : Int × Int}
theorem Rows2.get (r : Rows2 K H xs l) : ∀ {i : Nat} {x : V}, xs[i]? = some x → ∃ p s, x = .ref p ∧ l[i]? = some s ∧ H p = some (.tup [.int s.1, .int s.2]) := by
  induction r with
  | nil => intro i x e; simp at e
  | cons h _ ih =>
    intro i x e
    cases i with
    | zero => cases e; exact ⟨_, _, rfl, rfl, h⟩
    | succ i => exact ih e
theorem Rows2.length (r : Rows2 K H xs l) : xs.length = l.length := by
  induction r with
  | nil => rfl
  | cons _ _ ih => simp [ih]
theorem Rows2.same (r : Rows2 K H xs l) (s : Same H H') : Rows2 K H' xs l := by
  induction r with
  | nil => exact .nil
  | cons h _ ih => exact .cons (s _ _ h) ih
theorem Rows2.put (r : Rows2 K H xs l) (hp : H p = some (.lst ys)) : Rows2 K (upd H p (.lst zs)) xs l := by
  induction r with
  | nil => exact .nil
  | cons h _ ih => exact .cons (by rw [upd_ne (ne_of h hp (by intro z; cases z))]; exact h) ih
theorem Rows2.push (r : Rows2 K H xs l) (h : H p = some (.tup [.int s.1, .int s.2])) : Rows2 K H (xs ++ [.ref p]) (l ++ [s]) := by
  induction r with
  | nil => exact .cons h .nil
  | cons h' _ ih => exact .cons h' ih
def rowD (s : Int × Int) : PyData := .tuple [.int s.1, .int s.2]
end
end L2
namespace L2
open PySem PySem.Spec PyProof.Rows
/-! ### comprehensions, whatever is walked -/
/-- what is walked has just these items, however the heap grows -/
structure WalkOf (J : It) (H : Hp) (xs : List V) : Prop where
  go : ∀ i H', Same H H' → i < xs.length → J.go i H'
  yld : ∀ i H' x H2, Same H H' → J.yld i H' x H2 → H2 = H' ∧ xs[i]? = some x
  stop : ∀ i H', Same H H' → xs.length ≤ i → J.stop i H'
theorem walk_list {K : PySem.W.Frag} {H : Hp} {a : Addr} {xs : List V} (h : SqL K H a xs) : WalkOf (Itl K a) H xs :=
  ⟨fun i H' s hi => ⟨xs, _, s.seq h, List.getElem?_eq_getElem hi⟩, fun i H' x H2 s y => ⟨y.1, y.2 xs (s.seq h)⟩, fun i H' s hi => ⟨xs, s.seq h, hi⟩⟩
/-- each item by a word of it that new objects don't touch -/
theorem comp_any {J : It} {ix : List Nat} {te : TE} {σ : St} {l : Addr} {xs : List V} {H : Hp} {R : Hp → Prop} (Y : WalkOf J H xs) (hl : H l = none) (hz : xs.length ≤ sizeLine) (P : Nat → V → Hp → Prop)
    (mono : ∀ i v H1 H2, Same H1 H2 → P i v H1 → P i v H2) (put : ∀ i v H1 ys zs, H1 l = some (.lst ys) → P i v H1 → P i v (upd H1 l (.lst zs)))
    (hel : ∀ i x H' Q', xs[i]? = some x → Same H H' → (∀ v H2, Same H' H2 → P i v H2 → Q' v H2) → te (some x :: capts σ ix) H' Q')
    (fin : ∀ ys H', Same H H' → H' l = some (.lst ys) → ys.length = xs.length → (∀ j v, ys[j]? = some v → P j v H') → R H') :
    ∃ W : Nat → Nat → List V → Hp → Prop, (∃ m, W 0 m [] (upd H l (.lst []))) ∧ Turns ix te σ J l R W := by
  refine ⟨fun i m ys H' => m = xs.length - i ∧ i ≤ xs.length ∧ ys.length = i ∧ (∀ j v, ys[j]? = some v → P j v H') ∧ Same H H' ∧ H' l = some (.lst ys), ⟨xs.length, by simp, Nat.zero_le _, rfl, (fun j v e => by simp at e), same_new hl _, upd_same⟩, ?_⟩
  rintro i m ys H' ⟨rfl, hi, hx, hp, sH, hL⟩
  refine ⟨hL, ?_⟩
  by_cases hlt : i < xs.length
  · refine .inr ⟨Y.go i H' sH hlt, by omega, fun x H2 y => ?_⟩
    obtain ⟨rfl, e2⟩ := Y.yld i H' x H2 sH y
    refine hel i x _ _ e2 sH fun v H3 s3 hv => ⟨s3 _ _ hL, xs.length - (i + 1), by omega, rfl, hlt, by rw [List.length_append, hx]; rfl, fun j w e => ?_, same_put (sH.trans s3) hl, upd_same⟩
    by_cases hj : j < ys.length
    · rw [List.getElem?_append_left hj] at e
      exact put _ _ _ _ _ (s3 _ _ hL) (mono _ _ _ _ s3 (hp j w e))
    · by_cases hj2 : j = ys.length
      · subst hj2
        rw [List.getElem?_append_right (Nat.le_refl _), Nat.sub_self] at e
        cases e
        rw [hx]
        exact put _ _ _ _ _ (s3 _ _ hL) hv
      · rw [List.getElem?_eq_none (by rw [List.length_append, List.length_singleton]; omega)] at e
        cases e
  · exact .inl ⟨Y.stop i H' sH (by omega), fin ys H' sH hL (by omega) hp⟩
theorem sIx_nat (n d k : Nat) : HT.sIx n d (some (k : Int)) = min k n := by
  show (if (k : Int) < 0 then ((k : Int) + (n : Int)).toNat else min (k : Int).toNat n) = min k n
  rw [if_neg (by omega)]
  rfl
theorem cutV_lo (xs : List V) (k : Nat) : cutV xs (some (k : Int)) none = xs.drop k := by
  unfold cutV
  rw [sIx_nat, show HT.sIx xs.length xs.length none = xs.length from rfl]
  by_cases h : k ≤ xs.length
  · rw [Nat.min_eq_left h, List.take_of_length_le (by rw [List.length_drop]; exact Nat.le_refl _)]
  · rw [Nat.min_eq_right (by omega), List.drop_of_length_le (Nat.le_refl _), List.drop_of_length_le (by omega), List.take_nil]
theorem cutV_hi (xs : List V) (k : Nat) : cutV xs none (some (k : Int)) = xs.take k := by
  unfold cutV
  rw [sIx_nat, show HT.sIx xs.length 0 none = 0 from rfl, List.drop_zero, Nat.sub_zero]
  by_cases h : k ≤ xs.length
  · rw [Nat.min_eq_left h]
  · rw [Nat.min_eq_right (by omega), List.take_of_length_le (Nat.le_refl _), List.take_of_length_le (by omega)]
theorem rows_by {K : PySem.W.Frag} {H : Hp} : ∀ {ys : List V} {l : List (Int × Int)}, ys.length = l.length → (∀ (j : Nat) v s, ys[j]? = some v → l[j]? = some s → ∃ p, v = .ref p ∧ H p = some (.tup [.int s.1, .int s.2])) → Rows2 K H ys l
  | [], [], _, _ => .nil
  | y :: ys, s :: l, e, h => by
    obtain ⟨p, rfl, hp⟩ := h 0 y s rfl rfl
    exact .cons hp (rows_by (by simpa using e) fun j v u h1 h2 => h (j + 1) v u h1 h2)
  | [], _ :: _, e, _ => by simp at e
  | _ :: _, [], e, _ => by simp at e
end L2
namespace L2
open PySem
end L2
namespace L2
open PySem PySem.Spec PyProof.Rows
section
variable {X : Cx} {pins : List (Addr × Obj)} {σ : St} {H : Hp} {s : Shared} {sc : Scope} {x : Str} {ix : List Nat} {fp : List Addr} {elt iter c : Expr} {te : TE} {tt : TT} {wi : TI} {px pos : Pos}
/-- y = [elt for x in iter if c] -/
theorem ps_setcIf {y : Str} {i : Nat} {py spos : Pos} (hN : X.N.Nodup) (hiy : X.N[i]? = some y) (hy : X.env.scope.names.lookup y = some .local) (O : CompOk X sc x ix) (hi : PI X (.Name x px) iter wi) (htt : ∀ b, PT (X.block sc x ix b) c tt) (hel : ∀ b, PE (X.block sc x ix b) elt te)
    (hc : X.calm = true := by rfl) (hs : ∀ v, foldedSetIterable iter X.env v = pure v := by intro _; rfl) (hsw : swapsWith (.ListComp elt [⟨.Name x px, iter, [c], 0⟩] sc pos) (some (.Name y py)) spos.line X.env = pure true := by rfl) :
    PS X (.Assign [.Name y py] (.ListComp elt [⟨.Name x px, iter, [c], 0⟩] sc pos) spos) (tAsg (tCompIf ix wi tt te) (gName i)) := by
  intro pins s σ H D I h
  rw [exec_Assign_Name_used _ _ _ _ hsw]
  refine wpAny_bind (wpAny_standAt (wpAny_bind ?_))
  show wpAny _ X.A (do let _ ← comprehension (.ListComp elt [⟨.Name x px, iter, [c], 0⟩] sc pos) sc X.env _ (newList []) false (eval iter X.env) (some (assign (.Name y py) X.env))) _ _ s
  refine wpAny_bind (wpAny_mono (wpAny_comprehension_free (use := some (assign (.Name y py) X.env)) (Q := fun _ s' => SP X pins D .next s') rfl hs O.clos O.kind O.names
    (thn (hi pins s σ H _ I h) fun xv s1 h1 => thn h1 fun itv s2 h2 => ?_)) (fun _ s' hq => wpAny_pure (wpAny_pure hq)) fun _ _ e => e)
  obtain ⟨it, fp, tn, J, H2, e, I2, T, st2, f2, hq⟩ := h2
  subst e
  refine comp_coreIf O htt hel hc I2 T st2 f2 (fun l H' => D.nx (σ.set i (some (.ref l))) H') hq ?_
  intro l C m s' H' I' hn hf r
  obtain ⟨o, es, ep, ho, hd, hr⟩ := id hn
  have Ip := I'.addpin ho hf.1 hf.2.1 hf.2.2.1 (by intro v z; rw [hd] at z; cases z)
  refine thn ((pg_name (i := i) hN hiy (Or.inl hy) (Or.inr hy) : PG X (.Name y py) (gName i)) _ s' σ H' (.ref l) (.ref l) (fun σ' H'' => σ' = σ.set i (some (.ref l)) ∧ H'' = H') Ip rfl ⟨rfl, rfl⟩) fun _ s'' ⟨σ'', H'', I'', e1, e2⟩ => ?_
  subst e1 e2
  have pc := (I''.pin (C, o) (List.mem_append_right _ (List.mem_append_right _ List.mem_cons_self))).1
  refine ⟨m, ⟨o, es, ep, pc, hd, hr⟩, fun h' hb => ⟨_, _, ?_, r⟩⟩
  exact I''.unpinned.turned (t' := s''.toks) (fun b o hne e => hb.extBut b o hne e) hf.1 hf.2.1 hf.2.2.2.1 hf.2.2.2.2.1 hf.2.2.2.2.2
end
end L2
namespace L2
open PySem PySem.Spec PyProof.Rows
section
variable {X : Cx} {C : Addr} {x m : Str} {p pos apos : Pos} {e o : Expr} {es : List Expr} {ta : TE} {t : TA} {j k : Nat} {ps : List Str}
/-! ### four classes, one under which the others stand; methods by the class of the instance -/
inductive Kd where
  | plain | bank | thirty | exact
end
/-! ### the facts, by the class's name -/
section
variable {K : PySem.W.Frag} {x : Str} {C f : Addr}
end
end L2
namespace L2
open PySem
end L2
namespace L2
theorem at_last {α : Type} {xs : List α} {v : α} (h : xs[xs.length - 1]? = some v) (h0 : 0 < xs.length) : atI xs (-1) = some v := by
  have e : ixN xs.length (-1) = some (xs.length - 1) := by
    unfold ixN
    rw [if_neg (by decide), if_pos (by omega), show ((-1 : Int) + (xs.length : Int)).toNat = xs.length - 1 by omega]
  unfold atI
  rw [e]
  exact h
end L2
namespace L2
open PySem PySem.Spec PyProof.Rows
end L2
namespace L2
open PySem PySem.Spec PyProof.Rows
/-! ### comprehensions with two names: [elt for x, y in iter] -/
def Cx.block2 (X : Cx) (sc : Scope) (x y0 : Str) (ix : List Nat) (b : Blk) : Cx where
  prog := X.prog
  w := X.w
  K := X.K
  mg := X.mg
  base := X.base
  A := X.A
  N := x :: y0 :: ix.map fun i => X.N.getD i x
  s₀ := b.s
  H₀ := b.H
  env := compEnvC sc (closOf sc X.env) b.C X.env
  outer := X.stack
  stack := X.stack
  ex := b.ex
  fn := fun _ => false
  calm := X.calm
  pn := b.pn
  xe := fun _ _ => False
structure CompOk2 (X : Cx) (sc : Scope) (x y0 : Str) (ix : List Nat) : Prop where
  clos : closureFor sc X.env = pure (closOf sc X.env)
  cell : ∀ y ∈ sc.names, y.2 ≠ .cell
  kind : sc.kind = .function
  names : ∀ y ∈ sc.names, y.2 = .local → sc.names.lookup y.1 = some .local
  var : sc.names.lookup x = some .local
  var2 : sc.names.lookup y0 = some .local
  nd : (x :: y0 :: ix.map fun i => X.N.getD i x).Nodup
  cap : CapsOk X sc x ix
  sub : SubOk X.env.cells (closOf sc X.env)
  has : HasOk (closOf sc X.env) (relabel sc X.env).names
section
variable {X : Cx} {pins : List (Addr × Obj)} {σ : St} {H : Hp} {s : Shared} {sc : Scope} {x y0 : Str} {ix : List Nat} {fp : List Addr}
theorem block_ok2 (I : Inv X pins σ H s) (O : CompOk2 X sc x y0 ix) (hf : ∀ b ∈ fp, FpOk X pins H b) (hx : ∀ b ∈ fp, ∃ o, s.heap.get? b = some o) : (X.block2 sc x y0 ix ⟨s.heap.objs.size, s, H, X.pn ++ pins, fp⟩).Ok where
  mod := I.ok.mod
  kind := O.kind
  glob := I.ok.glob
  blt := I.ok.blt
  above := Nat.le_refl _
  inj := fun y z c h1 h2 => I.ok.inj y z c (O.sub.get y c h1) (O.sub.get z c h2)
  has := fun y h => by
    have h' : (relabel sc X.env).names.lookup y = some .cell ∨ (relabel sc X.env).names.lookup y = some .free := h
    rcases h' with h' | h'
    · exact O.has.get _ (PySem.mem_of_lookup h') (.inl rfl)
    · exact O.has.get _ (PySem.mem_of_lookup h') (.inr rfl)
  cab := fun _ _ h => absurd (show false = true from h) Bool.false_ne_true
  hd := I.ok.hd
  frames := I.ok.frames
  stk := .inl rfl
  exf := fun b hb => by
    obtain ⟨o, e⟩ := hx b hb
    exact ⟨Nat.ne_of_lt (Heap.lt_size e), fun y c h => (hf b hb).2.2.2.2.1 y c (O.sub.get y c h)⟩
  bs := I.bs
  bsz := Nat.le_trans I.ok.bsz I.sz
  noex := fun b o e hb => by
    rcases (hf b hb).2.2.2.1 with z | z
    · exact I.ok.noex b o e z
    · exact absurd (Nat.lt_of_lt_of_le (Heap.lt_size e) (Nat.le_trans I.ok.bsz z)) (Nat.lt_irrefl _)
  exfs := fun b hb z => (List.mem_cons.mp (I.stkSub b z)).elim (hf b hb).2.1 (hf b hb).2.2.1
  funs := I.stack
  frf := I.stkFree
theorem block_inv2 {h₁ : Heap} {m : Str → Option Value} {tk : Nat} (I : Inv X pins σ H s) (O : CompOk2 X sc x y0 ix) (hf : ∀ b ∈ fp, FpOk X pins H b) (hx : ∀ b ∈ fp, ∃ o, s.heap.get? b = some o)
    (hn : h₁.Ns s.heap.objs.size m) (keep : ∀ b o, s.heap.get? b = some o → h₁.get? b = some o) :
    Inv (X.block2 sc x y0 ix ⟨s.heap.objs.size, s, H, X.pn ++ pins, fp⟩) [] (none :: none :: capts σ ix) H { s with heap := h₁, toks := tk } := by
  refine ⟨block_ok2 I O hf hx, rfl, I.bare, Un.kept keep, ⟨m, hn, fun i y v e1 e2 _ => ?_⟩, fun y c h => ?_, I.hok.fresh (Nat.le_refl _), fun y c h => I.freeC y c (O.sub.get y c h), fun p hp => ?_, I.hok.kept keep, ?_⟩
  · cases i with
    | zero => cases e2
    | succ j' =>
     cases j' with
     | zero => cases e2
     | succ j =>
      have e1' : (ix.map fun i => X.N.getD i x)[j]? = some y := e1
      have e2' : (capts σ ix)[j]? = some (some v) := e2
      unfold capts at e2'
      rw [List.getElem?_map] at e1' e2'
      cases q : ix[j]? with
      | none => rw [q] at e1'; cases e1'
      | some i =>
        rw [q] at e1' e2'
        have e3 : X.N.getD i x = y := Option.some.inj e1'
        have e4 : σ.getD i none = some v := Option.some.inj e2'
        obtain ⟨c1, c2, c3⟩ := O.cap.get i (List.mem_of_getElem? q)
        rw [e3] at c1 c2 c3
        have e5 : σ[i]? = some (some v) := by
          rw [List.getD_eq_getElem?_getD] at e4
          cases z : σ[i]? with
          | none => rw [z] at e4; cases e4
          | some a => rw [z] at e4; exact congrArg some e4
        have hl : i < X.N.length := by
          rw [← I.len]
          exact (List.getElem?_eq_some_iff.mp e5).1
        have e6 : X.N[i]? = some y := by
          rw [List.getD_eq_getElem?_getD, List.getElem?_eq_getElem hl] at e3
          rw [List.getElem?_eq_getElem hl]
          exact congrArg some e3
        obtain ⟨m0, _, l0⟩ := I.loc
        have vis : Vis X.env.scope y := by
          rcases c1 with z | z
          · exact .inr (.inl z)
          · exact .inr (.inr z)
        obtain ⟨u, ru, lu⟩ := l0 i y v e6 e5 vis
        refine ⟨u, ru, ?_⟩
        rcases lu with ⟨k, _⟩ | ⟨_, c, hc, o, ho, hd⟩
        · rcases c1 with z | z
          · rw [z] at k; cases k
          · rw [z] at k; cases k
        · exact .inr ⟨c2, c, c3.trans hc, o, keep c o ho, hd⟩
  · obtain ⟨v, o, ho, hd⟩ := I.cell y c (O.sub.get y c h)
    exact ⟨v, o, keep c o ho, hd⟩
  · have hp' : p ∈ X.pn ++ pins := by
      rcases List.mem_append.mp hp with z | z
      · exact z
      · cases z
    obtain ⟨e, n, ne, nf, d⟩ := I.pin p hp'
    exact ⟨keep _ _ e, n, Nat.ne_of_lt (Heap.lt_size e), fun z => (List.mem_cons.mp (I.stkSub _ z)).elim ne nf, d⟩
  · show (none :: none :: capts σ ix).length = (x :: y0 :: ix.map fun i => X.N.getD i x).length
    simp [capts]
theorem block_back2 {pins' : List (Addr × Obj)} {σ' : St} {H' : Hp} {s' : Shared} (I : Inv X pins σ H s) (hf : ∀ b ∈ fp, FpOk X pins H b) (J : Inv (X.block2 sc x y0 ix ⟨s.heap.objs.size, s, H, X.pn ++ pins, fp⟩) pins' σ' H' s') : Inv X pins σ H' s' :=
  I.call' J.os J.base J.hok J.bare fun b hb => ⟨(hf b hb).2.2.2.1, (hf b hb).2.1, (hf b hb).2.2.2.2.1, (hf b hb).2.2.2.2.2⟩
end
def Turns2 (K0 : PySem.W.Frag) (ix : List Nat) (te : TE) (σ : St) (J : It) (l : Addr) (R : Hp → Prop) (W : Nat → Nat → List V → Hp → Prop) : Prop :=
  ∀ i m xs H', W i m xs H' → H' l = some (.lst xs) ∧ ((J.stop i H' ∧ R H') ∨ (J.go i H' ∧ xs.length < sizeLine ∧ ∀ x H2, J.yld i H' x H2 → ∃ p v1 v2, x = .ref p ∧ SqT K0 H2 p [v1, v2] ∧
    te (some v1 :: some v2 :: capts σ ix) H2 fun v H3 => H3 l = some (.lst xs) ∧ ∃ m', m' < m ∧ W (i + 1) m' (xs ++ [v]) (upd H3 l (.lst (xs ++ [v])))))
def tComp2 (K0 : PySem.W.Frag) (ix : List Nat) (wi : TI) (te : TE) : TE := fun σ H Q => wi σ H fun J H1 => ∀ l, H1 l = none → ∃ W : Nat → Nat → List V → Hp → Prop, (∃ m, W 0 m [] (upd H1 l (.lst []))) ∧ Turns2 K0 ix te σ J l (Q (.ref l)) W
section
variable {X : Cx} {pins : List (Addr × Obj)} {σ : St} {H : Hp} {s : Shared} {sc : Scope} {x y0 : Str} {ix : List Nat} {fp : List Addr} {elt iter : Expr} {te : TE} {wi : TI} {px py0 pt0 pos : Pos} {kt0 : Nat}
theorem comp_core2 {it : Addr} {tn : Nat → Heap → Prop} {J : It} {use : Option (Value → Sem Unit)} {Q : Value → Shared → Prop} {E : Value → Shared → Prop} (O : CompOk2 X sc x y0 ix) (hel : ∀ b, PE (X.block2 sc x y0 ix b) elt te) (hc : X.calm = true)
    (I : Inv X pins σ H s) (T : Turn X.prog X.w X.K (.Tuple [.Name x px, .Name y0 py0] kt0 pt0) J fp it tn) (st : tn 0 s.heap) (hf : ∀ b ∈ fp, FpOk X pins H b) (R : Addr → Hp → Prop)
    (h : ∀ l, H l = none → ∃ W : Nat → Nat → List V → Hp → Prop, (∃ m, W 0 m [] (upd H l (.lst []))) ∧ Turns2 X.K ix te σ J l (R l) W)
    (fin : ∀ l C m s' H', Inv X pins σ H' s' → s'.heap.Ns C m → FpOk X pins H' C → R l H' → compPost (model X.prog X.w) X.A E use Q (.ref l) C (.ok .next) s') :
    wpAny (model X.prog X.w) X.A (newList []) (fun acc s₃ => wpAny (model X.prog X.w) X.A (newFunctionEnv sc X.env.globals (closOf sc X.env) [] X.env.qual none .none (some X.env)) (fun cenv s₄ =>
      codeAny (model X.prog X.w) X.A (.compStart (.ListComp elt [⟨.Tuple [.Name x px, .Name y0 py0] kt0 pt0, iter, [], 0⟩] sc pos) 0 (.ref it) acc { cenv with scope := relabel sc X.env }) (compPost (model X.prog X.w) X.A E use Q acc cenv.locals) s₄) E s₃) E s := by
  refine wpAny_newObj_type (wpAny_newFunctionEnv O.cell (by intro y hy; simp at hy) (fun h₁ hns hsb => ?_) O.kind)
  dsimp only at hns hsb ⊢
  have hl0 : H s.heap.objs.size = none := I.hok.fresh (Nat.le_refl _)
  obtain ⟨W, ⟨m0, w0⟩, tr⟩ := h s.heap.objs.size hl0
  have I3 : Inv X pins σ (upd H s.heap.objs.size (.lst [])) { s with heap := s.heap.push { cls := .type "list", dict := none, data := .seq ([] : List Value).toArray } } :=
    I.laid (t' := s.toks) (fun b o e => Heap.get?_push_of_some _ e) (Nat.le_refl _) ⟨Nat.zero_le _, [], 0, .nil, Heap.get?_push_size _ rfl⟩
  have ofp : ∀ b ∈ fp, ∃ o, s.heap.get? b = some o := fun b hb => by
    obtain ⟨o, e, _⟩ := T.obj 0 _ st b hb
    exact ⟨o, e⟩
  generalize e3 : s.heap.push { cls := .type "list", dict := none, data := .seq ([] : List Value).toArray } = G at I3 hns hsb ⊢
  have ofp3 : ∀ b ∈ fp, ∃ o, G.get? b = some o := fun b hb => by
    obtain ⟨o, e⟩ := ofp b hb
    exact ⟨o, by rw [← e3]; exact Heap.get?_push_of_some _ e⟩
  have nl : ∀ b ∈ fp, b ≠ s.heap.objs.size := fun b hb => by
    obtain ⟨o, e⟩ := ofp b hb
    exact Nat.ne_of_lt (Heap.lt_size e)
  have hf3 : ∀ b ∈ fp, FpOk X pins (upd H s.heap.objs.size (.lst [])) b := fun b hb => ⟨by rw [upd_ne (nl b hb)]; exact (hf b hb).1, (hf b hb).2⟩
  have keep3 : ∀ b o, G.get? b = some o → h₁.get? b = some o := fun b o e => hsb.extBut b o (Nat.ne_of_lt (Heap.lt_size e)) (Heap.get?_push_of_some _ e)
  have stk : tn 0 h₁ := T.keep _ _ _ st fun b hb o e => keep3 b o (by rw [← e3]; exact Heap.get?_push_of_some _ e)
  have J0 := block_inv2 (tk := s.toks + ([] : List (Str × Value)).length) I3 O hf3 ofp3 hns keep3
  -- what stays true of the iterator
  have stat : ∀ {H' : Hp}, (∀ b ∈ fp, H' b = none) → ∀ b ∈ fp, FpOk (X.block2 sc x y0 ix ⟨G.objs.size, { s with heap := G }, upd H s.heap.objs.size (.lst []), X.pn ++ pins, fp⟩) [] H' b := fun hn b hb => by
    obtain ⟨o, e⟩ := ofp3 b hb
    refine ⟨hn b hb, Nat.ne_of_lt (Heap.lt_size e), fun z => (List.mem_cons.mp (I3.stkSub _ z)).elim (hf b hb).2.1 (hf b hb).2.2.1, .inl hb, fun y c q => (hf b hb).2.2.2.2.1 y c (O.sub.get y c q), fun p hp => ?_⟩
    have hp' : p ∈ X.pn ++ pins := by
      rcases List.mem_append.mp hp with z | z
      · exact z
      · cases z
    exact (hf b hb).2.2.2.2.2 p hp'
  have loop : ∀ s4 : Shared, s4 = { s with heap := h₁, toks := s.toks + ([] : List (Str × Value)).length } →
      codeAny (model X.prog X.w) X.A (.compLoop (.ListComp elt [⟨.Tuple [.Name x px, .Name y0 py0] kt0 pt0, iter, [], 0⟩] sc pos) 0 (.ref it) (.ref s.heap.objs.size) (compEnvC sc (closOf sc X.env) G.objs.size X.env))
        (compPost (model X.prog X.w) X.A E use Q (.ref s.heap.objs.size) G.objs.size) s4 := by
    rintro s4 rfl
    refine comp_loop (fun n s' => ∃ i xs H' z z', Inv (X.block2 sc x y0 ix ⟨G.objs.size, { s with heap := G }, upd H s.heap.objs.size (.lst []), X.pn ++ pins, fp⟩) [] (z :: z' :: capts σ ix) H' s' ∧ tn i s'.heap ∧ (∀ b ∈ fp, H' b = none) ∧ W i n xs H') ?_ m0
      ⟨0, [], _, none, none, J0, stk, fun b hb => (hf3 b hb).1, w0⟩
    rintro n s5 ⟨i, xs, H5, z, z', I5, st5, fr5, w5⟩
    obtain ⟨hl5, h5⟩ := tr i n xs H5 w5
    rcases h5 with ⟨stop, r5⟩ | ⟨go, hz, step⟩
    · refine thn (T.done (X.block2 sc x y0 ix ⟨G.objs.size, { s with heap := G }, upd H s.heap.objs.size (.lst []), X.pn ++ pins, fp⟩) rfl rfl rfl hc i [] s5 _ H5 _ I5 (stat fr5) st5 stop) fun r s6 ⟨hr, I6⟩ => ?_
      subst hr
      obtain ⟨m6, hn6, _⟩ := I6.loc
      refine fin _ _ m6 s6 H5 (block_back2 I3 hf3 I6) hn6 ?_ r5
      exact I3.fpOk (Nat.le_refl _) I6.free
    · refine thn (T.item (X.block2 sc x y0 ix ⟨G.objs.size, { s with heap := G }, upd H s.heap.objs.size (.lst []), X.pn ++ pins, fp⟩) rfl rfl rfl hc i [] s5 _ H5 _ I5 (stat fr5) st5 go) fun r s6 ⟨u, hr, h6⟩ => ?_
      subst hr
      refine thn h6 fun _ s7 ⟨y, H7, I7, r7, y7, st7, fr7⟩ => ?_
      have I7' := I7.pinned (stat fr7) (T.obj _ _ st7)
      have lx : (relabel sc X.env).names.lookup x = some .local := lookup_relabel_local O.var
      have ly : (relabel sc X.env).names.lookup y0 = some .local := lookup_relabel_local O.var2
      obtain ⟨tp, v1, v2, ey, hT, step⟩ := step y H7 y7
      refine thn ((pg_tup hc (pgs_cons (pg_name (i := 0) O.nd rfl (Or.inl lx) (Or.inr lx)) (pgs_cons (pg_name (i := 1) O.nd rfl (Or.inl ly) (Or.inr ly)) pgs_nil)) : PG (X.block2 sc x y0 ix ⟨G.objs.size, { s with heap := G }, upd H s.heap.objs.size (.lst []), X.pn ++ pins, fp⟩) (.Tuple [.Name x px, .Name y0 py0] kt0 pt0) (gTup X.K 2 (gCons (gName 0) (gCons (gName 1) gNil)))) _ s7 _ H7 y u (fun σ' H' => σ' = some v1 :: some v2 :: capts σ ix ∧ H' = H7) I7' r7 ⟨tp, [v1, v2], ey, hT, rfl, _, _, rfl, _, _, rfl, rfl, rfl, rfl⟩) fun _ s8 ⟨σ8, H8, I8, e8, e8'⟩ => ?_
      subst e8 e8'
      refine thn (hel _ _ s8 _ H8 _ I8 step) fun v9 s9 ⟨v, H9, I9, r9, hl9, m', hm, w9⟩ => ?_
      refine thn (mt_append _ s9 _ H9 (.ref s.heap.objs.size) [v] (.ref s.heap.objs.size) [v9] (fun _ H' => H' = upd H9 s.heap.objs.size (.lst (xs ++ [v]))) I9 rfl (.cons r9 .nil) ⟨_, xs, v, rfl, rfl, hl9, hz, rfl⟩) fun _ s10 ⟨_, H10, I10, _, e10⟩ => ?_
      subst e10
      refine ⟨m', hm, i + 1, xs ++ [v], _, some v1, some v2, I10.unpinned, T.keep _ _ _ st7 fun b hb o e => (I10.pin (b, o) (List.mem_append_right _ (List.mem_append_right _ (mem_pinsAt hb e)))).1, fun b hb => ?_, w9⟩
      obtain ⟨o, e, d⟩ := T.obj _ _ st7 b hb
      exact (I10.pin (b, o) (List.mem_append_right _ (List.mem_append_right _ (mem_pinsAt hb e)))).2.1
  exact codeAny_compStart_list (loop _ rfl) (T.self _ 0 _ _ _ stk (loop _ rfl))
theorem ps_setc2 {y : Str} {i : Nat} {py spos : Pos} (hN : X.N.Nodup) (hiy : X.N[i]? = some y) (hy : X.env.scope.names.lookup y = some .local) (O : CompOk2 X sc x y0 ix) (hi : PI X (.Tuple [.Name x px, .Name y0 py0] kt0 pt0) iter wi) (hel : ∀ b, PE (X.block2 sc x y0 ix b) elt te)
    (hc : X.calm = true := by rfl) (hs : ∀ v, foldedSetIterable iter X.env v = pure v := by intro _; rfl) (hsw : swapsWith (.ListComp elt [⟨.Tuple [.Name x px, .Name y0 py0] kt0 pt0, iter, [], 0⟩] sc pos) (some (.Name y py)) spos.line X.env = pure true := by rfl) :
    PS X (.Assign [.Name y py] (.ListComp elt [⟨.Tuple [.Name x px, .Name y0 py0] kt0 pt0, iter, [], 0⟩] sc pos) spos) (tAsg (tComp2 X.K ix wi te) (gName i)) := by
  intro pins s σ H D I h
  rw [exec_Assign_Name_used _ _ _ _ hsw]
  refine wpAny_bind (wpAny_standAt (wpAny_bind ?_))
  show wpAny _ X.A (do let _ ← comprehension (.ListComp elt [⟨.Tuple [.Name x px, .Name y0 py0] kt0 pt0, iter, [], 0⟩] sc pos) sc X.env _ (newList []) false (eval iter X.env) (some (assign (.Name y py) X.env))) _ _ s
  refine wpAny_bind (wpAny_mono (wpAny_comprehension_free (use := some (assign (.Name y py) X.env)) (Q := fun _ s' => SP X pins D .next s') rfl hs O.clos O.kind O.names
    (thn (hi pins s σ H _ I h) fun xv s1 h1 => thn h1 fun itv s2 h2 => ?_)) (fun _ s' hq => wpAny_pure (wpAny_pure hq)) fun _ _ e => e)
  obtain ⟨it, fp, tn, J, H2, e, I2, T, st2, f2, hq⟩ := h2
  subst e
  refine comp_core2 O hel hc I2 T st2 f2 (fun l H' => D.nx (σ.set i (some (.ref l))) H') hq ?_
  intro l C m s' H' I' hn hf r
  obtain ⟨o, es, ep, ho, hd, hr⟩ := id hn
  have Ip := I'.addpin ho hf.1 hf.2.1 hf.2.2.1 (by intro v z; rw [hd] at z; cases z)
  refine thn ((pg_name (i := i) hN hiy (Or.inl hy) (Or.inr hy) : PG X (.Name y py) (gName i)) _ s' σ H' (.ref l) (.ref l) (fun σ' H'' => σ' = σ.set i (some (.ref l)) ∧ H'' = H') Ip rfl ⟨rfl, rfl⟩) fun _ s'' ⟨σ'', H'', I'', e1, e2⟩ => ?_
  subst e1 e2
  have pc := (I''.pin (C, o) (List.mem_append_right _ (List.mem_append_right _ List.mem_cons_self))).1
  refine ⟨m, ⟨o, es, ep, pc, hd, hr⟩, fun h' hb => ⟨_, _, ?_, r⟩⟩
  exact I''.unpinned.turned (t' := s''.toks) (fun b o hne e => hb.extBut b o hne e) hf.1 hf.2.1 hf.2.2.2.1 hf.2.2.2.2.1 hf.2.2.2.2.2
end
/-- each item by a word of it that new objects don't touch -/
theorem comp_any2 {K0 : PySem.W.Frag} {J : It} {ix : List Nat} {te : TE} {σ : St} {l : Addr} {xs : List V} {pr : List (V × V)} {H : Hp} {R : Hp → Prop} (Y : WalkOf J H xs) (items : ∀ (i : Nat) x, xs[i]? = some x → ∃ p v1 v2, x = .ref p ∧ H p = some (.tup [v1, v2]) ∧ pr[i]? = some (v1, v2)) (hl : H l = none) (hz : xs.length ≤ sizeLine) (P : Nat → V → Hp → Prop)
    (mono : ∀ i v H1 H2, Same H1 H2 → P i v H1 → P i v H2) (put : ∀ i v H1 ys zs, H1 l = some (.lst ys) → P i v H1 → P i v (upd H1 l (.lst zs)))
    (hel : ∀ (i : Nat) v1 v2 H' Q', pr[i]? = some (v1, v2) → Same H H' → (∀ v H2, Same H' H2 → P i v H2 → Q' v H2) → te (some v1 :: some v2 :: capts σ ix) H' Q')
    (fin : ∀ ys H', Same H H' → H' l = some (.lst ys) → ys.length = xs.length → (∀ (j : Nat) v, ys[j]? = some v → P j v H') → R H') :
    ∃ W : Nat → Nat → List V → Hp → Prop, (∃ m, W 0 m [] (upd H l (.lst []))) ∧ Turns2 K0 ix te σ J l R W := by
  refine ⟨fun i m ys H' => m = xs.length - i ∧ i ≤ xs.length ∧ ys.length = i ∧ (∀ (j : Nat) v, ys[j]? = some v → P j v H') ∧ Same H H' ∧ H' l = some (.lst ys), ⟨xs.length, by simp, Nat.zero_le _, rfl, (fun j v e => by simp at e), same_new hl _, upd_same⟩, ?_⟩
  rintro i m ys H' ⟨rfl, hi, hx, hp, sH, hL⟩
  refine ⟨hL, ?_⟩
  by_cases hlt : i < xs.length
  · refine .inr ⟨Y.go i H' sH hlt, by omega, fun x H2 y => ?_⟩
    obtain ⟨rfl, e2⟩ := Y.yld i H' x H2 sH y
    obtain ⟨p, v1, v2, rfl, ht, epr⟩ := items i x e2
    refine ⟨p, v1, v2, rfl, SqT.of (sH _ _ ht), ?_⟩
    refine hel i v1 v2 _ _ epr sH fun v H3 s3 hv => ⟨s3 _ _ hL, xs.length - (i + 1), by omega, rfl, hlt, by rw [List.length_append, hx]; rfl, fun j w e => ?_, same_put (sH.trans s3) hl, upd_same⟩
    by_cases hj : j < ys.length
    · rw [List.getElem?_append_left hj] at e
      exact put _ _ _ _ _ (s3 _ _ hL) (mono _ _ _ _ s3 (hp j w e))
    · by_cases hj2 : j = ys.length
      · subst hj2
        rw [List.getElem?_append_right (Nat.le_refl _), Nat.sub_self] at e
        cases e
        rw [hx]
        exact put _ _ _ _ _ (s3 _ _ hL) hv
      · rw [List.getElem?_eq_none (by rw [List.length_append, List.length_singleton]; omega)] at e
        cases e
  · exact .inl ⟨Y.stop i H' sH (by omega), fin ys H' sH hL (by omega) hp⟩
end L2
/-! The library's sorting of few items, as a tree of questions, told by an order. -/
namespace SortT
open PySem PySem.W PyProof.Rows
variable {N : Nat} {lt : Nat → Nat → Bool}
end SortT
namespace SortT
open PySem PySem.W PyProof.Rows PySem.Calls
/-! ### tuples of two whole numbers -/
def PairAt (h : Heap) (v : Value) (x : Int × Int) : Prop := ∃ a o n t u, v = .ref a ∧ h.get? a = some o ∧ o.cls = .type "tuple" ∧ o.data = .seq #[.int x.1 t, .int x.2 u] n
theorem PairAt.keep {h h' : Heap} {v : Value} {x : Int × Int} (p : PairAt h v x) (k : ∀ a o, v = .ref a → h.get? a = some o → h'.get? a = some o) : PairAt h' v x := by
  obtain ⟨a, o, n, t, u, rfl, e, r⟩ := p
  exact ⟨a, o, n, t, u, rfl, k a o rfl e, r⟩
section
variable {prog : Program} {w : World} {A : Around} {E : Value → Shared → Prop} {s : Shared}
end
end SortT
/-! the library's sort of any number of items, by a rank -/
namespace SortG
open PySem PySem.W PyProof.Rows
section
variable (r : Keyed → Int)
def Kr (xs : Array Keyed) (i : Nat) : Int := match xs[i]? with
  | some p => r p
  | none => 0
theorem Kr_congr {xs ys : Array Keyed} {i j : Nat} (h : xs[i]? = ys[j]?) : Kr r xs i = Kr r ys j := by unfold Kr; rw [h]
/-- rising on a stretch -/
def Sg (xs : Array Keyed) (lo n : Nat) : Prop := ∀ i j, lo ≤ i → i ≤ j → j < lo + n → Kr r xs i ≤ Kr r xs j
def Dg (xs : Array Keyed) (lo n : Nat) : Prop := ∀ i j, lo ≤ i → i ≤ j → j < lo + n → Kr r xs j ≤ Kr r xs i
theorem Kr_mirror {xs : Array Keyed} {i j : Nat} (hj : j ≤ xs.size) (k : Nat) : Kr r (mirror xs i j ((j - i) / 2)) k = if i ≤ k ∧ k < j then Kr r xs (i + j - 1 - k) else Kr r xs k := by
  have e := getElem?_mirror_all (xs := xs) (i := i) hj k
  by_cases c : i ≤ k ∧ k < j
  · rw [if_pos c] at e ⊢; exact Kr_congr r e
  · rw [if_neg c] at e ⊢; exact Kr_congr r e
theorem Kr_bubble {xs : Array Keyed} {src d : Nat} (hs : src < xs.size) (hd : d ≤ src) (k : Nat) : Kr r (bubble xs src d) k = if k = src - d then Kr r xs src else if src - d < k ∧ k ≤ src then Kr r xs (k - 1) else Kr r xs k := by
  have e := getElem?_bubble hs d hd k
  by_cases h1 : k = src - d
  · rw [if_pos h1] at e ⊢; exact Kr_congr r e
  · rw [if_neg h1] at e ⊢
    by_cases h2 : src - d < k ∧ k ≤ src
    · rw [if_pos h2] at e ⊢; exact Kr_congr r e
    · rw [if_neg h2] at e ⊢; exact Kr_congr r e
end
/-- the state: the same items, nothing failed -/
structure Bs (κ : SortKind) (a0 : Array Keyed) (st : SortSt) : Prop where
  perm : (arrOf st).Perm a0
  kind : kindOf st = κ
  failed : failedOf st = none
theorem Bs.size {κ : SortKind} {a0 : Array Keyed} {st : SortSt} (h : Bs κ a0 st) : (arrOf st).size = a0.size := h.perm.size_eq
theorem Bs.arr {κ : SortKind} {a0 : Array Keyed} {st : SortSt} (h : Bs κ a0 st) {xs : Array Keyed} (hp : xs.Perm (arrOf st)) : Bs κ a0 (setArr st xs) := ⟨hp.trans h.perm, h.kind, h.failed⟩
theorem Bs.at {κ : SortKind} {a0 : Array Keyed} {st : SortSt} (h : Bs κ a0 st) (r : Keyed → Int) {i : Nat} (hi : i < a0.size) : ∃ x, (arrOf st)[i]? = some x ∧ x ∈ a0.toList ∧ Kr r (arrOf st) i = r x := by
  have hi' : i < (arrOf st).size := by rw [h.size]; exact hi
  have e : (arrOf st)[i]? = some (arrOf st)[i] := getElem?_pos _ i hi'
  exact ⟨_, e, (Array.perm_iff_toList_perm.mp h.perm).mem_iff.mp (by simp), by unfold Kr; rw [e]⟩
section
variable {prog : Program} {w : World} {A : Around} {E : Value → Shared → Prop} {s : Shared} {κ : SortKind} {a0 : Array Keyed} {r : Keyed → Int}
/-- questions are answered by the rank -/
def Cmp (prog : Program) (w : World) (A : Around) (s : Shared) (κ : SortKind) (a0 : Array Keyed) (r : Keyed → Int) : Prop :=
  ∀ x ∈ a0.toList, ∀ y ∈ a0.toList, ∀ Q : Bool → Shared → Prop, Q (decide (r x < r y)) s → wpAny (model prog w) A (keyLt' κ x.1 y.1) Q (fun _ _ => False) s
theorem wpS_lt {st : SortSt} {x y : Keyed} {Q : Option Bool → SortSt → Prop} (hc : Cmp prog w A s κ a0 r) (hB : Bs κ a0 st) (hx : x ∈ a0.toList) (hy : y ∈ a0.toList) (h : Q (some (decide (r x < r y))) st) : wpS (model prog w) A E s (lt' x y) Q st := by
  rw [lt'_eq]
  refine wpS_bind (wpS_get ?_)
  refine wpS_bind (wpS_lift (wpAny_attempt ?_))
  rw [hB.kind]
  refine wpAny_mono (hc x hx y hy (fun b s' => s' = s ∧ b = decide (r x < r y)) ⟨rfl, rfl⟩) ?_ fun _ _ z => z.elim
  rintro b s' ⟨rfl, rfl⟩
  exact ⟨rfl, wpS_pure h⟩
theorem wpS_elem {st : SortSt} {xs : Array Keyed} {i : Nat} {x : Keyed} {Q : Keyed → SortSt → Prop} (e : xs[i]? = some x) (h : Q x st) : wpS (model prog w) A E s (elem' xs i) Q st := by
  rw [elem'_eq, e]
  exact wpS_pure h
theorem wpS_ltAt {st : SortSt} {i j : Nat} {Q : Option Bool → SortSt → Prop} (hc : Cmp prog w A s κ a0 r) (hB : Bs κ a0 st) (hi : i < a0.size) (hj : j < a0.size) (h : Q (some (decide (Kr r (arrOf st) i < Kr r (arrOf st) j))) st) : wpS (model prog w) A E s (ltAt' i j) Q st := by
  obtain ⟨x, ex, mx, kx⟩ := hB.at r hi
  obtain ⟨y, ey, my, ky⟩ := hB.at r hj
  rw [ltAt'_eq]
  refine wpS_bind (wpS_get ?_)
  refine wpS_bind (wpS_elem ex (wpS_bind (wpS_elem ey ?_)))
  refine wpS_lt hc hB mx my ?_
  rw [kx, ky] at h
  exact h
theorem wpS_rev {st : SortSt} {i j : Nat} {Q : Unit → SortSt → Prop} (h : Q () (setArr st (mirror (arrOf st) i j ((j - i) / 2)))) : wpS (model prog w) A E s (reverseSlice' i j) Q st := by
  rw [reverseSlice'_eq]; exact wpS_modify h
/-- the same but on a stretch -/
def Eqo (xs ys : Array Keyed) (lo n : Nat) : Prop := ∀ i, i < lo ∨ lo + n ≤ i → ys[i]? = xs[i]?
theorem Eqo.refl {xs : Array Keyed} {lo n : Nat} : Eqo xs xs lo n := fun _ _ => rfl
theorem Eqo.trans {xs ys zs : Array Keyed} {lo n : Nat} (h : Eqo xs ys lo n) (k : Eqo ys zs lo n) : Eqo xs zs lo n := fun i hi => (k i hi).trans (h i hi)
theorem Eqo.mirror {xs : Array Keyed} {lo n i j : Nat} (hi : lo ≤ i) (hj : j ≤ lo + n) (hs : j ≤ xs.size) : Eqo xs (mirror xs i j ((j - i) / 2)) lo n := fun k hk => by
  rw [getElem?_mirror_all hs, if_neg (by omega)]
theorem Eqo.bubble {xs : Array Keyed} {lo n src d : Nat} (hs : src < xs.size) (hd : d ≤ src) (h1 : lo ≤ src - d) (h2 : src < lo + n) : Eqo xs (bubble xs src d) lo n := fun k hk => by
  rw [getElem?_bubble hs d hd, if_neg (by omega), if_neg (by omega)]
/-- what stays: all but the array -/
structure Kp (κ : SortKind) (a0 : Array Keyed) (st st' : SortSt) (lo n : Nat) : Prop where
  bs : Bs κ a0 st'
  pend : pendingOf st' = pendingOf st
  eqo : Eqo (arrOf st) (arrOf st') lo n
theorem Kp.refl {st : SortSt} {lo n : Nat} (h : Bs κ a0 st) : Kp κ a0 st st lo n := ⟨h, rfl, Eqo.refl⟩
theorem Kp.rev {st st' : SortSt} {lo n i j : Nat} (h : Kp κ a0 st st' lo n) (hi : lo ≤ i) (hj : j ≤ lo + n) (hs : lo + n ≤ a0.size) : Kp κ a0 st (setArr st' (PyProof.Rows.mirror (arrOf st') i j ((j - i) / 2))) lo n :=
  ⟨h.bs.arr (mirror_perm _ _ _ _), h.pend, h.eqo.trans (Eqo.mirror hi hj (by rw [h.bs.size]; omega))⟩
theorem Sg.next {xs : Array Keyed} {lo n : Nat} (h : Sg r xs lo n) (h1 : 1 ≤ n) (c : ¬ Kr r xs (lo + n) < Kr r xs (lo + n - 1)) : Sg r xs lo (n + 1) := fun i j h2 h3 h4 => by
  by_cases e : j = lo + n
  · subst e
    by_cases e2 : i = lo + n
    · subst e2; exact Int.le_refl _
    · have := h i (lo + n - 1) h2 (by omega) (by omega)
      omega
  · exact h i j h2 h3 (by omega)
theorem Dg.next {xs : Array Keyed} {lo n : Nat} (h : Dg r xs lo n) (h1 : 1 ≤ n) (c : ¬ Kr r xs (lo + n - 1) < Kr r xs (lo + n)) : Dg r xs lo (n + 1) := fun i j h2 h3 h4 => by
  by_cases e : j = lo + n
  · subst e
    by_cases e2 : i = lo + n
    · subst e2; exact Int.le_refl _
    · have := h i (lo + n - 1) h2 (by omega) (by omega)
      omega
  · exact h i j h2 h3 (by omega)
theorem Sg.one {xs : Array Keyed} {lo : Nat} : Sg r xs lo 1 := fun i j h1 h2 h3 => by
  obtain rfl : i = j := by omega
  exact Int.le_refl _
theorem Dg.up {xs : Array Keyed} {lo n : Nat} (h : Dg r xs lo n) (hs : lo + n ≤ xs.size) : Sg r (PyProof.Rows.mirror xs lo (lo + n) ((lo + n - lo) / 2)) lo n := fun i j h1 h2 h3 => by
  rw [Kr_mirror r hs, Kr_mirror r hs, if_pos (by omega), if_pos (by omega)]
  exact h _ _ (by omega) (by omega) (by omega)
theorem same_mirror {xs : Array Keyed} {i j : Nat} (hs : j ≤ xs.size) (he : ∀ k, i ≤ k → k < j → Kr r xs k = Kr r xs (j - 1)) (k : Nat) : Kr r (PyProof.Rows.mirror xs i j ((j - i) / 2)) k = Kr r xs k := by
  rw [Kr_mirror r hs]
  by_cases c : i ≤ k ∧ k < j
  · rw [if_pos c, he k c.1 c.2, he _ (by omega) (by omega)]
  · rw [if_neg c]
theorem wpS_countRun {st : SortSt} {lo nrem : Nat} {Q : Option Nat → SortSt → Prop} (hc : Cmp prog w A s κ a0 r) (hB : Bs κ a0 st) (h1 : 1 ≤ nrem) (hs : lo + nrem ≤ a0.size)
    (h : ∀ n st', Kp κ a0 st st' lo nrem → 1 ≤ n → n ≤ nrem → Sg r (arrOf st') lo n → Q (some n) st') : wpS (model prog w) A E s (countRun' lo nrem) Q st := by
  rw [countRun'_eq]
  refine wpS_bind (wpS_mono (wpS_forRange (I := fun x c st' => st' = st ∧ c = (none, x) ∧ Sg r (arrOf st) lo x) (Q := fun c st' => st' = st ∧ ∃ n, c = (none, n) ∧ 1 ≤ n ∧ n ≤ nrem ∧ Sg r (arrOf st) lo n ∧ (n = nrem ∨ Kr r (arrOf st) (lo + n) < Kr r (arrOf st) (lo + n - 1))) ?step ?fin ⟨rfl, rfl, Sg.one⟩) ?post)
  case fin =>
    rintro c st' ⟨rfl, rfl, hs'⟩
    rw [show max 1 nrem = nrem by omega] at hs' ⊢
    exact ⟨rfl, nrem, rfl, h1, Nat.le_refl _, hs', .inl rfl⟩
  case step =>
    rintro x c st' hax hxn ⟨rfl, rfl, hs'⟩
    dsimp only
    refine wpS_bind (wpS_ltAt hc hB (by omega) (by omega) ?_)
    by_cases hless : Kr r (arrOf st') (lo + x) < Kr r (arrOf st') (lo + x - 1)
    · simp only [hless, decide_true, if_true]
      exact wpS_pure ⟨rfl, x, rfl, hax, by omega, hs', .inr hless⟩
    · simp only [hless, decide_false, Bool.false_eq_true, if_false]
      exact wpS_pure ⟨rfl, rfl, hs'.next hax hless⟩
  case post =>
    rintro c st' ⟨rfl, n, rfl, n1, n2, hs', he⟩
    dsimp only
    by_cases e : n = nrem
    · rw [if_pos (by rw [e]; exact beq_self_eq_true nrem)]
      exact wpS_pure (h n st' (Kp.refl hB) n1 n2 hs')
    · rw [if_neg (by rw [beq_iff_eq]; exact e)]
      have hl : Kr r (arrOf st') (lo + n) < Kr r (arrOf st') (lo + n - 1) := by rcases he with he | he; exact absurd he e; exact he
      have prep : n > 1 → ¬ Kr r (arrOf st') lo < Kr r (arrOf st') (lo + n - 1) → Dg r (PyProof.Rows.mirror (arrOf st') lo (lo + n) ((lo + n - lo) / 2)) lo (n + 1) := fun g hr => by
        have hsz : lo + n ≤ (arrOf st').size := by rw [hB.size]; omega
        have al : ∀ k, lo ≤ k → k < lo + n → Kr r (arrOf st') k = Kr r (arrOf st') (lo + n - 1) := fun k k1 k2 => by
          have := hs' lo k (Nat.le_refl _) k1 k2
          have := hs' k (lo + n - 1) k1 (by omega) (by omega)
          omega
        have em := same_mirror hsz al
        refine Dg.next (fun i j h1 h2 h3 => ?_) n1 ?_
        · rw [em, em, al i h1 (by omega), al j (by omega) h3]
          exact Int.le_refl _
        · rw [em, em]; omega
      have n3 : n + 1 ≤ nrem := by omega
      by_cases g : n > 1
      · rw [if_pos g]
        refine wpS_bind (wpS_ltAt hc hB (by omega) (by omega) ?_)
        by_cases hr : Kr r (arrOf st') lo < Kr r (arrOf st') (lo + n - 1)
        · simp only [hr, decide_true, if_true]
          exact wpS_pure (h n st' (Kp.refl hB) n1 n2 hs')
        · simp only [hr, decide_false, Bool.false_eq_true, if_false]
          refine wpS_bind (wpS_rev ?_)
          have hK : Kp κ a0 st' (setArr st' (PyProof.Rows.mirror (arrOf st') lo (lo + n) ((lo + n - lo) / 2))) lo nrem := (Kp.refl hB).rev (i := lo) (j := lo + n) (Nat.le_refl _) (by omega) hs
          have hd := prep g hr
          have hd' : Dg r (arrOf (setArr st' (PyProof.Rows.mirror (arrOf st') lo (lo + n) ((lo + n - lo) / 2)))) lo (n + 1) := hd
          generalize setArr st' (PyProof.Rows.mirror (arrOf st') lo (lo + n) ((lo + n - lo) / 2)) = st1 at hK hd' ⊢
          clear hd prep
          refine wpS_bind (wpS_lift (wpAny_rule ⟨rfl, ?_⟩))
          refine wpS_bind (wpS_mono (wpS_forRange (I := fun x c st2 => Kp κ a0 st' st2 lo nrem ∧ ∃ q, c = (none, x, q) ∧ q + 1 ≤ x ∧ Dg r (arrOf st2) lo x ∧ ∀ i, lo + x - (q + 1) ≤ i → i < lo + x → Kr r (arrOf st2) i = Kr r (arrOf st2) (lo + x - 1))
            (Q := fun c st2 => Kp κ a0 st' st2 lo nrem ∧ ∃ m q, c = (none, m, q) ∧ (n + 1 ≤ m ∧ m ≤ nrem) ∧ q + 1 ≤ m ∧ Dg r (arrOf st2) lo m ∧ ∀ i, lo + m - (q + 1) ≤ i → i < lo + m → Kr r (arrOf st2) i = Kr r (arrOf st2) (lo + m - 1)) ?step ?fin ⟨hK, 0, rfl, by omega, hd', fun i h1 h2 => by congr 1; omega⟩) ?post)
          case fin =>
            rintro c st2 ⟨hK2, q, rfl, hq, hd2, he⟩
            rw [show max (n + 1) nrem = nrem by omega] at hq hd2 he ⊢
            exact ⟨hK2, nrem, q, rfl, ⟨n3, Nat.le_refl _⟩, hq, hd2, he⟩
          case step =>
            rintro x c st2 hax hxn ⟨hK2, q, rfl, hq, hd2, he⟩
            dsimp only
            have hsz : lo + x ≤ (arrOf st2).size := by rw [hK2.bs.size]; omega
            refine wpS_bind (wpS_ltAt hc hK2.bs (by omega) (by omega) ?_)
            by_cases hless : Kr r (arrOf st2) (lo + x) < Kr r (arrOf st2) (lo + x - 1)
            · simp only [hless, decide_true, if_true]
              by_cases hneq : q > 0
              · rw [if_pos hneq]
                have em := same_mirror hsz he
                refine wpS_bind (wpS_rev (wpS_pure ⟨hK2.rev (by omega) (by omega) hs, 0, rfl, by omega, ?_, fun i h1 h2 => by congr 1; omega⟩))
                refine Dg.next (fun i j h1 h2 h3 => ?_) (by omega) ?_
                · show Kr r (PyProof.Rows.mirror _ _ _ _) j ≤ Kr r (PyProof.Rows.mirror _ _ _ _) i
                  rw [em, em]; exact hd2 i j h1 h2 h3
                · show ¬ Kr r (PyProof.Rows.mirror _ _ _ _) _ < Kr r (PyProof.Rows.mirror _ _ _ _) _
                  rw [em, em]; omega
              · rw [if_neg hneq]
                exact wpS_pure ⟨hK2, 0, rfl, by omega, hd2.next (by omega) (by omega), fun i h1 h2 => by congr 1; omega⟩
            · simp only [hless, decide_false, Bool.false_eq_true, if_false]
              refine wpS_bind (wpS_ltAt hc hK2.bs (by omega) (by omega) ?_)
              by_cases hlarger : Kr r (arrOf st2) (lo + x - 1) < Kr r (arrOf st2) (lo + x)
              · simp only [hlarger, decide_true, if_true]
                exact wpS_pure ⟨hK2, x, q, rfl, ⟨hax, by omega⟩, hq, hd2, he⟩
              · simp only [hlarger, decide_false, Bool.false_eq_true, if_false]
                refine wpS_pure ⟨hK2, q + 1, rfl, by omega, hd2.next (by omega) hlarger, fun i h1 h2 => ?_⟩
                rw [show lo + (x + 1) - 1 = lo + x by omega]
                by_cases hix : i = lo + x
                · subst hix; rfl
                · have := he i (by omega) (by omega)
                  omega
          case post =>
            rintro c st2 ⟨hK2, m, q, rfl, ⟨m1, m2⟩, hq, hd2, he⟩
            dsimp only
            have hsz : lo + m ≤ (arrOf st2).size := by rw [hK2.bs.size]; omega
            by_cases hneq : q > 0
            · rw [if_pos hneq]
              have em := same_mirror hsz he
              have hK3 := hK2.rev (i := lo + m - (q + 1)) (j := lo + m) (by omega) (by omega) hs
              have hd3 : Dg r (arrOf (setArr st2 (PyProof.Rows.mirror (arrOf st2) (lo + m - (q + 1)) (lo + m) ((lo + m - (lo + m - (q + 1))) / 2)))) lo m := fun i j h1 h2 h3 => by
                show Kr r (PyProof.Rows.mirror _ _ _ _) j ≤ Kr r (PyProof.Rows.mirror _ _ _ _) i
                rw [em, em]; exact hd2 i j h1 h2 h3
              refine wpS_bind (wpS_rev ?_)
              generalize setArr st2 (PyProof.Rows.mirror (arrOf st2) (lo + m - (q + 1)) (lo + m) ((lo + m - (lo + m - (q + 1))) / 2)) = st3 at hK3 hd3 ⊢
              refine wpS_bind (wpS_rev ?_)
              have hK4 := hK3.rev (i := lo) (j := lo + m) (Nat.le_refl _) (by omega) hs
              have sg := hd3.up (by rw [hK3.bs.size]; omega)
              have sg2 : Sg r (arrOf (setArr st3 (PyProof.Rows.mirror (arrOf st3) lo (lo + m) ((lo + m - lo) / 2)))) lo m := sg
              generalize setArr st3 (PyProof.Rows.mirror (arrOf st3) lo (lo + m) ((lo + m - lo) / 2)) = st4 at hK4 sg2 ⊢
              refine wpS_bind (wpS_mono (wpS_forRange (I := fun x c st5 => st5 = st4 ∧ c = (none, x) ∧ Sg r (arrOf st4) lo x) (Q := fun c st5 => st5 = st4 ∧ ∃ m, c = (none, m) ∧ 1 ≤ m ∧ m ≤ nrem ∧ Sg r (arrOf st4) lo m) ?step2 ?fin2 ⟨rfl, rfl, sg2⟩) ?post2)
              case fin2 =>
                rintro c st5 ⟨rfl, rfl, hs5⟩
                rw [show max m nrem = nrem by omega] at hs5 ⊢
                exact ⟨rfl, nrem, rfl, by omega, Nat.le_refl _, hs5⟩
              case step2 =>
                rintro x c st5 hax hxn ⟨rfl, rfl, hs5⟩
                dsimp only
                refine wpS_bind (wpS_ltAt hc hK4.bs (by omega) (by omega) ?_)
                by_cases hless : Kr r (arrOf st5) (lo + x) < Kr r (arrOf st5) (lo + x - 1)
                · simp only [hless, decide_true, if_true]
                  exact wpS_pure ⟨rfl, x, rfl, by omega, by omega, hs5⟩
                · simp only [hless, decide_false, Bool.false_eq_true, if_false]
                  exact wpS_pure ⟨rfl, rfl, hs5.next (by omega) hless⟩
              case post2 =>
                rintro c st5 ⟨rfl, x, rfl, x1, x2, hs5⟩
                exact wpS_pure (h x _ hK4 x1 x2 hs5)
            · rw [if_neg hneq]
              have hK3 := hK2
              have hd3 := hd2
              generalize hst3 : st2 = st3 at hK3 hd3 ⊢
              refine wpS_bind (wpS_rev ?_)
              have hK4 := hK3.rev (i := lo) (j := lo + m) (Nat.le_refl _) (by omega) hs
              have sg := hd3.up (by rw [hK3.bs.size]; omega)
              have sg2 : Sg r (arrOf (setArr st3 (PyProof.Rows.mirror (arrOf st3) lo (lo + m) ((lo + m - lo) / 2)))) lo m := sg
              generalize setArr st3 (PyProof.Rows.mirror (arrOf st3) lo (lo + m) ((lo + m - lo) / 2)) = st4 at hK4 sg2 ⊢
              refine wpS_bind (wpS_mono (wpS_forRange (I := fun x c st5 => st5 = st4 ∧ c = (none, x) ∧ Sg r (arrOf st4) lo x) (Q := fun c st5 => st5 = st4 ∧ ∃ m, c = (none, m) ∧ 1 ≤ m ∧ m ≤ nrem ∧ Sg r (arrOf st4) lo m) ?step2 ?fin2 ⟨rfl, rfl, sg2⟩) ?post2)
              case fin2 =>
                rintro c st5 ⟨rfl, rfl, hs5⟩
                rw [show max m nrem = nrem by omega] at hs5 ⊢
                exact ⟨rfl, nrem, rfl, by omega, Nat.le_refl _, hs5⟩
              case step2 =>
                rintro x c st5 hax hxn ⟨rfl, rfl, hs5⟩
                dsimp only
                refine wpS_bind (wpS_ltAt hc hK4.bs (by omega) (by omega) ?_)
                by_cases hless : Kr r (arrOf st5) (lo + x) < Kr r (arrOf st5) (lo + x - 1)
                · simp only [hless, decide_true, if_true]
                  exact wpS_pure ⟨rfl, x, rfl, by omega, by omega, hs5⟩
                · simp only [hless, decide_false, Bool.false_eq_true, if_false]
                  exact wpS_pure ⟨rfl, rfl, hs5.next (by omega) hless⟩
              case post2 =>
                rintro c st5 ⟨rfl, x, rfl, x1, x2, hs5⟩
                exact wpS_pure (h x _ hK4 x1 x2 hs5)
      · rw [if_neg g]
        have hd' : Dg r (arrOf st') lo (n + 1) := Dg.next (fun i j h1 h2 h3 => by
          obtain rfl : i = j := by omega
          exact Int.le_refl _) (by omega) (by omega)
        have hK : Kp κ a0 st' st' lo nrem := Kp.refl hB
        clear prep
        refine wpS_bind (wpS_lift (wpAny_rule ⟨rfl, ?_⟩))
        refine wpS_bind (wpS_mono (wpS_forRange (I := fun x c st2 => Kp κ a0 st' st2 lo nrem ∧ ∃ q, c = (none, x, q) ∧ q + 1 ≤ x ∧ Dg r (arrOf st2) lo x ∧ ∀ i, lo + x - (q + 1) ≤ i → i < lo + x → Kr r (arrOf st2) i = Kr r (arrOf st2) (lo + x - 1))
          (Q := fun c st2 => Kp κ a0 st' st2 lo nrem ∧ ∃ m q, c = (none, m, q) ∧ (n + 1 ≤ m ∧ m ≤ nrem) ∧ q + 1 ≤ m ∧ Dg r (arrOf st2) lo m ∧ ∀ i, lo + m - (q + 1) ≤ i → i < lo + m → Kr r (arrOf st2) i = Kr r (arrOf st2) (lo + m - 1)) ?step ?fin ⟨hK, 0, rfl, by omega, hd', fun i h1 h2 => by congr 1; omega⟩) ?post)
        case fin =>
          rintro c st2 ⟨hK2, q, rfl, hq, hd2, he⟩
          rw [show max (n + 1) nrem = nrem by omega] at hq hd2 he ⊢
          exact ⟨hK2, nrem, q, rfl, ⟨n3, Nat.le_refl _⟩, hq, hd2, he⟩
        case step =>
          rintro x c st2 hax hxn ⟨hK2, q, rfl, hq, hd2, he⟩
          dsimp only
          have hsz : lo + x ≤ (arrOf st2).size := by rw [hK2.bs.size]; omega
          refine wpS_bind (wpS_ltAt hc hK2.bs (by omega) (by omega) ?_)
          by_cases hless : Kr r (arrOf st2) (lo + x) < Kr r (arrOf st2) (lo + x - 1)
          · simp only [hless, decide_true, if_true]
            by_cases hneq : q > 0
            · rw [if_pos hneq]
              have em := same_mirror hsz he
              refine wpS_bind (wpS_rev (wpS_pure ⟨hK2.rev (by omega) (by omega) hs, 0, rfl, by omega, ?_, fun i h1 h2 => by congr 1; omega⟩))
              refine Dg.next (fun i j h1 h2 h3 => ?_) (by omega) ?_
              · show Kr r (PyProof.Rows.mirror _ _ _ _) j ≤ Kr r (PyProof.Rows.mirror _ _ _ _) i
                rw [em, em]; exact hd2 i j h1 h2 h3
              · show ¬ Kr r (PyProof.Rows.mirror _ _ _ _) _ < Kr r (PyProof.Rows.mirror _ _ _ _) _
                rw [em, em]; omega
            · rw [if_neg hneq]
              exact wpS_pure ⟨hK2, 0, rfl, by omega, hd2.next (by omega) (by omega), fun i h1 h2 => by congr 1; omega⟩
          · simp only [hless, decide_false, Bool.false_eq_true, if_false]
            refine wpS_bind (wpS_ltAt hc hK2.bs (by omega) (by omega) ?_)
            by_cases hlarger : Kr r (arrOf st2) (lo + x - 1) < Kr r (arrOf st2) (lo + x)
            · simp only [hlarger, decide_true, if_true]
              exact wpS_pure ⟨hK2, x, q, rfl, ⟨hax, by omega⟩, hq, hd2, he⟩
            · simp only [hlarger, decide_false, Bool.false_eq_true, if_false]
              refine wpS_pure ⟨hK2, q + 1, rfl, by omega, hd2.next (by omega) hlarger, fun i h1 h2 => ?_⟩
              rw [show lo + (x + 1) - 1 = lo + x by omega]
              by_cases hix : i = lo + x
              · subst hix; rfl
              · have := he i (by omega) (by omega)
                omega
        case post =>
          rintro c st2 ⟨hK2, m, q, rfl, ⟨m1, m2⟩, hq, hd2, he⟩
          dsimp only
          have hsz : lo + m ≤ (arrOf st2).size := by rw [hK2.bs.size]; omega
          by_cases hneq : q > 0
          · rw [if_pos hneq]
            have em := same_mirror hsz he
            have hK3 := hK2.rev (i := lo + m - (q + 1)) (j := lo + m) (by omega) (by omega) hs
            have hd3 : Dg r (arrOf (setArr st2 (PyProof.Rows.mirror (arrOf st2) (lo + m - (q + 1)) (lo + m) ((lo + m - (lo + m - (q + 1))) / 2)))) lo m := fun i j h1 h2 h3 => by
              show Kr r (PyProof.Rows.mirror _ _ _ _) j ≤ Kr r (PyProof.Rows.mirror _ _ _ _) i
              rw [em, em]; exact hd2 i j h1 h2 h3
            refine wpS_bind (wpS_rev ?_)
            generalize setArr st2 (PyProof.Rows.mirror (arrOf st2) (lo + m - (q + 1)) (lo + m) ((lo + m - (lo + m - (q + 1))) / 2)) = st3 at hK3 hd3 ⊢
            refine wpS_bind (wpS_rev ?_)
            have hK4 := hK3.rev (i := lo) (j := lo + m) (Nat.le_refl _) (by omega) hs
            have sg := hd3.up (by rw [hK3.bs.size]; omega)
            have sg2 : Sg r (arrOf (setArr st3 (PyProof.Rows.mirror (arrOf st3) lo (lo + m) ((lo + m - lo) / 2)))) lo m := sg
            generalize setArr st3 (PyProof.Rows.mirror (arrOf st3) lo (lo + m) ((lo + m - lo) / 2)) = st4 at hK4 sg2 ⊢
            refine wpS_bind (wpS_mono (wpS_forRange (I := fun x c st5 => st5 = st4 ∧ c = (none, x) ∧ Sg r (arrOf st4) lo x) (Q := fun c st5 => st5 = st4 ∧ ∃ m, c = (none, m) ∧ 1 ≤ m ∧ m ≤ nrem ∧ Sg r (arrOf st4) lo m) ?step2 ?fin2 ⟨rfl, rfl, sg2⟩) ?post2)
            case fin2 =>
              rintro c st5 ⟨rfl, rfl, hs5⟩
              rw [show max m nrem = nrem by omega] at hs5 ⊢
              exact ⟨rfl, nrem, rfl, by omega, Nat.le_refl _, hs5⟩
            case step2 =>
              rintro x c st5 hax hxn ⟨rfl, rfl, hs5⟩
              dsimp only
              refine wpS_bind (wpS_ltAt hc hK4.bs (by omega) (by omega) ?_)
              by_cases hless : Kr r (arrOf st5) (lo + x) < Kr r (arrOf st5) (lo + x - 1)
              · simp only [hless, decide_true, if_true]
                exact wpS_pure ⟨rfl, x, rfl, by omega, by omega, hs5⟩
              · simp only [hless, decide_false, Bool.false_eq_true, if_false]
                exact wpS_pure ⟨rfl, rfl, hs5.next (by omega) hless⟩
            case post2 =>
              rintro c st5 ⟨rfl, x, rfl, x1, x2, hs5⟩
              exact wpS_pure (h x _ hK4 x1 x2 hs5)
          · rw [if_neg hneq]
            have hK3 := hK2
            have hd3 := hd2
            generalize hst3 : st2 = st3 at hK3 hd3 ⊢
            refine wpS_bind (wpS_rev ?_)
            have hK4 := hK3.rev (i := lo) (j := lo + m) (Nat.le_refl _) (by omega) hs
            have sg := hd3.up (by rw [hK3.bs.size]; omega)
            have sg2 : Sg r (arrOf (setArr st3 (PyProof.Rows.mirror (arrOf st3) lo (lo + m) ((lo + m - lo) / 2)))) lo m := sg
            generalize setArr st3 (PyProof.Rows.mirror (arrOf st3) lo (lo + m) ((lo + m - lo) / 2)) = st4 at hK4 sg2 ⊢
            refine wpS_bind (wpS_mono (wpS_forRange (I := fun x c st5 => st5 = st4 ∧ c = (none, x) ∧ Sg r (arrOf st4) lo x) (Q := fun c st5 => st5 = st4 ∧ ∃ m, c = (none, m) ∧ 1 ≤ m ∧ m ≤ nrem ∧ Sg r (arrOf st4) lo m) ?step2 ?fin2 ⟨rfl, rfl, sg2⟩) ?post2)
            case fin2 =>
              rintro c st5 ⟨rfl, rfl, hs5⟩
              rw [show max m nrem = nrem by omega] at hs5 ⊢
              exact ⟨rfl, nrem, rfl, by omega, Nat.le_refl _, hs5⟩
            case step2 =>
              rintro x c st5 hax hxn ⟨rfl, rfl, hs5⟩
              dsimp only
              refine wpS_bind (wpS_ltAt hc hK4.bs (by omega) (by omega) ?_)
              by_cases hless : Kr r (arrOf st5) (lo + x) < Kr r (arrOf st5) (lo + x - 1)
              · simp only [hless, decide_true, if_true]
                exact wpS_pure ⟨rfl, x, rfl, by omega, by omega, hs5⟩
              · simp only [hless, decide_false, Bool.false_eq_true, if_false]
                exact wpS_pure ⟨rfl, rfl, hs5.next (by omega) hless⟩
            case post2 =>
              rintro c st5 ⟨rfl, x, rfl, x1, x2, hs5⟩
              exact wpS_pure (h x _ hK4 x1 x2 hs5)
theorem wpS_binarySort {st : SortSt} {lo n ok : Nat} {Q : Bool → SortSt → Prop} (hc : Cmp prog w A s κ a0 r) (hB : Bs κ a0 st) (hok : ok ≤ n) (hs : lo + n ≤ a0.size) (hg : Sg r (arrOf st) lo ok)
    (h : ∀ st', Kp κ a0 st st' lo n → Sg r (arrOf st') lo n → Q true st') : wpS (model prog w) A E s (binarySort' lo n ok) Q st := by
  rw [binarySort'_eq]
  refine wpS_bind (wpS_mono (wpS_forRange (I := fun k c st' => c = (none, ()) ∧ Kp κ a0 st st' lo n ∧ Sg r (arrOf st') lo (min k n))
    (Q := fun c st' => c = (none, ()) ∧ Kp κ a0 st st' lo n ∧ Sg r (arrOf st') lo n) ?step ?fin ?init) ?post)
  case post =>
    rintro c st' ⟨rfl, hB', hs'⟩
    exact wpS_pure (h st' hB' hs')
  case init =>
    refine ⟨rfl, Kp.refl hB, fun i j h1 hij hj => ?_⟩
    by_cases h0 : ok = 0
    · obtain rfl : i = j := by omega
      exact Int.le_refl _
    · exact hg i j h1 hij (by omega)
  case fin =>
    rintro c st' ⟨hc', hB', hs'⟩
    refine ⟨hc', hB', ?_⟩
    rwa [show min (max (max ok 1) n) n = n by omega] at hs'
  case step =>
    rintro k c st' hak hkn ⟨rfl, hK, hs'⟩
    rw [show min k n = k by omega] at hs'
    have hk : lo + k < a0.size := by omega
    refine wpS_bind (wpS_mono (wpS_forRange (I := fun x c st'' => st'' = st' ∧ ∃ l q, c = (none, l, q) ∧ l ≤ q ∧ q ≤ k ∧ q - l ≤ k - x ∧
        (∀ i, i < l → Kr r (arrOf st') (lo + i) ≤ Kr r (arrOf st') (lo + k)) ∧ (∀ i, q ≤ i → i < k → Kr r (arrOf st') (lo + k) < Kr r (arrOf st') (lo + i)))
      (Q := fun c st'' => st'' = st' ∧ ∃ l q, c = (none, l, q) ∧ l ≤ k ∧
        (∀ i, i < l → Kr r (arrOf st') (lo + i) ≤ Kr r (arrOf st') (lo + k)) ∧ (∀ i, l ≤ i → i < k → Kr r (arrOf st') (lo + k) < Kr r (arrOf st') (lo + i))) ?istep ?ifin ?iinit) ?ipost)
    case iinit => exact ⟨rfl, 0, k, rfl, by omega, by omega, by omega, fun i hi => by omega, fun i h1 h2 => by omega⟩
    case ifin =>
      rintro c st'' ⟨rfl, l, q, rfl, hlr, hrk, hm, hlo, hhi⟩
      obtain rfl : l = q := by omega
      exact ⟨rfl, l, l, rfl, hrk, hlo, hhi⟩
    case istep =>
      rintro x c st'' _ hxk ⟨rfl, l, q, rfl, hlr, hrk, hm, hlo, hhi⟩
      dsimp only
      by_cases hge : l ≥ q
      · rw [if_pos hge]
        obtain rfl : l = q := by omega
        exact wpS_pure ⟨rfl, l, l, rfl, hrk, hlo, hhi⟩
      · rw [if_neg hge]
        refine wpS_bind (wpS_ltAt hc hK.bs hk (by omega) ?_)
        by_cases hless : Kr r (arrOf st'') (lo + k) < Kr r (arrOf st'') (lo + (l + q) / 2)
        · simp only [hless, decide_true, if_true]
          refine wpS_pure ⟨rfl, l, (l + q) / 2, rfl, by omega, by omega, by omega, hlo, fun i h1 h2 => ?_⟩
          have := hs' (lo + (l + q) / 2) (lo + i) (by omega) (by omega) (by omega)
          omega
        · simp only [hless, decide_false, Bool.false_eq_true, if_false]
          refine wpS_pure ⟨rfl, (l + q) / 2 + 1, q, rfl, by omega, by omega, by omega, fun i h1 => ?_, hhi⟩
          have := hs' (lo + i) (lo + (l + q) / 2) (by omega) (by omega) (by omega)
          omega
    case ipost =>
      rintro c st'' ⟨rfl, l, q, rfl, hlk, hlo, hhi⟩
      show wpS _ _ _ _ (do moveDown' (lo + k) (lo + l); pure (ForInStep.yield (none, ()))) _ _
      rw [moveDown'_eq]
      have hks : lo + k < (arrOf st'').size := by rw [hK.bs.size]; exact hk
      refine wpS_bind (wpS_modify (wpS_pure ⟨rfl, ⟨hK.bs.arr (bubble_perm _ _ _), hK.pend, hK.eqo.trans (Eqo.bubble hks (by omega) (by omega) (by omega))⟩, ?_⟩))
      rw [show min (k + 1) n = k + 1 by omega]
      intro i j h1 hij hj
      show Kr r (PyProof.Rows.bubble (arrOf st'') (lo + k) (lo + k - (lo + l))) i ≤ Kr r (PyProof.Rows.bubble (arrOf st'') (lo + k) (lo + k - (lo + l))) j
      rw [Kr_bubble r hks (by omega), Kr_bubble r hks (by omega), show lo + k - (lo + k - (lo + l)) = lo + l by omega]
      by_cases ei : i = lo + l
      · rw [if_pos ei]
        by_cases ej : j = lo + l
        · rw [if_pos ej]; exact Int.le_refl _
        · rw [if_neg ej, if_pos (by omega)]
          have := hhi (j - 1 - lo) (by omega) (by omega)
          rw [show lo + (j - 1 - lo) = j - 1 by omega] at this
          omega
      · rw [if_neg ei]
        by_cases ej : j = lo + l
        · rw [if_pos ej, if_neg (by omega)]
          have := hlo (i - lo) (by omega)
          rw [show lo + (i - lo) = i by omega] at this
          exact this
        · rw [if_neg ej]
          by_cases ci : lo + l < i ∧ i ≤ lo + k
          · rw [if_pos ci, if_pos (by omega)]
            exact hs' _ _ (by omega) (by omega) (by omega)
          · rw [if_neg ci]
            by_cases cj : lo + l < j ∧ j ≤ lo + k
            · rw [if_pos cj]
              exact hs' _ _ (by omega) (by omega) (by omega)
            · rw [if_neg cj]
              exact hs' _ _ h1 hij (by omega)
def gallop' : Bool → Keyed → Array Keyed → Nat → Nat → Nat → StateT SortSt Sem (Option Nat) := sortPriv% PySem.Builtin.gallop
def mergeLo' : Array Keyed → Array Keyed → StateT SortSt Sem (Array Keyed) := sortPriv% PySem.Builtin.mergeLo
def mergeHi' : Array Keyed → Array Keyed → StateT SortSt Sem (Array Keyed) := sortPriv% PySem.Builtin.mergeHi
def setMinGallop' : Nat → StateT SortSt Sem Unit := sortPriv% PySem.Builtin.setMinGallop
theorem setMinGallop'_eq (g : Nat) : setMinGallop' g = modify fun st => SortSt.mk' (kindOf st) (arrOf st) (pendingOf st) g (failedOf st) := rfl
/-- one question of a search: is this place ahead of the key's? -/
def beyond' (left : Bool) (key : Keyed) (arr : Array Keyed) (base i : Nat) : StateT SortSt Sem (Option Bool) :=
  elem' arr (base + i) >>= fun x => if left = true then lt' x key else lt' key x >>= fun o => pure (o.map fun z => !z)
/-- what is known of a stretch of items that stand in order -/
structure Run (a0 : Array Keyed) (r : Keyed → Int) (xs : Array Keyed) (lo n : Nat) : Prop where
  sz : lo + n ≤ xs.size
  mem : ∀ i x, lo ≤ i → i < lo + n → xs[i]? = some x → x ∈ a0.toList
  up : Sg r xs lo n
def Bey (r : Keyed → Int) (left : Bool) (key : Keyed) (xs : Array Keyed) (i : Nat) : Bool := if left then decide (Kr r xs i < r key) else decide (Kr r xs i ≤ r key)
theorem Run.at {xs : Array Keyed} {lo n i : Nat} (h : Run a0 r xs lo n) (h1 : lo ≤ i) (h2 : i < lo + n) : ∃ x, xs[i]? = some x ∧ x ∈ a0.toList ∧ Kr r xs i = r x := by
  have hi : i < xs.size := by have := h.sz; omega
  have e : xs[i]? = some xs[i] := getElem?_pos _ i hi
  exact ⟨_, e, h.mem i _ h1 h2 e, by unfold Kr; rw [e]⟩
theorem Bey.mono {left : Bool} {key : Keyed} {xs : Array Keyed} {lo n i j : Nat} (h : Sg r xs lo n) (h1 : lo ≤ i) (h2 : i ≤ j) (h3 : j < lo + n) (hb : Bey r left key xs j = true) : Bey r left key xs i = true := by
  have := h i j h1 h2 h3
  unfold Bey at hb ⊢
  cases left
  · simp only [Bool.false_eq_true, if_false, decide_eq_true_eq] at hb ⊢; omega
  · simp only [if_true, decide_eq_true_eq] at hb ⊢; omega
theorem wpS_beyond {st : SortSt} {left : Bool} {key : Keyed} {xs : Array Keyed} {base n i : Nat} {Q : Option Bool → SortSt → Prop} (hc : Cmp prog w A s κ a0 r) (hB : Bs κ a0 st) (R : Run a0 r xs base n) (hk : key ∈ a0.toList) (hi : i < n)
    (h : Q (some (Bey r left key xs (base + i))) st) : wpS (model prog w) A E s (beyond' left key xs base i) Q st := by
  obtain ⟨x, ex, mx, kx⟩ := R.at (i := base + i) (by omega) (by omega)
  unfold beyond'
  refine wpS_bind (wpS_elem ex ?_)
  unfold Bey at h
  cases left
  · simp only [Bool.false_eq_true, if_false] at h
    refine wpS_bind (wpS_lt hc hB hk mx (wpS_pure ?_))
    rw [kx] at h
    rw [show Option.map (fun x => !x) (some (decide (r key < r x))) = some (decide (r x ≤ r key)) from ?_]
    · exact h
    · show some (!decide (r key < r x)) = _
      congr 1
      by_cases c : r key < r x
      · rw [decide_eq_true c, decide_eq_false (by omega)]; rfl
      · rw [decide_eq_false c, decide_eq_true (by omega)]; rfl
  · simp only [if_true] at h
    refine wpS_lt hc hB mx hk ?_
    rw [kx] at h
    exact h
theorem wpS_gallop {st : SortSt} {left : Bool} {key : Keyed} {xs : Array Keyed} {base n hint : Nat} {Q : Option Nat → SortSt → Prop} (hc : Cmp prog w A s κ a0 r) (hB : Bs κ a0 st) (R : Run a0 r xs base n) (hk : key ∈ a0.toList) (hh : hint < n)
    (h : ∀ k, k ≤ n → (∀ i, i < k → Bey r left key xs (base + i) = true) → (∀ i, k ≤ i → i < n → Bey r left key xs (base + i) = false) → Q (some k) st) : wpS (model prog w) A E s (gallop' left key xs base n hint) Q st := by
  have dn : ∀ {i j : Nat}, i ≤ j → j < n → Bey r left key xs (base + j) = true → Bey r left key xs (base + i) = true := fun h1 h2 hb => Bey.mono R.up (by omega) (by omega) (by omega) hb
  have up : ∀ {i j : Nat}, i ≤ j → j < n → Bey r left key xs (base + i) = false → Bey r left key xs (base + j) = false := fun {i j} h1 h2 hb => by
    cases e : Bey r left key xs (base + j) with
    | false => rfl
    | true => rw [dn h1 h2 e] at hb; cases hb
  refine wpS_bind (m := beyond' left key xs base hint) (wpS_beyond hc hB R hk hh ?_)
  cases e0 : Bey r left key xs (base + hint) with
  | true =>
    simp only [if_true]
    refine wpS_bind (wpS_mono (wpS_forRange (I := fun x c st' => st = st' ∧ ∃ l o, c = (none, l, o) ∧ l < o ∧ l < n - hint ∧ x + 1 ≤ o ∧ Bey r left key xs (base + (hint + l)) = true)
      (Q := fun c st' => st = st' ∧ ∃ l o, c = (none, l, o) ∧ l < o ∧ l < n - hint ∧ Bey r left key xs (base + (hint + l)) = true ∧ (o ≥ n - hint ∨ Bey r left key xs (base + (hint + o)) = false)) ?st1 ?fin1 ⟨rfl, 0, 1, rfl, by omega, by omega, by omega, e0⟩) ?post1)
    case fin1 =>
      rintro c st' ⟨rfl, l, o, rfl, h1, h2, h3, h4⟩
      exact ⟨rfl, l, o, rfl, h1, h2, h4, .inl (by omega)⟩
    case st1 =>
      rintro x c st' _ hx ⟨rfl, l, o, rfl, h1, h2, h3, h4⟩
      dsimp only
      by_cases hge : o ≥ n - hint
      · rw [if_pos hge]
        exact wpS_pure ⟨rfl, l, o, rfl, h1, h2, h4, .inl hge⟩
      · rw [if_neg hge]
        refine wpS_bind (wpS_beyond hc hB R hk (by omega) ?_)
        cases em : Bey r left key xs (base + (hint + o)) with
        | true =>
          simp only [Bool.not_true, Bool.false_eq_true, if_false]
          exact wpS_pure ⟨rfl, o, _, rfl, by omega, by omega, by omega, em⟩
        | false =>
          simp only [Bool.not_false, if_true]
          exact wpS_pure ⟨rfl, l, o, rfl, h1, h2, h4, .inr em⟩
    case post1 =>
      rintro c st' ⟨rfl, l, o, rfl, h1, h2, h4, h5⟩
      dsimp only
      have L1 : hint + l + 1 ≤ hint + min o (n - hint) := by omega
      have L2 : hint + min o (n - hint) ≤ n := by omega
      have L3 : ∀ i, i < hint + l + 1 → Bey r left key xs (base + i) = true := fun i hi => dn (by omega) (by omega) h4
      have L4 : ∀ i, hint + min o (n - hint) ≤ i → i < n → Bey r left key xs (base + i) = false := fun i h6 h7 => by
        rcases h5 with h5 | h5
        · omega
        · exact up (by omega) h7 h5
      refine wpS_bind (wpS_mono (wpS_forRange (I := fun x c st' => st = st' ∧ ∃ l q, c = (none, l, q) ∧ l ≤ q ∧ q ≤ n ∧ q - l ≤ n - x ∧ (∀ i, i < l → Bey r left key xs (base + i) = true) ∧ (∀ i, q ≤ i → i < n → Bey r left key xs (base + i) = false))
        (Q := fun c st' => st = st' ∧ ∃ l q, c = (none, l, q) ∧ q ≤ n ∧ (∀ i, i < q → Bey r left key xs (base + i) = true) ∧ (∀ i, q ≤ i → i < n → Bey r left key xs (base + i) = false)) ?st2 ?fin2 ⟨rfl, _, _, rfl, L1, L2, by omega, L3, L4⟩) ?post2)
      case fin2 =>
        rintro c st' ⟨rfl, l, q, rfl, h1, h2, h3, h4, h5⟩
        obtain rfl : l = q := by omega
        exact ⟨rfl, l, l, rfl, h2, h4, h5⟩
      case st2 =>
        rintro x c st' _ hx ⟨rfl, l, q, rfl, h1, h2, h3, h4, h5⟩
        dsimp only
        by_cases hge : l ≥ q
        · rw [if_pos hge]
          obtain rfl : l = q := by omega
          exact wpS_pure ⟨rfl, l, l, rfl, h2, h4, h5⟩
        · rw [if_neg hge]
          refine wpS_bind (wpS_beyond hc hB R hk (by omega) ?_)
          cases em : Bey r left key xs (base + (l + (q - l) / 2)) with
          | true =>
            simp only [if_true]
            exact wpS_pure ⟨rfl, _, q, rfl, by omega, h2, by omega, fun i hi => dn (by omega) (by omega) em, h5⟩
          | false =>
            simp only [Bool.false_eq_true, if_false]
            exact wpS_pure ⟨rfl, l, _, rfl, by omega, by omega, by omega, h4, fun i h6 h7 => up h6 h7 em⟩
      case post2 =>
        rintro c st' ⟨rfl, l, q, rfl, h2, h4, h5⟩
        exact wpS_pure (h q h2 h4 h5)
  | false =>
    simp only [Bool.false_eq_true, if_false]
    refine wpS_bind (wpS_mono (wpS_forRange (I := fun x c st' => st = st' ∧ ∃ l o, c = (none, l, o) ∧ l < o ∧ l ≤ hint ∧ x + 1 ≤ o ∧ Bey r left key xs (base + (hint - l)) = false)
      (Q := fun c st' => st = st' ∧ ∃ l o, c = (none, l, o) ∧ l < o ∧ l ≤ hint ∧ Bey r left key xs (base + (hint - l)) = false ∧ (o ≥ hint + 1 ∨ Bey r left key xs (base + (hint - o)) = true)) ?st1 ?fin1 ⟨rfl, 0, 1, rfl, by omega, by omega, by omega, e0⟩) ?post1)
    case fin1 =>
      rintro c st' ⟨rfl, l, o, rfl, h1, h2, h3, h4⟩
      exact ⟨rfl, l, o, rfl, h1, h2, h4, .inl (by omega)⟩
    case st1 =>
      rintro x c st' _ hx ⟨rfl, l, o, rfl, h1, h2, h3, h4⟩
      dsimp only
      by_cases hge : o ≥ hint + 1
      · rw [if_pos hge]
        exact wpS_pure ⟨rfl, l, o, rfl, h1, h2, h4, .inl hge⟩
      · rw [if_neg hge]
        refine wpS_bind (wpS_beyond hc hB R hk (by omega) ?_)
        cases em : Bey r left key xs (base + (hint - o)) with
        | true =>
          simp only [if_true]
          exact wpS_pure ⟨rfl, l, o, rfl, h1, h2, h4, .inr em⟩
        | false =>
          simp only [Bool.false_eq_true, if_false]
          exact wpS_pure ⟨rfl, o, _, rfl, by omega, by omega, by omega, em⟩
    case post1 =>
      rintro c st' ⟨rfl, l, o, rfl, h1, h2, h4, h5⟩
      dsimp only
      have L1 : hint + 1 - min o (hint + 1) ≤ hint - l := by omega
      have L2 : hint - l ≤ n := by omega
      have L3 : ∀ i, i < hint + 1 - min o (hint + 1) → Bey r left key xs (base + i) = true := fun i hi => by
        rcases h5 with h5 | h5
        · omega
        · exact dn (by omega) (by omega) h5
      have L4 : ∀ i, hint - l ≤ i → i < n → Bey r left key xs (base + i) = false := fun i h6 h7 => up h6 h7 h4
      refine wpS_bind (wpS_mono (wpS_forRange (I := fun x c st' => st = st' ∧ ∃ l q, c = (none, l, q) ∧ l ≤ q ∧ q ≤ n ∧ q - l ≤ n - x ∧ (∀ i, i < l → Bey r left key xs (base + i) = true) ∧ (∀ i, q ≤ i → i < n → Bey r left key xs (base + i) = false))
        (Q := fun c st' => st = st' ∧ ∃ l q, c = (none, l, q) ∧ q ≤ n ∧ (∀ i, i < q → Bey r left key xs (base + i) = true) ∧ (∀ i, q ≤ i → i < n → Bey r left key xs (base + i) = false)) ?st2 ?fin2 ⟨rfl, _, _, rfl, L1, L2, by omega, L3, L4⟩) ?post2)
      case fin2 =>
        rintro c st' ⟨rfl, l, q, rfl, h1, h2, h3, h4, h5⟩
        obtain rfl : l = q := by omega
        exact ⟨rfl, l, l, rfl, h2, h4, h5⟩
      case st2 =>
        rintro x c st' _ hx ⟨rfl, l, q, rfl, h1, h2, h3, h4, h5⟩
        dsimp only
        by_cases hge : l ≥ q
        · rw [if_pos hge]
          obtain rfl : l = q := by omega
          exact wpS_pure ⟨rfl, l, l, rfl, h2, h4, h5⟩
        · rw [if_neg hge]
          refine wpS_bind (wpS_beyond hc hB R hk (by omega) ?_)
          cases em : Bey r left key xs (base + (l + (q - l) / 2)) with
          | true =>
            simp only [if_true]
            exact wpS_pure ⟨rfl, _, q, rfl, by omega, h2, by omega, fun i hi => dn (by omega) (by omega) em, h5⟩
          | false =>
            simp only [Bool.false_eq_true, if_false]
            exact wpS_pure ⟨rfl, l, _, rfl, by omega, by omega, by omega, h4, fun i h6 h7 => up h6 h7 em⟩
      case post2 =>
        rintro c st' ⟨rfl, l, q, rfl, h2, h4, h5⟩
        exact wpS_pure (h q h2 h4 h5)
end
/-! merging, as lists -/
section
variable {r : Keyed → Int} {la lb l : List Keyed} {ia ib : Nat} {x : Keyed}
def Srt (r : Keyed → Int) (l : List Keyed) : Prop := l.Pairwise fun x y => r x ≤ r y
theorem Srt.append {l m : List Keyed} (h : Srt r l) (k : Srt r m) (c : ∀ x ∈ l, ∀ y ∈ m, r x ≤ r y) : Srt r (l ++ m) := List.pairwise_append.mpr ⟨h, k, c⟩
theorem Srt.drop (h : Srt r l) (n : Nat) : Srt r (l.drop n) := List.Pairwise.sublist (List.drop_sublist n l) h
theorem Srt.take (h : Srt r l) (n : Nat) : Srt r (l.take n) := List.Pairwise.sublist (List.take_sublist n l) h
theorem drop_at {i : Nat} (e : l[i]? = some x) : l.drop i = x :: l.drop (i + 1) := by
  obtain ⟨h, rfl⟩ := List.getElem?_eq_some_iff.mp e
  exact List.drop_eq_getElem_cons h
theorem take_at {i : Nat} (e : l[i]? = some x) : l.take (i + 1) = l.take i ++ [x] := by
  rw [List.take_add_one, e]; rfl
theorem Srt.ahead (h : Srt r l) {i : Nat} (e : l[i]? = some x) : ∀ y ∈ l.drop i, r x ≤ r y := fun y hy => by
  rw [drop_at e] at hy
  rcases List.mem_cons.mp hy with rfl | hy
  · exact Int.le_refl _
  · have := h.drop i
    rw [drop_at e] at this
    exact (List.pairwise_cons.mp this).1 y hy
theorem Srt.behind (h : Srt r l) {i : Nat} (e : l[i]? = some x) : ∀ y ∈ l.take (i + 1), r y ≤ r x := fun y hy => by
  rw [take_at e] at hy
  rcases List.mem_append.mp hy with hy | hy
  · have := h.take (i + 1)
    rw [take_at e] at this
    exact (List.pairwise_append.mp this).2.2 y hy x List.mem_cons_self
  · obtain rfl : y = x := by simpa using hy
    exact Int.le_refl _
def Fin (r : Keyed → Int) (la lb l : List Keyed) : Prop := l.Perm (la ++ lb) ∧ Srt r l
structure Mg (r : Keyed → Int) (la lb l : List Keyed) (ia ib : Nat) : Prop where
  ha : ia ≤ la.length
  hb : ib ≤ lb.length
  pm : l.Perm (la.take ia ++ lb.take ib)
  so : Srt r l
  xa : ∀ x ∈ l, ∀ y ∈ la.drop ia, r x ≤ r y
  xb : ∀ x ∈ l, ∀ y ∈ lb.drop ib, r x ≤ r y
theorem mem_snoc {p : Keyed → Prop} (h : ∀ y ∈ l, p y) (k : p x) : ∀ y ∈ l ++ [x], p y := fun y hy => by
  rcases List.mem_append.mp hy with hy | hy
  · exact h y hy
  · obtain rfl : y = x := by simpa using hy
    exact k
theorem Mg.pushA (sa : Srt r la) (h : Mg r la lb l ia ib) (e : la[ia]? = some x) (c : ∀ y ∈ lb.drop ib, r x ≤ r y) : Mg r la lb (l ++ [x]) (ia + 1) ib := by
  have hl := (List.getElem?_eq_some_iff.mp e).1
  have sub : ∀ y ∈ la.drop (ia + 1), y ∈ la.drop ia := fun y hy => by rw [drop_at e]; exact List.mem_cons_of_mem _ hy
  refine ⟨by omega, h.hb, ?_, Srt.append h.so (List.pairwise_singleton _ _) fun y hy z hz => ?_, mem_snoc (fun y hy z hz => h.xa y hy z (sub z hz)) fun z hz => sa.ahead e z (sub z hz), mem_snoc h.xb c⟩
  · rw [take_at e]
    refine (h.pm.append_right [x]).trans ?_
    rw [List.append_assoc, List.append_assoc]
    exact List.Perm.append_left _ List.perm_append_comm
  · obtain rfl : z = x := by simpa using hz
    exact h.xa y hy z (by rw [drop_at e]; exact List.mem_cons_self)
theorem Mg.pushB (sb : Srt r lb) (h : Mg r la lb l ia ib) (e : lb[ib]? = some x) (c : ∀ y ∈ la.drop ia, r x ≤ r y) : Mg r la lb (l ++ [x]) ia (ib + 1) := by
  have hl := (List.getElem?_eq_some_iff.mp e).1
  have sub : ∀ y ∈ lb.drop (ib + 1), y ∈ lb.drop ib := fun y hy => by rw [drop_at e]; exact List.mem_cons_of_mem _ hy
  refine ⟨h.ha, by omega, ?_, Srt.append h.so (List.pairwise_singleton _ _) fun y hy z hz => ?_, mem_snoc h.xa c, mem_snoc (fun y hy z hz => h.xb y hy z (sub z hz)) fun z hz => sb.ahead e z (sub z hz)⟩
  · rw [take_at e, ← List.append_assoc]
    exact h.pm.append_right [x]
  · obtain rfl : z = x := by simpa using hz
    exact h.xb y hy z (by rw [drop_at e]; exact List.mem_cons_self)
theorem Mg.takeA (sa : Srt r la) (h : Mg r la lb l ia ib) : ∀ k, ia + k ≤ la.length → (∀ i x, i < k → la[ia + i]? = some x → ∀ y ∈ lb.drop ib, r x ≤ r y) → Mg r la lb (l ++ (la.drop ia).take k) (ia + k) ib
  | 0, _, _ => by simpa using h
  | k + 1, hk, c => by
    have ih := h.takeA sa k (by omega) fun i x hi => c i x (by omega)
    have e : la[ia + k]? = some la[ia + k] := List.getElem?_eq_getElem (by omega)
    have e2 : (la.drop ia)[k]? = some la[ia + k] := by rw [List.getElem?_drop]; exact e
    have := ih.pushA sa e (c k _ (by omega) e)
    rw [take_at e2, ← List.append_assoc]
    exact this
theorem Mg.takeB (sb : Srt r lb) (h : Mg r la lb l ia ib) : ∀ k, ib + k ≤ lb.length → (∀ i x, i < k → lb[ib + i]? = some x → ∀ y ∈ la.drop ia, r x ≤ r y) → Mg r la lb (l ++ (lb.drop ib).take k) ia (ib + k)
  | 0, _, _ => by simpa using h
  | k + 1, hk, c => by
    have ih := h.takeB sb k (by omega) fun i x hi => c i x (by omega)
    have e : lb[ib + k]? = some lb[ib + k] := List.getElem?_eq_getElem (by omega)
    have e2 : (lb.drop ib)[k]? = some lb[ib + k] := by rw [List.getElem?_drop]; exact e
    have := ih.pushB sb e (c k _ (by omega) e)
    rw [take_at e2, ← List.append_assoc]
    exact this
theorem Mg.perm (h : Mg r la lb l ia ib) : (l ++ la.drop ia ++ lb.drop ib).Perm (la ++ lb) := by
  have e : (la.take ia ++ lb.take ib ++ la.drop ia ++ lb.drop ib).Perm (la ++ lb) := by
    have := List.take_append_drop ia la
    have := List.take_append_drop ib lb
    refine (List.Perm.append_right _ ?_ : (la.take ia ++ lb.take ib ++ la.drop ia ++ lb.drop ib).Perm (la.take ia ++ la.drop ia ++ lb.take ib ++ lb.drop ib)).trans ?_
    · rw [List.append_assoc, List.append_assoc]
      exact List.Perm.append_left _ List.perm_append_comm
    · rw [List.take_append_drop, List.append_assoc, List.take_append_drop]
  exact ((h.pm.append_right _).append_right _).trans e
theorem Mg.doneB (sa : Srt r la) (h : Mg r la lb l ia ib) (e : ib = lb.length) : Fin r la lb (l ++ la.drop ia ++ lb.drop ib) := by
  refine ⟨h.perm, ?_⟩
  rw [e, List.drop_length, List.append_nil]
  exact h.so.append (sa.drop _) h.xa
theorem Mg.doneA (sb : Srt r lb) (h : Mg r la lb l ia ib) (e : ia = la.length) : Fin r la lb (l ++ la.drop ia ++ lb.drop ib) := by
  refine ⟨h.perm, ?_⟩
  rw [e, List.drop_length, List.append_nil]
  exact h.so.append (sb.drop _) h.xb
theorem Mg.last (sb : Srt r lb) (h : Mg r la lb l ia ib) (e : la[ia]? = some x) (e2 : ia + 1 = la.length) (c : ∀ y ∈ lb, r y ≤ r x) : Fin r la lb (l ++ lb.drop ib ++ la.drop ia) := by
  refine ⟨?_, ?_⟩
  · refine List.Perm.trans ?_ h.perm
    rw [List.append_assoc, List.append_assoc]
    exact List.Perm.append_left _ List.perm_append_comm
  · have ed : la.drop ia = [x] := by rw [drop_at e, e2, List.drop_length]
    rw [ed]
    refine (h.so.append (sb.drop _) h.xb).append (List.pairwise_singleton _ _) fun y hy z hz => ?_
    obtain rfl : z = x := by simpa using hz
    rcases List.mem_append.mp hy with hy | hy
    · exact h.xa y hy z (by rw [ed]; exact List.mem_cons_self)
    · exact c y (List.mem_of_mem_drop hy)
/-- the same from the end -/
structure Mh (r : Keyed → Int) (la lb l : List Keyed) (na nb : Nat) : Prop where
  ha : na ≤ la.length
  hb : nb ≤ lb.length
  pm : l.Perm (la.drop na ++ lb.drop nb)
  so : Srt r l
  xa : ∀ x ∈ l, ∀ y ∈ la.take na, r y ≤ r x
  xb : ∀ x ∈ l, ∀ y ∈ lb.take nb, r y ≤ r x
theorem mem_cons' {p : Keyed → Prop} (k : p x) (h : ∀ y ∈ l, p y) : ∀ y ∈ x :: l, p y := fun y hy => by
  rcases List.mem_cons.mp hy with rfl | hy
  · exact k
  · exact h y hy
theorem Mh.pushA {na nb : Nat} (sa : Srt r la) (h : Mh r la lb l (na + 1) nb) (e : la[na]? = some x) (c : ∀ y ∈ lb.take nb, r y ≤ r x) : Mh r la lb (x :: l) na nb := by
  have hl := (List.getElem?_eq_some_iff.mp e).1
  have sub : ∀ y ∈ la.take na, y ∈ la.take (na + 1) := fun y hy => by rw [take_at e]; exact List.mem_append_left _ hy
  refine ⟨by omega, h.hb, ?_, List.pairwise_cons.mpr ⟨fun y hy => h.xa y hy x (by rw [take_at e]; simp), h.so⟩, mem_cons' (fun y hy => sa.behind e y (sub y hy)) fun y hy z hz => h.xa y hy z (sub z hz), mem_cons' c h.xb⟩
  rw [drop_at e]
  exact h.pm.cons x
theorem Mh.pushB {na nb : Nat} (sb : Srt r lb) (h : Mh r la lb l na (nb + 1)) (e : lb[nb]? = some x) (c : ∀ y ∈ la.take na, r y ≤ r x) : Mh r la lb (x :: l) na nb := by
  have hl := (List.getElem?_eq_some_iff.mp e).1
  have sub : ∀ y ∈ lb.take nb, y ∈ lb.take (nb + 1) := fun y hy => by rw [take_at e]; exact List.mem_append_left _ hy
  refine ⟨h.ha, by omega, ?_, List.pairwise_cons.mpr ⟨fun y hy => h.xb y hy x (by rw [take_at e]; simp), h.so⟩, mem_cons' c h.xa, mem_cons' (fun y hy => sb.behind e y (sub y hy)) fun y hy z hz => h.xb y hy z (sub z hz)⟩
  rw [drop_at e]
  refine (h.pm.cons x).trans ?_
  exact List.perm_middle.symm
theorem Mh.takeA {na nb : Nat} (sa : Srt r la) : ∀ (k : Nat) {l : List Keyed}, Mh r la lb l (na + k) nb → (∀ i x, i < k → la[na + i]? = some x → ∀ y ∈ lb.take nb, r y ≤ r x) → Mh r la lb ((la.drop na).take k ++ l) na nb
  | 0, l, h, _ => by simpa using h
  | k + 1, l, h, c => by
    have hl := h.ha
    have e : la[na + k]? = some la[na + k] := List.getElem?_eq_getElem (by omega)
    have e2 : (la.drop na)[k]? = some la[na + k] := by rw [List.getElem?_drop]; exact e
    have ih := Mh.takeA sa k (Mh.pushA sa h e (c k _ (by omega) e)) fun i x hi => c i x (by omega)
    rw [take_at e2, List.append_assoc]
    exact ih
theorem Mh.takeB {na nb : Nat} (sb : Srt r lb) : ∀ (k : Nat) {l : List Keyed}, Mh r la lb l na (nb + k) → (∀ i x, i < k → lb[nb + i]? = some x → ∀ y ∈ la.take na, r y ≤ r x) → Mh r la lb ((lb.drop nb).take k ++ l) na nb
  | 0, l, h, _ => by simpa using h
  | k + 1, l, h, c => by
    have hl := h.hb
    have e : lb[nb + k]? = some lb[nb + k] := List.getElem?_eq_getElem (by omega)
    have e2 : (lb.drop nb)[k]? = some lb[nb + k] := by rw [List.getElem?_drop]; exact e
    have ih := Mh.takeB sb k (Mh.pushB sb h e (c k _ (by omega) e)) fun i x hi => c i x (by omega)
    rw [take_at e2, List.append_assoc]
    exact ih
theorem Mh.perm {na nb : Nat} (h : Mh r la lb l na nb) : (la.take na ++ lb.take nb ++ l).Perm (la ++ lb) := by
  refine (List.Perm.append_left _ h.pm).trans ?_
  have : (la.take na ++ lb.take nb ++ (la.drop na ++ lb.drop nb)).Perm (la.take na ++ la.drop na ++ (lb.take nb ++ lb.drop nb)) := by
    rw [List.append_assoc, List.append_assoc]
    refine List.Perm.append_left _ ?_
    rw [← List.append_assoc, ← List.append_assoc]
    exact List.Perm.append_right _ List.perm_append_comm
  rw [List.take_append_drop, List.take_append_drop] at this
  exact this
theorem Mh.doneA {na nb : Nat} (sb : Srt r lb) (h : Mh r la lb l na nb) (e : na = 0) : Fin r la lb (la.take na ++ lb.take nb ++ l) := by
  refine ⟨h.perm, ?_⟩
  rw [e, List.take_zero, List.nil_append]
  exact (sb.take _).append h.so fun y hy z hz => h.xb z hz y hy
theorem Mh.doneB {na nb : Nat} (sa : Srt r la) (h : Mh r la lb l na nb) (e : nb = 0) : Fin r la lb (la.take na ++ lb.take nb ++ l) := by
  refine ⟨h.perm, ?_⟩
  rw [e, List.take_zero, List.append_nil]
  exact (sa.take _).append h.so fun y hy z hz => h.xa z hz y hy
theorem Mh.first {na nb : Nat} (sa : Srt r la) (h : Mh r la lb l na nb) (e : lb[0]? = some x) (e2 : nb = 1) (c : ∀ y ∈ la, r x ≤ r y) : Fin r la lb (lb.take nb ++ la.take na ++ l) := by
  refine ⟨?_, ?_⟩
  · refine List.Perm.trans ?_ h.perm
    exact List.Perm.append_right _ List.perm_append_comm
  · have ed : lb.take nb = [x] := by rw [e2, take_at e, List.take_zero]; rfl
    rw [ed]
    refine Srt.append (Srt.append (List.pairwise_singleton _ _) (sa.take _) fun y hy z hz => ?_) h.so fun y hy z hz => ?_
    · obtain rfl : y = x := by simpa using hy
      exact c z (List.mem_of_mem_take hz)
    · rcases List.mem_append.mp hy with hy | hy
      · exact h.xb z hz y (by rw [ed]; exact hy)
      · exact h.xa z hz y hy
end
section
variable {prog : Program} {w : World} {A : Around} {E : Value → Shared → Prop} {s : Shared} {κ : SortKind} {a0 : Array Keyed} {r : Keyed → Int}
theorem Run.at0 {xs : Array Keyed} {n i : Nat} (h : Run a0 r xs 0 n) (h2 : i < n) : ∃ x, xs[i]? = some x ∧ x ∈ a0.toList ∧ Kr r xs i = r x ∧ xs.toList[i]? = some x := by
  obtain ⟨x, e, m, k⟩ := h.at (Nat.zero_le i) (by omega)
  exact ⟨x, e, m, k, by rw [Array.getElem?_toList]; exact e⟩
theorem Run.srt {xs : Array Keyed} (h : Run a0 r xs 0 xs.size) : Srt r xs.toList := by
  unfold Srt
  rw [List.pairwise_iff_getElem]
  intro i j hi hj hij
  rw [Array.length_toList] at hi hj
  have := h.up i j (Nat.zero_le _) (Nat.le_of_lt hij) (by omega)
  have ei : xs[i]? = some xs[i] := getElem?_pos _ i hi
  have ej : xs[j]? = some xs[j] := getElem?_pos _ j hj
  unfold Kr at this
  rw [ei, ej] at this
  simpa using this
theorem ext_list (xs : Array Keyed) (i j : Nat) : (xs.extract i j).toList = (xs.toList.drop i).take (j - i) := by
  rw [Array.toList_extract, List.extract_eq_drop_take]
theorem ext_rest (xs : Array Keyed) (i : Nat) : (xs.extract i xs.size).toList = xs.toList.drop i := by
  rw [ext_list]
  exact List.take_of_length_le (by rw [List.length_drop, Array.length_toList]; exact Nat.le_refl _)
theorem toL_push {out : Array Keyed} {x : Keyed} : (out.push x).toList = out.toList ++ [x] := Array.toList_push
theorem toL_ext {out a : Array Keyed} {ia k : Nat} : (out ++ a.extract ia (ia + k)).toList = out.toList ++ (a.toList.drop ia).take k := by
  rw [Array.toList_append, ext_list, show ia + k - ia = k by omega]
theorem fin_done {out a b : Array Keyed} {ia ib : Nat} (h : Fin r a.toList b.toList (out.toList ++ a.toList.drop ia ++ b.toList.drop ib)) : Fin r a.toList b.toList (out ++ a.extract ia a.size ++ b.extract ib b.size).toList := by
  rw [Array.toList_append, Array.toList_append, ext_rest, ext_rest]; exact h
theorem fin_last {out a b : Array Keyed} {ia ib : Nat} (h : Fin r a.toList b.toList (out.toList ++ b.toList.drop ib ++ a.toList.drop ia)) : Fin r a.toList b.toList (out ++ b.extract ib b.size ++ a.extract ia a.size).toList := by
  rw [Array.toList_append, Array.toList_append, ext_rest, ext_rest]; exact h
theorem Kr_list {xs : Array Keyed} {i : Nat} {x : Keyed} (e : xs.toList[i]? = some x) : Kr r xs i = r x := by
  rw [Array.getElem?_toList] at e
  unfold Kr
  rw [e]
theorem mem_drop_at {l : List Keyed} {n : Nat} {x : Keyed} (h : x ∈ l.drop n) : ∃ i, n ≤ i ∧ i < l.length ∧ l[i]? = some x := by
  obtain ⟨j, hj⟩ := List.mem_iff_getElem?.mp h
  rw [List.getElem?_drop] at hj
  exact ⟨n + j, by omega, (List.getElem?_eq_some_iff.mp hj).1, hj⟩
theorem mem_take_at {l : List Keyed} {n : Nat} {x : Keyed} (h : x ∈ l.take n) : ∃ i, i < n ∧ l[i]? = some x := by
  obtain ⟨j, hj⟩ := List.mem_iff_getElem?.mp h
  rw [List.getElem?_take] at hj
  split at hj
  · exact ⟨j, by assumption, hj⟩
  · cases hj
theorem Run.part {xs : Array Keyed} {n i m : Nat} (h : Run a0 r xs 0 n) (him : i + m ≤ n) : Run a0 r xs i m := ⟨by have := h.sz; omega, fun j x h1 h2 e => h.mem j x (Nat.zero_le _) (by omega) e, fun j k h1 h2 h3 => h.up j k (Nat.zero_le _) h2 (by omega)⟩
/-- all but the array, the runs and what failed may be otherwise -/
structure Sam (κ : SortKind) (a0 : Array Keyed) (st st' : SortSt) : Prop where
  bs : Bs κ a0 st'
  arr : arrOf st' = arrOf st
  pend : pendingOf st' = pendingOf st
theorem Sam.gal {st st' : SortSt} (h : Sam κ a0 st st') (g : Nat) : Sam κ a0 st (SortSt.mk' (kindOf st') (arrOf st') (pendingOf st') g (failedOf st')) := ⟨⟨h.bs.perm, h.bs.kind, h.bs.failed⟩, h.arr, h.pend⟩
theorem wpS_setG {st st2 : SortSt} {g : Nat} {Q : Unit → SortSt → Prop} (S : Sam κ a0 st st2) (h : ∀ st3, Sam κ a0 st st3 → Q () st3) : wpS (model prog w) A E s (setMinGallop' g) Q st2 := by
  rw [setMinGallop'_eq]
  exact wpS_modify (h _ (S.gal g))
set_option maxHeartbeats 8000000 in
theorem wpS_mergeLo {st : SortSt} {a b : Array Keyed} {Q : Array Keyed → SortSt → Prop} (hc : Cmp prog w A s κ a0 r) (hB : Bs κ a0 st) (Ra : Run a0 r a 0 a.size) (Rb : Run a0 r b 0 b.size) (ha : 0 < a.size) (hb : 0 < b.size)
    (h0 : Kr r b 0 < Kr r a 0) (hl : ∀ y ∈ b.toList, r y ≤ Kr r a (a.size - 1))
    (h : ∀ res st', Bs κ a0 st' → arrOf st' = arrOf st → pendingOf st' = pendingOf st → Fin r a.toList b.toList res.toList → Q res st') : wpS (model prog w) A E s (mergeLo' a b) Q st := by
  have sa := Ra.srt
  have sb := Rb.srt
  refine wpS_bind (m := liftM (rule _)) (wpS_lift (wpAny_rule ⟨rfl, ?_⟩))
  obtain ⟨b0, eb0, mb0, kb0, lb0⟩ := Rb.at0 hb
  obtain ⟨x0, ea0, ma0, ka0, la0⟩ := Ra.at0 ha
  refine wpS_bind (wpS_elem eb0 ?_)
  have M0 : Mg r a.toList b.toList (#[b0] : Array Keyed).toList 0 1 := by
    have z : Mg r a.toList b.toList [] 0 0 := ⟨Nat.zero_le _, Nat.zero_le _, by simp, .nil, (fun x hx => by cases hx), (fun x hx => by cases hx)⟩
    have := z.pushB sb lb0 fun y hy => by have := sa.ahead la0 y hy; omega
    simpa using this
  by_cases f1 : 1 = b.size
  · rw [if_pos (beq_iff_eq.mpr f1)]
    exact wpS_pure (h _ _ hB rfl rfl (by
      have := M0.doneB sa (by rw [Array.length_toList]; exact f1)
      exact fin_done this))
  rw [if_neg (fun z => f1 (beq_iff_eq.mp z))]
  by_cases f2 : 0 + 1 = a.size
  · rw [if_pos (beq_iff_eq.mpr f2)]
    exact wpS_pure (h _ _ hB rfl rfl (by
      have := M0.last sb la0 (by rw [Array.length_toList]; exact f2) (fun y hy => by have := hl y hy; rw [show a.size - 1 = 0 by omega, ka0] at this; exact this)
      exact fin_last this))
  rw [if_neg (fun z => f2 (beq_iff_eq.mp z))]
  refine wpS_bind (wpS_get ?_)
  refine wpS_bind (wpS_mono (wpS_forRange (I := fun x c st' => ∃ (out : Array Keyed) (ia ib mg : Nat), c = (none, out, ia, ib, mg) ∧ Sam κ a0 st st' ∧ Mg r a.toList b.toList out.toList ia ib ∧ ia + 1 < a.size ∧ ib < b.size ∧ x ≤ ia + ib)
    (Q := fun c st' => ∃ (out : Array Keyed) (ia ib mg : Nat) (res : Array Keyed), c = (some res, out, ia, ib, mg) ∧ Sam κ a0 st st' ∧ Fin r a.toList b.toList res.toList) ?step ?fin ⟨_, _, _, _, rfl, ⟨hB, rfl, rfl⟩, M0, by omega, by omega, by omega⟩) ?post)
  case fin =>
    rintro c st' ⟨out, ia, ib, mg, rfl, S1, M, h1, h2, h3⟩
    omega
  case post =>
    rintro c st' ⟨out, ia, ib, mg, res, rfl, S1, F⟩
    exact wpS_pure (h res st' S1.bs S1.arr S1.pend F)
  case step =>
    rintro X c st' _ hX ⟨out, ia, ib, mg, rfl, S1, M, h1, h2, h3⟩
    dsimp only
    refine wpS_bind (wpS_mono (wpS_forRange (I := fun x c st2 => ∃ (out : Array Keyed) (ia ib ac bc : Nat), c = (none, out, ia, ib, ac, bc) ∧ st' = st2 ∧ Mg r a.toList b.toList out.toList ia ib ∧ ia + 1 < a.size ∧ ib < b.size ∧ X + x ≤ ia + ib)
      (Q := fun c st2 => st' = st2 ∧ ((∃ (out : Array Keyed) (ia ib ac bc : Nat) (res : Array Keyed), c = (some res, out, ia, ib, ac, bc) ∧ Fin r a.toList b.toList res.toList) ∨ ∃ (out : Array Keyed) (ia ib ac bc : Nat), c = (none, out, ia, ib, ac, bc) ∧ Mg r a.toList b.toList out.toList ia ib ∧ ia + 1 < a.size ∧ ib < b.size ∧ X + 1 ≤ ia + ib)) ?st1 ?fin1 ⟨_, _, _, _, _, rfl, rfl, M, h1, h2, by omega⟩) ?post1)
    case fin1 =>
      rintro c st2 ⟨out, ia, ib, ac, bc, rfl, rfl, M, h1, h2, h3⟩
      exact ⟨rfl, .inr ⟨_, _, _, _, _, rfl, M, h1, h2, by omega⟩⟩
    case st1 =>
      rintro x c st2 _ hx ⟨out, ia, ib, ac, bc, rfl, rfl, M, h1, h2, h3⟩
      dsimp only
      obtain ⟨y, ey, my, ky, ly⟩ := Rb.at0 (i := ib) h2
      obtain ⟨z, ez, mz, kz, lz⟩ := Ra.at0 (i := ia) (by omega)
      refine wpS_bind (wpS_elem ey (wpS_bind (wpS_elem ez (wpS_bind (wpS_lt hc S1.bs my mz ?_)))))
      by_cases c1 : r y < r z
      · simp only [c1, decide_true, if_true]
        refine wpS_bind (wpS_elem ey ?_)
        have M3 : Mg r a.toList b.toList (out.push y).toList ia (ib + 1) := by rw [toL_push]; exact M.pushB sb ly fun q hq => by have := sa.ahead lz q hq; omega
        by_cases e3 : ib + 1 = b.size
        · rw [if_pos (beq_iff_eq.mpr e3)]
          exact wpS_pure ⟨rfl, .inl ⟨_, _, _, _, _, _, rfl, by
            have := M3.doneB sa (by rw [Array.length_toList]; exact e3)
            exact fin_done this⟩⟩
        · rw [if_neg (fun z => e3 (beq_iff_eq.mp z))]
          split
          · exact wpS_pure ⟨rfl, .inr ⟨_, _, _, _, _, rfl, M3, h1, by omega, by omega⟩⟩
          · exact wpS_pure ⟨_, _, _, _, _, rfl, rfl, M3, h1, by omega, by omega⟩
      · simp only [c1, decide_false, Bool.false_eq_true, if_false]
        refine wpS_bind (wpS_elem ez ?_)
        have M3 : Mg r a.toList b.toList (out.push z).toList (ia + 1) ib := by rw [toL_push]; exact M.pushA sa lz fun q hq => by have := sb.ahead ly q hq; omega
        by_cases e3 : ia + 1 + 1 = a.size
        · rw [if_pos (beq_iff_eq.mpr e3)]
          exact wpS_pure ⟨rfl, .inl ⟨_, _, _, _, _, _, rfl, by
            obtain ⟨z', ez', mz', kz', lz'⟩ := Ra.at0 (i := ia + 1) (by omega)
            have := M3.last sb lz' (by rw [Array.length_toList]; omega) (fun y hy => by have := hl y hy; rw [show a.size - 1 = ia + 1 by omega, kz'] at this; exact this)
            exact fin_last this⟩⟩
        · rw [if_neg (fun z => e3 (beq_iff_eq.mp z))]
          split
          · exact wpS_pure ⟨rfl, .inr ⟨_, _, _, _, _, rfl, M3, by omega, h2, by omega⟩⟩
          · exact wpS_pure ⟨_, _, _, _, _, rfl, rfl, M3, by omega, h2, by omega⟩
    case post1 =>
      rintro c st2 ⟨rfl, q⟩
      rcases q with ⟨out, ia, ib, ac, bc, res, rfl, F⟩ | ⟨out, ia, ib, ac, bc, rfl, M, h1, h2, h3⟩
      · exact wpS_pure ⟨_, _, _, _, res, rfl, S1, F⟩
      dsimp only
      refine wpS_bind (wpS_lift (wpAny_rule ⟨rfl, ?_⟩))
      refine wpS_bind (wpS_mono (wpS_forRange (I := fun x c st2 => ∃ (out : Array Keyed) (ia ib mg ac bc : Nat), c = (none, out, ia, ib, mg, ac, bc) ∧ Sam κ a0 st st2 ∧ Mg r a.toList b.toList out.toList ia ib ∧ ia + 1 < a.size ∧ ib < b.size ∧ X + 1 ≤ ia + ib)
        (Q := fun c st2 => (∃ (out : Array Keyed) (ia ib mg ac bc : Nat) (res : Array Keyed), c = (some res, out, ia, ib, mg, ac, bc) ∧ Sam κ a0 st st2 ∧ Fin r a.toList b.toList res.toList) ∨ ∃ (out : Array Keyed) (ia ib mg ac bc : Nat), c = (none, out, ia, ib, mg, ac, bc) ∧ Sam κ a0 st st2 ∧ Mg r a.toList b.toList out.toList ia ib ∧ ia + 1 < a.size ∧ ib < b.size ∧ X + 1 ≤ ia + ib) ?st3 ?fin3 ⟨_, _, _, _, _, _, rfl, S1, M, h1, h2, h3⟩) ?post3)
      case fin3 =>
        rintro c st2 q
        exact .inr q
      case post3 =>
        rintro c st2 q
        rcases q with ⟨out, ia, ib, mg, ac, bc, res, rfl, S2, F⟩ | ⟨out, ia, ib, mg, ac, bc, rfl, S2, M, h1, h2, h3⟩
        · exact wpS_pure ⟨_, _, _, _, res, rfl, S2, F⟩
        dsimp only
        refine wpS_bind (m := setMinGallop' (mg + 1)) (wpS_setG S2 fun st3 S3 => ?_)
        exact wpS_pure ⟨_, _, _, _, rfl, S3, M, h1, h2, h3⟩
      case st3 =>
        rintro x c st2 _ hx ⟨out, ia, ib, mg, ac, bc, rfl, S2, M, hia, hib, h3⟩
        dsimp only
        by_cases c1 : mg > 1
        · rw [if_pos c1]
          generalize mg - 1 = mg1
          refine wpS_bind (m := setMinGallop' mg1) (wpS_setG S2 fun st3 S3 => ?_)
          obtain ⟨y, ey, my, ky, ly⟩ := Rb.at0 (i := ib) hib
          refine wpS_bind (wpS_elem ey ?_)
          refine wpS_bind (wpS_gallop hc S3.bs (Ra.part (i := ia) (m := a.size - ia) (by omega)) my (by omega) fun k k1 k2 k3 => ?_)
          have low1 : ∀ i z, i < k → a.toList[ia + i]? = some z → ∀ y ∈ b.toList.drop ib, r z ≤ r y := fun i z hi ez y' hy => by
            have := k2 i hi
            unfold Bey at this
            simp only [Bool.false_eq_true, if_false, decide_eq_true_eq] at this
            rw [Kr_list ez] at this
            have := sb.ahead ly y' hy
            omega
          have big1' : ∀ z ∈ a.toList.drop (ia + k), r y ≤ r z := fun z hz => by
            obtain ⟨i, i1, i2, ez⟩ := mem_drop_at hz
            rw [Array.length_toList] at i2
            have := k3 (i - ia) (by omega) (by omega)
            unfold Bey at this
            simp only [Bool.false_eq_true, if_false, decide_eq_false_iff_not] at this
            rw [show ia + (i - ia) = i by omega, Kr_list ez] at this
            omega
          dsimp only
          by_cases hk : k > 0
          · rw [if_pos hk]
            have M2 : Mg r a.toList b.toList (out ++ a.extract ia (ia + k)).toList (ia + k) ib := by rw [toL_ext]; exact M.takeA sa k (by rw [Array.length_toList]; omega) low1
            by_cases e1 : ia + k + 1 = a.size
            · rw [if_pos (beq_iff_eq.mpr e1)]
              exact wpS_pure (.inl ⟨_, _, _, _, _, _, _, rfl, S3, by
                obtain ⟨z, ez, mz, kz, lz⟩ := Ra.at0 (i := ia + k) (by omega)
                have := M2.last sb lz (by rw [Array.length_toList]; omega) (fun y hy => by have := hl y hy; rw [show a.size - 1 = ia + k by omega, kz] at this; exact this)
                exact fin_last this⟩)
            · rw [if_neg (fun z => e1 (beq_iff_eq.mp z))]
              by_cases e2 : ia + k = a.size
              · rw [if_pos (beq_iff_eq.mpr e2)]
                exact wpS_pure (.inl ⟨_, _, _, _, _, _, _, rfl, S3, by
                  have := M2.doneA sb (by rw [Array.length_toList]; exact e2)
                  exact fin_done this⟩)
              · rw [if_neg (fun z => e2 (beq_iff_eq.mp z))]
                have big1 := big1'
                refine wpS_bind (wpS_elem ey ?_)
                have M3 : Mg r a.toList b.toList ((out ++ a.extract ia (ia + k)).push y).toList (ia + k) (ib + 1) := by rw [toL_push]; exact M2.pushB sb ly big1
                by_cases e3 : ib + 1 = b.size
                · rw [if_pos (beq_iff_eq.mpr e3)]
                  exact wpS_pure (.inl ⟨_, _, _, _, _, _, _, rfl, S3, by
                    have := M3.doneB sa (by rw [Array.length_toList]; exact e3)
                    exact fin_done this⟩)
                · rw [if_neg (fun z => e3 (beq_iff_eq.mp z))]
                  obtain ⟨x, ex, mx, kx, lx⟩ := Ra.at0 (i := (ia + k)) (by omega)
                  refine wpS_bind (wpS_elem ex ?_)
                  refine wpS_bind (wpS_gallop hc S3.bs (Rb.part (i := ib + 1) (m := b.size - (ib + 1)) (by omega)) mx (by omega) fun k' k1' k2' k3' => ?_)
                  have low2 : ∀ i z, i < k' → b.toList[ib + 1 + i]? = some z → ∀ y ∈ a.toList.drop (ia + k), r z ≤ r y := fun i z hi ez y hy => by
                    have := k2' i hi
                    unfold Bey at this
                    simp only [if_true, decide_eq_true_eq] at this
                    rw [Kr_list ez] at this
                    have := sa.ahead lx y hy
                    omega
                  have big2' : ∀ z ∈ b.toList.drop (ib + 1 + k'), r x ≤ r z := fun z hz => by
                    obtain ⟨i, i1, i2, ez⟩ := mem_drop_at hz
                    rw [Array.length_toList] at i2
                    have := k3' (i - (ib + 1)) (by omega) (by omega)
                    unfold Bey at this
                    simp only [if_true, decide_eq_false_iff_not] at this
                    rw [show ib + 1 + (i - (ib + 1)) = i by omega, Kr_list ez] at this
                    omega
                  dsimp only
                  by_cases hk' : k' > 0
                  · rw [if_pos hk']
                    have M4 : Mg r a.toList b.toList ((out ++ a.extract ia (ia + k)).push y ++ b.extract (ib + 1) (ib + 1 + k')).toList (ia + k) (ib + 1 + k') := by rw [toL_ext]; exact M3.takeB sb k' (by rw [Array.length_toList]; omega) low2
                    by_cases e4 : ib + 1 + k' = b.size
                    · rw [if_pos (beq_iff_eq.mpr e4)]
                      exact wpS_pure (.inl ⟨_, _, _, _, _, _, _, rfl, S3, by
                        have := M4.doneB sa (by rw [Array.length_toList]; exact e4)
                        exact fin_done this⟩)
                    · rw [if_neg (fun z => e4 (beq_iff_eq.mp z))]
                      have big2 := big2'
                      refine wpS_bind (wpS_elem ex ?_)
                      have M5 : Mg r a.toList b.toList (((out ++ a.extract ia (ia + k)).push y ++ b.extract (ib + 1) (ib + 1 + k')).push x).toList ((ia + k) + 1) (ib + 1 + k') := by rw [toL_push]; exact M4.pushA sa lx big2
                      by_cases e5 : (ia + k) + 1 + 1 = a.size
                      · rw [if_pos (beq_iff_eq.mpr e5)]
                        exact wpS_pure (.inl ⟨_, _, _, _, _, _, _, rfl, S3, by
                          obtain ⟨z, ez, mz, kz, lz⟩ := Ra.at0 (i := (ia + k) + 1) (by omega)
                          have := M5.last sb lz (by rw [Array.length_toList]; omega) (fun y hy => by have := hl y hy; rw [show a.size - 1 = (ia + k) + 1 by omega, kz] at this; exact this)
                          exact fin_last this⟩)
                      · rw [if_neg (fun z => e5 (beq_iff_eq.mp z))]
                        have fine : ∀ ac bc, (∃ (o1 : Array Keyed) (i1 j1 g1 c1 c2 : Nat), ((none, ((out ++ a.extract ia (ia + k)).push y ++ b.extract (ib + 1) (ib + 1 + k')).push x, (ia + k) + 1, (ib + 1 + k'), mg1, ac, bc) : Option (Array Keyed) × Array Keyed × Nat × Nat × Nat × Nat × Nat) = (none, o1, i1, j1, g1, c1, c2) ∧ Sam κ a0 st st3 ∧ Mg r a.toList b.toList o1.toList i1 j1 ∧ i1 + 1 < a.size ∧ j1 < b.size ∧ X + 1 ≤ i1 + j1) := fun ac bc => ⟨_, _, _, _, _, _, rfl, S3, M5, by omega, by omega, by omega⟩
                        split
                        · exact wpS_pure (.inr (fine _ _))
                        · exact wpS_pure (fine _ _)
                  · rw [if_neg hk']
                    obtain rfl : k' = 0 := by omega
                    have big2 : ∀ z ∈ b.toList.drop (ib + 1), r x ≤ r z := big2'
                    have M4 := M3
                    refine wpS_bind (wpS_elem ex ?_)
                    have M5 : Mg r a.toList b.toList (((out ++ a.extract ia (ia + k)).push y).push x).toList ((ia + k) + 1) (ib + 1) := by rw [toL_push]; exact M4.pushA sa lx big2
                    by_cases e5 : (ia + k) + 1 + 1 = a.size
                    · rw [if_pos (beq_iff_eq.mpr e5)]
                      exact wpS_pure (.inl ⟨_, _, _, _, _, _, _, rfl, S3, by
                        obtain ⟨z, ez, mz, kz, lz⟩ := Ra.at0 (i := (ia + k) + 1) (by omega)
                        have := M5.last sb lz (by rw [Array.length_toList]; omega) (fun y hy => by have := hl y hy; rw [show a.size - 1 = (ia + k) + 1 by omega, kz] at this; exact this)
                        exact fin_last this⟩)
                    · rw [if_neg (fun z => e5 (beq_iff_eq.mp z))]
                      have fine : ∀ ac bc, (∃ (o1 : Array Keyed) (i1 j1 g1 c1 c2 : Nat), ((none, ((out ++ a.extract ia (ia + k)).push y).push x, (ia + k) + 1, (ib + 1), mg1, ac, bc) : Option (Array Keyed) × Array Keyed × Nat × Nat × Nat × Nat × Nat) = (none, o1, i1, j1, g1, c1, c2) ∧ Sam κ a0 st st3 ∧ Mg r a.toList b.toList o1.toList i1 j1 ∧ i1 + 1 < a.size ∧ j1 < b.size ∧ X + 1 ≤ i1 + j1) := fun ac bc => ⟨_, _, _, _, _, _, rfl, S3, M5, by omega, by omega, by omega⟩
                      split
                      · exact wpS_pure (.inr (fine _ _))
                      · exact wpS_pure (fine _ _)
          · rw [if_neg hk]
            obtain rfl : k = 0 := by omega
            have big1 : ∀ z ∈ a.toList.drop ia, r y ≤ r z := big1'
            have M2 := M
            refine wpS_bind (wpS_elem ey ?_)
            have M3 : Mg r a.toList b.toList (out.push y).toList ia (ib + 1) := by rw [toL_push]; exact M2.pushB sb ly big1
            by_cases e3 : ib + 1 = b.size
            · rw [if_pos (beq_iff_eq.mpr e3)]
              exact wpS_pure (.inl ⟨_, _, _, _, _, _, _, rfl, S3, by
                have := M3.doneB sa (by rw [Array.length_toList]; exact e3)
                exact fin_done this⟩)
            · rw [if_neg (fun z => e3 (beq_iff_eq.mp z))]
              obtain ⟨x, ex, mx, kx, lx⟩ := Ra.at0 (i := ia) (by omega)
              refine wpS_bind (wpS_elem ex ?_)
              refine wpS_bind (wpS_gallop hc S3.bs (Rb.part (i := ib + 1) (m := b.size - (ib + 1)) (by omega)) mx (by omega) fun k' k1' k2' k3' => ?_)
              have low2 : ∀ i z, i < k' → b.toList[ib + 1 + i]? = some z → ∀ y ∈ a.toList.drop ia, r z ≤ r y := fun i z hi ez y hy => by
                have := k2' i hi
                unfold Bey at this
                simp only [if_true, decide_eq_true_eq] at this
                rw [Kr_list ez] at this
                have := sa.ahead lx y hy
                omega
              have big2' : ∀ z ∈ b.toList.drop (ib + 1 + k'), r x ≤ r z := fun z hz => by
                obtain ⟨i, i1, i2, ez⟩ := mem_drop_at hz
                rw [Array.length_toList] at i2
                have := k3' (i - (ib + 1)) (by omega) (by omega)
                unfold Bey at this
                simp only [if_true, decide_eq_false_iff_not] at this
                rw [show ib + 1 + (i - (ib + 1)) = i by omega, Kr_list ez] at this
                omega
              dsimp only
              by_cases hk' : k' > 0
              · rw [if_pos hk']
                have M4 : Mg r a.toList b.toList (out.push y ++ b.extract (ib + 1) (ib + 1 + k')).toList ia (ib + 1 + k') := by rw [toL_ext]; exact M3.takeB sb k' (by rw [Array.length_toList]; omega) low2
                by_cases e4 : ib + 1 + k' = b.size
                · rw [if_pos (beq_iff_eq.mpr e4)]
                  exact wpS_pure (.inl ⟨_, _, _, _, _, _, _, rfl, S3, by
                    have := M4.doneB sa (by rw [Array.length_toList]; exact e4)
                    exact fin_done this⟩)
                · rw [if_neg (fun z => e4 (beq_iff_eq.mp z))]
                  have big2 := big2'
                  refine wpS_bind (wpS_elem ex ?_)
                  have M5 : Mg r a.toList b.toList ((out.push y ++ b.extract (ib + 1) (ib + 1 + k')).push x).toList (ia + 1) (ib + 1 + k') := by rw [toL_push]; exact M4.pushA sa lx big2
                  by_cases e5 : ia + 1 + 1 = a.size
                  · rw [if_pos (beq_iff_eq.mpr e5)]
                    exact wpS_pure (.inl ⟨_, _, _, _, _, _, _, rfl, S3, by
                      obtain ⟨z, ez, mz, kz, lz⟩ := Ra.at0 (i := ia + 1) (by omega)
                      have := M5.last sb lz (by rw [Array.length_toList]; omega) (fun y hy => by have := hl y hy; rw [show a.size - 1 = ia + 1 by omega, kz] at this; exact this)
                      exact fin_last this⟩)
                  · rw [if_neg (fun z => e5 (beq_iff_eq.mp z))]
                    have fine : ∀ ac bc, (∃ (o1 : Array Keyed) (i1 j1 g1 c1 c2 : Nat), ((none, (out.push y ++ b.extract (ib + 1) (ib + 1 + k')).push x, ia + 1, (ib + 1 + k'), mg1, ac, bc) : Option (Array Keyed) × Array Keyed × Nat × Nat × Nat × Nat × Nat) = (none, o1, i1, j1, g1, c1, c2) ∧ Sam κ a0 st st3 ∧ Mg r a.toList b.toList o1.toList i1 j1 ∧ i1 + 1 < a.size ∧ j1 < b.size ∧ X + 1 ≤ i1 + j1) := fun ac bc => ⟨_, _, _, _, _, _, rfl, S3, M5, by omega, by omega, by omega⟩
                    split
                    · exact wpS_pure (.inr (fine _ _))
                    · exact wpS_pure (fine _ _)
              · rw [if_neg hk']
                obtain rfl : k' = 0 := by omega
                have big2 : ∀ z ∈ b.toList.drop (ib + 1), r x ≤ r z := big2'
                have M4 := M3
                refine wpS_bind (wpS_elem ex ?_)
                have M5 : Mg r a.toList b.toList ((out.push y).push x).toList (ia + 1) (ib + 1) := by rw [toL_push]; exact M4.pushA sa lx big2
                by_cases e5 : ia + 1 + 1 = a.size
                · rw [if_pos (beq_iff_eq.mpr e5)]
                  exact wpS_pure (.inl ⟨_, _, _, _, _, _, _, rfl, S3, by
                    obtain ⟨z, ez, mz, kz, lz⟩ := Ra.at0 (i := ia + 1) (by omega)
                    have := M5.last sb lz (by rw [Array.length_toList]; omega) (fun y hy => by have := hl y hy; rw [show a.size - 1 = ia + 1 by omega, kz] at this; exact this)
                    exact fin_last this⟩)
                · rw [if_neg (fun z => e5 (beq_iff_eq.mp z))]
                  have fine : ∀ ac bc, (∃ (o1 : Array Keyed) (i1 j1 g1 c1 c2 : Nat), ((none, (out.push y).push x, ia + 1, (ib + 1), mg1, ac, bc) : Option (Array Keyed) × Array Keyed × Nat × Nat × Nat × Nat × Nat) = (none, o1, i1, j1, g1, c1, c2) ∧ Sam κ a0 st st3 ∧ Mg r a.toList b.toList o1.toList i1 j1 ∧ i1 + 1 < a.size ∧ j1 < b.size ∧ X + 1 ≤ i1 + j1) := fun ac bc => ⟨_, _, _, _, _, _, rfl, S3, M5, by omega, by omega, by omega⟩
                  split
                  · exact wpS_pure (.inr (fine _ _))
                  · exact wpS_pure (fine _ _)
        · rw [if_neg c1]
          generalize mg = mg1
          refine wpS_bind (m := setMinGallop' mg1) (wpS_setG S2 fun st3 S3 => ?_)
          obtain ⟨y, ey, my, ky, ly⟩ := Rb.at0 (i := ib) hib
          refine wpS_bind (wpS_elem ey ?_)
          refine wpS_bind (wpS_gallop hc S3.bs (Ra.part (i := ia) (m := a.size - ia) (by omega)) my (by omega) fun k k1 k2 k3 => ?_)
          have low1 : ∀ i z, i < k → a.toList[ia + i]? = some z → ∀ y ∈ b.toList.drop ib, r z ≤ r y := fun i z hi ez y' hy => by
            have := k2 i hi
            unfold Bey at this
            simp only [Bool.false_eq_true, if_false, decide_eq_true_eq] at this
            rw [Kr_list ez] at this
            have := sb.ahead ly y' hy
            omega
          have big1' : ∀ z ∈ a.toList.drop (ia + k), r y ≤ r z := fun z hz => by
            obtain ⟨i, i1, i2, ez⟩ := mem_drop_at hz
            rw [Array.length_toList] at i2
            have := k3 (i - ia) (by omega) (by omega)
            unfold Bey at this
            simp only [Bool.false_eq_true, if_false, decide_eq_false_iff_not] at this
            rw [show ia + (i - ia) = i by omega, Kr_list ez] at this
            omega
          dsimp only
          by_cases hk : k > 0
          · rw [if_pos hk]
            have M2 : Mg r a.toList b.toList (out ++ a.extract ia (ia + k)).toList (ia + k) ib := by rw [toL_ext]; exact M.takeA sa k (by rw [Array.length_toList]; omega) low1
            by_cases e1 : ia + k + 1 = a.size
            · rw [if_pos (beq_iff_eq.mpr e1)]
              exact wpS_pure (.inl ⟨_, _, _, _, _, _, _, rfl, S3, by
                obtain ⟨z, ez, mz, kz, lz⟩ := Ra.at0 (i := ia + k) (by omega)
                have := M2.last sb lz (by rw [Array.length_toList]; omega) (fun y hy => by have := hl y hy; rw [show a.size - 1 = ia + k by omega, kz] at this; exact this)
                exact fin_last this⟩)
            · rw [if_neg (fun z => e1 (beq_iff_eq.mp z))]
              by_cases e2 : ia + k = a.size
              · rw [if_pos (beq_iff_eq.mpr e2)]
                exact wpS_pure (.inl ⟨_, _, _, _, _, _, _, rfl, S3, by
                  have := M2.doneA sb (by rw [Array.length_toList]; exact e2)
                  exact fin_done this⟩)
              · rw [if_neg (fun z => e2 (beq_iff_eq.mp z))]
                have big1 := big1'
                refine wpS_bind (wpS_elem ey ?_)
                have M3 : Mg r a.toList b.toList ((out ++ a.extract ia (ia + k)).push y).toList (ia + k) (ib + 1) := by rw [toL_push]; exact M2.pushB sb ly big1
                by_cases e3 : ib + 1 = b.size
                · rw [if_pos (beq_iff_eq.mpr e3)]
                  exact wpS_pure (.inl ⟨_, _, _, _, _, _, _, rfl, S3, by
                    have := M3.doneB sa (by rw [Array.length_toList]; exact e3)
                    exact fin_done this⟩)
                · rw [if_neg (fun z => e3 (beq_iff_eq.mp z))]
                  obtain ⟨x, ex, mx, kx, lx⟩ := Ra.at0 (i := (ia + k)) (by omega)
                  refine wpS_bind (wpS_elem ex ?_)
                  refine wpS_bind (wpS_gallop hc S3.bs (Rb.part (i := ib + 1) (m := b.size - (ib + 1)) (by omega)) mx (by omega) fun k' k1' k2' k3' => ?_)
                  have low2 : ∀ i z, i < k' → b.toList[ib + 1 + i]? = some z → ∀ y ∈ a.toList.drop (ia + k), r z ≤ r y := fun i z hi ez y hy => by
                    have := k2' i hi
                    unfold Bey at this
                    simp only [if_true, decide_eq_true_eq] at this
                    rw [Kr_list ez] at this
                    have := sa.ahead lx y hy
                    omega
                  have big2' : ∀ z ∈ b.toList.drop (ib + 1 + k'), r x ≤ r z := fun z hz => by
                    obtain ⟨i, i1, i2, ez⟩ := mem_drop_at hz
                    rw [Array.length_toList] at i2
                    have := k3' (i - (ib + 1)) (by omega) (by omega)
                    unfold Bey at this
                    simp only [if_true, decide_eq_false_iff_not] at this
                    rw [show ib + 1 + (i - (ib + 1)) = i by omega, Kr_list ez] at this
                    omega
                  dsimp only
                  by_cases hk' : k' > 0
                  · rw [if_pos hk']
                    have M4 : Mg r a.toList b.toList ((out ++ a.extract ia (ia + k)).push y ++ b.extract (ib + 1) (ib + 1 + k')).toList (ia + k) (ib + 1 + k') := by rw [toL_ext]; exact M3.takeB sb k' (by rw [Array.length_toList]; omega) low2
                    by_cases e4 : ib + 1 + k' = b.size
                    · rw [if_pos (beq_iff_eq.mpr e4)]
                      exact wpS_pure (.inl ⟨_, _, _, _, _, _, _, rfl, S3, by
                        have := M4.doneB sa (by rw [Array.length_toList]; exact e4)
                        exact fin_done this⟩)
                    · rw [if_neg (fun z => e4 (beq_iff_eq.mp z))]
                      have big2 := big2'
                      refine wpS_bind (wpS_elem ex ?_)
                      have M5 : Mg r a.toList b.toList (((out ++ a.extract ia (ia + k)).push y ++ b.extract (ib + 1) (ib + 1 + k')).push x).toList ((ia + k) + 1) (ib + 1 + k') := by rw [toL_push]; exact M4.pushA sa lx big2
                      by_cases e5 : (ia + k) + 1 + 1 = a.size
                      · rw [if_pos (beq_iff_eq.mpr e5)]
                        exact wpS_pure (.inl ⟨_, _, _, _, _, _, _, rfl, S3, by
                          obtain ⟨z, ez, mz, kz, lz⟩ := Ra.at0 (i := (ia + k) + 1) (by omega)
                          have := M5.last sb lz (by rw [Array.length_toList]; omega) (fun y hy => by have := hl y hy; rw [show a.size - 1 = (ia + k) + 1 by omega, kz] at this; exact this)
                          exact fin_last this⟩)
                      · rw [if_neg (fun z => e5 (beq_iff_eq.mp z))]
                        have fine : ∀ ac bc, (∃ (o1 : Array Keyed) (i1 j1 g1 c1 c2 : Nat), ((none, ((out ++ a.extract ia (ia + k)).push y ++ b.extract (ib + 1) (ib + 1 + k')).push x, (ia + k) + 1, (ib + 1 + k'), mg1, ac, bc) : Option (Array Keyed) × Array Keyed × Nat × Nat × Nat × Nat × Nat) = (none, o1, i1, j1, g1, c1, c2) ∧ Sam κ a0 st st3 ∧ Mg r a.toList b.toList o1.toList i1 j1 ∧ i1 + 1 < a.size ∧ j1 < b.size ∧ X + 1 ≤ i1 + j1) := fun ac bc => ⟨_, _, _, _, _, _, rfl, S3, M5, by omega, by omega, by omega⟩
                        split
                        · exact wpS_pure (.inr (fine _ _))
                        · exact wpS_pure (fine _ _)
                  · rw [if_neg hk']
                    obtain rfl : k' = 0 := by omega
                    have big2 : ∀ z ∈ b.toList.drop (ib + 1), r x ≤ r z := big2'
                    have M4 := M3
                    refine wpS_bind (wpS_elem ex ?_)
                    have M5 : Mg r a.toList b.toList (((out ++ a.extract ia (ia + k)).push y).push x).toList ((ia + k) + 1) (ib + 1) := by rw [toL_push]; exact M4.pushA sa lx big2
                    by_cases e5 : (ia + k) + 1 + 1 = a.size
                    · rw [if_pos (beq_iff_eq.mpr e5)]
                      exact wpS_pure (.inl ⟨_, _, _, _, _, _, _, rfl, S3, by
                        obtain ⟨z, ez, mz, kz, lz⟩ := Ra.at0 (i := (ia + k) + 1) (by omega)
                        have := M5.last sb lz (by rw [Array.length_toList]; omega) (fun y hy => by have := hl y hy; rw [show a.size - 1 = (ia + k) + 1 by omega, kz] at this; exact this)
                        exact fin_last this⟩)
                    · rw [if_neg (fun z => e5 (beq_iff_eq.mp z))]
                      have fine : ∀ ac bc, (∃ (o1 : Array Keyed) (i1 j1 g1 c1 c2 : Nat), ((none, ((out ++ a.extract ia (ia + k)).push y).push x, (ia + k) + 1, (ib + 1), mg1, ac, bc) : Option (Array Keyed) × Array Keyed × Nat × Nat × Nat × Nat × Nat) = (none, o1, i1, j1, g1, c1, c2) ∧ Sam κ a0 st st3 ∧ Mg r a.toList b.toList o1.toList i1 j1 ∧ i1 + 1 < a.size ∧ j1 < b.size ∧ X + 1 ≤ i1 + j1) := fun ac bc => ⟨_, _, _, _, _, _, rfl, S3, M5, by omega, by omega, by omega⟩
                      split
                      · exact wpS_pure (.inr (fine _ _))
                      · exact wpS_pure (fine _ _)
          · rw [if_neg hk]
            obtain rfl : k = 0 := by omega
            have big1 : ∀ z ∈ a.toList.drop ia, r y ≤ r z := big1'
            have M2 := M
            refine wpS_bind (wpS_elem ey ?_)
            have M3 : Mg r a.toList b.toList (out.push y).toList ia (ib + 1) := by rw [toL_push]; exact M2.pushB sb ly big1
            by_cases e3 : ib + 1 = b.size
            · rw [if_pos (beq_iff_eq.mpr e3)]
              exact wpS_pure (.inl ⟨_, _, _, _, _, _, _, rfl, S3, by
                have := M3.doneB sa (by rw [Array.length_toList]; exact e3)
                exact fin_done this⟩)
            · rw [if_neg (fun z => e3 (beq_iff_eq.mp z))]
              obtain ⟨x, ex, mx, kx, lx⟩ := Ra.at0 (i := ia) (by omega)
              refine wpS_bind (wpS_elem ex ?_)
              refine wpS_bind (wpS_gallop hc S3.bs (Rb.part (i := ib + 1) (m := b.size - (ib + 1)) (by omega)) mx (by omega) fun k' k1' k2' k3' => ?_)
              have low2 : ∀ i z, i < k' → b.toList[ib + 1 + i]? = some z → ∀ y ∈ a.toList.drop ia, r z ≤ r y := fun i z hi ez y hy => by
                have := k2' i hi
                unfold Bey at this
                simp only [if_true, decide_eq_true_eq] at this
                rw [Kr_list ez] at this
                have := sa.ahead lx y hy
                omega
              have big2' : ∀ z ∈ b.toList.drop (ib + 1 + k'), r x ≤ r z := fun z hz => by
                obtain ⟨i, i1, i2, ez⟩ := mem_drop_at hz
                rw [Array.length_toList] at i2
                have := k3' (i - (ib + 1)) (by omega) (by omega)
                unfold Bey at this
                simp only [if_true, decide_eq_false_iff_not] at this
                rw [show ib + 1 + (i - (ib + 1)) = i by omega, Kr_list ez] at this
                omega
              dsimp only
              by_cases hk' : k' > 0
              · rw [if_pos hk']
                have M4 : Mg r a.toList b.toList (out.push y ++ b.extract (ib + 1) (ib + 1 + k')).toList ia (ib + 1 + k') := by rw [toL_ext]; exact M3.takeB sb k' (by rw [Array.length_toList]; omega) low2
                by_cases e4 : ib + 1 + k' = b.size
                · rw [if_pos (beq_iff_eq.mpr e4)]
                  exact wpS_pure (.inl ⟨_, _, _, _, _, _, _, rfl, S3, by
                    have := M4.doneB sa (by rw [Array.length_toList]; exact e4)
                    exact fin_done this⟩)
                · rw [if_neg (fun z => e4 (beq_iff_eq.mp z))]
                  have big2 := big2'
                  refine wpS_bind (wpS_elem ex ?_)
                  have M5 : Mg r a.toList b.toList ((out.push y ++ b.extract (ib + 1) (ib + 1 + k')).push x).toList (ia + 1) (ib + 1 + k') := by rw [toL_push]; exact M4.pushA sa lx big2
                  by_cases e5 : ia + 1 + 1 = a.size
                  · rw [if_pos (beq_iff_eq.mpr e5)]
                    exact wpS_pure (.inl ⟨_, _, _, _, _, _, _, rfl, S3, by
                      obtain ⟨z, ez, mz, kz, lz⟩ := Ra.at0 (i := ia + 1) (by omega)
                      have := M5.last sb lz (by rw [Array.length_toList]; omega) (fun y hy => by have := hl y hy; rw [show a.size - 1 = ia + 1 by omega, kz] at this; exact this)
                      exact fin_last this⟩)
                  · rw [if_neg (fun z => e5 (beq_iff_eq.mp z))]
                    have fine : ∀ ac bc, (∃ (o1 : Array Keyed) (i1 j1 g1 c1 c2 : Nat), ((none, (out.push y ++ b.extract (ib + 1) (ib + 1 + k')).push x, ia + 1, (ib + 1 + k'), mg1, ac, bc) : Option (Array Keyed) × Array Keyed × Nat × Nat × Nat × Nat × Nat) = (none, o1, i1, j1, g1, c1, c2) ∧ Sam κ a0 st st3 ∧ Mg r a.toList b.toList o1.toList i1 j1 ∧ i1 + 1 < a.size ∧ j1 < b.size ∧ X + 1 ≤ i1 + j1) := fun ac bc => ⟨_, _, _, _, _, _, rfl, S3, M5, by omega, by omega, by omega⟩
                    split
                    · exact wpS_pure (.inr (fine _ _))
                    · exact wpS_pure (fine _ _)
              · rw [if_neg hk']
                obtain rfl : k' = 0 := by omega
                have big2 : ∀ z ∈ b.toList.drop (ib + 1), r x ≤ r z := big2'
                have M4 := M3
                refine wpS_bind (wpS_elem ex ?_)
                have M5 : Mg r a.toList b.toList ((out.push y).push x).toList (ia + 1) (ib + 1) := by rw [toL_push]; exact M4.pushA sa lx big2
                by_cases e5 : ia + 1 + 1 = a.size
                · rw [if_pos (beq_iff_eq.mpr e5)]
                  exact wpS_pure (.inl ⟨_, _, _, _, _, _, _, rfl, S3, by
                    obtain ⟨z, ez, mz, kz, lz⟩ := Ra.at0 (i := ia + 1) (by omega)
                    have := M5.last sb lz (by rw [Array.length_toList]; omega) (fun y hy => by have := hl y hy; rw [show a.size - 1 = ia + 1 by omega, kz] at this; exact this)
                    exact fin_last this⟩)
                · rw [if_neg (fun z => e5 (beq_iff_eq.mp z))]
                  have fine : ∀ ac bc, (∃ (o1 : Array Keyed) (i1 j1 g1 c1 c2 : Nat), ((none, (out.push y).push x, ia + 1, (ib + 1), mg1, ac, bc) : Option (Array Keyed) × Array Keyed × Nat × Nat × Nat × Nat × Nat) = (none, o1, i1, j1, g1, c1, c2) ∧ Sam κ a0 st st3 ∧ Mg r a.toList b.toList o1.toList i1 j1 ∧ i1 + 1 < a.size ∧ j1 < b.size ∧ X + 1 ≤ i1 + j1) := fun ac bc => ⟨_, _, _, _, _, _, rfl, S3, M5, by omega, by omega, by omega⟩
                  split
                  · exact wpS_pure (.inr (fine _ _))
                  · exact wpS_pure (fine _ _)
theorem Mh.pushA' {la lb l : List Keyed} {na nb : Nat} {x : Keyed} (sa : Srt r la) (h : Mh r la lb l na nb) (h0 : 0 < na) (e : la[na - 1]? = some x) (c : ∀ y ∈ lb.take nb, r y ≤ r x) : Mh r la lb (x :: l) (na - 1) nb := by
  obtain ⟨m, rfl⟩ : ∃ m, na = m + 1 := ⟨na - 1, by omega⟩
  exact Mh.pushA sa h e c
theorem Mh.pushB' {la lb l : List Keyed} {na nb : Nat} {x : Keyed} (sb : Srt r lb) (h : Mh r la lb l na nb) (h0 : 0 < nb) (e : lb[nb - 1]? = some x) (c : ∀ y ∈ la.take na, r y ≤ r x) : Mh r la lb (x :: l) na (nb - 1) := by
  obtain ⟨m, rfl⟩ : ∃ m, nb = m + 1 := ⟨nb - 1, by omega⟩
  exact Mh.pushB sb h e c
theorem Srt.behind' {l : List Keyed} {n : Nat} {x : Keyed} (h : Srt r l) (h0 : 0 < n) (e : l[n - 1]? = some x) : ∀ y ∈ l.take n, r y ≤ r x := fun y hy => by
  obtain ⟨m, rfl⟩ : ∃ m, n = m + 1 := ⟨n - 1, by omega⟩
  exact h.behind e y hy
theorem rv_push {out : Array Keyed} {x : Keyed} : (out.push x).toList.reverse = x :: out.toList.reverse := by
  rw [Array.toList_push, List.reverse_append]; rfl
theorem rv_ext {out a : Array Keyed} {i n : Nat} : (out ++ (a.extract i n).reverse).toList.reverse = (a.toList.drop i).take (n - i) ++ out.toList.reverse := by
  rw [Array.toList_append, List.reverse_append, Array.toList_reverse, List.reverse_reverse, ext_list]
theorem ext_head (xs : Array Keyed) (n : Nat) : (xs.extract 0 n).toList = xs.toList.take n := by
  rw [ext_list, List.drop_zero, Nat.sub_zero]
theorem fin_doneH {out a b : Array Keyed} {na nb : Nat} (h : Fin r a.toList b.toList (a.toList.take na ++ b.toList.take nb ++ out.toList.reverse)) : Fin r a.toList b.toList (a.extract 0 na ++ b.extract 0 nb ++ out.reverse).toList := by
  rw [Array.toList_append, Array.toList_append, ext_head, ext_head, Array.toList_reverse]; exact h
theorem fin_firstH {out a b : Array Keyed} {na nb : Nat} (h : Fin r a.toList b.toList (b.toList.take nb ++ a.toList.take na ++ out.toList.reverse)) : Fin r a.toList b.toList (b.extract 0 nb ++ a.extract 0 na ++ out.reverse).toList := by
  rw [Array.toList_append, Array.toList_append, ext_head, ext_head, Array.toList_reverse]; exact h
set_option maxHeartbeats 8000000 in
theorem wpS_mergeHi {st : SortSt} {a b : Array Keyed} {Q : Array Keyed → SortSt → Prop} (hc : Cmp prog w A s κ a0 r) (hB : Bs κ a0 st) (Ra : Run a0 r a 0 a.size) (Rb : Run a0 r b 0 b.size) (ha : 0 < a.size) (hb : 0 < b.size)
    (h0 : Kr r b 0 < Kr r a 0) (hl : ∀ y ∈ b.toList, r y ≤ Kr r a (a.size - 1))
    (h : ∀ res st', Bs κ a0 st' → arrOf st' = arrOf st → pendingOf st' = pendingOf st → Fin r a.toList b.toList res.toList → Q res st') : wpS (model prog w) A E s (mergeHi' a b) Q st := by
  have sa := Ra.srt
  have sb := Rb.srt
  refine wpS_bind (m := liftM (rule _)) (wpS_lift (wpAny_rule ⟨rfl, ?_⟩))
  obtain ⟨b0, eb0, mb0, kb0, lb0⟩ := Rb.at0 hb
  obtain ⟨x0, ea0, ma0, ka0, la0⟩ := Ra.at0 ha
  obtain ⟨xl, eal, mal, kal, lal⟩ := Ra.at0 (i := a.size - 1) (by omega)
  have low0 : ∀ y ∈ a.toList, r b0 ≤ r y := fun y hy => by
    have := sa.ahead la0 y (by rw [List.drop_zero]; exact hy)
    omega
  refine wpS_bind (wpS_elem eal ?_)
  have M0 : Mh r a.toList b.toList (#[xl] : Array Keyed).toList.reverse (a.size - 1) b.size := by
    have z : Mh r a.toList b.toList [] a.size b.size := ⟨by rw [Array.length_toList]; exact Nat.le_refl _, by rw [Array.length_toList]; exact Nat.le_refl _, by rw [← Array.length_toList, ← Array.length_toList, List.drop_length, List.drop_length]; exact List.Perm.refl _, .nil, (fun x hx => by cases hx), (fun x hx => by cases hx)⟩
    exact z.pushA' sa ha lal fun y hy => by rw [← kal]; exact hl y (List.mem_of_mem_take hy)
  dsimp only
  by_cases f1 : a.size - 1 = 0
  · rw [if_pos (beq_iff_eq.mpr f1)]
    exact wpS_pure (h _ _ hB rfl rfl (fin_doneH (M0.doneA sb f1)))
  rw [if_neg (fun z => f1 (beq_iff_eq.mp z))]
  by_cases f2 : b.size = 1
  · rw [if_pos (beq_iff_eq.mpr f2)]
    exact wpS_pure (h _ _ hB rfl rfl (fin_firstH (M0.first sa lb0 f2 low0)))
  rw [if_neg (fun z => f2 (beq_iff_eq.mp z))]
  refine wpS_bind (wpS_get ?_)
  refine wpS_bind (wpS_mono (wpS_forRange (I := fun x c st' => ∃ (out : Array Keyed) (na nb mg : Nat), c = (none, na, nb, out, mg) ∧ Sam κ a0 st st' ∧ Mh r a.toList b.toList out.toList.reverse na nb ∧ 0 < na ∧ 1 < nb ∧ x + (na + nb) ≤ a.size + b.size)
    (Q := fun c st' => ∃ (out : Array Keyed) (na nb mg : Nat) (res : Array Keyed), c = (some res, na, nb, out, mg) ∧ Sam κ a0 st st' ∧ Fin r a.toList b.toList res.toList) ?step ?fin ⟨_, _, _, _, rfl, ⟨hB, rfl, rfl⟩, M0, by omega, by omega, by omega⟩) ?post)
  case fin =>
    rintro c st' ⟨out, na, nb, mg, rfl, S1, M, h1, h2, h3⟩
    omega
  case post =>
    rintro c st' ⟨out, na, nb, mg, res, rfl, S1, F⟩
    exact wpS_pure (h res st' S1.bs S1.arr S1.pend F)
  case step =>
    rintro X c st' _ hX ⟨out, na, nb, mg, rfl, S1, M, h1, h2, h3⟩
    dsimp only
    refine wpS_bind (wpS_mono (wpS_forRange (I := fun x c st2 => ∃ (out : Array Keyed) (na nb ac bc : Nat), c = (none, na, nb, out, ac, bc) ∧ st' = st2 ∧ Mh r a.toList b.toList out.toList.reverse na nb ∧ 0 < na ∧ 1 < nb ∧ X + x + (na + nb) ≤ a.size + b.size)
      (Q := fun c st2 => st' = st2 ∧ ((∃ (out : Array Keyed) (na nb ac bc : Nat) (res : Array Keyed), c = (some res, na, nb, out, ac, bc) ∧ Fin r a.toList b.toList res.toList) ∨ ∃ (out : Array Keyed) (na nb ac bc : Nat), c = (none, na, nb, out, ac, bc) ∧ Mh r a.toList b.toList out.toList.reverse na nb ∧ 0 < na ∧ 1 < nb ∧ X + 1 + (na + nb) ≤ a.size + b.size)) ?st1 ?fin1 ⟨_, _, _, _, _, rfl, rfl, M, h1, h2, by omega⟩) ?post1)
    case fin1 =>
      rintro c st2 ⟨out, na, nb, ac, bc, rfl, rfl, M, h1, h2, h3⟩
      exact ⟨rfl, .inr ⟨_, _, _, _, _, rfl, M, h1, h2, by omega⟩⟩
    case st1 =>
      rintro x c st2 _ hx ⟨out, na, nb, ac, bc, rfl, rfl, M, h1, h2, h3⟩
      have m1 := M.ha
      have m2 := M.hb
      rw [Array.length_toList] at m1 m2
      dsimp only
      obtain ⟨y, ey, my, ky, ly⟩ := Rb.at0 (i := nb - 1) (by omega)
      obtain ⟨z, ez, mz, kz, lz⟩ := Ra.at0 (i := na - 1) (by omega)
      refine wpS_bind (wpS_elem ey (wpS_bind (wpS_elem ez (wpS_bind (wpS_lt hc S1.bs my mz ?_)))))
      by_cases c1 : r y < r z
      · simp only [c1, decide_true, if_true]
        refine wpS_bind (wpS_elem ez ?_)
        have M3 : Mh r a.toList b.toList (out.push z).toList.reverse (na - 1) nb := by rw [rv_push]; exact M.pushA' sa h1 lz fun q hq => by have := sb.behind' (by omega) ly q hq; omega
        by_cases e3 : na - 1 = 0
        · rw [if_pos (beq_iff_eq.mpr e3)]
          exact wpS_pure ⟨rfl, .inl ⟨_, _, _, _, _, _, rfl, fin_doneH (M3.doneA sb e3)⟩⟩
        · rw [if_neg (fun z => e3 (beq_iff_eq.mp z))]
          split
          · exact wpS_pure ⟨rfl, .inr ⟨_, _, _, _, _, rfl, M3, by omega, by omega, by omega⟩⟩
          · exact wpS_pure ⟨_, _, _, _, _, rfl, rfl, M3, by omega, by omega, by omega⟩
      · simp only [c1, decide_false, Bool.false_eq_true, if_false]
        refine wpS_bind (wpS_elem ey ?_)
        have M3 : Mh r a.toList b.toList (out.push y).toList.reverse na (nb - 1) := by rw [rv_push]; exact M.pushB' sb (by omega) ly fun q hq => by have := sa.behind' h1 lz q hq; omega
        by_cases e3 : nb - 1 = 1
        · rw [if_pos (beq_iff_eq.mpr e3)]
          exact wpS_pure ⟨rfl, .inl ⟨_, _, _, _, _, _, rfl, fin_firstH (M3.first sa lb0 e3 low0)⟩⟩
        · rw [if_neg (fun z => e3 (beq_iff_eq.mp z))]
          split
          · exact wpS_pure ⟨rfl, .inr ⟨_, _, _, _, _, rfl, M3, by omega, by omega, by omega⟩⟩
          · exact wpS_pure ⟨_, _, _, _, _, rfl, rfl, M3, by omega, by omega, by omega⟩
    case post1 =>
      rintro c st2 ⟨rfl, q⟩
      rcases q with ⟨out, na, nb, ac, bc, res, rfl, F⟩ | ⟨out, na, nb, ac, bc, rfl, M, h1, h2, h3⟩
      · exact wpS_pure ⟨_, _, _, _, res, rfl, S1, F⟩
      dsimp only
      refine wpS_bind (wpS_lift (wpAny_rule ⟨rfl, ?_⟩))
      refine wpS_bind (wpS_mono (wpS_forRange (I := fun x c st2 => ∃ (out : Array Keyed) (na nb mg ac bc : Nat), c = (none, na, nb, out, mg, ac, bc) ∧ Sam κ a0 st st2 ∧ Mh r a.toList b.toList out.toList.reverse na nb ∧ 0 < na ∧ 1 < nb ∧ X + 1 + (na + nb) ≤ a.size + b.size)
        (Q := fun c st2 => (∃ (out : Array Keyed) (na nb mg ac bc : Nat) (res : Array Keyed), c = (some res, na, nb, out, mg, ac, bc) ∧ Sam κ a0 st st2 ∧ Fin r a.toList b.toList res.toList) ∨ ∃ (out : Array Keyed) (na nb mg ac bc : Nat), c = (none, na, nb, out, mg, ac, bc) ∧ Sam κ a0 st st2 ∧ Mh r a.toList b.toList out.toList.reverse na nb ∧ 0 < na ∧ 1 < nb ∧ X + 1 + (na + nb) ≤ a.size + b.size) ?st3 ?fin3 ⟨_, _, _, _, _, _, rfl, S1, M, h1, h2, h3⟩) ?post3)
      case fin3 =>
        rintro c st2 q
        exact .inr q
      case post3 =>
        rintro c st2 q
        rcases q with ⟨out, na, nb, mg, ac, bc, res, rfl, S2, F⟩ | ⟨out, na, nb, mg, ac, bc, rfl, S2, M, h1, h2, h3⟩
        · exact wpS_pure ⟨_, _, _, _, res, rfl, S2, F⟩
        dsimp only
        refine wpS_bind (m := setMinGallop' (mg + 1)) (wpS_setG S2 fun st3 S3 => ?_)
        exact wpS_pure ⟨_, _, _, _, rfl, S3, M, h1, h2, h3⟩
      case st3 =>
        rintro x c st2 _ hx ⟨out, na, nb, mg, ac, bc, rfl, S2, M, hia, hib, h3⟩
        have m1 := M.ha
        have m2 := M.hb
        rw [Array.length_toList] at m1 m2
        dsimp only
        by_cases c1 : mg > 1
        · rw [if_pos c1]
          generalize mg - 1 = mg1
          refine wpS_bind (m := setMinGallop' mg1) (wpS_setG S2 fun st3 S3 => ?_)
          obtain ⟨y, ey, my, ky, ly⟩ := Rb.at0 (i := nb - 1) (by omega)
          refine wpS_bind (wpS_elem ey ?_)
          refine wpS_bind (wpS_gallop hc S3.bs (Ra.part (i := 0) (m := na) (by omega)) my (by omega) fun p p1 p2 p3 => ?_)
          have low1 : ∀ i z, i < na - p → a.toList[p + i]? = some z → ∀ y ∈ b.toList.take nb, r y ≤ r z := fun i z hi ez y' hy => by
            have := p3 (p + i) (by omega) (by omega)
            unfold Bey at this
            simp only [Bool.false_eq_true, if_false, decide_eq_false_iff_not, Nat.zero_add] at this
            rw [Kr_list ez] at this
            have := sb.behind' (by omega) ly y' hy
            omega
          have big1' : ∀ z ∈ a.toList.take p, r z ≤ r y := fun z hz => by
            obtain ⟨i, i1, ez⟩ := mem_take_at hz
            have := p2 i i1
            unfold Bey at this
            simp only [Bool.false_eq_true, if_false, decide_eq_true_eq, Nat.zero_add] at this
            rw [Kr_list ez] at this
            omega
          dsimp only
          by_cases hk : na - p > 0
          · rw [if_pos hk]
            have M2 : Mh r a.toList b.toList (out ++ (a.extract p na).reverse).toList.reverse p nb := by
              rw [rv_ext]
              refine Mh.takeA sa (na - p) ?_ low1
              rw [show p + (na - p) = na by omega]
              exact M
            by_cases e1 : p = 0
            · rw [if_pos (beq_iff_eq.mpr e1)]
              exact wpS_pure (.inl ⟨_, _, _, _, _, _, _, rfl, S3, fin_doneH (M2.doneA sb e1)⟩)
            · rw [if_neg (fun z => e1 (beq_iff_eq.mp z))]
              have big1 := big1'
              refine wpS_bind (wpS_elem ey ?_)
              have M3 : Mh r a.toList b.toList ((out ++ (a.extract p na).reverse).push y).toList.reverse p (nb - 1) := by rw [rv_push]; exact M2.pushB' sb (by omega) ly big1
              by_cases e3 : nb - 1 = 1
              · rw [if_pos (beq_iff_eq.mpr e3)]
                exact wpS_pure (.inl ⟨_, _, _, _, _, _, _, rfl, S3, fin_firstH (M3.first sa lb0 e3 low0)⟩)
              · rw [if_neg (fun z => e3 (beq_iff_eq.mp z))]
                obtain ⟨x, ex, mx, kx, lx⟩ := Ra.at0 (i := p - 1) (by omega)
                refine wpS_bind (wpS_elem ex ?_)
                refine wpS_bind (wpS_gallop hc S3.bs (Rb.part (i := 0) (m := nb - 1) (by omega)) mx (by omega) fun q q1 q2 q3 => ?_)
                have low2 : ∀ i z, i < nb - 1 - q → b.toList[q + i]? = some z → ∀ y ∈ a.toList.take p, r y ≤ r z := fun i z hi ez y' hy => by
                  have := q3 (q + i) (by omega) (by omega)
                  unfold Bey at this
                  simp only [if_true, decide_eq_false_iff_not, Nat.zero_add] at this
                  rw [Kr_list ez] at this
                  have := sa.behind' (by omega) lx y' hy
                  omega
                have big2' : ∀ z ∈ b.toList.take q, r z ≤ r x := fun z hz => by
                  obtain ⟨i, i1, ez⟩ := mem_take_at hz
                  have := q2 i i1
                  unfold Bey at this
                  simp only [if_true, decide_eq_true_eq, Nat.zero_add] at this
                  rw [Kr_list ez] at this
                  omega
                dsimp only
                by_cases hk' : nb - 1 - q > 0
                · rw [if_pos hk']
                  have M4 : Mh r a.toList b.toList ((out ++ (a.extract p na).reverse).push y ++ (b.extract q (nb - 1)).reverse).toList.reverse p q := by
                    rw [rv_ext]
                    refine Mh.takeB sb (nb - 1 - q) ?_ low2
                    rw [show q + (nb - 1 - q) = nb - 1 by omega]
                    exact M3
                  by_cases e4 : q = 1
                  · rw [if_pos (beq_iff_eq.mpr e4)]
                    exact wpS_pure (.inl ⟨_, _, _, _, _, _, _, rfl, S3, fin_firstH (M4.first sa lb0 e4 low0)⟩)
                  · rw [if_neg (fun z => e4 (beq_iff_eq.mp z))]
                    by_cases e6 : q = 0
                    · rw [if_pos (beq_iff_eq.mpr e6)]
                      exact wpS_pure (.inl ⟨_, _, _, _, _, _, _, rfl, S3, fin_doneH (M4.doneB sa e6)⟩)
                    · rw [if_neg (fun z => e6 (beq_iff_eq.mp z))]
                      have big2 := big2'
                      refine wpS_bind (wpS_elem ex ?_)
                      have M5 : Mh r a.toList b.toList (((out ++ (a.extract p na).reverse).push y ++ (b.extract q (nb - 1)).reverse).push x).toList.reverse (p - 1) q := by rw [rv_push]; exact M4.pushA' sa (by omega) lx big2
                      by_cases e5 : p - 1 = 0
                      · rw [if_pos (beq_iff_eq.mpr e5)]
                        exact wpS_pure (.inl ⟨_, _, _, _, _, _, _, rfl, S3, fin_doneH (M5.doneA sb e5)⟩)
                      · rw [if_neg (fun z => e5 (beq_iff_eq.mp z))]
                        have fine : ∀ ac bc, (∃ (o1 : Array Keyed) (i1 j1 g1 c1 c2 : Nat), ((none, p - 1, q, ((out ++ (a.extract p na).reverse).push y ++ (b.extract q (nb - 1)).reverse).push x, mg1, ac, bc) : Option (Array Keyed) × Nat × Nat × Array Keyed × Nat × Nat × Nat) = (none, i1, j1, o1, g1, c1, c2) ∧ Sam κ a0 st st3 ∧ Mh r a.toList b.toList o1.toList.reverse i1 j1 ∧ 0 < i1 ∧ 1 < j1 ∧ X + 1 + (i1 + j1) ≤ a.size + b.size) := fun ac bc => ⟨_, _, _, _, _, _, rfl, S3, M5, by omega, by omega, by omega⟩
                        split
                        · exact wpS_pure (.inr (fine _ _))
                        · exact wpS_pure (fine _ _)
                · rw [if_neg hk']
                  obtain rfl : q = nb - 1 := by omega
                  have big2 := big2'
                  have M4 := M3
                  refine wpS_bind (wpS_elem ex ?_)
                  have M5 : Mh r a.toList b.toList (((out ++ (a.extract p na).reverse).push y).push x).toList.reverse (p - 1) (nb - 1) := by rw [rv_push]; exact M4.pushA' sa (by omega) lx big2
                  by_cases e5 : p - 1 = 0
                  · rw [if_pos (beq_iff_eq.mpr e5)]
                    exact wpS_pure (.inl ⟨_, _, _, _, _, _, _, rfl, S3, fin_doneH (M5.doneA sb e5)⟩)
                  · rw [if_neg (fun z => e5 (beq_iff_eq.mp z))]
                    have fine : ∀ ac bc, (∃ (o1 : Array Keyed) (i1 j1 g1 c1 c2 : Nat), ((none, p - 1, (nb - 1), ((out ++ (a.extract p na).reverse).push y).push x, mg1, ac, bc) : Option (Array Keyed) × Nat × Nat × Array Keyed × Nat × Nat × Nat) = (none, i1, j1, o1, g1, c1, c2) ∧ Sam κ a0 st st3 ∧ Mh r a.toList b.toList o1.toList.reverse i1 j1 ∧ 0 < i1 ∧ 1 < j1 ∧ X + 1 + (i1 + j1) ≤ a.size + b.size) := fun ac bc => ⟨_, _, _, _, _, _, rfl, S3, M5, by omega, by omega, by omega⟩
                    split
                    · exact wpS_pure (.inr (fine _ _))
                    · exact wpS_pure (fine _ _)
          · rw [if_neg hk]
            obtain rfl : p = na := by omega
            have big1 := big1'
            have M2 := M
            refine wpS_bind (wpS_elem ey ?_)
            have M3 : Mh r a.toList b.toList (out.push y).toList.reverse p (nb - 1) := by rw [rv_push]; exact M2.pushB' sb (by omega) ly big1
            by_cases e3 : nb - 1 = 1
            · rw [if_pos (beq_iff_eq.mpr e3)]
              exact wpS_pure (.inl ⟨_, _, _, _, _, _, _, rfl, S3, fin_firstH (M3.first sa lb0 e3 low0)⟩)
            · rw [if_neg (fun z => e3 (beq_iff_eq.mp z))]
              obtain ⟨x, ex, mx, kx, lx⟩ := Ra.at0 (i := p - 1) (by omega)
              refine wpS_bind (wpS_elem ex ?_)
              refine wpS_bind (wpS_gallop hc S3.bs (Rb.part (i := 0) (m := nb - 1) (by omega)) mx (by omega) fun q q1 q2 q3 => ?_)
              have low2 : ∀ i z, i < nb - 1 - q → b.toList[q + i]? = some z → ∀ y ∈ a.toList.take p, r y ≤ r z := fun i z hi ez y' hy => by
                have := q3 (q + i) (by omega) (by omega)
                unfold Bey at this
                simp only [if_true, decide_eq_false_iff_not, Nat.zero_add] at this
                rw [Kr_list ez] at this
                have := sa.behind' (by omega) lx y' hy
                omega
              have big2' : ∀ z ∈ b.toList.take q, r z ≤ r x := fun z hz => by
                obtain ⟨i, i1, ez⟩ := mem_take_at hz
                have := q2 i i1
                unfold Bey at this
                simp only [if_true, decide_eq_true_eq, Nat.zero_add] at this
                rw [Kr_list ez] at this
                omega
              dsimp only
              by_cases hk' : nb - 1 - q > 0
              · rw [if_pos hk']
                have M4 : Mh r a.toList b.toList (out.push y ++ (b.extract q (nb - 1)).reverse).toList.reverse p q := by
                  rw [rv_ext]
                  refine Mh.takeB sb (nb - 1 - q) ?_ low2
                  rw [show q + (nb - 1 - q) = nb - 1 by omega]
                  exact M3
                by_cases e4 : q = 1
                · rw [if_pos (beq_iff_eq.mpr e4)]
                  exact wpS_pure (.inl ⟨_, _, _, _, _, _, _, rfl, S3, fin_firstH (M4.first sa lb0 e4 low0)⟩)
                · rw [if_neg (fun z => e4 (beq_iff_eq.mp z))]
                  by_cases e6 : q = 0
                  · rw [if_pos (beq_iff_eq.mpr e6)]
                    exact wpS_pure (.inl ⟨_, _, _, _, _, _, _, rfl, S3, fin_doneH (M4.doneB sa e6)⟩)
                  · rw [if_neg (fun z => e6 (beq_iff_eq.mp z))]
                    have big2 := big2'
                    refine wpS_bind (wpS_elem ex ?_)
                    have M5 : Mh r a.toList b.toList ((out.push y ++ (b.extract q (nb - 1)).reverse).push x).toList.reverse (p - 1) q := by rw [rv_push]; exact M4.pushA' sa (by omega) lx big2
                    by_cases e5 : p - 1 = 0
                    · rw [if_pos (beq_iff_eq.mpr e5)]
                      exact wpS_pure (.inl ⟨_, _, _, _, _, _, _, rfl, S3, fin_doneH (M5.doneA sb e5)⟩)
                    · rw [if_neg (fun z => e5 (beq_iff_eq.mp z))]
                      have fine : ∀ ac bc, (∃ (o1 : Array Keyed) (i1 j1 g1 c1 c2 : Nat), ((none, p - 1, q, (out.push y ++ (b.extract q (nb - 1)).reverse).push x, mg1, ac, bc) : Option (Array Keyed) × Nat × Nat × Array Keyed × Nat × Nat × Nat) = (none, i1, j1, o1, g1, c1, c2) ∧ Sam κ a0 st st3 ∧ Mh r a.toList b.toList o1.toList.reverse i1 j1 ∧ 0 < i1 ∧ 1 < j1 ∧ X + 1 + (i1 + j1) ≤ a.size + b.size) := fun ac bc => ⟨_, _, _, _, _, _, rfl, S3, M5, by omega, by omega, by omega⟩
                      split
                      · exact wpS_pure (.inr (fine _ _))
                      · exact wpS_pure (fine _ _)
              · rw [if_neg hk']
                obtain rfl : q = nb - 1 := by omega
                have big2 := big2'
                have M4 := M3
                refine wpS_bind (wpS_elem ex ?_)
                have M5 : Mh r a.toList b.toList ((out.push y).push x).toList.reverse (p - 1) (nb - 1) := by rw [rv_push]; exact M4.pushA' sa (by omega) lx big2
                by_cases e5 : p - 1 = 0
                · rw [if_pos (beq_iff_eq.mpr e5)]
                  exact wpS_pure (.inl ⟨_, _, _, _, _, _, _, rfl, S3, fin_doneH (M5.doneA sb e5)⟩)
                · rw [if_neg (fun z => e5 (beq_iff_eq.mp z))]
                  have fine : ∀ ac bc, (∃ (o1 : Array Keyed) (i1 j1 g1 c1 c2 : Nat), ((none, p - 1, (nb - 1), (out.push y).push x, mg1, ac, bc) : Option (Array Keyed) × Nat × Nat × Array Keyed × Nat × Nat × Nat) = (none, i1, j1, o1, g1, c1, c2) ∧ Sam κ a0 st st3 ∧ Mh r a.toList b.toList o1.toList.reverse i1 j1 ∧ 0 < i1 ∧ 1 < j1 ∧ X + 1 + (i1 + j1) ≤ a.size + b.size) := fun ac bc => ⟨_, _, _, _, _, _, rfl, S3, M5, by omega, by omega, by omega⟩
                  split
                  · exact wpS_pure (.inr (fine _ _))
                  · exact wpS_pure (fine _ _)
        · rw [if_neg c1]
          generalize mg = mg1
          refine wpS_bind (m := setMinGallop' mg1) (wpS_setG S2 fun st3 S3 => ?_)
          obtain ⟨y, ey, my, ky, ly⟩ := Rb.at0 (i := nb - 1) (by omega)
          refine wpS_bind (wpS_elem ey ?_)
          refine wpS_bind (wpS_gallop hc S3.bs (Ra.part (i := 0) (m := na) (by omega)) my (by omega) fun p p1 p2 p3 => ?_)
          have low1 : ∀ i z, i < na - p → a.toList[p + i]? = some z → ∀ y ∈ b.toList.take nb, r y ≤ r z := fun i z hi ez y' hy => by
            have := p3 (p + i) (by omega) (by omega)
            unfold Bey at this
            simp only [Bool.false_eq_true, if_false, decide_eq_false_iff_not, Nat.zero_add] at this
            rw [Kr_list ez] at this
            have := sb.behind' (by omega) ly y' hy
            omega
          have big1' : ∀ z ∈ a.toList.take p, r z ≤ r y := fun z hz => by
            obtain ⟨i, i1, ez⟩ := mem_take_at hz
            have := p2 i i1
            unfold Bey at this
            simp only [Bool.false_eq_true, if_false, decide_eq_true_eq, Nat.zero_add] at this
            rw [Kr_list ez] at this
            omega
          dsimp only
          by_cases hk : na - p > 0
          · rw [if_pos hk]
            have M2 : Mh r a.toList b.toList (out ++ (a.extract p na).reverse).toList.reverse p nb := by
              rw [rv_ext]
              refine Mh.takeA sa (na - p) ?_ low1
              rw [show p + (na - p) = na by omega]
              exact M
            by_cases e1 : p = 0
            · rw [if_pos (beq_iff_eq.mpr e1)]
              exact wpS_pure (.inl ⟨_, _, _, _, _, _, _, rfl, S3, fin_doneH (M2.doneA sb e1)⟩)
            · rw [if_neg (fun z => e1 (beq_iff_eq.mp z))]
              have big1 := big1'
              refine wpS_bind (wpS_elem ey ?_)
              have M3 : Mh r a.toList b.toList ((out ++ (a.extract p na).reverse).push y).toList.reverse p (nb - 1) := by rw [rv_push]; exact M2.pushB' sb (by omega) ly big1
              by_cases e3 : nb - 1 = 1
              · rw [if_pos (beq_iff_eq.mpr e3)]
                exact wpS_pure (.inl ⟨_, _, _, _, _, _, _, rfl, S3, fin_firstH (M3.first sa lb0 e3 low0)⟩)
              · rw [if_neg (fun z => e3 (beq_iff_eq.mp z))]
                obtain ⟨x, ex, mx, kx, lx⟩ := Ra.at0 (i := p - 1) (by omega)
                refine wpS_bind (wpS_elem ex ?_)
                refine wpS_bind (wpS_gallop hc S3.bs (Rb.part (i := 0) (m := nb - 1) (by omega)) mx (by omega) fun q q1 q2 q3 => ?_)
                have low2 : ∀ i z, i < nb - 1 - q → b.toList[q + i]? = some z → ∀ y ∈ a.toList.take p, r y ≤ r z := fun i z hi ez y' hy => by
                  have := q3 (q + i) (by omega) (by omega)
                  unfold Bey at this
                  simp only [if_true, decide_eq_false_iff_not, Nat.zero_add] at this
                  rw [Kr_list ez] at this
                  have := sa.behind' (by omega) lx y' hy
                  omega
                have big2' : ∀ z ∈ b.toList.take q, r z ≤ r x := fun z hz => by
                  obtain ⟨i, i1, ez⟩ := mem_take_at hz
                  have := q2 i i1
                  unfold Bey at this
                  simp only [if_true, decide_eq_true_eq, Nat.zero_add] at this
                  rw [Kr_list ez] at this
                  omega
                dsimp only
                by_cases hk' : nb - 1 - q > 0
                · rw [if_pos hk']
                  have M4 : Mh r a.toList b.toList ((out ++ (a.extract p na).reverse).push y ++ (b.extract q (nb - 1)).reverse).toList.reverse p q := by
                    rw [rv_ext]
                    refine Mh.takeB sb (nb - 1 - q) ?_ low2
                    rw [show q + (nb - 1 - q) = nb - 1 by omega]
                    exact M3
                  by_cases e4 : q = 1
                  · rw [if_pos (beq_iff_eq.mpr e4)]
                    exact wpS_pure (.inl ⟨_, _, _, _, _, _, _, rfl, S3, fin_firstH (M4.first sa lb0 e4 low0)⟩)
                  · rw [if_neg (fun z => e4 (beq_iff_eq.mp z))]
                    by_cases e6 : q = 0
                    · rw [if_pos (beq_iff_eq.mpr e6)]
                      exact wpS_pure (.inl ⟨_, _, _, _, _, _, _, rfl, S3, fin_doneH (M4.doneB sa e6)⟩)
                    · rw [if_neg (fun z => e6 (beq_iff_eq.mp z))]
                      have big2 := big2'
                      refine wpS_bind (wpS_elem ex ?_)
                      have M5 : Mh r a.toList b.toList (((out ++ (a.extract p na).reverse).push y ++ (b.extract q (nb - 1)).reverse).push x).toList.reverse (p - 1) q := by rw [rv_push]; exact M4.pushA' sa (by omega) lx big2
                      by_cases e5 : p - 1 = 0
                      · rw [if_pos (beq_iff_eq.mpr e5)]
                        exact wpS_pure (.inl ⟨_, _, _, _, _, _, _, rfl, S3, fin_doneH (M5.doneA sb e5)⟩)
                      · rw [if_neg (fun z => e5 (beq_iff_eq.mp z))]
                        have fine : ∀ ac bc, (∃ (o1 : Array Keyed) (i1 j1 g1 c1 c2 : Nat), ((none, p - 1, q, ((out ++ (a.extract p na).reverse).push y ++ (b.extract q (nb - 1)).reverse).push x, mg1, ac, bc) : Option (Array Keyed) × Nat × Nat × Array Keyed × Nat × Nat × Nat) = (none, i1, j1, o1, g1, c1, c2) ∧ Sam κ a0 st st3 ∧ Mh r a.toList b.toList o1.toList.reverse i1 j1 ∧ 0 < i1 ∧ 1 < j1 ∧ X + 1 + (i1 + j1) ≤ a.size + b.size) := fun ac bc => ⟨_, _, _, _, _, _, rfl, S3, M5, by omega, by omega, by omega⟩
                        split
                        · exact wpS_pure (.inr (fine _ _))
                        · exact wpS_pure (fine _ _)
                · rw [if_neg hk']
                  obtain rfl : q = nb - 1 := by omega
                  have big2 := big2'
                  have M4 := M3
                  refine wpS_bind (wpS_elem ex ?_)
                  have M5 : Mh r a.toList b.toList (((out ++ (a.extract p na).reverse).push y).push x).toList.reverse (p - 1) (nb - 1) := by rw [rv_push]; exact M4.pushA' sa (by omega) lx big2
                  by_cases e5 : p - 1 = 0
                  · rw [if_pos (beq_iff_eq.mpr e5)]
                    exact wpS_pure (.inl ⟨_, _, _, _, _, _, _, rfl, S3, fin_doneH (M5.doneA sb e5)⟩)
                  · rw [if_neg (fun z => e5 (beq_iff_eq.mp z))]
                    have fine : ∀ ac bc, (∃ (o1 : Array Keyed) (i1 j1 g1 c1 c2 : Nat), ((none, p - 1, (nb - 1), ((out ++ (a.extract p na).reverse).push y).push x, mg1, ac, bc) : Option (Array Keyed) × Nat × Nat × Array Keyed × Nat × Nat × Nat) = (none, i1, j1, o1, g1, c1, c2) ∧ Sam κ a0 st st3 ∧ Mh r a.toList b.toList o1.toList.reverse i1 j1 ∧ 0 < i1 ∧ 1 < j1 ∧ X + 1 + (i1 + j1) ≤ a.size + b.size) := fun ac bc => ⟨_, _, _, _, _, _, rfl, S3, M5, by omega, by omega, by omega⟩
                    split
                    · exact wpS_pure (.inr (fine _ _))
                    · exact wpS_pure (fine _ _)
          · rw [if_neg hk]
            obtain rfl : p = na := by omega
            have big1 := big1'
            have M2 := M
            refine wpS_bind (wpS_elem ey ?_)
            have M3 : Mh r a.toList b.toList (out.push y).toList.reverse p (nb - 1) := by rw [rv_push]; exact M2.pushB' sb (by omega) ly big1
            by_cases e3 : nb - 1 = 1
            · rw [if_pos (beq_iff_eq.mpr e3)]
              exact wpS_pure (.inl ⟨_, _, _, _, _, _, _, rfl, S3, fin_firstH (M3.first sa lb0 e3 low0)⟩)
            · rw [if_neg (fun z => e3 (beq_iff_eq.mp z))]
              obtain ⟨x, ex, mx, kx, lx⟩ := Ra.at0 (i := p - 1) (by omega)
              refine wpS_bind (wpS_elem ex ?_)
              refine wpS_bind (wpS_gallop hc S3.bs (Rb.part (i := 0) (m := nb - 1) (by omega)) mx (by omega) fun q q1 q2 q3 => ?_)
              have low2 : ∀ i z, i < nb - 1 - q → b.toList[q + i]? = some z → ∀ y ∈ a.toList.take p, r y ≤ r z := fun i z hi ez y' hy => by
                have := q3 (q + i) (by omega) (by omega)
                unfold Bey at this
                simp only [if_true, decide_eq_false_iff_not, Nat.zero_add] at this
                rw [Kr_list ez] at this
                have := sa.behind' (by omega) lx y' hy
                omega
              have big2' : ∀ z ∈ b.toList.take q, r z ≤ r x := fun z hz => by
                obtain ⟨i, i1, ez⟩ := mem_take_at hz
                have := q2 i i1
                unfold Bey at this
                simp only [if_true, decide_eq_true_eq, Nat.zero_add] at this
                rw [Kr_list ez] at this
                omega
              dsimp only
              by_cases hk' : nb - 1 - q > 0
              · rw [if_pos hk']
                have M4 : Mh r a.toList b.toList (out.push y ++ (b.extract q (nb - 1)).reverse).toList.reverse p q := by
                  rw [rv_ext]
                  refine Mh.takeB sb (nb - 1 - q) ?_ low2
                  rw [show q + (nb - 1 - q) = nb - 1 by omega]
                  exact M3
                by_cases e4 : q = 1
                · rw [if_pos (beq_iff_eq.mpr e4)]
                  exact wpS_pure (.inl ⟨_, _, _, _, _, _, _, rfl, S3, fin_firstH (M4.first sa lb0 e4 low0)⟩)
                · rw [if_neg (fun z => e4 (beq_iff_eq.mp z))]
                  by_cases e6 : q = 0
                  · rw [if_pos (beq_iff_eq.mpr e6)]
                    exact wpS_pure (.inl ⟨_, _, _, _, _, _, _, rfl, S3, fin_doneH (M4.doneB sa e6)⟩)
                  · rw [if_neg (fun z => e6 (beq_iff_eq.mp z))]
                    have big2 := big2'
                    refine wpS_bind (wpS_elem ex ?_)
                    have M5 : Mh r a.toList b.toList ((out.push y ++ (b.extract q (nb - 1)).reverse).push x).toList.reverse (p - 1) q := by rw [rv_push]; exact M4.pushA' sa (by omega) lx big2
                    by_cases e5 : p - 1 = 0
                    · rw [if_pos (beq_iff_eq.mpr e5)]
                      exact wpS_pure (.inl ⟨_, _, _, _, _, _, _, rfl, S3, fin_doneH (M5.doneA sb e5)⟩)
                    · rw [if_neg (fun z => e5 (beq_iff_eq.mp z))]
                      have fine : ∀ ac bc, (∃ (o1 : Array Keyed) (i1 j1 g1 c1 c2 : Nat), ((none, p - 1, q, (out.push y ++ (b.extract q (nb - 1)).reverse).push x, mg1, ac, bc) : Option (Array Keyed) × Nat × Nat × Array Keyed × Nat × Nat × Nat) = (none, i1, j1, o1, g1, c1, c2) ∧ Sam κ a0 st st3 ∧ Mh r a.toList b.toList o1.toList.reverse i1 j1 ∧ 0 < i1 ∧ 1 < j1 ∧ X + 1 + (i1 + j1) ≤ a.size + b.size) := fun ac bc => ⟨_, _, _, _, _, _, rfl, S3, M5, by omega, by omega, by omega⟩
                      split
                      · exact wpS_pure (.inr (fine _ _))
                      · exact wpS_pure (fine _ _)
              · rw [if_neg hk']
                obtain rfl : q = nb - 1 := by omega
                have big2 := big2'
                have M4 := M3
                refine wpS_bind (wpS_elem ex ?_)
                have M5 : Mh r a.toList b.toList ((out.push y).push x).toList.reverse (p - 1) (nb - 1) := by rw [rv_push]; exact M4.pushA' sa (by omega) lx big2
                by_cases e5 : p - 1 = 0
                · rw [if_pos (beq_iff_eq.mpr e5)]
                  exact wpS_pure (.inl ⟨_, _, _, _, _, _, _, rfl, S3, fin_doneH (M5.doneA sb e5)⟩)
                · rw [if_neg (fun z => e5 (beq_iff_eq.mp z))]
                  have fine : ∀ ac bc, (∃ (o1 : Array Keyed) (i1 j1 g1 c1 c2 : Nat), ((none, p - 1, (nb - 1), (out.push y).push x, mg1, ac, bc) : Option (Array Keyed) × Nat × Nat × Array Keyed × Nat × Nat × Nat) = (none, i1, j1, o1, g1, c1, c2) ∧ Sam κ a0 st st3 ∧ Mh r a.toList b.toList o1.toList.reverse i1 j1 ∧ 0 < i1 ∧ 1 < j1 ∧ X + 1 + (i1 + j1) ≤ a.size + b.size) := fun ac bc => ⟨_, _, _, _, _, _, rfl, S3, M5, by omega, by omega, by omega⟩
                  split
                  · exact wpS_pure (.inr (fine _ _))
                  · exact wpS_pure (fine _ _)
/-! a stretch written over -/
theorem write_all : ∀ (l : List Keyed) (k s0 : Nat) (xs : Array Keyed), s0 + k + l.length ≤ xs.size → ((l.zipIdx k).foldl (fun a (p : Keyed × Nat) => a.setIfInBounds (s0 + p.2) p.1) xs).toList = xs.toList.take (s0 + k) ++ l ++ xs.toList.drop (s0 + k + l.length)
  | [], k, s0, xs, _ => by simp
  | x :: l, k, s0, xs, h => by
    rw [List.length_cons] at h
    rw [List.zipIdx_cons, List.foldl_cons]
    have ih := write_all l (k + 1) s0 (xs.setIfInBounds (s0 + k) x) (by rw [Array.size_setIfInBounds]; omega)
    rw [ih, Array.toList_setIfInBounds, List.length_cons]
    have hl : s0 + k < xs.toList.length := by rw [Array.length_toList]; omega
    have e1 : (xs.toList.set (s0 + k) x).take (s0 + (k + 1)) = xs.toList.take (s0 + k) ++ [x] := by
      rw [show s0 + (k + 1) = s0 + k + 1 by omega, take_at (x := x) (by rw [List.getElem?_set_self hl])]
      rw [List.take_set_of_le (Nat.le_refl _)]
    have e2 : (xs.toList.set (s0 + k) x).drop (s0 + (k + 1) + l.length) = xs.toList.drop (s0 + k + (l.length + 1)) := by
      rw [List.drop_set_of_lt (by omega), show s0 + (k + 1) + l.length = s0 + k + (l.length + 1) by omega]
    rw [e1, e2]
    simp
theorem sg_srt {xs : Array Keyed} {lo n : Nat} (hs : lo + n ≤ xs.size) : Sg r xs lo n ↔ Srt r ((xs.toList.drop lo).take n) := by
  have at_ : ∀ i x, ((xs.toList.drop lo).take n)[i]? = some x → Kr r xs (lo + i) = r x := fun i x h => by
    rw [List.getElem?_take] at h
    split at h
    · rw [List.getElem?_drop] at h
      exact Kr_list h
    · cases h
  have ln : ((xs.toList.drop lo).take n).length = n := by rw [List.length_take, List.length_drop, Array.length_toList]; omega
  constructor
  · intro h
    unfold Srt
    rw [List.pairwise_iff_getElem]
    intro i j hi hj hij
    rw [← at_ i _ (List.getElem?_eq_getElem hi), ← at_ j _ (List.getElem?_eq_getElem hj)]
    exact h _ _ (by omega) (by omega) (by omega)
  · intro h i j h1 h2 h3
    by_cases e : i = j
    · subst e; exact Int.le_refl _
    unfold Srt at h
    rw [List.pairwise_iff_getElem] at h
    have hi : i - lo < ((xs.toList.drop lo).take n).length := by omega
    have hj : j - lo < ((xs.toList.drop lo).take n).length := by omega
    have := h (i - lo) (j - lo) hi hj (by omega)
    have ei := at_ _ _ (List.getElem?_eq_getElem hi)
    have ej := at_ _ _ (List.getElem?_eq_getElem hj)
    rw [← ei, ← ej, show lo + (i - lo) = i by omega, show lo + (j - lo) = j by omega] at this
    exact this
/-! the runs -/
def Cont (r : Keyed → Int) (xs : Array Keyed) : Nat → List (Nat × Nat × Nat) → Nat → Prop
  | s0, [], e => s0 = e
  | s0, p :: ps, e => p.1 = s0 ∧ 1 ≤ p.2.1 ∧ Sg r xs s0 p.2.1 ∧ Cont r xs (s0 + p.2.1) ps e
theorem Cont.append {xs : Array Keyed} : ∀ {ps qs : List (Nat × Nat × Nat)} {s0 e : Nat}, Cont r xs s0 (ps ++ qs) e ↔ ∃ m, Cont r xs s0 ps m ∧ Cont r xs m qs e
  | [], qs, s0, e => ⟨fun h => ⟨s0, rfl, h⟩, fun ⟨m, h1, h2⟩ => by cases h1; exact h2⟩
  | p :: ps, qs, s0, e => by
    constructor
    · rintro ⟨h1, h2, h3, h4⟩
      obtain ⟨m, k1, k2⟩ := Cont.append.mp h4
      exact ⟨m, ⟨h1, h2, h3, k1⟩, k2⟩
    · rintro ⟨m, ⟨h1, h2, h3, k1⟩, k2⟩
      exact ⟨h1, h2, h3, Cont.append.mpr ⟨m, k1, k2⟩⟩
theorem Cont.le {xs : Array Keyed} : ∀ {ps : List (Nat × Nat × Nat)} {s0 e : Nat}, Cont r xs s0 ps e → s0 + ps.length ≤ e
  | [], s0, e, h => by cases h; simp
  | p :: ps, s0, e, ⟨h1, h2, h3, h4⟩ => by
    have := h4.le
    rw [List.length_cons]
    omega
theorem Sg.congr {xs ys : Array Keyed} {lo n : Nat} (h : Sg r xs lo n) (c : ∀ i, lo ≤ i → i < lo + n → ys[i]? = xs[i]?) : Sg r ys lo n := fun i j h1 h2 h3 => by
  rw [Kr_congr r (c i h1 (by omega)), Kr_congr r (c j (by omega) h3)]
  exact h i j h1 h2 h3
theorem Cont.congr {xs ys : Array Keyed} : ∀ {ps : List (Nat × Nat × Nat)} {s0 e : Nat}, Cont r xs s0 ps e → (∀ i, s0 ≤ i → i < e → ys[i]? = xs[i]?) → Cont r ys s0 ps e
  | [], s0, e, h, _ => h
  | p :: ps, s0, e, ⟨h1, h2, h3, h4⟩, c => by
    have := h4.le
    exact ⟨h1, h2, h3.congr fun i a b => c i a (by omega), h4.congr fun i a b => c i (by omega) b⟩
theorem wpS_set {st st' : SortSt} {Q : PUnit → SortSt → Prop} (h : Q ⟨⟩ st') : wpS (model prog w) A E s (set st' : StateT SortSt Sem PUnit) Q st := by
  unfold wpS
  rw [StateT.run_set]
  exact wpAny_pure ⟨rfl, h⟩
set_option maxHeartbeats 8000000 in
theorem wpS_mergeAt {st : SortSt} {i e : Nat} {Q : Bool → SortSt → Prop} (hc : Cmp prog w A s κ a0 r) (hB : Bs κ a0 st) (hC : Cont r (arrOf st) 0 (pendingOf st).toList e) (he : e ≤ a0.size) (hi : i + 1 < (pendingOf st).size)
    (h : ∀ st', Bs κ a0 st' → Cont r (arrOf st') 0 (pendingOf st').toList e → (pendingOf st').size + 1 = (pendingOf st).size → (∀ j, e ≤ j → (arrOf st')[j]? = (arrOf st)[j]?) → Q true st') : wpS (model prog w) A E s (mergeAt' i) Q st := by
  have hsz := hB.size
  have l1 : i < (pendingOf st).toList.length := by rw [Array.length_toList]; omega
  have l2 : i + 1 < (pendingOf st).toList.length := by rw [Array.length_toList]; omega
  obtain ⟨sa, na, pw, e1⟩ : ∃ sa na pw, (pendingOf st).toList[i]? = some (sa, na, pw) := ⟨_, _, _, List.getElem?_eq_getElem l1⟩
  obtain ⟨sb, nb, pv, e2⟩ : ∃ sb nb pv, (pendingOf st).toList[i + 1]? = some (sb, nb, pv) := ⟨_, _, _, List.getElem?_eq_getElem l2⟩
  have sp : (pendingOf st).toList = (pendingOf st).toList.take i ++ (sa, na, pw) :: (sb, nb, pv) :: (pendingOf st).toList.drop (i + 2) := by
    have a1 := List.take_append_drop i (pendingOf st).toList
    have a2 : (pendingOf st).toList.drop i = (sa, na, pw) :: (pendingOf st).toList.drop (i + 1) := by
      obtain ⟨h, q⟩ := List.getElem?_eq_some_iff.mp e1
      rw [← q]; exact List.drop_eq_getElem_cons h
    have a3 : (pendingOf st).toList.drop (i + 1) = (sb, nb, pv) :: (pendingOf st).toList.drop (i + 2) := by
      obtain ⟨h, q⟩ := List.getElem?_eq_some_iff.mp e2
      rw [← q]; exact List.drop_eq_getElem_cons h
    rw [a2, a3] at a1
    exact a1.symm
  have C := hC
  rw [sp] at C
  obtain ⟨m, C1, hsa, na1, ga, hsb, nb1, gb, C2⟩ := Cont.append.mp C
  dsimp only at hsa na1 ga hsb nb1 gb C2
  subst hsa
  subst hsb
  have le2 := C2.le
  have E1 : (pendingOf st)[i]? = some (sa, na, pw) := by rw [← Array.getElem?_toList]; exact e1
  have E2 : (pendingOf st)[i + 1]? = some (sa + na, nb, pv) := by rw [← Array.getElem?_toList]; exact e2
  refine wpS_bind (wpS_get ?_)
  dsimp only
  rw [E1, E2]
  dsimp only
  let PN := ((pendingOf st).setIfInBounds i (sa, na + nb, pw)).eraseIdxIfInBounds (i + 1)
  have pn : PN.toList = (pendingOf st).toList.take i ++ (sa, na + nb, pw) :: (pendingOf st).toList.drop (i + 2) := by
    have tl : ((pendingOf st).toList.take i).length = i := by rw [List.length_take]; omega
    have b1 : PN.toList = ((pendingOf st).toList.set i (sa, na + nb, pw)).eraseIdx (i + 1) := by
      show (((pendingOf st).setIfInBounds i (sa, na + nb, pw)).eraseIdxIfInBounds (i + 1)).toList = _
      rw [Array.eraseIdxIfInBounds_eq, dif_pos (by rw [Array.size_setIfInBounds]; exact hi), Array.toList_eraseIdx, Array.toList_setIfInBounds]
    rw [b1]
    generalize hpre : (pendingOf st).toList.take i = pre at sp tl ⊢
    generalize hpost : (pendingOf st).toList.drop (i + 2) = post at sp ⊢
    rw [sp]
    subst tl
    rw [List.set_append_right _ _ (Nat.le_refl _), Nat.sub_self, List.set_cons_zero, List.eraseIdx_append_of_length_le (by omega), show pre.length + 1 - pre.length = 1 by omega]
    rfl
  have psz : PN.size + 1 = (pendingOf st).size := by
    have := congrArg List.length pn
    rw [Array.length_toList, List.length_append, List.length_take, List.length_cons, List.length_drop, Array.length_toList] at this
    omega
  have fin : ∀ st', Bs κ a0 st' → pendingOf st' = PN → Sg r (arrOf st') sa (na + nb) → (∀ j, j < sa ∨ sa + na + nb ≤ j → (arrOf st')[j]? = (arrOf st)[j]?) → Q true st' := fun st' B' P' g' c' => by
    refine h st' B' ?_ (by rw [P']; exact psz) fun j hj => c' j (.inr (by omega))
    rw [P', pn]
    refine Cont.append.mpr ⟨sa, C1.congr fun j _ hj => c' j (.inl hj), rfl, by show 1 ≤ na + nb; omega, g', ?_⟩
    show Cont r (arrOf st') (sa + (na + nb)) _ e
    rw [← Nat.add_assoc]
    exact C2.congr fun j hj _ => c' j (.inr hj)
  have B1 : Bs κ a0 (SortSt.mk' (kindOf st) (arrOf st) PN (gallopOf st) (failedOf st)) := ⟨hB.perm, hB.kind, hB.failed⟩
  have A1 : arrOf (SortSt.mk' (kindOf st) (arrOf st) PN (gallopOf st) (failedOf st)) = arrOf st := rfl
  have P1 : pendingOf (SortSt.mk' (kindOf st) (arrOf st) PN (gallopOf st) (failedOf st)) = PN := rfl
  refine wpS_bind (wpS_set (st' := SortSt.mk' (kindOf st) (arrOf st) PN (gallopOf st) (failedOf st)) ?_)
  generalize SortSt.mk' (kindOf st) (arrOf st) PN (gallopOf st) (failedOf st) = st1 at B1 A1 P1 ⊢
  obtain ⟨y, ey, my, ky⟩ := hB.at r (i := sa + na) (by omega)
  have memA : ∀ (j : Nat) (z : Keyed), (arrOf st)[j]? = some z → z ∈ a0.toList := fun j z ez => by
    have : z ∈ (arrOf st).toList := List.mem_iff_getElem?.mpr ⟨j, by rw [Array.getElem?_toList]; exact ez⟩
    exact (Array.perm_iff_toList_perm.mp hB.perm).mem_iff.mp this
  refine wpS_bind (wpS_elem ey ?_)
  refine wpS_bind (wpS_gallop (xs := arrOf st) hc B1 ⟨by omega, fun j z _ _ ez => memA j z ez, ga⟩ my (by omega) fun k k1 k2 k3 => ?_)
  have K2 : ∀ j, j < k → Kr r (arrOf st) (sa + j) ≤ r y := fun j hj => by
    have := k2 j hj
    unfold Bey at this
    simpa using this
  have K3 : ∀ j, k ≤ j → j < na → r y < Kr r (arrOf st) (sa + j) := fun j hj hj2 => by
    have := k3 j hj hj2
    unfold Bey at this
    simp only [Bool.false_eq_true, if_false, decide_eq_false_iff_not] at this
    omega
  dsimp only
  by_cases f1 : na - k = 0
  · rw [if_pos (beq_iff_eq.mpr f1)]
    refine wpS_pure (fin st1 B1 P1 ?_ fun j _ => by rw [A1])
    rw [A1]
    intro u v h1 h2 h3
    by_cases c1 : v < sa + na
    · exact ga u v h1 h2 c1
    · by_cases c2 : u < sa + na
      · have q1 := K2 (u - sa) (by omega)
        rw [show sa + (u - sa) = u by omega] at q1
        have q2 := gb (sa + na) v (Nat.le_refl _) (by omega) (by omega)
        omega
      · exact gb u v (by omega) h2 (by omega)
  rw [if_neg (fun z => f1 (beq_iff_eq.mp z))]
  obtain ⟨x, ex, mx, kx⟩ := hB.at r (i := sa + k + (na - k) - 1) (by omega)
  have kx' : Kr r (arrOf st) (sa + na - 1) = r x := by rw [← kx]; congr 1; omega
  refine wpS_bind (wpS_elem ex ?_)
  refine wpS_bind (wpS_gallop (xs := arrOf st) hc B1 ⟨by omega, fun j z _ _ ez => memA j z ez, gb⟩ mx (by omega) fun q q1 q2 q3 => ?_)
  have Q2 : ∀ j, j < q → Kr r (arrOf st) (sa + na + j) < r x := fun j hj => by
    have := q2 j hj
    unfold Bey at this
    simpa using this
  have Q3 : ∀ j, q ≤ j → j < nb → r x ≤ Kr r (arrOf st) (sa + na + j) := fun j hj hj2 => by
    have := q3 j hj hj2
    unfold Bey at this
    simp only [if_true, decide_eq_false_iff_not] at this
    omega
  dsimp only
  have yx : r y < r x := by
    have := K3 (na - 1) (by omega) (by omega)
    rw [show sa + (na - 1) = sa + na - 1 by omega, kx'] at this
    exact this
  by_cases f2 : q = 0
  · exfalso
    have := Q3 0 (by omega) (by omega)
    rw [Nat.add_zero, ky] at this
    omega
  rw [if_neg (fun z => f2 (beq_iff_eq.mp z))]
  have sA : ((arrOf st).extract (sa + k) (sa + na)).size = na - k := by rw [Array.size_extract]; omega
  have sB : ((arrOf st).extract (sa + na) (sa + na + q)).size = q := by rw [Array.size_extract]; omega
  have gA : ∀ j, j < na - k → ((arrOf st).extract (sa + k) (sa + na))[j]? = (arrOf st)[sa + k + j]? := fun j hj => by
    rw [Array.getElem?_extract, if_pos (by omega)]
  have gB : ∀ j, j < q → ((arrOf st).extract (sa + na) (sa + na + q))[j]? = (arrOf st)[sa + na + j]? := fun j hj => by
    rw [Array.getElem?_extract, if_pos (by omega)]
  have RA : Run a0 r ((arrOf st).extract (sa + k) (sa + na)) 0 ((arrOf st).extract (sa + k) (sa + na)).size := ⟨by omega, fun j z _ hj ez => memA _ z (by rw [← gA j (by omega)]; exact ez), fun u v h1 h2 h3 => by
    rw [Kr_congr r (gA u (by omega)), Kr_congr r (gA v (by omega))]
    exact ga _ _ (by omega) (by omega) (by omega)⟩
  have RB : Run a0 r ((arrOf st).extract (sa + na) (sa + na + q)) 0 ((arrOf st).extract (sa + na) (sa + na + q)).size := ⟨by omega, fun j z _ hj ez => memA _ z (by rw [← gB j (by omega)]; exact ez), fun u v h1 h2 h3 => by
    rw [Kr_congr r (gB u (by omega)), Kr_congr r (gB v (by omega))]
    exact gb _ _ (by omega) (by omega) (by omega)⟩
  have h0 : Kr r ((arrOf st).extract (sa + na) (sa + na + q)) 0 < Kr r ((arrOf st).extract (sa + k) (sa + na)) 0 := by
    rw [Kr_congr r (gA 0 (by omega)), Kr_congr r (gB 0 (by omega)), Nat.add_zero, Nat.add_zero, ky]
    exact K3 k (Nat.le_refl _) (by omega)
  have hl : ∀ z ∈ ((arrOf st).extract (sa + na) (sa + na + q)).toList, r z ≤ Kr r ((arrOf st).extract (sa + k) (sa + na)) (((arrOf st).extract (sa + k) (sa + na)).size - 1) := fun z hz => by
    obtain ⟨j, hj⟩ := List.mem_iff_getElem?.mp hz
    have hj2 : j < q := by
      have := (List.getElem?_eq_some_iff.mp hj).1
      rw [Array.length_toList, sB] at this
      exact this
    have e3 := Kr_list (r := r) hj
    rw [Kr_congr r (gB j hj2)] at e3
    have := Q2 j hj2
    rw [sA, Kr_congr r (gA (na - k - 1) (by omega)), show sa + k + (na - k - 1) = sa + na - 1 by omega, kx']
    omega
  have last : ∀ (res : Array Keyed) (st2 : SortSt), Bs κ a0 st2 → arrOf st2 = arrOf st → pendingOf st2 = PN → Fin r ((arrOf st).extract (sa + k) (sa + na)).toList ((arrOf st).extract (sa + na) (sa + na + q)).toList res.toList →
      Q true (SortSt.mk' (kindOf st2) (List.foldl (fun a (x : Keyed × Nat) => a.setIfInBounds (sa + k + x.2) x.1) (arrOf st2) res.toList.zipIdx) (pendingOf st2) (gallopOf st2) (failedOf st2)) := fun res st2 B2 A2 P2 F => by
    rw [A2]
    obtain ⟨Fp, Fs⟩ := F
    rw [ext_list, ext_list, show sa + na - (sa + k) = na - k by omega, show sa + na + q - (sa + na) = q by omega] at Fp
    have lL : (arrOf st).toList.length = a0.size := by rw [Array.length_toList]; exact hsz
    have rl : res.toList.length = na - k + q := by
      rw [Fp.length_eq, List.length_append, List.length_take, List.length_take, List.length_drop, List.length_drop, lL]
      omega
    have W := write_all res.toList 0 (sa + k) (arrOf st) (by rw [rl]; omega)
    rw [Nat.add_zero, rl, show sa + k + (na - k + q) = sa + na + q by omega] at W
    generalize hN : List.foldl (fun a (x : Keyed × Nat) => a.setIfInBounds (sa + k + x.2) x.1) (arrOf st) res.toList.zipIdx = N at W ⊢
    generalize hL : (arrOf st).toList = L at *
    have LA : L.take (sa + k) ++ ((L.drop (sa + k)).take (na - k) ++ (L.drop (sa + na)).take q) ++ L.drop (sa + na + q) = L := by
      have z1 := List.take_append_drop (sa + k) L
      have z2 := List.take_append_drop (na - k) (L.drop (sa + k))
      have z3 := List.take_append_drop q (L.drop (sa + na))
      rw [List.drop_drop, show sa + k + (na - k) = sa + na by omega] at z2
      rw [List.drop_drop] at z3
      rw [List.append_assoc, List.append_assoc, z3, z2, z1]
    have NP : N.toList.Perm L := by
      rw [W]
      conv => rhs; rw [← LA]
      exact (Fp.append_left _).append_right _
    have NS : N.size = a0.size := by rw [← Array.length_toList, NP.length_eq, lL]
    refine fin _ ⟨?_, B2.kind, B2.failed⟩ P2 ?_ ?_
    · refine Array.Perm.trans (Array.perm_iff_toList_perm.mpr ?_) hB.perm
      rw [hL]
      exact NP
    · show Sg r N sa (na + nb)
      rw [sg_srt (by omega)]
      have tl : (L.take (sa + k)).length = sa + k := by rw [List.length_take]; omega
      have seg : (N.toList.drop sa).take (na + nb) = (L.drop sa).take k ++ (res.toList ++ (L.drop (sa + na + q)).take (nb - q)) := by
        rw [W, List.append_assoc, List.drop_append_of_le_length (by omega), List.drop_take, show sa + k - sa = k by omega]
        have ul : ((L.drop sa).take k).length = k := by rw [List.length_take, List.length_drop]; omega
        generalize (L.drop sa).take k = U at ul ⊢
        generalize L.drop (sa + na + q) = T2
        have rl' := rl
        generalize res.toList = R2 at rl' ⊢
        rw [List.take_append, List.take_of_length_le (l := U) (by omega), ul, List.take_append, List.take_of_length_le (l := R2) (by omega), rl', show na + nb - k - (na - k + q) = nb - q by omega]
      rw [seg]
      have ga' := (sg_srt (r := r) (xs := arrOf st) (lo := sa) (n := na) (by omega)).mp ga
      have gb' := (sg_srt (r := r) (xs := arrOf st) (lo := sa + na) (n := nb) (by omega)).mp gb
      rw [hL] at ga' gb'
      have spA : (L.drop sa).take na = (L.drop sa).take k ++ (L.drop (sa + k)).take (na - k) := by
        conv => lhs; rw [show na = k + (na - k) by omega]
        rw [List.take_add, List.drop_drop]
      have spB : (L.drop (sa + na)).take nb = (L.drop (sa + na)).take q ++ (L.drop (sa + na + q)).take (nb - q) := by
        conv => lhs; rw [show nb = q + (nb - q) by omega]
        rw [List.take_add, List.drop_drop]
      rw [spA] at ga'
      rw [spB] at gb'
      obtain ⟨a1, a2, a3⟩ := List.pairwise_append.mp ga'
      obtain ⟨b1, b2, b3⟩ := List.pairwise_append.mp gb'
      have inL : ∀ {lo n : Nat} {z : Keyed}, z ∈ (L.drop lo).take n → ∃ j, j < n ∧ Kr r (arrOf st) (lo + j) = r z := fun {lo n z} hz => by
        obtain ⟨j, hj, ez⟩ := mem_take_at hz
        rw [List.getElem?_drop, ← hL] at ez
        exact ⟨j, hj, Kr_list ez⟩
      have bigB : ∀ z ∈ (L.drop (sa + na)).take q, r y ≤ r z := fun z hz => by
        obtain ⟨j, hj, ez⟩ := inL hz
        have := gb (sa + na) (sa + na + j) (Nat.le_refl _) (by omega) (by omega)
        omega
      have bigB1 : ∀ z ∈ (L.drop (sa + na + q)).take (nb - q), r x ≤ r z := fun z hz => by
        obtain ⟨j, hj, ez⟩ := inL hz
        have := Q3 (q + j) (by omega) (by omega)
        rw [← Nat.add_assoc] at this
        omega
      have lowA : ∀ z ∈ (L.drop sa).take k, r z ≤ r y := fun z hz => by
        obtain ⟨j, hj, ez⟩ := inL hz
        have := K2 j hj
        omega
      have lowA1 : ∀ z ∈ (L.drop (sa + k)).take (na - k), r z ≤ r x := fun z hz => by
        obtain ⟨j, hj, ez⟩ := inL hz
        have := ga (sa + k + j) (sa + na - 1) (by omega) (by omega) (by omega)
        omega
      refine Srt.append a1 (Srt.append Fs b2 fun u hu v hv => ?_) fun u hu v hv => ?_
      · rcases List.mem_append.mp (Fp.mem_iff.mp hu) with hu | hu
        · have := lowA1 u hu
          have := bigB1 v hv
          omega
        · exact b3 u hu v hv
      · rcases List.mem_append.mp hv with hv | hv
        · rcases List.mem_append.mp (Fp.mem_iff.mp hv) with hv | hv
          · exact a3 u hu v hv
          · have := lowA u hu
            have := bigB v hv
            omega
        · have := lowA u hu
          have := bigB1 v hv
          omega
    · intro j hj
      show N[j]? = _
      rw [← Array.getElem?_toList, W, ← Array.getElem?_toList, hL]
      have tl : (L.take (sa + k)).length = sa + k := by rw [List.length_take]; omega
      rcases hj with hj | hj
      · rw [List.append_assoc, List.getElem?_append_left (by omega), List.getElem?_take, if_pos (by omega)]
      · rw [List.getElem?_append_right (by rw [List.length_append, tl, rl]; omega), List.length_append, tl, rl, List.getElem?_drop]
        congr 1
        omega
  by_cases f3 : na - k ≤ q
  · rw [if_pos f3]
    refine wpS_bind (wpS_mergeLo hc B1 RA RB (by rw [sA]; omega) (by rw [sB]; omega) h0 hl fun res st2 B2 A2 P2 F => ?_)
    refine wpS_bind (wpS_modify (wpS_bind (wpS_get ?_)))
    have ft : (failedOf st2).isNone = true := by rw [B2.failed]; rfl
    show wpS _ _ _ _ (pure (failedOf st2).isNone) _ _
    rw [ft]
    refine wpS_pure ?_
    exact last res st2 B2 (A2.trans A1) (P2.trans P1) F
  · rw [if_neg f3]
    refine wpS_bind (wpS_mergeHi hc B1 RA RB (by rw [sA]; omega) (by rw [sB]; omega) h0 hl fun res st2 B2 A2 P2 F => ?_)
    refine wpS_bind (wpS_modify (wpS_bind (wpS_get ?_)))
    have ft : (failedOf st2).isNone = true := by rw [B2.failed]; rfl
    show wpS _ _ _ _ (pure (failedOf st2).isNone) _ _
    rw [ft]
    refine wpS_pure ?_
    exact last res st2 B2 (A2.trans A1) (P2.trans P1) F
theorem Cont.snoc {xs : Array Keyed} {ps : List (Nat × Nat × Nat)} {e n pw : Nat} (h : Cont r xs 0 ps e) (n1 : 1 ≤ n) (g : Sg r xs e n) : Cont r xs 0 (ps ++ [(e, n, pw)]) (e + n) := Cont.append.mpr ⟨e, h, rfl, n1, g, rfl⟩
theorem Cont.power {xs : Array Keyed} {ps : Array (Nat × Nat × Nat)} {e pw : Nat} (h : Cont r xs 0 ps.toList e) : Cont r xs 0 (ps.modify (ps.size - 1) fun p => (p.1, p.2.1, pw)).toList e := by
  have gen : ∀ (l : List (Nat × Nat × Nat)) (i s0 : Nat), Cont r xs s0 l e → Cont r xs s0 (l.modify i fun p => (p.1, p.2.1, pw)) e := by
    intro l
    induction l with
    | nil => intro i s0 h; cases i <;> exact h
    | cons p l ih =>
      intro i s0 h
      obtain ⟨h1, h2, h3, h4⟩ := h
      cases i with
      | zero => exact ⟨h1, h2, h3, h4⟩
      | succ i => exact ⟨h1, h2, h3, ih i _ h4⟩
  rw [Array.toList_modify]
  exact gen _ _ _ h
set_option maxHeartbeats 8000000 in
theorem wpS_sortRuns {st : SortSt} {Q : Unit → SortSt → Prop} (hc : Cmp prog w A s κ a0 r) (hB : Bs κ a0 st) (hP : pendingOf st = #[]) (h2 : 2 ≤ a0.size)
    (h : ∀ st', Bs κ a0 st' → Sg r (arrOf st') 0 a0.size → Q () st') : wpS (model prog w) A E s sortRuns' Q st := by
  rw [sortRuns'_eq]
  refine wpS_bind (wpS_get ?_)
  dsimp only
  rw [hB.size]
  generalize minRun' a0.size a0.size 0 = mr
  refine wpS_bind (wpS_mono (wpS_forRange (I := fun x c st' => ∃ lo, c = (none, lo) ∧ Bs κ a0 st' ∧ Cont r (arrOf st') 0 (pendingOf st').toList lo ∧ lo ≤ a0.size ∧ x ≤ lo)
    (Q := fun c st' => c = (none, a0.size) ∧ Bs κ a0 st' ∧ Cont r (arrOf st') 0 (pendingOf st').toList a0.size) ?step ?fin ⟨0, rfl, hB, by rw [hP]; exact rfl, Nat.zero_le _, Nat.zero_le _⟩) ?post)
  case fin =>
    rintro c st' ⟨lo, rfl, B, C, h3, h4⟩
    obtain rfl : lo = a0.size := by omega
    exact ⟨rfl, B, C⟩
  case step =>
    rintro x c st' _ hx ⟨lo, rfl, B, C, h3, h4⟩
    dsimp only
    by_cases hge : lo ≥ a0.size
    · rw [if_pos hge]
      obtain rfl : lo = a0.size := by omega
      exact wpS_pure ⟨rfl, B, C⟩
    rw [if_neg hge]
    refine wpS_bind (wpS_countRun hc B (by omega) (by omega) fun n st1 K1 n1 n2 g1 => ?_)
    have C1 : Cont r (arrOf st1) 0 (pendingOf st1).toList lo := by
      rw [K1.pend]
      exact C.congr fun j _ hj => K1.eqo j (.inl hj)
    dsimp only
    by_cases hlt : n < mr
    · rw [if_pos hlt]
      refine wpS_bind (wpS_lift (wpAny_rule ⟨rfl, ?_⟩))
      refine wpS_bind (wpS_binarySort hc K1.bs (by omega) (by omega) g1 fun st0 K0 g0 => ?_)
      simp only [Bool.not_true, Bool.false_eq_true, if_false]
      have C0 : Cont r (arrOf st0) 0 (pendingOf st0).toList lo := by
        rw [K0.pend]
        exact C1.congr fun j _ hj => K0.eqo j (.inl hj)
      have N1 : 1 ≤ min (a0.size - lo) mr := by omega
      refine wpS_bind (wpS_get ?_)
      cases eb : (pendingOf st0).back? with
      | none =>
        dsimp only
        refine wpS_bind (wpS_modify (wpS_pure ⟨_, rfl, ⟨K0.bs.perm, K0.bs.kind, K0.bs.failed⟩, ?_, by omega, by omega⟩))
        show Cont r (arrOf st0) 0 ((pendingOf st0).push (lo, (min (a0.size - lo) mr), 0)).toList (lo + (min (a0.size - lo) mr))
        rw [Array.toList_push]
        exact C0.snoc N1 g0
      | some p =>
        obtain ⟨s1, n1', pp⟩ := p
        dsimp only
        refine wpS_bind (wpS_mono (wpS_forRange (I := fun _ c st2 => c = (none, ()) ∧ Bs κ a0 st2 ∧ Cont r (arrOf st2) 0 (pendingOf st2).toList lo ∧ Sg r (arrOf st2) lo (min (a0.size - lo) mr))
          (Q := fun c st2 => c = (none, ()) ∧ Bs κ a0 st2 ∧ Cont r (arrOf st2) 0 (pendingOf st2).toList lo ∧ Sg r (arrOf st2) lo (min (a0.size - lo) mr)) ?stM (fun _ _ q => q) ⟨rfl, K0.bs, C0, g0⟩) ?poM)
        case stM =>
          rintro y c st2 _ hy ⟨rfl, B2, C2, g2⟩
          refine wpS_bind (wpS_get ?_)
          cases em : (if (pendingOf st2).size > 1 then (pendingOf st2)[(pendingOf st2).size - 2]? else none) with
          | none => exact wpS_pure ⟨rfl, B2, C2, g2⟩
          | some q =>
            have sz : (pendingOf st2).size > 1 := by
              refine Classical.byContradiction fun z => ?_
              rw [if_neg z] at em
              cases em
            obtain ⟨q1, q2, older⟩ := q
            dsimp only
            split
            · exact wpS_pure ⟨rfl, B2, C2, g2⟩
            · refine wpS_bind (wpS_mergeAt hc B2 C2 h3 (by omega) fun st3 B3 C3 _ k3 => ?_)
              simp only [Bool.not_true, Bool.false_eq_true, if_false]
              exact wpS_pure ⟨rfl, B3, C3, g2.congr fun j hj _ => k3 j hj⟩
        case poM =>
          rintro c st2 ⟨rfl, B2, C2, g2⟩
          dsimp only
          refine wpS_bind (wpS_modify (wpS_bind (wpS_modify (wpS_pure ⟨_, rfl, ⟨B2.perm, B2.kind, B2.failed⟩, ?_, by omega, by omega⟩))))
          show Cont r (arrOf st2) 0 (((pendingOf st2).modify ((pendingOf st2).size - 1) fun x => (x.1, x.2.1, _)).push (lo, (min (a0.size - lo) mr), 0)).toList (lo + (min (a0.size - lo) mr))
          rw [Array.toList_push]
          exact (C2.power).snoc N1 g2
    · rw [if_neg hlt]
      have N1 := n1
      refine wpS_bind (wpS_get ?_)
      cases eb : (pendingOf st1).back? with
      | none =>
        dsimp only
        refine wpS_bind (wpS_modify (wpS_pure ⟨_, rfl, ⟨K1.bs.perm, K1.bs.kind, K1.bs.failed⟩, ?_, by omega, by omega⟩))
        show Cont r (arrOf st1) 0 ((pendingOf st1).push (lo, n, 0)).toList (lo + n)
        rw [Array.toList_push]
        exact C1.snoc N1 g1
      | some p =>
        obtain ⟨s1, n1', pp⟩ := p
        dsimp only
        refine wpS_bind (wpS_mono (wpS_forRange (I := fun _ c st2 => c = (none, ()) ∧ Bs κ a0 st2 ∧ Cont r (arrOf st2) 0 (pendingOf st2).toList lo ∧ Sg r (arrOf st2) lo n)
          (Q := fun c st2 => c = (none, ()) ∧ Bs κ a0 st2 ∧ Cont r (arrOf st2) 0 (pendingOf st2).toList lo ∧ Sg r (arrOf st2) lo n) ?stM (fun _ _ q => q) ⟨rfl, K1.bs, C1, g1⟩) ?poM)
        case stM =>
          rintro y c st2 _ hy ⟨rfl, B2, C2, g2⟩
          refine wpS_bind (wpS_get ?_)
          cases em : (if (pendingOf st2).size > 1 then (pendingOf st2)[(pendingOf st2).size - 2]? else none) with
          | none => exact wpS_pure ⟨rfl, B2, C2, g2⟩
          | some q =>
            have sz : (pendingOf st2).size > 1 := by
              refine Classical.byContradiction fun z => ?_
              rw [if_neg z] at em
              cases em
            obtain ⟨q1, q2, older⟩ := q
            dsimp only
            split
            · exact wpS_pure ⟨rfl, B2, C2, g2⟩
            · refine wpS_bind (wpS_mergeAt hc B2 C2 h3 (by omega) fun st3 B3 C3 _ k3 => ?_)
              simp only [Bool.not_true, Bool.false_eq_true, if_false]
              exact wpS_pure ⟨rfl, B3, C3, g2.congr fun j hj _ => k3 j hj⟩
        case poM =>
          rintro c st2 ⟨rfl, B2, C2, g2⟩
          dsimp only
          refine wpS_bind (wpS_modify (wpS_bind (wpS_modify (wpS_pure ⟨_, rfl, ⟨B2.perm, B2.kind, B2.failed⟩, ?_, by omega, by omega⟩))))
          show Cont r (arrOf st2) 0 (((pendingOf st2).modify ((pendingOf st2).size - 1) fun x => (x.1, x.2.1, _)).push (lo, n, 0)).toList (lo + n)
          rw [Array.toList_push]
          exact (C2.power).snoc N1 g2
  case post =>
    rintro c st' ⟨rfl, B, C⟩
    dsimp only
    refine wpS_bind (wpS_mono (wpS_forRange (I := fun x c st2 => c = (none, ()) ∧ Bs κ a0 st2 ∧ Cont r (arrOf st2) 0 (pendingOf st2).toList a0.size ∧ (pendingOf st2).size + x ≤ a0.size + 1)
      (Q := fun c st2 => c = (none, ()) ∧ Bs κ a0 st2 ∧ Cont r (arrOf st2) 0 (pendingOf st2).toList a0.size ∧ (pendingOf st2).size ≤ 1) ?st4 ?fin4 ⟨rfl, B, C, by have := C.le; rw [Array.length_toList] at this; omega⟩) ?post4)
    case fin4 =>
      rintro c st2 ⟨rfl, B2, C2, h3⟩
      exact ⟨rfl, B2, C2, by omega⟩
    case st4 =>
      rintro x c st2 _ hx ⟨rfl, B2, C2, h3⟩
      refine wpS_bind (wpS_get ?_)
      by_cases sz : (pendingOf st2).size ≤ 1
      · rw [if_pos sz]
        exact wpS_pure ⟨rfl, B2, C2, sz⟩
      · rw [if_neg sz]
        have ix : ∀ (c : Prop) [Decidable c], (if c then (pendingOf st2).size - 2 - 1 else (pendingOf st2).size - 2) + 1 < (pendingOf st2).size := fun c _ => by
          split <;> omega
        refine wpS_bind (wpS_mergeAt hc B2 C2 (Nat.le_refl _) (ix _) fun st3 B3 C3 s3 _ => ?_)
        simp only [Bool.not_true, Bool.false_eq_true, if_false]
        exact wpS_pure ⟨rfl, B3, C3, by omega⟩
    case post4 =>
      rintro c st2 ⟨rfl, B2, C2, h3⟩
      refine wpS_pure (h st2 B2 ?_)
      rw [← Array.length_toList] at h3
      generalize (pendingOf st2).toList = ps at C2 h3
      cases ps with
      | nil =>
        have : 0 = a0.size := C2
        omega
      | cons p ps =>
        cases ps with
        | nil =>
          obtain ⟨c1, c2, c3, c4⟩ := C2
          have c5 : 0 + p.2.1 = a0.size := c4
          rw [Nat.zero_add] at c5
          rw [← c5]
          exact c3
        | cons q ps => simp at h3
/-- list.sort, whatever the number of items: by the kind of their keys and a rank -/
theorem list_sort_G {a : Addr} {vs : List Value} {n : Nat} {P : PySem.Fin → Shared → Prop} {r : Keyed → Int} {κ : SortKind} (ho : s.heap.get? a = some (seqObj "list" vs.toArray n)) (hz : vs.length ≤ sizeLine)
    (hk : ∀ (h1 : Heap) (Q : SortKind → Shared → Prop), 2 ≤ vs.length → (∀ b o, b ≠ a → s.heap.get? b = some o → h1.get? b = some o) → Q κ { s with heap := h1 } → wpAny (model prog w) A (keyKind' vs.toArray) Q E { s with heap := h1 })
    (hc : ∀ (h1 : Heap), (∀ b o, b ≠ a → s.heap.get? b = some o → h1.get? b = some o) → Cmp prog w A { s with heap := h1 } κ (vs.toArray.zip vs.toArray) r)
    (h : ∀ xs : Array Keyed, xs.Perm (vs.toArray.zip vs.toArray) → Sg r xs 0 xs.size → P (.done (.ret .none)) { s with heap := sortedHeap s.heap a vs (xs.map (·.2)) }) :
    wpAny (model prog w) A (Builtin.«list.sort» ⟨[.ref a], []⟩) P E s := by
  rw [list_sort_plain]
  have ha : a < s.heap.objs.size := Heap.lt_size ho
  refine wpAny_bind (listItems_at ho rfl ?_)
  refine wpAny_bind (listUpdate_at ho rfl ?_ (by rw [List.size_toArray]; exact hz) (Nat.zero_le _))
  obtain ⟨e1, ho1⟩ : ∃ e1, (s.heap.update a (Obj.mapSeq fun _ => #[])).get? a = some (seqObj "list" #[] e1) := ⟨_, get?_update_seq ho (fun _ => #[])⟩
  refine wpAny_bind (seqEpoch_at ho1 rfl ?_)
  refine wpAny_bind (wpAny_newTuple ?_ hz)
  refine wpAny_bind (wpAny_newList ?_ (Nat.zero_le _))
  refine wpAny_holding ?_
  have ho6 : (((s.heap.update a (Obj.mapSeq fun _ => #[])).push (seqObj "tuple" vs.toArray 0)).push (seqObj "list" #[] 0)).get? a = some (seqObj "list" #[] e1) := Heap.get?_push_of_some _ (Heap.get?_push_of_some _ ho1)
  have kp : ∀ b o, b ≠ a → s.heap.get? b = some o → (((s.heap.update a (Obj.mapSeq fun _ => #[])).push (seqObj "tuple" vs.toArray 0)).push (seqObj "list" #[] 0)).get? b = some o := fun b o nb e => Heap.get?_push_of_some _ (Heap.get?_push_of_some _ (by rw [Heap.get?_update_ne _ _ _ _ nb]; exact e))
  show wpAny (model prog w) A _ P E { s with heap := ((s.heap.update a (Obj.mapSeq fun _ => #[])).push (seqObj "tuple" vs.toArray 0)).push (seqObj "list" #[] 0) }
  dsimp only
  have zs : (vs.toArray.zip vs.toArray).size = vs.length := by simp
  by_cases h2 : vs.toArray.size < 2
  · rw [if_pos h2, if_pos h2]
    refine wpAny_bind (wpAny_pure ?_)
    rw [StateT.run_pure]
    refine wpAny_bind (wpAny_pure ?_)
    dsimp only
    refine wpAny_bind (seqEpoch_at ho6 rfl ?_)
    refine wpAny_bind (listUpdate_at ho6 rfl ?_ (Nat.zero_le _) (by rw [Array.size_map]; show (vs.toArray.zip vs.toArray).size ≤ _; rw [zs]; omega))
    simp only [bne_self_eq_false, Bool.false_eq_true, if_false]
    refine wpAny_pure (h (vs.toArray.zip vs.toArray) (Array.Perm.refl _) fun i j h1 h3 h4 => ?_)
    rw [List.size_toArray] at h2
    obtain rfl : i = j := by omega
    exact Int.le_refl _
  · rw [if_neg h2, if_neg h2]
    rw [List.size_toArray] at h2
    refine wpAny_bind (hk _ _ (by omega) kp ?_)
    refine wpAny_bind (wpAny_mono (wpS_sortRuns (a0 := vs.toArray.zip vs.toArray) (κ := κ) (r := r) (st := SortSt.mk' κ (vs.toArray.zip vs.toArray) #[] 7 none)
      (Q := fun _ st' => Bs κ (vs.toArray.zip vs.toArray) st' ∧ Sg r (arrOf st') 0 (vs.toArray.zip vs.toArray).size) (hc _ kp) ⟨Array.Perm.refl _, rfl, rfl⟩ rfl (by rw [zs]; omega) fun st' a1 a2 => ⟨a1, a2⟩) ?_ fun _ _ e => e)
    rintro ⟨⟨⟩, st'⟩ s' ⟨rfl, hB, hs⟩
    dsimp only
    refine wpAny_bind (seqEpoch_at ho6 rfl ?_)
    refine wpAny_bind (listUpdate_at ho6 rfl ?_ (Nat.zero_le _) (by refine Nat.le_trans (Nat.le_of_eq ((Array.size_map ..).trans (hB.size.trans zs))) ?_; omega))
    rw [hB.failed]
    simp only [bne_self_eq_false, Bool.false_eq_true, if_false]
    exact wpAny_pure (h (arrOf st') hB.perm (by rw [hB.size]; exact hs))
end
end SortG
namespace L2
open PySem PySem.Spec PyProof.Rows
section
variable {X : Cx} {e k : Expr} {te : TE} {p2 pos : Pos} {lo hi : Option Expr} {tl th : TO}
end
end L2
namespace L2
open PySem PySem.Spec PyProof.Rows
/-! ### a dict of whole numbers, by a list of pairs; no Python -/
def storedI (l : List (Int × Int)) (k y : Int) : List (Int × Int) := if l.any (fun p => p.1 = k) then l.map (fun p => if p.1 = k then (p.1, y) else p) else l ++ [(k, y)]
def dctI (l : List (Int × Int)) : List (Int × Int) := l.foldl (fun acc s => storedI acc s.1 s.2) []
inductive KR : List (Int × Value) → List (Int × Int) → Prop
  | nil : KR [] []
  | cons {k y : Int} {t : Tok} {r : List (Int × Value)} {l : List (Int × Int)} : KR r l → KR ((k, .int y t) :: r) ((k, y) :: l)
theorem KR.length {r : List (Int × Value)} {l : List (Int × Int)} (h : KR r l) : r.length = l.length := by
  induction h with
  | nil => rfl
  | cons _ ih => simp [ih]
theorem KR.any {r : List (Int × Value)} {l : List (Int × Int)} {k : Int} (h : KR r l) : r.any (fun kv => kv.1 = k) = l.any (fun p => p.1 = k) := by
  induction h with
  | nil => rfl
  | cons _ ih => rw [List.any_cons, List.any_cons, ih]
theorem KR.snoc {r : List (Int × Value)} {l : List (Int × Int)} {k y : Int} {t : Tok} (h : KR r l) : KR (r ++ [(k, .int y t)]) (l ++ [(k, y)]) := by
  induction h with
  | nil => exact .cons .nil
  | cons _ ih => exact .cons ih
theorem KR.map {r : List (Int × Value)} {l : List (Int × Int)} {k y : Int} {t : Tok} (h : KR r l) : KR (r.map fun kv => if kv.1 = k then (kv.1, .int y t) else kv) (l.map fun p => if p.1 = k then (p.1, y) else p) := by
  induction h with
  | nil => exact .nil
  | @cons k' y' t' r l _ ih =>
    rw [List.map_cons, List.map_cons]
    by_cases e : k' = k
    · rw [if_pos e, if_pos e]; exact .cons ih
    · rw [if_neg e, if_neg e]; exact .cons ih
theorem KR.stored {r : List (Int × Value)} {l : List (Int × Int)} {k y : Int} {t : Tok} (h : KR r l) : KR (stored r k (.int y t)) (storedI l k y) := by
  unfold PySem.stored storedI
  rw [h.any]
  split
  · exact h.map
  · exact h.snoc
theorem storedI_length (l : List (Int × Int)) (k y : Int) : (storedI l k y).length ≤ l.length + 1 := by
  unfold storedI
  split
  · rw [List.length_map]; omega
  · simp
theorem fold_length (l acc : List (Int × Int)) : (l.foldl (fun acc s => storedI acc s.1 s.2) acc).length ≤ acc.length + l.length := by
  induction l generalizing acc with
  | nil => simp
  | cons s l ih =>
    rw [List.foldl_cons]
    have := ih (storedI acc s.1 s.2)
    have := storedI_length acc s.1 s.2
    rw [List.length_cons]
    omega
/-! ### "keys" is no attribute of a list -/
theorem lk_list_keys : typeLookup (.type "list") "keys" = pure none := by rw [typeLookup_type, builtinLookup_eq_fast]; kernel_rfl
theorem no_keys_list {prog : Program} {w : World} {A : Around} {E : Value → Shared → Prop} {s : Shared} {a : Addr} {xs : Array Value} {k : Nat} {Q : Option Value → Shared → Prop}
    (hx : s.heap.get? a = some { cls := .type "list", dict := none, data := .seq xs k, slots := #[] }) (hA : A.handled = none)
    (h : ∀ h' tk, (∀ b o, s.heap.get? b = some o → h'.get? b = some o) → Q none { s with heap := h', toks := tk }) :
    wpAny (model prog w) A (getAttr? (.ref a) "keys") Q E s := by
  obtain ⟨hp, g, d, tk, os⟩ := s
  have hT : ∀ tk', (⟨hp, g, d, tk', os⟩ : Shared).TypeIs (.ref a) "list" := fun _ => ⟨_, hx, rfl⟩
  have f1 := sub_AttributeError
  have f3 := F.slot_list_getattribute.lookup
  have f4 := F.slot_list_getattribute.bind (.ref a)
  have f5 := am_list_getattr_none
  unfold getAttr? getAttrBy? getAttrBy
  repeat (any_goals (first | assumption | exact hT _ | ((with_reducible show wpAny _ _ (call (Value.builtin "list.__getattribute__") _ _) _ _ _); refine call_meets F.slot_list_getattribute (hT _) am_entry_list_getattribute (F.args_list_getattribute_2 _ _) (meets_getattribute_miss_list a xs k #[] "keys" _ lk_list_keys (by decide +kernel) (by size_fits)) ⟨hx, hA, fun h' tk' e hx' => ?_⟩) | wp_step))
  obtain ⟨t', u', he⟩ := hx'.there
  show wpAny _ _ (getattributeRaised _ _ _ _ _ _ _) _ _ _
  unfold getattributeRaised
  repeat (any_goals (first | assumption | wp_step))
  exact h _ _ hx'.keeps
/-! ### dict(xs), xs a list of tuples of two whole numbers -/
theorem entry_upd_loop : entryFor table "dict.update.loop" = some Builtin.«dict.update.loop» := entryFor_of_tree (by kernel_rfl)
theorem plain_upd_loop : plainId "dict.update.loop" = true := by decide +kernel
section
variable {prog : Program} {w : World} {A : Around} {s : Shared} {R : Result → Shared → Prop}
theorem dictOf_keep {h h' : Heap} {d : Addr} {kvs : List (Int × Value)} (x : h.DictOf (intKind prog w) d kvs) (k : ∀ o, h.get? d = some o → h'.get? d = some o) : h'.DictOf (intKind prog w) d kvs := by
  obtain ⟨o, es, ep, e, r⟩ := x
  exact ⟨o, es, ep, k o e, r⟩
end
/-! ### such a dict, its items, sorted: as things of the text -/
def DictO (P : Program) (w : World) (d : Addr) (l : List (Int × Int)) : HO := .ext fun h => (d == sysModules) = false ∧ ∃ kvs, h.DictOf (intKind P w) d kvs ∧ KR kvs l
section
variable {X : Cx} {pins : List (Addr × Obj)} {σ : St} {H : Hp} {s : Shared}
theorem rows_pair {vs : List V} {l : List (Int × Int)} {p : Addr} (I : Inv X pins σ H s) (hp : SqL X.K H p vs) (hR : Rows2 X.K H vs l) : ∃ its, Vals vs its ∧ s.heap.IsList p its.toArray ∧ its.length = l.length ∧ ∀ i, i < its.length → SortT.PairAt s.heap (its.getD i .none) (l.getD i (0, 0)) := by
  obtain ⟨its, rv, pl, hz⟩ := I.list hp
  have vl := hR.length
  refine ⟨its, rv, pl.isList, by rw [← rv.length, vl], fun i hi => ?_⟩
  have len : its.length = l.length := by rw [← rv.length, vl]
  have ev : vs[i]? = some (vs[i]'(by omega)) := List.getElem?_eq_getElem (by omega)
  obtain ⟨a, x, e1, e2, e3⟩ := hR.get ev
  obtain ⟨w, hw, rw'⟩ := rv.get ev
  rw [e1] at rw'
  cases rw'
  obtain ⟨ts, tv, tp, _⟩ := I.tuple (SqT.of e3)
  cases tv with
  | cons t1 tv =>
    cases tv with
    | cons t2 tv =>
      cases tv
      obtain ⟨t, rfl⟩ := t1
      obtain ⟨t', rfl⟩ := t2
      obtain ⟨o, eo, oc, n, od⟩ := (show s.heap.IsTuple a _ from tp)
      refine ⟨a, o, n, t, t', ?_, eo, oc, ?_⟩
      · rw [List.getD_eq_getElem?_getD, hw]; rfl
      · rw [od, show l.getD i (0, 0) = x by rw [List.getD_eq_getElem?_getD, e2]; rfl]
end
end L2
/-! a debt: its principal m and its units n, and what a deed makes of them; no Python -/
namespace Dbt
def mx (a b : Int) : Int := if b > a then b else a
def mn (a b : Int) : Int := if b < a then b else a
theorem mx_le {a b : Int} : a ≤ mx a b ∧ b ≤ mx a b ∧ (mx a b = a ∨ mx a b = b) := by unfold mx; split <;> omega
theorem mn_le {a b : Int} : mn a b ≤ a ∧ mn a b ≤ b ∧ (mn a b = a ∨ mn a b = b) := by unfold mn; split <;> omega
inductive Wd where
  | lend | fee | turn | take | grow
def step (u : Int) (w : Wd) (x m n : Int) : Int × Int :=
  match w with
  | .lend => (mn (m + x) (mx 0 ((n + u * x) / u)), n + u * x)
  | .fee => (mn m (mx 0 ((n + u * x) / u)), n + u * x)
  | .take => (mn m (mx 0 ((n + u * -x) / u)), n + u * -x)
  | .turn => (mx 0 (n / u), n)
  | .grow => (m, n + x)
/-- the number of a deed: what is lent and what is grown is from 0 on -/
def Okd : Wd → Int → Prop
  | .lend, x => 0 ≤ x
  | .grow, x => 0 ≤ x
  | _, _ => True
def Good (u m n : Int) : Prop := 0 ≤ m ∧ m ≤ mx 0 (n / u)
theorem good0 (u : Int) : Good u 0 0 := ⟨Int.le_refl _, mx_le.1⟩
theorem good_step {u : Int} {w : Wd} {x m n : Int} (hu : 0 < u) (ok : Okd w x) (g : Good u m n) : Good u (step u w x m n).1 (step u w x m n).2 := by
  obtain ⟨g0, g1⟩ := g
  cases w with
  | lend =>
    have h0 : 0 ≤ x := ok
    have := mx_le (a := 0) (b := (n + u * x) / u)
    have := mn_le (a := m + x) (b := mx 0 ((n + u * x) / u))
    show 0 ≤ mn (m + x) (mx 0 ((n + u * x) / u)) ∧ mn (m + x) (mx 0 ((n + u * x) / u)) ≤ mx 0 ((n + u * x) / u)
    omega
  | fee =>
    have := mx_le (a := 0) (b := (n + u * x) / u)
    have := mn_le (a := m) (b := mx 0 ((n + u * x) / u))
    show 0 ≤ mn m (mx 0 ((n + u * x) / u)) ∧ mn m (mx 0 ((n + u * x) / u)) ≤ mx 0 ((n + u * x) / u)
    omega
  | take =>
    have := mx_le (a := 0) (b := (n + u * -x) / u)
    have := mn_le (a := m) (b := mx 0 ((n + u * -x) / u))
    show 0 ≤ mn m (mx 0 ((n + u * -x) / u)) ∧ mn m (mx 0 ((n + u * -x) / u)) ≤ mx 0 ((n + u * -x) / u)
    omega
  | turn =>
    have := mx_le (a := 0) (b := n / u)
    show 0 ≤ mx 0 (n / u) ∧ mx 0 (n / u) ≤ mx 0 (n / u)
    omega
  | grow =>
    have h0 : 0 ≤ x := ok
    have h1 : n / u ≤ (n + x) / u := Int.ediv_le_ediv hu (by omega)
    have := mx_le (a := 0) (b := n / u)
    have := mx_le (a := 0) (b := (n + x) / u)
    show 0 ≤ m ∧ m ≤ mx 0 ((n + x) / u)
    omega
variable {u s0 s1 m1 n1 m2 n2 x y : Int}
def t1 (s1 : Int) : Option (Wd × Int) → Wd × Int → Int
  | some (.fee, x), (.fee, y) => s1 + y - x
  | _, _ => s1
end Dbt
namespace L2
open PySem PySem.Spec PyProof.Rows
section
variable {X : Cx}
theorem op_mulW : OpR X (binaryOp .Mult) (rI IntMulOk fun i j => .int (i * j)) := opI fun _ _ _ _ _ _ _ hc q => mul_int q hc
end
section
variable {X : Cx} {C : Addr} {x m f : Str} {p pos pos' apos : Pos} {e o value : Expr} {es : List Expr} {ta tv : TE} {t : TA} {j k : Nat} {ps : List Str} {sp : Sp}
end
section
variable {K : PySem.W.Frag} {x : Str} {C f : Addr}
end
theorem at_new {H : Hp} {p : Addr} (o : HO) (_h : H p = none) : (upd H p o) p = some o := upd_same
section
variable {H H' : Hp} {xs ys zs : List V} {l r : List (Dbt.Wd × Int)} {p : Addr} {d : Dbt.Wd × Int}
end
end L2
namespace L2
open PySem PySem.Spec PyProof.Rows
section
variable {X : Cx} {C : Addr} {x m : Str} {p pos apos : Pos} {e o : Expr} {es : List Expr} {t : TA} {j k : Nat} {ps : List Str} {sp : Sp}
end
/-! ### all(xs), xs a list of truths -/
theorem boolsAre_vals : ∀ {bs : List Bool} {us : List Value}, Vals (bs.map V.bl) us → LSm.BoolsAre us bs
  | [], _, .nil => .nil
  | b :: bs, _, .cons r rs => by
    cases r
    exact .cons b (boolsAre_vals rs)
theorem call_allB {X : Cx} (hc : X.calm = true) : CallR X (.builtin "all") (fun xs H Q => ∃ (p : Addr) (bs : List Bool), xs = [.ref p] ∧ SqL X.K H p (bs.map V.bl) ∧ Q (.bl (bs.all id)) H) := by
  intro pins s σ H xs us Q I r h
  obtain ⟨p, bs, rfl, hq, q⟩ := h
  obtain ⟨u, rfl, rx⟩ := vals1 r
  cases rx
  obtain ⟨vs, rv, pl, hz⟩ := I.list hq
  have hb := boolsAre_vals rv
  have hl := pl.isList
  have hlt : p < s.heap.objs.size := by obtain ⟨_, e, _⟩ := hl; exact Heap.lt_size e
  refine PySem.call_all_walk (wpAny_pyIter_list hl ?_)
  refine ⟨s.heap.objs.size, [s.heap.objs.size, p], [s.heap.objs.size], vs.toArray.size, _, _, fun i => (bs[i]?).getD true, rfl, Walks.list (A := X.A.in1) (I.ok.hd hc) _ p (Nat.ne_of_lt hlt) vs.toArray,
    ⟨⟨_, Heap.get?_push_size _ rfl, rfl, rfl⟩, hl.push _⟩, fun i v s' Q' E' hP hQ => ?_, fun h' tk hk => ?_⟩
  · obtain ⟨b, e, rfl⟩ := hb.get i v (by simpa using hP)
    simp only [e, Option.getD_some] at hQ
    exact wpAny_truthy_bool hQ
  · have e : ((List.range vs.toArray.size).all fun i => (bs[i]?).getD true) = bs.all id := by
      rw [← LSm.range_all, List.size_toArray, hb.length]
    rw [e]
    exact ⟨.bl _, H, I.kept (LSm.kept_iter hk), rfl, q⟩
/-! ### nine classes, one above all others -/
inductive Ek where
  | out | fee | pay | due | turn | rate | late | still | base
def Ek.cls : Ek → Str
  | .out => "Out"
  | .fee => "Fee"
  | .pay => "Pay"
  | .due => "Due"
  | .turn => "Turn"
  | .rate => "Rate"
  | .late => "Late"
  | .still => "Still"
  | .base => "Entry"
def Ek.word : Ek → Str
  | .out => "out"
  | .fee => "fee"
  | .pay => "pay"
  | .due => "due"
  | .turn => "turn"
  | .rate => "rate"
  | .late => "late"
  | .still => "still"
  | .base => ""
section
variable {X : Cx} {C : Addr} {x m : Str} {p pos apos : Pos} {e o : Expr} {es : List Expr} {ta : TE} {t : TA} {j k : Nat} {ps : List Str}
end
section
variable {K : PySem.W.Frag} {x : Str} {C f : Addr}
end
end L2
/-! ### sorted of sets of whole numbers and of lists of truths, whatever their number -/
namespace SortG
open PySem PySem.W PyProof.Rows
section
variable {prog : Program} {w : World} {A : Around} {E : Value → Shared → Prop} {s : Shared}
theorem list_sort_ints {a : Addr} {vs : List Value} {ns : List Int} {n : Nat} {P : PySem.Fin → Shared → Prop} (ho : s.heap.get? a = some (seqObj "list" vs.toArray n)) (hI : IntsAre vs ns) (hz : vs.length ≤ sizeLine)
    (h : ∀ (out : Array Value) (ns' : List Int), IntsAre out.toList ns' → ns'.Perm ns → ns'.Pairwise (· ≤ ·) → P (.done (.ret .none)) { s with heap := sortedHeap s.heap a vs out }) :
    wpAny (model prog w) A (Builtin.«list.sort» ⟨[.ref a], []⟩) P E s := by
  refine list_sort_G (κ := oneType') (r := fun x => numOf x.1) ho hz (fun h1 Q l2 _ q => ?_) (fun h1 _ x hx y hy Q q => ?_) fun xs hp hs => ?_
  · obtain ⟨v₁, v₂, rest, rfl⟩ : ∃ v₁ v₂ rest, vs = v₁ :: v₂ :: rest := by
      match vs, l2 with
      | [], l2 => simp at l2
      | [_], l2 => simp at l2
      | v₁ :: v₂ :: rest, _ => exact ⟨v₁, v₂, rest, rfl⟩
    rw [keyKind_ints hI]
    exact wpAny_pure q
  · obtain ⟨m, t, e1⟩ := hI.intKeys x hx
    obtain ⟨m', t', e2⟩ := hI.intKeys y hy
    obtain ⟨x1, x2⟩ := x
    obtain ⟨y1, y2⟩ := y
    dsimp only at e1 e2
    subst e1 e2
    rw [keyLt'_oneType]
    exact oneLt_int q
  · obtain ⟨ns', h1, h2, h3⟩ := sorted_out hI hp (fun i j hij hj => hs i j (Nat.zero_le _) hij (by rw [Nat.zero_add, hp.size_eq]; exact hj))
    exact h _ ns' h1 h2 h3
def b2n : Bool → Int
  | true => 1
  | false => 0
def boolOf : Value → Bool
  | .bool b => b
  | _ => false
theorem oneLt_bool {p q : Bool} {Q : Bool → Shared → Prop} (h : Q (decide (b2n p < b2n q)) s) : wpAny (model prog w) A (oneLt' true (.bool p) (.bool q)) Q E s := by
  rw [oneLt'_eq]
  simp only [if_true]
  refine wpAny_bind (wpAny_cRoomFor_byValue rfl ?_)
  refine wpAny_bind (wpAny_callSpecialIfBound?_slot (typeIs_bool' s p) F.slot_bool_lt ?_)
  refine wpAny_call_entry F.slot_bool_lt (typeIs_bool' s p) F.entry_int_lt ?_ (F.args_int_lt_2 _ _)
  have e : (decide (b2n p < b2n q)) = decide ((if p = true then (1 : Int) else 0) < (if q = true then (1 : Int) else 0)) := by cases p <;> cases q <;> rfl
  rw [e] at h
  show wpAny _ _ (ret (.bool (decide ((if p = true then (1 : Int) else 0) < (if q = true then (1 : Int) else 0))))) _ _ s
  exact wpAny_pure ⟨_, rfl, wpAny_truthy_bool h⟩
theorem keyKind_bools {bs : List Bool} (h2 : 2 ≤ bs.length) : keyKind' (bs.map Value.bool).toArray = pure oneType' := by
  have m1 : ∀ bs : List Bool, (bs.map Value.bool).mapM firstOfTuple' = pure ((bs.map Value.bool).map fun _ => none) := by
    intro bs
    induction bs with
    | nil => simp
    | cons b bs ih => rw [List.map_cons, List.mapM_cons, ih, show firstOfTuple' (Value.bool b) = pure none from rfl]; simp
  have m2 : ∀ bs : List Bool, (bs.map Value.bool).mapM typeOf = pure ((bs.map Value.bool).map fun _ => Value.type "bool") := by
    intro bs
    induction bs with
    | nil => simp
    | cons b bs ih =>
      rw [List.map_cons, List.mapM_cons, ih]
      show (pure (Value.type "bool") >>= fun b => pure _ >>= fun bs => pure (b :: bs)) = _
      simp
  obtain ⟨b1, b2, rest, rfl⟩ : ∃ b1 b2 rest, bs = b1 :: b2 :: rest := by
    match bs, h2 with
    | [], l2 => simp at l2
    | [_], l2 => simp at l2
    | v₁ :: v₂ :: rest, _ => exact ⟨v₁, v₂, rest, rfl⟩
  rw [keyKind'_eq, List.mapM_toArray, m1]
  simp only [map_pure, pure_bind]
  rw [if_neg (by simp), if_neg (by simp)]
  rw [oneTypeOnly'_eq, List.mapM_toArray, m2]
  simp only [map_pure, pure_bind]
  have hall : ((List.map (fun _ => Value.type "bool") (List.map Value.bool (b1 :: b2 :: rest))).toArray.all fun x => x == Value.type "bool") = true := by
    simp only [List.all_toArray, List.all_map, List.all_eq_true]
    intro _ _
    rfl
  have z0 : (List.map (fun _ => Value.type "bool") (List.map Value.bool (b1 :: b2 :: rest))).toArray[0]? = some (Value.type "bool") := by simp
  rw [z0]
  simp only [hall, if_true, pure_bind, Option.isSome_some]
theorem list_sort_bools {a : Addr} {bs : List Bool} {n : Nat} {P : PySem.Fin → Shared → Prop} (ho : s.heap.get? a = some (seqObj "list" (bs.map Value.bool).toArray n)) (hz : bs.length ≤ sizeLine)
    (h : ∀ (out : Array Value) (cs : List Bool), out.toList = cs.map Value.bool → cs.Perm bs → cs.Pairwise (fun x y => b2n x ≤ b2n y) → P (.done (.ret .none)) { s with heap := sortedHeap s.heap a (bs.map Value.bool) out }) :
    wpAny (model prog w) A (Builtin.«list.sort» ⟨[.ref a], []⟩) P E s := by
  have zl : ((bs.map Value.bool).toArray.zip (bs.map Value.bool).toArray).toList = bs.map fun b => (Value.bool b, Value.bool b) := by
    simp [List.zip_map']
  have mem : ∀ x ∈ ((bs.map Value.bool).toArray.zip (bs.map Value.bool).toArray).toList, ∃ b, x = (Value.bool b, Value.bool b) := fun x hx => by
    rw [zl] at hx
    obtain ⟨b, _, rfl⟩ := List.mem_map.mp hx
    exact ⟨b, rfl⟩
  refine list_sort_G (κ := oneType') (r := fun x => b2n (boolOf x.1)) ho (by rw [List.length_map]; exact hz) (fun h1 Q l2 _ q => ?_) (fun h1 _ x hx y hy Q q => ?_) fun xs hp hs => ?_
  · rw [keyKind_bools (by rw [List.length_map] at l2; exact l2)]
    exact wpAny_pure q
  · obtain ⟨b, rfl⟩ := mem x hx
    obtain ⟨c, rfl⟩ := mem y hy
    rw [keyLt'_oneType]
    exact oneLt_bool q
  · have hl : xs.toList.Perm (bs.map fun b => (Value.bool b, Value.bool b)) := by rw [← zl]; exact Array.perm_iff_toList_perm.mp hp
    have mx : ∀ x ∈ xs.toList, x = (Value.bool (boolOf x.1), Value.bool (boolOf x.1)) := fun x hx => by
      obtain ⟨b, _, rfl⟩ := List.mem_map.mp (hl.mem_iff.mp hx)
      rfl
    refine h (xs.map (·.2)) (xs.toList.map fun x => boolOf x.1) ?_ ?_ ?_
    · rw [Array.toList_map, List.map_map]
      refine List.map_congr_left fun x hx => ?_
      have := mx x hx
      show x.2 = Value.bool (boolOf x.1)
      rw [this]
      rfl
    · have := hl.map fun x : Keyed => boolOf x.1
      rw [List.map_map] at this
      have e : ((fun x : Keyed => boolOf x.1) ∘ fun b => (Value.bool b, Value.bool b)) = (id : Bool → Bool) := rfl
      rw [e, List.map_id] at this
      exact this
    · have e := (sg_srt (r := fun x => b2n (boolOf x.1)) (xs := xs) (lo := 0) (n := xs.size) (by omega)).mp hs
      rw [List.drop_zero, List.take_of_length_le (by rw [Array.length_toList]; exact Nat.le_refl _)] at e
      exact List.pairwise_map.mpr e
end
end SortG
namespace L2
open PySem PySem.Spec PyProof.Rows
namespace SetL
section
variable {prog : Program} {w : World} {A : Around} {E : Value → Shared → Prop} {s : Shared} {a : Addr} {ms : List Int}
theorem sorted_setG {Q : Value → Shared → Prop} (hh : A.handled = none) (S : SetI prog w s.heap a ms) (hm : ms.length < 4096)
    (h : ∀ h' d' tk (out : Array Value) ns' p n, IntsAre out.toList ns' → ns'.Perm ms → ns'.Pairwise (· ≤ ·) → (∀ b o, s.heap.get? b = some o → h'.get? b = some o) → s.heap.get? p = none → h'.get? p = some (seqObj "list" out n) → Q (.ref p) { s with heap := h', drawn := d', toks := tk }) :
    wpAny (model prog w) A (call (.builtin "sorted") [.ref a]) Q E s := by
  obtain ⟨⟨o, es, ep, t, ⟨ho, hex, hd⟩, ⟨hel, hb, hf⟩, T, rfl⟩, nd⟩ := S
  have lz : es.size < 4096 := by simpa using hm
  refine Calls.call_function_entry kind_sorted plain_sorted entry_sorted (args_sorted1 _) ?_
  unfold Builtin.«sorted»
  refine wpAny_bind (m := checkCount "sorted" 1 1 _) (wpAny_pure ?_)
  refine wpAny_bind (collect_set (by simp [hh]) ⟨o, ho, hex.1⟩ ⟨o, ho, hd, hf⟩ T (by rw [sizeLine_eq]; omega) fun vs h1 d1 tk1 pm kp => ?_)
  have vi : IntsAre vs (vs.map intOf) := ints_of fun v hv => by
    obtain ⟨e, he, rfl⟩ := List.mem_map.mp (pm.mem_iff.mp hv)
    obtain ⟨⟨k, hk, _⟩, _⟩ := hel e he
    obtain ⟨t, e2⟩ := Value.isInt_shape (show Value.isInt k e.2 = true from hk)
    exact ⟨k, t, e2⟩
  have vp : (vs.map intOf).Perm (es.toList.map fun e => intOf e.2) := by
    have := pm.map intOf
    rwa [List.map_map] at this
  have vl : vs.length < 4096 := by rw [pm.length_eq]; simpa using lz
  have sl : vs.length ≤ sizeLine := by rw [sizeLine_eq]; omega
  refine wpAny_bind (wpAny_newList ?_ (by first | exact sl | simpa using sl))
  have g0 : (h1.push (seqObj "list" vs.toArray 0)).get? h1.objs.size = some (seqObj "list" vs.toArray 0) := Heap.get?_push_size _ rfl
  have ol : s.heap.get? h1.objs.size = none := by
    cases q : s.heap.get? h1.objs.size with
    | none => rfl
    | some u => exact absurd (Heap.lt_size (kp _ _ q)) (Nat.lt_irrefl _)
  show wpAny _ _ _ _ _ { s with heap := h1.push (seqObj "list" vs.toArray 0), drawn := d1, toks := tk1 }
  refine wpAny_bind (wpAny_holding (wpAny_call_entry slot_list_sort ⟨_, g0, rfl⟩ entry_list_sort (SortG.list_sort_ints g0 vi sl fun out ns' a1 a2 a3 => ⟨_, rfl, ?_⟩) (args_list_sort _)))
  obtain ⟨n, g1⟩ := sortedHeap_at (out := out) g0
  refine wpAny_pure ⟨_, rfl, h _ _ _ out ns' h1.objs.size n a1 (a2.trans vp) a3 (fun b u e => ?_) ol g1⟩
  have e1 := kp b u e
  have lt := Heap.lt_size e1
  rw [sortedHeap_old (Nat.ne_of_lt lt) (by rw [size_push']; exact Nat.lt_succ_of_lt lt)]
  exact Heap.get?_push_of_some _ e1
end
end SetL
section
variable {X : Cx} {pins : List (Addr × Obj)} {σ : St} {H : Hp} {s : Shared}
theorem call_sortedSG (hc : X.calm = true) (hex : X.ex = [] := by rfl) : CallR X (.builtin "sorted") (fun xs H Q => ∃ (p : Addr) (ms : List Int), xs = [.ref p] ∧ H p = some (SetO X.prog X.w p ms) ∧ ms.length < 4096 ∧
    ∀ (l : Addr) (H' : Hp) (ns : List Int), H l = none → Same H H' → H' l = some (.lst (ns.map V.int)) → ns.Perm ms → ns.Pairwise (· ≤ ·) → Q (.ref l) H') := by
  intro pins s σ H xs us Q I r h
  obtain ⟨p, ms, rfl, hp, hl, q⟩ := h
  obtain ⟨u, rfl, rx⟩ := vals1 r
  cases rx
  refine SetL.sorted_setG (I.ok.hd hc) (I.hok p _ hp).1 hl fun h' d' tk out ns l n a1 a2 a3 kp new at_ => ?_
  have vl : Vals (ns.map V.int) out.toList := vals_ints a1
  have nl : (ns.map V.int).length ≤ sizeLine := by rw [List.length_map, a2.length_eq, sizeLine_eq]; omega
  have I1 : Inv X pins σ (upd H l (.lst (ns.map V.int))) { s with heap := h', toks := tk } := I.trackNew kp new hex ⟨nl, out.toList, n, vl, by simpa [seqObj] using at_⟩
  exact ⟨.ref l, _, I1.drew d', rfl, q l _ ns (I.hok.gone new) (same_new (I.hok.gone new) _) upd_same a2 a3⟩
theorem vals_bools : ∀ (cs : List Bool), Vals (cs.map V.bl) (cs.map Value.bool)
  | [] => .nil
  | c :: cs => .cons rfl (vals_bools cs)
theorem bools_vals : ∀ {bs : List Bool} {us : List Value}, Vals (bs.map V.bl) us → us = bs.map Value.bool
  | [], _, .nil => rfl
  | b :: bs, _, .cons r rs => by
    cases r
    rw [bools_vals rs]
    rfl
theorem call_sortedB (hex : X.ex = [] := by rfl) : CallR X (.builtin "sorted") (fun xs H Q => ∃ (p : Addr) (bs : List Bool), xs = [.ref p] ∧ SqL X.K H p (bs.map V.bl) ∧ bs.length ≤ 4096 ∧
    ∀ (l : Addr) (H' : Hp) (cs : List Bool), H l = none → Same H H' → H' l = some (.lst (cs.map V.bl)) → cs.Perm bs → cs.Pairwise (fun x y => SortG.b2n x ≤ SortG.b2n y) → Q (.ref l) H') := by
  intro pins s σ H xs us Q I r h
  obtain ⟨p, bs, rfl, hp, hl, q⟩ := h
  obtain ⟨u, rfl, rx⟩ := vals1 r
  cases rx
  obtain ⟨its, rv, pl, hz⟩ := I.list hp
  obtain rfl := bools_vals rv
  have zb : (bs.map Value.bool).length ≤ sizeLine := by rw [List.length_map, sizeLine_eq]; omega
  refine Calls.call_function_entry kind_sorted plain_sorted entry_sorted (args_sorted1 _) ?_
  unfold Builtin.«sorted»
  refine wpAny_bind (m := checkCount "sorted" 1 1 _) (wpAny_pure ?_)
  refine wpAny_bind (collect_list (vs := bs.map Value.bool) pl.isList ?_ zb)
  refine wpAny_bind (wpAny_newList ?_ zb)
  have hsz : ((s.heap.push (seqObj "list" #[] 0)).update s.heap.objs.size (Obj.mapSeq (· ++ (bs.map Value.bool).toArray))).objs.size = s.heap.objs.size + 1 := by
    rw [Heap.size_update, size_push']
  have hoL : (((s.heap.push (seqObj "list" #[] 0)).update s.heap.objs.size (Obj.mapSeq (· ++ (bs.map Value.bool).toArray))).push (seqObj "list" (bs.map Value.bool).toArray 0)).get? (s.heap.objs.size + 1) = some (seqObj "list" (bs.map Value.bool).toArray 0) := by
    rw [← hsz]; exact Heap.get?_push_size _ rfl
  show wpAny _ _ _ _ _ { s with heap := ((s.heap.push (seqObj "list" #[] 0)).update s.heap.objs.size (Obj.mapSeq (· ++ (bs.map Value.bool).toArray))).push (seqObj "list" (bs.map Value.bool).toArray 0) }
  rw [hsz]
  refine wpAny_bind (wpAny_holding (wpAny_call_entry slot_list_sort ⟨_, hoL, rfl⟩ entry_list_sort (SortG.list_sort_bools hoL (by rw [sizeLine_eq]; omega) fun out cs a1 a2 a3 => ⟨_, rfl, ?_⟩) (args_list_sort _)))
  refine wpAny_pure ⟨_, rfl, ?_⟩
  have at_ := sortedAll_at s.heap (bs.map Value.bool) out
  obtain ⟨n, at_⟩ := at_
  have vl : Vals (cs.map V.bl) out.toList := by rw [a1]; exact vals_bools cs
  have nl : (cs.map V.bl).length ≤ sizeLine := by rw [List.length_map, a2.length_eq, sizeLine_eq]; omega
  have new : s.heap.get? (s.heap.objs.size + 1) = none := Heap.get?_none_of_le (Nat.le_succ _)
  have I1 : Inv X pins σ (upd H (s.heap.objs.size + 1) (.lst (cs.map V.bl))) { s with heap := sortedAll s.heap (bs.map Value.bool) out, toks := s.toks } :=
    I.trackNew (fun b o e => sortedAll_old e) new hex ⟨nl, out.toList, n, vl, by simpa [seqObj] using at_⟩
  exact ⟨.ref (s.heap.objs.size + 1), _, I1, rfl, q _ _ cs (I.hok.gone new) (same_new (I.hok.gone new) _) upd_same a2 a3⟩
end
end L2
namespace L2
open PySem PySem.Spec PyProof.Rows
/-! ### texts: slices, upper; a call in a try whose value is dropped -/
section
variable {X : Cx}
end
def tTryE (K : PySem.W.Frag) (Cx : Addr) (j : Nat) (ta : TA) (sp : Sp) (th : TS) : TS := fun D σ H => ta σ H fun vs H1 => sp vs H1 (fun _ H2 => D.nx σ H2) fun C _ H2 =>
  ∃ c, C = .ref c ∧ PySem.W.exmOne K (.ref c) (.ref Cx) = some true ∧ ∀ e, H2 e = none → th { nx := fun _ _ => False, rt := D.rt } (σ.set j (some (.ref e))) (upd H2 e (ExcO e (.ref c)))
theorem ps_tryE {X : Cx} {fn n x : Str} {j lv k : Nat} {ps : List Str} {sp : Sp} {e0 : Expr} {es : List Expr} {ta : TA} {pf pc pst np hpos pos : Pos} {b₀ : Stmt} {suite : List Stmt} {th : TS}
    (Df : DefX X.prog X.w X.K X.mg X.base lv fn ps sp) (hr : Room k X.A) (hN : X.N.Nodup) (hj : X.N[j]? = some n) (hn : X.env.scope.names.lookup n = some .local)
    (hcx : X.mg x = some (.ref (cA X.K x))) (ha : PA X.nox (e0 :: es) ta) (hs : ∀ e, PSs (X.held e) (b₀ :: suite) th)
    (hlv : lv ≤ k := by decide) (hg : Gl X fn := by rfl) (hgx : Gl X x := by rfl) (hst : X.stack = X.env :: X.outer := by rfl) (hfr : X.env.frame = some X.env.locals := by rfl) (hex : X.ex = [] := by rfl) (hdb : (fn == ("__debug__" : Str)) = false := by decide) (hdx : (x == ("__debug__" : Str)) = false := by decide)
    (he : starEach (e0 :: es) X.env = (false, eval e0 X.env) :: starEach es X.env := by rfl) (hpl : (backTo pc (starEach es X.env)).any (·.1) = false := by rfl)
    (hsw : swapsWith (.Call (.Name fn pf) (e0 :: es) [] pc) none pst.line X.env = pure false := by rfl) :
    PS X (.Try [.Expr (.Call (.Name fn pf) (e0 :: es) [] pc) pst] [.ExceptHandler (some (.Name x np)) (some n) (b₀ :: suite) hpos] [] [] pos) (tTryE X.K (cA X.K x) j ta sp th) := by
  intro pins s σ H D I h
  obtain ⟨f, fd, F, hm, hk, hb⟩ := Df.ex
  refine wpAny_Try_except (wpAny_execs_cons (wpAny_Expr_any (wpAny_Call_Name_kw (ld_glob I hg hm (PySem.W.callWith_K (h₀ := X.base) I.ok.mod.kin hk ?_ he hpl) hdb)) I.quiet hsw))
  refine wpAny_mono (ha pc pins s σ H _ (I.wish _) h) (fun us s1 hq1 => ?_) fun _ _ z => False.elim z
  obtain ⟨vs, H1, J1, r, q⟩ := hq1
  have I1 := J1.unwish
  refine ⟨I1.kIn, ?_⟩
  have hl : us.length = ps.length := by rw [← r.length]; exact F.len _ _ _ _ q
  have bd := (Binds.all (K := X.K) hb) s1 us I1.kIn (by rw [List.append_nil]; exact hl)
  rw [List.append_nil] at bd
  refine wpAny_call (codeAny_mono (F.run X.A X.stack s1 H1 ⟨us, []⟩ us vs _ _ (hr.mono hlv) I1.env0 bd r q) fun rs s2 hq => ?_)
  cases rs with
  | ok fl =>
    cases fl with
    | ret u =>
      obtain ⟨v, H2, I2, rv, q2⟩ := I1.after hq
      exact wpAny_execs_nil (wpAny_execs_nil ⟨σ, H2, I2, q2⟩)
    | next => exact False.elim hq
    | brk => exact False.elim hq
    | cont => exact False.elim hq
  | error ev =>
    obtain ⟨e, C, H2, rfl, hE, os, bare, un, hok, new, free, oe, vs', T, oT, ts, a0, h1, h2, h3, h4, h5, h6, h7, h8, h9⟩ := hq
    obtain ⟨c, rfl, hsub, hth⟩ := hE
    have I2 : Inv X pins σ H2 s2 := I1.call' os un hok bare (fun b z => absurd z (by simp))
    have fresh : ∀ b, s1.heap.get? b = none → X.s₀.heap.get? b = none := fun b z => by
      cases q : X.s₀.heap.get? b with
      | none => rfl
      | some o =>
        obtain ⟨o', e1⟩ := I1.base.there b o q (by rw [hex]; simp)
        rw [z] at e1; cases e1
    have pnn : ∀ b, s1.heap.get? b = none → ∀ p ∈ X.pn ++ pins, p.1 ≠ b := fun b z p hp y => by
      have := (I1.pin p hp).1
      rw [y, z] at this; cases this
    have me : e ∈ e :: T :: frs X.stack := List.mem_cons_self
    have mT : T ∈ e :: T :: frs X.stack := List.mem_cons_of_mem _ List.mem_cons_self
    have nm : ∀ b, b ∉ frs X.stack → b ∉ [e, T] → b ∉ e :: T :: frs X.stack := fun b n m z => by
      rcases List.mem_cons.mp z with z | z
      · exact m (by rw [z]; simp)
      · rcases List.mem_cons.mp z with z | z
        · exact m (by rw [z]; simp)
        · exact n z
    have hh : ∀ b ∈ [e, T], X.s₀.heap.get? b = none ∧ H2 b = none ∧ ∀ p ∈ X.pn ++ pins, p.1 ≠ b := fun b z => by
      rcases List.mem_cons.mp z with z | z
      · subst z; exact ⟨fresh _ new, free, pnn _ new⟩
      · have z' : b = T := by simpa using z
        subst z'; exact ⟨fresh _ h5.1, h5.2, pnn _ h5.1⟩
    refine wpAny_looks_onW (base := PySem.W.hideAll s2.heap (e :: T :: frs X.stack)) (outer := X.outer) (L := X.env.locals) (cls := .ref c) (a0 := a0) (by rw [I.ok.frames, hst]) hfr
      ⟨fun b o q => PySem.W.of_hideAll _ q, PySem.W.hideAll_none _ me, by rw [← hst]; exact PySem.W.funFrames_hide I2.stack (fun env he a ha => List.mem_cons_of_mem _ (List.mem_cons_of_mem _ (List.mem_filterMap.mpr ⟨env, he, ha⟩))),
        oe, vs', T, oT, ts, h1, h2, h3, h4, PySem.W.hideAll_none _ mT, h6, h7, h8, h9⟩ fun h₄ held u4 => ?_
    refine wpAny_landsW held fun h₅ fly u5 => ?_
    have F5 : Flew X [e, T] s2.heap h₅ := ⟨fun b o q n m => fly.1 b o (PySem.W.hideAll_get _ q (nm b n m)), u4.trans u5⟩
    have I5 := I2.flew F5 hh
    obtain ⟨ob, hob, hobc⟩ := fly.there
    refine wpAny_handleBy_cons (codeAny_handlers_test (ld_glob (I5.held e) hgx hcx ?_ hdx)) (by intro q; cases q)
    refine (PySem.W.exm_one (K := X.K) I5.kIn (xtype hob hobc) hsub).here ?_
    refine codeAny_handlers_suite_as (lands_againW fly fun h₆ fly6 u6 => ?_)
    have F6 : Flew X [e, T] s2.heap h₆ := ⟨fun b o q n m => fly6.1 b o (PySem.W.hideAll_get _ q (nm b n m)), (u4.trans u5).trans u6⟩
    have I6 := I2.flew F6 hh
    obtain ⟨oe6, vs6, he6, hc6, hd6, _⟩ := fly6.first
    have I7 : Inv X pins σ (upd H2 e (ExcO e (.ref c))) { s2 with heap := h₆ } := by
      refine I6.track free (fresh e new) (fun z => ?_) (fun x c' q z => ?_) (pnn e new) ⟨⟨oe6, vs6, he6, hc6, hd6⟩, ⟨oe6, he6⟩, fun g1 g2 p k => ?_⟩
      · obtain ⟨m, ⟨o, es, ep, ho, hd, _⟩, _⟩ := I6.loc
        rw [← z] at ho
        have y := ho.symm.trans he6
        cases y
        rw [hd6] at hd; cases hd
      · obtain ⟨v, o, ho, hd⟩ := I6.cell x c' q
        rw [z] at ho
        have y := ho.symm.trans he6
        cases y
        rw [hd6] at hd; cases hd
      · obtain ⟨o, vs, a, b, d⟩ := p
        exact ⟨o, vs, k o a, b, d⟩
    refine store_ok I7 hN hj (.inl hn) (v := .ref e) rfl (fun s7 I8 => ?_) (.inr hn)
    refine wpAny_mono (hs e pins s7 _ _ _ (I8.held e) (hth e free)) (fun fl s8 q8 => ?_) fun _ _ z => False.elim z
    cases fl with
    | ret u =>
      obtain ⟨v, σ', H8, I9, rv, qv⟩ := q8
      have I9 := I9.unheld I.ok
      obtain ⟨m, hm', _⟩ := id I9.loc
      exact wpAny_nameGoes hn hm' (by rw [I.ok.kind]; rfl) fun h₉ m₉ hn₉ hs₉ => ⟨v, _, H8, I9.forgetLoc hn₉ hs₉, rv, qv⟩
    | next => obtain ⟨_, _, _, z⟩ := q8; exact False.elim z
    | brk => obtain ⟨_, _, _, z⟩ := q8; exact False.elim z
    | cont => obtain ⟨_, _, _, z⟩ := q8; exact False.elim z
end L2
namespace L2
open PySem
/-- a row that raises nothing, in a def that may -/
theorem ps_calm {X : Cx} {st : Stmt} {t : TS} (h : PS X.nox st t) : PS X st t := by
  intro pins s σ H D I ht
  refine wpAny_mono (h pins s σ H D (I.wish _) ht) (fun fl s' q => ?_) fun _ _ z => False.elim z
  cases fl with
  | next => obtain ⟨σ', H', J, q⟩ := q; exact ⟨σ', H', J.unwish, q⟩
  | brk => obtain ⟨σ', H', J, q⟩ := q; exact ⟨σ', H', J.unwish, q⟩
  | cont => obtain ⟨σ', H', J, q⟩ := q; exact ⟨σ', H', J.unwish, q⟩
  | ret u => obtain ⟨v, σ', H', J, r, q⟩ := q; exact ⟨v, σ', H', J.unwish, r, q⟩
end L2
namespace L2
end L2
namespace L2
open PySem PySem.Spec PyProof.Rows
section
variable {M : Model} {A : Around} {E : Value → Shared → Prop} {s : Shared} {B : Heap} {v : Env} {out : List Env} {L e d : Addr} {Q : Unit → Shared → Prop}
end
section
variable {X : Cx} {pins : List (Addr × Obj)} {σ : St} {H : Hp} {s : Shared} {e : Addr} {φ : Heap → Prop}
end
section
variable {P : Program} {w : World} {K : PySem.W.Frag} {mg : Str → Option Value} {base : Heap} {N : List Str} {qual : Str} {scope : Scope} {f : Addr} {cd : Value} {A : Around} {outer : List Env} {s₀ : Shared} {H₀ : Hp} {E : XK}
end
/-! ### raise C(v), C with an __init__ that keeps v -/
section
variable {M : Model} {A : Around} {E : Value → Shared → Prop} {env : Env} {nm q : Str} {C N : Addr} {bs bm : List Value} {hdct : Bool} {sn : List Str} {sub : List Value} {ab : Bool} {col : Option Bool} {dd : Option Addr} {k0 k1 k2 k3 k5 : Option Value} {newId : String}
end
section
variable {X : Cx} {x : Str} {np pos : Pos} {e0 : Expr} {t : TA} {C f : Addr} {fd : FuncData} {ps : List Str} {name : Str} {j k : Nat}
end
section
variable {X : Cx} {x : Str} {np cpos pos : Pos} {e0 : Expr} {t : TA} {name : Str} {j k : Nat} {E : XK}
end
section
variable {X : Cx} {o value : Expr} {name : Str} {pos pos' : Pos} {ta tv : TE} {C : Addr}
end
end L2
namespace L2
open PySem PySem.Spec PyProof.Rows
/-! ### a list of things and what is known of each -/
inductive LL {α : Type} (R : V → α → Prop) : List V → List α → Prop
  | nil : LL R [] []
  | cons {v : V} {e : α} {vs : List V} {es : List α} : R v e → LL R vs es → LL R (v :: vs) (e :: es)
section
variable {α : Type} {R S : V → α → Prop} {vs ws : List V} {es fs : List α}
theorem LL.length (h : LL R vs es) : vs.length = es.length := by
  induction h with
  | nil => rfl
  | cons _ _ ih => simp [ih]
theorem LL.imp (f : ∀ v e, R v e → S v e) (h : LL R vs es) : LL S vs es := by
  induction h with
  | nil => exact .nil
  | cons h _ ih => exact .cons (f _ _ h) ih
theorem LL.append (h : LL R vs es) (k : LL R ws fs) : LL R (vs ++ ws) (es ++ fs) := by
  induction h with
  | nil => exact k
  | cons h _ ih => exact .cons h ih
theorem LL.push {v : V} {e : α} (h : LL R vs es) (k : R v e) : LL R (vs ++ [v]) (es ++ [e]) := h.append (.cons k .nil)
theorem LL.get (h : LL R vs es) : ∀ {i : Nat} {v : V}, vs[i]? = some v → ∃ e, es[i]? = some e ∧ R v e := by
  induction h with
  | nil => intro i v e; simp at e
  | cons h _ ih =>
    intro i v e
    cases i with
    | zero => cases e; exact ⟨_, rfl, h⟩
    | succ i => exact ih e
theorem LL.eqm {g : α → V} (h : LL (fun v e => v = g e) vs es) : vs = es.map g := by
  induction h with
  | nil => rfl
  | cons h _ ih => rw [h, ih]; rfl
end
/-! ### comprehensions with a test whose items make things -/
theorem comp_sel {α : Type} {J : It} {ix : List Nat} {tt : TT} {te : TE} {σ : St} {l : Addr} {xs : List V} {H : Hp} {R : Hp → Prop} (Y : WalkOf J H xs) (hl : H l = none) (hz : xs.length ≤ sizeLine) (es : List α) (len : es.length = xs.length)
    (f : α → Bool) (P : Hp → V → α → Prop) (mono : ∀ v e H1 H2, Same H1 H2 → P H1 v e → P H2 v e) (put : ∀ v e H1 ys zs, H1 l = some (.lst ys) → P H1 v e → P (upd H1 l (.lst zs)) v e)
    (ht : ∀ (i : Nat) x e H' Q', xs[i]? = some x → es[i]? = some e → Same H H' → Q' (f e) H' → tt (some x :: capts σ ix) H' Q')
    (he : ∀ (i : Nat) x e H' Q', xs[i]? = some x → es[i]? = some e → f e = true → Same H H' → (∀ v H2, Same H' H2 → P H2 v e → Q' v H2) → te (some x :: capts σ ix) H' Q')
    (fin : ∀ ys H', Same H H' → H' l = some (.lst ys) → LL (P H') ys (es.filter f) → R H') :
    ∃ W : Nat → Nat → List V → Hp → Prop, (∃ m, W 0 m [] (upd H l (.lst []))) ∧ TurnsIf ix tt te σ J l R W := by
  refine ⟨fun i m ys H' => m = xs.length - i ∧ i ≤ xs.length ∧ LL (P H') ys ((es.take i).filter f) ∧ Same H H' ∧ H' l = some (.lst ys), ⟨xs.length, by simp, Nat.zero_le _, by simp; exact .nil, same_new hl _, upd_same⟩, ?_⟩
  rintro i m ys H' ⟨rfl, hi, hy, sH, hL⟩
  refine ⟨hL, ?_⟩
  by_cases hlt : i < xs.length
  · have yl : ys.length ≤ i := by
      rw [hy.length]
      exact Nat.le_trans (List.length_filter_le _ _) (by rw [List.length_take]; omega)
    have eP : es[i]? = some (es[i]'(by omega)) := List.getElem?_eq_getElem (by omega)
    generalize es[i]'(by omega) = e at eP
    have tk : es.take (i + 1) = es.take i ++ [e] := by rw [List.take_add_one, eP]; rfl
    refine .inr ⟨Y.go i H' sH hlt, by omega, fun x H2 y => ?_⟩
    obtain ⟨rfl, e2⟩ := Y.yld i H' x H2 sH y
    refine ht i x e _ _ e2 eP sH ?_
    cases b : f e with
    | true =>
      rw [if_pos rfl]
      refine he i x e _ _ e2 eP b sH fun v H3 s3 pv => ?_
      have hL3 := s3 _ _ hL
      refine ⟨hL3, xs.length - (i + 1), by omega, rfl, hlt, ?_, same_put (sH.trans s3) hl, upd_same⟩
      rw [tk, List.filter_append, List.filter_cons_of_pos b]
      exact ((hy.imp fun v e q => put v e H3 ys _ hL3 (mono v e _ _ s3 q)).push (put v e H3 ys _ hL3 pv))
    | false =>
      rw [if_neg Bool.false_ne_true]
      refine ⟨xs.length - (i + 1), by omega, rfl, hlt, ?_, sH, hL⟩
      rw [tk, List.filter_append, List.filter_cons_of_neg (by rw [b]; decide)]
      simpa using hy
  · rw [List.take_of_length_le (by omega)] at hy
    exact .inl ⟨Y.stop i H' sH (by omega), fin ys H' sH hL hy⟩
section
variable {X : Cx} {pins : List (Addr × Obj)} {σ : St} {H : Hp} {s : Shared} {o i e f value : Expr} {pos pos' apos cpos : Pos} {td ty tx tv : TE}
end
/-! ### fields and methods of entries within comprehensions -/
section
variable {X : Cx} {m f : Str} {pos apos : Pos} {o e : Expr} {ta : TE} {j k : Nat} {ps : List Str}
end
end L2
namespace L2
open PySem PySem.Spec PyProof.Rows
section
variable {X : Cx} {pins : List (Addr × Obj)} {σ : St} {H : Hp} {s : Shared} {o i e f value : Expr} {pos pos' apos cpos : Pos} {td ty tx tv : TE}
end
section
variable {prog : Program} {w : World} {A : Around} {s : Shared} {R : Result → Shared → Prop}
end
section
variable {X : Cx} {pins : List (Addr × Obj)} {σ : St} {H : Hp} {s : Shared}
end
section
variable {X : Cx} {o e f : Expr} {apos cpos : Pos} {td ty tx : TE}
end
section
variable {X : Cx} {e k : Expr} {te : TE} {p2 pos : Pos} {lo hi : Option Expr} {tl th : TO}
end
end L2
namespace L2
open PySem PySem.Spec PyProof.Rows
section
variable {X : Cx} {pins : List (Addr × Obj)} {σ : St} {H : Hp} {s : Shared} {o i e f value : Expr} {pos pos' apos cpos : Pos} {td ty tx tv : TE}
end
section
variable {X : Cx}
end
end L2
namespace L2
open PySem PySem.Spec PyProof.Rows
section
variable {X : Cx} {pins : List (Addr × Obj)} {σ : St} {H : Hp} {s : Shared} {sc : Scope} {x y0 y1 : Str} {ix : List Nat} {fp : List Addr}
end
section
variable {X : Cx} {pins : List (Addr × Obj)} {σ : St} {H : Hp} {s : Shared} {sc : Scope} {x y0 y1 : Str} {ix : List Nat} {fp : List Addr} {elt iter c : Expr} {te : TE} {tt : TT} {wi : TI} {px py0 py1 pt0 pos : Pos} {kt0 : Nat}
end
end L2
namespace L2
open PySem PySem.Spec PyProof.Rows
/-! ### a, b, c = a list of that length -/
section
variable {prog : Program} {w : World} {A : Around} {E : Value → Shared → Prop} {s : Shared}
end
end L2
/-! sums by keys; no Python -/
namespace Sby
open L2
abbrev Pl := List (Int × Int)
def sm (l : Pl) (k : Int) : Int := ((l.filter fun p => p.1 = k).map (·.2)).sum
theorem up_of {ns : List Int} (nd : ns.Nodup) (up : ns.Pairwise (· ≤ ·)) : ns.Pairwise (· < ·) := by
  induction ns with
  | nil => exact .nil
  | cons n ns ih =>
    obtain ⟨n1, n2⟩ := List.pairwise_cons.mp nd
    obtain ⟨u1, u2⟩ := List.pairwise_cons.mp up
    refine List.pairwise_cons.mpr ⟨fun a ha => ?_, ih n2 u2⟩
    have := u1 a ha
    have := n1 a ha
    omega
/-- what rises and has the same members is the same -/
theorem up_ext {as bs : List Int} (ha : as.Pairwise (· < ·)) (hb : bs.Pairwise (· < ·)) (h : ∀ d, d ∈ as ↔ d ∈ bs) : as = bs := by
  induction as generalizing bs with
  | nil =>
    cases bs with
    | nil => rfl
    | cons b bs => exact absurd ((h b).mpr List.mem_cons_self) (by simp)
  | cons a as ih =>
    cases bs with
    | nil => exact absurd ((h a).mp List.mem_cons_self) (by simp)
    | cons b bs =>
      obtain ⟨a1, a2⟩ := List.pairwise_cons.mp ha
      obtain ⟨b1, b2⟩ := List.pairwise_cons.mp hb
      have e : a = b := by
        rcases List.mem_cons.mp ((h a).mp List.mem_cons_self) with e | e
        · exact e
        · rcases List.mem_cons.mp ((h b).mpr List.mem_cons_self) with e2 | e2
          · exact e2.symm
          · have := b1 a e; have := a1 b e2; omega
      subst e
      rw [ih a2 b2 fun d => ?_]
      constructor
      · intro hd
        rcases List.mem_cons.mp ((h d).mp (List.mem_cons_of_mem _ hd)) with e | e
        · have := a1 d hd; omega
        · exact e
      · intro hd
        rcases List.mem_cons.mp ((h d).mpr (List.mem_cons_of_mem _ hd)) with e | e
        · have := b1 d hd; omega
        · exact e
end Sby
/-! entries and rows by what they are; no Python -/
namespace L2
open PySem
abbrev Er := Ek × Int × Int
def isW (w : Str) (e : Er) : Bool := decide (V.str e.1.word = V.str w)
def prs (w : Str) (es : List Er) : List (Int × Int) := (es.filter (isW w)).map (·.2)
def dys (w : Str) (es : List Er) : List Int := (es.filter (isW w)).map (·.2.1)
end L2
namespace L2
open PySem
end L2
namespace L2
open PySem
end L2
namespace L2
open PySem
end L2
namespace L2
open PySem
end L2
namespace L2
open PySem
theorem LL.of {α : Type} {R : V → α → Prop} : ∀ {vs : List V} {es : List α}, vs.length = es.length → (∀ (j : Nat) v, vs[j]? = some v → ∃ e, es[j]? = some e ∧ R v e) → LL R vs es
  | [], [], _, _ => .nil
  | [], _ :: _, h, _ => by simp at h
  | _ :: _, [], h, _ => by simp at h
  | v :: vs, e :: es, h, p => by
    obtain ⟨e', he, hr⟩ := p 0 v rfl
    cases he
    exact .cons hr (LL.of (by simpa using h) fun j w hw => p (j + 1) w hw)
end L2
/-! Spans of days: what joined lists are, and how the least one is told by the days on which a span begins or ends. No Python here. -/
namespace Spans
abbrev Sp := List (Int × Int)
structure Joined (l : Sp) : Prop where
  up : ∀ s ∈ l, s.1 < s.2
  apart : l.Pairwise fun s t => s.2 < t.1
/-! ### the least list, by the days on which a span begins or ends -/
def isIn (l : Sp) (d : Int) : Bool := l.any fun s => decide (s.1 ≤ d) && decide (d < s.2)
/-- one edge: what was found so far, and the day from which on all is covered -/
def step (l : Sp) (st : Sp × Int) (e : Int) : Sp × Int :=
  let f := if isIn l e && !isIn l (e - 1) then e else st.2
  (if isIn l e then st.1 else st.1 ++ [(f, e)], f)
def least (l : Sp) (es : List Int) : Sp := (es.foldl (step l) ([], 0)).1
end Spans
/-! Sums over days, and the value that holds on a day. No Python here. -/
namespace Sums
/-- f over the days from a on that are below b -/
def S (f : Int → Int) (a : Int) : Nat → Int
  | 0 => 0
  | n + 1 => S f a n + f (a + n)
def sum (f : Int → Int) (a b : Int) : Int := S f a (b - a).toNat
theorem sum_le {f : Int → Int} {a b : Int} (h : b ≤ a) : sum f a b = 0 := by
  unfold sum
  rw [show (b - a).toNat = 0 by omega]
  rfl
theorem S_append (f : Int → Int) (a : Int) (n : Nat) : ∀ m, S f a (n + m) = S f a n + S f (a + n) m
  | 0 => by simp [S]
  | m + 1 => by
    show S f a (n + m) + f (a + ((n + m : Nat) : Int)) = S f a n + (S f (a + n) m + f (a + n + m))
    rw [S_append f a n m, show a + ((n + m : Nat) : Int) = a + n + m by omega]
    omega
theorem sum_add {f : Int → Int} {a b c : Int} (h1 : a ≤ c) (h2 : c ≤ b) : sum f a b = sum f a c + sum f c b := by
  unfold sum
  rw [show (b - a).toNat = (c - a).toNat + (b - c).toNat by omega, S_append, show a + ((c - a).toNat : Int) = c by omega]
/-! ### tables -/
abbrev Tab := List (Int × Int)
/-- v is the value of the last row of the latest day that is not behind d; 0 where there is none -/
def Val (t : Tab) (d v : Int) : Prop := (v = 0 ∧ ∀ r ∈ t, d < r.1) ∨ ∃ i : Nat, ∃ b : Int, t[i]? = some (b, v) ∧ b ≤ d ∧ ∀ (j : Nat) (r : Int × Int), t[j]? = some r → r.1 ≤ d → r.1 < b ∨ (r.1 = b ∧ j ≤ i)
/-- one row, as a walk over all rows sees it -/
def vstep (d : Int) (st : Int × Int) (r : Int × Int) : Int × Int := if st.1 ≤ r.1 ∧ r.1 ≤ d then r else st
def valOf (t : Tab) (d : Int) : Int := (t.foldl (vstep d) (-1, 0)).2
theorem valOf_ok {t : Tab} (h0 : ∀ r ∈ t, 0 ≤ r.1) (d : Int) : Val t d (valOf t d) := by
  suffices q : ∀ (pre rest : Tab) (st : Int × Int), pre ++ rest = t → ((st = (-1, 0) ∧ ∀ r ∈ pre, d < r.1) ∨ ∃ i : Nat, pre[i]? = some st ∧ st.1 ≤ d ∧ ∀ (j : Nat) (r : Int × Int), pre[j]? = some r → r.1 ≤ d → r.1 < st.1 ∨ (r.1 = st.1 ∧ j ≤ i)) →
      Val t d (rest.foldl (vstep d) st).2 from q [] t (-1, 0) rfl (.inl ⟨rfl, fun r hr => by cases hr⟩)
  intro pre rest
  induction rest generalizing pre with
  | nil =>
    intro st e h
    rw [List.append_nil] at e
    subst e
    rcases h with ⟨rfl, h⟩ | ⟨i, e, le, h⟩
    · exact .inl ⟨rfl, h⟩
    · exact .inr ⟨i, st.1, e, le, h⟩
  | cons r rest ih =>
    intro st e h
    have hr : 0 ≤ r.1 := h0 r (by rw [← e]; simp)
    refine ih (pre ++ [r]) (vstep d st r) (by rw [List.append_assoc]; exact e) ?_
    have last : ∀ (j : Nat) (x : Int × Int), (pre ++ [r])[j]? = some x → pre[j]? = some x ∨ (j = pre.length ∧ x = r) := fun j x hx => by
      by_cases hj : j < pre.length
      · rw [List.getElem?_append_left hj] at hx
        exact .inl hx
      · by_cases hj2 : j = pre.length
        · subst hj2
          rw [List.getElem?_append_right (Nat.le_refl _), Nat.sub_self] at hx
          exact .inr ⟨rfl, (by cases hx; rfl)⟩
        · rw [List.getElem?_eq_none (by rw [List.length_append, List.length_singleton]; omega)] at hx
          cases hx
    unfold vstep
    by_cases c : st.1 ≤ r.1 ∧ r.1 ≤ d
    · rw [if_pos c]
      refine .inr ⟨pre.length, by rw [List.getElem?_append_right (Nat.le_refl _), Nat.sub_self]; rfl, c.2, fun j x hx hd => ?_⟩
      rcases last j x hx with hx | ⟨rfl, rfl⟩
      · have hj : j < pre.length := (List.getElem?_eq_some_iff.mp hx).1
        rcases h with ⟨_, h⟩ | ⟨i, _, _, h⟩
        · have := h x (List.mem_of_getElem? hx)
          omega
        · rcases h j x hx hd with z | z
          · exact .inl (by omega)
          · by_cases w : x.1 = r.1
            · exact .inr ⟨w, by omega⟩
            · exact .inl (by omega)
      · exact .inr ⟨rfl, Nat.le_refl _⟩
    · rw [if_neg c]
      rcases h with ⟨rfl, h⟩ | ⟨i, ei, le, h⟩
      · refine .inl ⟨rfl, fun x hx => ?_⟩
        rcases List.mem_append.mp hx with hx | hx
        · exact h x hx
        · have : x = r := by simpa using hx
          rw [this]
          exact Int.not_le.mp fun q => c ⟨by show (-1 : Int) ≤ r.1; omega, q⟩
      · refine .inr ⟨i, ?_, le, fun j x hx hd => ?_⟩
        · rw [List.getElem?_append_left (List.getElem?_eq_some_iff.mp ei).1]; exact ei
        · rcases last j x hx with hx | ⟨rfl, rfl⟩
          · exact h j x hx hd
          · exact .inl (Int.not_le.mp fun q => c ⟨q, hd⟩)
end Sums
/-! Days that stand still, told by joined spans and by the spans as they were drawn; values between breaks. No Python here. -/
namespace Stills
open Spans Sums
/-! ### how many days stand still -/
def ind (l : Sp) (d : Int) : Int := if isIn l d then 1 else 0
def many (l : Sp) (a b : Int) : Int := sum (ind l) a b
def part (a b : Int) (s : Int × Int) : Int := if (if b < s.2 then b else s.2) - (if a > s.1 then a else s.1) > 0 then (if b < s.2 then b else s.2) - (if a > s.1 then a else s.1) else 0
end Stills
namespace Stills
open Spans Sums
end Stills
namespace Stills
open Spans Sums
end Stills
namespace Stills
open Spans Sums
end Stills
namespace Stills
open Spans Sums
end Stills
namespace Stills
open Spans Sums
end Stills
namespace Stills
end Stills
namespace Stills
open Spans Sums
end Stills
namespace Stills
open Spans Sums
end Stills
namespace Stills
end Stills
namespace Stills
open Spans Sums
end Stills
/-! the dict of a list of pairs, and its table -/
namespace Dct
open L2
end Dct
/-! a book: the fields of its instance, and what the arrears reckon of rows -/
namespace L2
open PySem
def upto (l : List (Int × Int)) (d : Int) : Int := ((l.filter fun s => decide (s.1 ≤ d)).map (·.2)).sum
/-- what a book tells -/
structure BkT where
  (kd : Kd) (g : Int) (es : List Er) (outs fees pays : List (Int × Int)) (turns : List Int) (rates lates spans dues : List (Int × Int))
theorem comp_map {α : Type} {J : It} {ix : List Nat} {te : TE} {σ : St} {l : Addr} {xs : List V} {H : Hp} {R : Hp → Prop} (Y : WalkOf J H xs) (hl : H l = none) (hz : xs.length ≤ sizeLine) (es : List α) (len : es.length = xs.length)
    (P : Hp → V → α → Prop) (mono : ∀ v e H1 H2, Same H1 H2 → P H1 v e → P H2 v e) (put : ∀ v e H1 ys zs, H1 l = some (.lst ys) → P H1 v e → P (upd H1 l (.lst zs)) v e)
    (he : ∀ (i : Nat) x e H' Q', xs[i]? = some x → es[i]? = some e → Same H H' → (∀ v H2, Same H' H2 → P H2 v e → Q' v H2) → te (some x :: capts σ ix) H' Q')
    (fin : ∀ ys H', Same H H' → H' l = some (.lst ys) → LL (P H') ys es → R H') :
    ∃ W : Nat → Nat → List V → Hp → Prop, (∃ m, W 0 m [] (upd H l (.lst []))) ∧ Turns ix te σ J l R W := by
  refine comp_any Y hl hz (fun i v H' => ∃ e, es[i]? = some e ∧ P H' v e) (fun i v H1 H2 s ⟨e, e1, e2⟩ => ⟨e, e1, mono v e _ _ s e2⟩) (fun i v H1 ys zs hL ⟨e, e1, e2⟩ => ⟨e, e1, put v e _ _ _ hL e2⟩) ?_ ?_
  · intro i x H' Q' hx sH hq
    have il : i < es.length := by rw [len]; exact (List.getElem?_eq_some_iff.mp hx).1
    have eP : es[i]? = some (es[i]'il) := List.getElem?_eq_getElem il
    exact he i x _ H' Q' hx eP sH fun v H2 s2 pv => hq v H2 s2 ⟨_, eP, pv⟩
  · intro ys H' sH eL yl hp
    exact fin ys H' sH eL (LL.of (by omega) hp)
end L2
/-! open dues, and rows of three numbers -/
namespace L2
open PySem
abbrev T3 := Int × Int × Int
/-! what is open -/
def mn (a b : Int) : Int := if b < a then b else a
def opOne (day paid t : Int) (s : Int × Int) : List T3 := if s.1 ≤ day ∧ mn s.2 (t + s.2 - paid) > 0 then [(s.1, s.2, mn s.2 (t + s.2 - paid))] else []
def opn (day paid : Int) : Int → List (Int × Int) → List T3
  | _, [] => []
  | t, s :: l => opOne day paid t s ++ opn day paid (t + s.2) l
def p0 (a : Int) : Int := if a > 0 then a else 0
end L2
/-! when a due is met -/
namespace L2
open PySem
/-! running sums -/
def runs : Int → List (Int × Int) → List (Int × Int)
  | _, [] => []
  | t, s :: l => (s.1, t + s.2) :: runs (t + s.2) l
end L2
namespace L2
open PySem PySem.Spec PyProof.Rows
open AutoSeq1 (wpAny_loadPart')
end L2
/-! what a book charges, day by day -/
namespace L2
open PySem
def csum (U f : Int → Int) (a b : Int) : Int := Sums.sum (fun d => (U (d + 1) - U d) * f d) a b
theorem csum_add {U f : Int → Int} {a b c : Int} (h1 : a ≤ c) (h2 : c ≤ b) : csum U f a b = csum U f a c + csum U f c b := Sums.sum_add h1 h2
theorem csum_le {U f : Int → Int} {a b : Int} (h : b ≤ a) : csum U f a b = 0 := Sums.sum_le h
def rtOf (b : BkT) (d : Int) : Int := if Spans.isIn b.spans d then 0 else Sums.valOf b.rates d
def ltOf (b : BkT) (d : Int) : Int := if Spans.isIn b.spans d then 0 else Sums.valOf b.lates d
def lkOf (b : BkT) (d : Int) : Int := if Spans.isIn b.spans d then 0 else p0 (upto b.dues (d - b.g) - upto b.pays d)
def dayC (b : BkT) (P d : Int) : Int := rtOf b d * P + ltOf b d * mn P (lkOf b d)
structure BOk (b : BkT) : Prop where
  ru : b.rates.Pairwise fun s t => s.1 < t.1
  rn : ∀ s ∈ b.rates, 0 ≤ s.1 ∧ 0 ≤ s.2 ∧ s.2 ≤ 1000000
  lu : b.lates.Pairwise fun s t => s.1 < t.1
  ln : ∀ s ∈ b.lates, 0 ≤ s.1 ∧ 0 ≤ s.2 ∧ s.2 ≤ 1000000
  pu : (b.pays.map (·.1)).Pairwise (· < ·)
  pn : ∀ s ∈ b.pays, 0 ≤ s.1
  du : (b.dues.map (·.1)).Pairwise (· < ·)
  dn : ∀ s ∈ b.dues, 0 ≤ s.1
  jn : Spans.Joined b.spans
  sn : ∀ s ∈ b.spans, 0 ≤ s.1
  g0 : 0 ≤ b.g
  sz : b.rates.length + b.lates.length + b.pays.length + b.dues.length + 2 * b.spans.length < 63
theorem val_in {t : List (Int × Int)} (h : ∀ s ∈ t, 0 ≤ s.1 ∧ 0 ≤ s.2 ∧ s.2 ≤ 1000000) (d : Int) : 0 ≤ Sums.valOf t d ∧ Sums.valOf t d ≤ 1000000 := by
  rcases Sums.valOf_ok (fun s hs => (h s hs).1) d with ⟨e, _⟩ | ⟨i, x, e, _⟩
  · rw [e]; exact ⟨Int.le_refl _, by decide⟩
  · exact (h _ (List.mem_of_getElem? e)).2
theorem BOk.rt {b : BkT} (O : BOk b) (d : Int) : 0 ≤ rtOf b d ∧ rtOf b d ≤ 1000000 := by
  unfold rtOf
  split
  · exact ⟨Int.le_refl _, by decide⟩
  · exact val_in O.rn d
theorem BOk.lt {b : BkT} (O : BOk b) (d : Int) : 0 ≤ ltOf b d ∧ ltOf b d ≤ 1000000 := by
  unfold ltOf
  split
  · exact ⟨Int.le_refl _, by decide⟩
  · exact val_in O.ln d
end L2
/-! day by day -/
namespace L2
open PySem
end L2
/-! the account of a book, day by day -/
namespace L2
open PySem
/-- what is lent, charged, turned and paid on a day -/
abbrev Q4 := Int × Int × Int × Int
def ddE (es : List Er) (d : Int) : Q4 := (Sby.sm (prs "out" es) d, Sby.sm (prs "fee" es) d, if d ∈ dys "turn" es then 1 else 0, Sby.sm (prs "pay" es) d)
def ddo (b : BkT) (d : Int) : Q4 := ddE b.es d
def doD (u : Int) (q : Q4) (s : Int × Int) : Int × Int :=
  let s1 := Dbt.step u .lend q.1 s.1 s.2
  let s2 := Dbt.step u .fee q.2.1 s1.1 s1.2
  let s3 := if q.2.2.1 = 1 then Dbt.step u .turn 0 s2.1 s2.2 else s2
  Dbt.step u .take q.2.2.2 s3.1 s3.2
theorem doD_good {u : Int} {q : Q4} {s : Int × Int} (hu : 0 < u) (l0 : 0 ≤ q.1) (g : Dbt.Good u s.1 s.2) : Dbt.Good u (doD u q s).1 (doD u q s).2 := by
  unfold doD
  have g1 := Dbt.good_step (w := .lend) hu (show Dbt.Okd .lend q.1 from l0) g
  have g2 := Dbt.good_step (w := .fee) (x := q.2.1) hu True.intro g1
  dsimp only
  split
  · exact Dbt.good_step (w := .take) hu True.intro (Dbt.good_step (w := .turn) (x := 0) hu True.intro g2)
  · exact Dbt.good_step (w := .take) hu True.intro g2
theorem clamp {u m n : Int} (g : Dbt.Good u m n) : Dbt.mn m (Dbt.mx 0 (n / u)) = m := by
  have h := g.2
  unfold Dbt.mn
  rw [if_neg (by omega)]
theorem doD_zero {u : Int} {s : Int × Int} (g : Dbt.Good u s.1 s.2) : doD u (0, 0, 0, 0) s = s := by
  obtain ⟨m, n⟩ := s
  have c : Dbt.mn m (Dbt.mx 0 (n / u)) = m := clamp g
  simp [doD, Dbt.step, c]
section
variable (U : Int → Int) (u : Int) (b : BkT)
/-- ahead of a day's deeds -/
def stB : Nat → Int × Int
  | 0 => (0, 0)
  | k + 1 => let s := doD u (ddo b k) (stB k); (s.1, s.2 + (U (k + 1) - U k) * dayC b s.1 k)
/-- behind them -/
def stA (k : Nat) : Int × Int := doD u (ddo b k) (stB U u b k)
def noDo (d : Int) : Prop := ddo b d = (0, 0, 0, 0)
end
/-- what a book must be for its account -/
structure AOk (U : Int → Int) (u : Int) (b : BkT) : Prop where
  hu : 0 < u
  out0 : ∀ d, 0 ≤ Sby.sm (prs "out" b.es) d
  up : ∀ d : Nat, U d ≤ U (d + 1)
  ok : BOk b
section
variable {U : Int → Int} {u : Int} {b : BkT}
theorem lk0 (d : Int) : 0 ≤ lkOf b d := by
  unfold lkOf p0
  split
  · exact Int.le_refl _
  · split <;> omega
theorem dayC0 (O : BOk b) {P : Int} (p : 0 ≤ P) (d : Int) : 0 ≤ dayC b P d := by
  unfold dayC
  have h1 := O.rt d
  have h2 := O.lt d
  have h3 := lk0 (b := b) d
  have h4 : 0 ≤ mn P (lkOf b d) := by unfold mn; split <;> omega
  have := Int.mul_nonneg h1.1 p
  have := Int.mul_nonneg h2.1 h4
  omega
theorem good_stB (A : AOk U u b) : ∀ k, Dbt.Good u (stB U u b k).1 (stB U u b k).2
  | 0 => Dbt.good0 u
  | k + 1 => by
    have g := doD_good (q := ddo b k) A.hu (A.out0 k) (good_stB A k)
    have w : 0 ≤ (U (k + 1) - U k) * dayC b (doD u (ddo b k) (stB U u b k)).1 k := Int.mul_nonneg (by have := A.up k; omega) (dayC0 A.ok g.1 k)
    exact Dbt.good_step (w := .grow) A.hu (show Dbt.Okd .grow _ from w) g
theorem stA_none (A : AOk U u b) {k : Nat} (h : noDo b k) : stA U u b k = stB U u b k := by
  unfold stA
  rw [h]
  exact doD_zero (good_stB A k)
theorem stB_succ (k : Nat) : stB U u b (k + 1) = ((stA U u b k).1, (stA U u b k).2 + (U (k + 1) - U k) * dayC b (stA U u b k).1 k) := rfl
theorem csum_one (f : Int → Int) (a : Int) : csum U f a (a + 1) = (U (a + 1) - U a) * f a := by
  unfold csum Sums.sum
  rw [show (a + 1 - a).toNat = 1 by omega]
  simp [Sums.S]
/-- days without deeds -/
theorem run (A : AOk U u b) (s : Nat) : ∀ n : Nat, (∀ k : Nat, s ≤ k → k < s + n → noDo b k) → stB U u b (s + n) = ((stB U u b s).1, (stB U u b s).2 + csum U (dayC b (stB U u b s).1) s (s + n : Nat))
  | 0, _ => by rw [csum_le (by omega)]; simp
  | n + 1, h => by
    have ih := run A s n fun k h1 h2 => h k h1 (by omega)
    rw [show s + (n + 1) = (s + n) + 1 from rfl, stB_succ, stA_none A (h (s + n) (by omega) (by omega)), ih]
    have e2 : csum U (dayC b (stB U u b s).1) s (((s + n) + 1 : Nat) : Int) = csum U (dayC b (stB U u b s).1) s ((s + n : Nat) : Int) + (U (((s + n : Nat) : Int) + 1) - U ((s + n : Nat) : Int)) * dayC b (stB U u b s).1 ((s + n : Nat) : Int) := by
      rw [show (((s + n) + 1 : Nat) : Int) = ((s + n : Nat) : Int) + 1 by omega, csum_add (a := (s : Int)) (b := ((s + n : Nat) : Int) + 1) (c := ((s + n : Nat) : Int)) (by omega) (by omega), csum_one]
    rw [e2]
    exact Prod.ext rfl (Int.add_assoc ..)
theorem first (A : AOk U u b) {e : Int} (e0 : 0 ≤ e) (h : ∀ d, 0 ≤ d → d < e → noDo b d) : stB U u b e.toNat = (0, 0 + csum U (dayC b 0) 0 e) := by
  have r := run A 0 e.toNat fun k _ h2 => h k (by omega) (by omega)
  rw [show ((0 + e.toNat : Nat) : Int) = e by omega, Nat.zero_add] at r
  exact r
end
/-- over a range, each item by a word of it that new objects don't touch -/
theorem comp_rngM {α : Type} {lo : Int} {n : Nat} {ix : List Nat} {te : TE} {σ : St} {l : Addr} {H : Hp} {R : Hp → Prop} (hl : H l = none) (hz : n ≤ sizeLine) (es : List α) (len : es.length = n)
    (P : Hp → V → α → Prop) (mono : ∀ v e H1 H2, Same H1 H2 → P H1 v e → P H2 v e) (put : ∀ v e H1 ys zs, H1 l = some (.lst ys) → P H1 v e → P (upd H1 l (.lst zs)) v e)
    (he : ∀ (i : Nat) e H' Q', i < n → es[i]? = some e → Same H H' → (∀ v H2, Same H' H2 → P H2 v e → Q' v H2) → te (some (.int (lo + i)) :: capts σ ix) H' Q')
    (fin : ∀ ys H', Same H H' → H' l = some (.lst ys) → LL (P H') ys es → R H') :
    ∃ W : Nat → Nat → List V → Hp → Prop, (∃ m, W 0 m [] (upd H l (.lst []))) ∧ Turns ix te σ (Itr lo n) l R W := by
  refine ⟨fun i m ys H' => m = n - i ∧ i ≤ n ∧ LL (P H') ys (es.take i) ∧ Same H H' ∧ H' l = some (.lst ys), ⟨n, by simp, Nat.zero_le _, .nil, same_new hl _, upd_same⟩, ?_⟩
  rintro i m ys H' ⟨rfl, hi, hp, sH, hL⟩
  refine ⟨hL, ?_⟩
  by_cases hlt : i < n
  · have yl := hp.length
    rw [List.length_take] at yl
    refine .inr ⟨hlt, by omega, fun x H2 y => ?_⟩
    obtain ⟨rfl, rfl⟩ := y
    have eP : es[i]? = some (es[i]'(by omega)) := List.getElem?_eq_getElem (by omega)
    generalize es[i]'(by omega) = e at eP
    refine he i e _ _ hlt eP sH fun v H3 s3 hv => ⟨s3 _ _ hL, n - (i + 1), by omega, rfl, hlt, ?_, same_put (sH.trans s3) hl, upd_same⟩
    rw [List.take_add_one, eP]
    exact (hp.imp fun v e q => put v e H3 ys _ (s3 _ _ hL) (mono v e _ _ s3 q)).push (put v e H3 ys _ (s3 _ _ hL) hv)
  · rw [List.take_of_length_le (by omega)] at hp
    exact .inl ⟨by show n ≤ i; omega, fin ys H' sH hL hp⟩
end L2
/-! statements: rows of seven -/
namespace L2
open PySem PySem.Spec PyProof.Rows
end L2
/-! What flows are worth; no Python here. -/
namespace Wth
def term (a last : Int) (s : Int × Int) : Int := s.2 * 1000000 ^ s.1.toNat * (1000000 + a) ^ (last - s.1).toNat
def sum (a last : Int) : List (Int × Int) → Int
  | [] => 0
  | s :: l => term a last s + sum a last l
theorem sum_append (a last : Int) : ∀ l l' : List (Int × Int), sum a last (l ++ l') = sum a last l + sum a last l'
  | [], l' => by simp [sum]
  | s :: l, l' => by simp only [List.cons_append, sum, sum_append a last l l']; omega
theorem term_shift {a m m' : Int} {s : Int × Int} (h : s.1 ≤ m) (h' : m ≤ m') : term a m' s = term a m s * (1000000 + a) ^ (m' - m).toNat := by
  unfold term
  rw [show (m' - s.1).toNat = (m - s.1).toNat + (m' - m).toNat by omega, Int.pow_add, ← Int.mul_assoc]
theorem sum_shift {a m m' : Int} (h' : m ≤ m') : ∀ {l : List (Int × Int)}, (∀ s ∈ l, s.1 ≤ m) → sum a m' l = sum a m l * (1000000 + a) ^ (m' - m).toNat
  | [], _ => by simp [sum]
  | s :: l, h => by
    simp only [sum]
    rw [term_shift (h s (by simp)) h', sum_shift h' (fun t ht => h t (List.mem_cons_of_mem _ ht)), Int.add_mul]
/-- one step on -/
theorem sum_step {a m : Int} {l : List (Int × Int)} {s : Int × Int} (h : ∀ t ∈ l, t.1 ≤ m) (h' : m ≤ s.1) :
    sum a s.1 (l ++ [s]) = sum a m l * (1000000 + a) ^ (s.1 - m).toNat + s.2 * 1000000 ^ s.1.toNat := by
  rw [sum_append, sum_shift h' h]
  simp [sum, term]
theorem pow_step {m m' : Int} (h0 : 0 ≤ m) (h : m ≤ m') : (1000000 : Int) ^ m.toNat * 1000000 ^ (m' - m).toNat = 1000000 ^ m'.toNat := by
  rw [← Int.pow_add, show m.toNat + (m' - m).toNat = m'.toNat by omega]
/-! bounds -/
theorem natAbs_pow (a : Int) : ∀ n : Nat, (a ^ n).natAbs = a.natAbs ^ n
  | 0 => by simp
  | n + 1 => by rw [Int.pow_succ, Int.natAbs_mul, natAbs_pow a n, Nat.pow_succ]
theorem pow_lt {a : Int} {k : Nat} (h : a.natAbs ≤ 2 ^ k) (n : Nat) : (a ^ n).natAbs ≤ 2 ^ (k * n) := by
  rw [natAbs_pow, Nat.pow_mul]
  exact Nat.pow_le_pow_left h n
theorem term_le {a last : Int} {s : Int × Int} {B : Nat} (ha : 0 ≤ a) (ha' : a ≤ 1000001) (h0 : 0 ≤ s.1) (h1 : s.1 ≤ last) (hB : s.2.natAbs ≤ 2 ^ B) : (term a last s).natAbs ≤ 2 ^ (B + 21 * last.toNat) := by
  unfold term
  rw [Int.natAbs_mul, Int.natAbs_mul, show B + 21 * last.toNat = B + 21 * s.1.toNat + 21 * (last - s.1).toNat by omega, Nat.pow_add, Nat.pow_add]
  refine Nat.mul_le_mul (Nat.mul_le_mul hB (pow_lt ?_ _)) (pow_lt ?_ _)
  · decide
  · have : ((2 : Nat) ^ 21) = 2097152 := by decide
    omega
theorem sum_le {a last : Int} {B : Nat} (ha : 0 ≤ a) (ha' : a ≤ 1000001) : ∀ {l : List (Int × Int)}, (∀ s ∈ l, 0 ≤ s.1 ∧ s.1 ≤ last ∧ s.2.natAbs ≤ 2 ^ B) → (sum a last l).natAbs ≤ l.length * 2 ^ (B + 21 * last.toNat)
  | [], _ => by simp [sum]
  | s :: l, h => by
    have h1 := h s (by simp)
    have h2 := sum_le ha ha' (last := last) (B := B) (l := l) fun t ht => h t (List.mem_cons_of_mem _ ht)
    have h3 := term_le ha ha' h1.1 h1.2.1 h1.2.2
    simp only [sum, List.length_cons, Nat.add_mul, Nat.one_mul]
    refine Nat.le_trans (Int.natAbs_add_le _ _) ?_
    omega
theorem sum_small {a last : Int} {B : Nat} (ha : 0 ≤ a) (ha' : a ≤ 1000001) (hl : last ≤ 460) {l : List (Int × Int)} (ll : l.length ≤ 512) (h : ∀ s ∈ l, 0 ≤ s.1 ∧ s.1 ≤ last ∧ s.2.natAbs ≤ 2 ^ B) : (sum a last l).natAbs ≤ 2 ^ (9 + (B + 9660)) := by
  refine Nat.le_trans (sum_le ha ha' h) ?_
  rw [Nat.pow_add 2 9]
  refine Nat.mul_le_mul (by simpa using ll) (Nat.pow_le_pow_right (by decide) ?_)
  omega
/-- by squares -/
structure Sq (base many t q r : Int) (e f : Nat) : Prop where
  r0 : 0 ≤ r
  eq : q = base ^ e
  et : t = base ^ f
  sm : (f : Int) + e * r = many
theorem Sq.first {base many : Int} (h : 0 ≤ many) : Sq base many 1 base many 1 0 := ⟨h, by rw [Int.pow_succ, Int.pow_zero, Int.one_mul], by rw [Int.pow_zero], by simp⟩
theorem Sq.odd {base many t q r : Int} {e f : Nat} (S : Sq base many t q r e f) (h : 0 < r) (h1 : r % 2 = 1) : Sq base many (t * q) (q * q) (r / 2) (e + e) (f + e) := by
  refine ⟨by omega, by rw [S.eq, Int.pow_add], by rw [S.eq, S.et, Int.pow_add], ?_⟩
  rw [← S.sm]
  have e2 : r = 2 * (r / 2) + 1 := by omega
  generalize r / 2 = x at e2 ⊢
  subst e2
  rw [Int.natCast_add, Int.natCast_add, Int.mul_add, Int.add_mul, Int.mul_one]
  rw [show (e : Int) * (2 * x) = e * x + e * x by rw [Int.mul_comm 2 x, ← Int.mul_assoc]; omega]
  omega
theorem Sq.even {base many t q r : Int} {e f : Nat} (S : Sq base many t q r e f) (h : 0 < r) (h1 : ¬ r % 2 = 1) : Sq base many t (q * q) (r / 2) (e + e) f := by
  refine ⟨by omega, by rw [S.eq, Int.pow_add], S.et, ?_⟩
  rw [← S.sm]
  have e2 : r = 2 * (r / 2) := by omega
  generalize r / 2 = x at e2 ⊢
  subst e2
  rw [Int.natCast_add, Int.add_mul]
  rw [show (e : Int) * (2 * x) = e * x + e * x by rw [Int.mul_comm 2 x, ← Int.mul_assoc]; omega]
theorem Sq.last {base many t q r : Int} {e f : Nat} (S : Sq base many t q r e f) (h : ¬ 0 < r) : t = base ^ many.toNat := by
  have e0 : r = 0 := by have := S.r0; omega
  have sm := S.sm
  rw [e0, Int.mul_zero] at sm
  rw [S.et, show many.toNat = f by omega]
theorem Sq.le {base many t q r : Int} {e f : Nat} (S : Sq base many t q r e f) (h : 0 < r) : (e : Int) ≤ many ∧ (f : Int) ≤ many := by
  have sm := S.sm
  have : (e : Int) * 1 ≤ e * r := Int.mul_le_mul_of_nonneg_left (by omega) (by omega)
  constructor <;> omega
/-- the month ahead of a place -/
def mon (l : List (Int × Int)) : Nat → Int
  | 0 => 0
  | i + 1 => (l[i]?.map (·.1)).getD 0
/-- what flows are worth in their last month -/
def wth (a : Int) (l : List (Int × Int)) : Int := sum a (mon l l.length) l
theorem mon_at {l : List (Int × Int)} {i : Nat} {s : Int × Int} (h : l[i]? = some s) : mon l (i + 1) = s.1 := by
  simp [mon, h]
theorem mon_mem {l : List (Int × Int)} (nn : ∀ s ∈ l, 0 ≤ s.1 ∧ s.1 ≤ 460) : ∀ i, 0 ≤ mon l i ∧ mon l i ≤ 460
  | 0 => by simp [mon]
  | i + 1 => by
    cases e : l[i]? with
    | none => simp [mon, e]
    | some s => rw [mon_at e]; exact nn s (List.mem_of_getElem? e)
theorem get_up {l : List (Int × Int)} (up : l.Pairwise fun s t => s.1 < t.1) {i j : Nat} {s t : Int × Int} (hs : l[i]? = some s) (ht : l[j]? = some t) (ij : i < j) : s.1 < t.1 := by
  obtain ⟨hi, rfl⟩ := List.getElem?_eq_some_iff.mp hs
  obtain ⟨hj, rfl⟩ := List.getElem?_eq_some_iff.mp ht
  exact List.pairwise_iff_getElem.mp up i j hi hj ij
theorem mon_le {l : List (Int × Int)} (up : l.Pairwise fun s t => s.1 < t.1) (nn : ∀ s ∈ l, 0 ≤ s.1 ∧ s.1 ≤ 460) : ∀ {i : Nat} {s : Int × Int}, l[i]? = some s → mon l i ≤ s.1
  | 0, s, h => (nn s (List.mem_of_getElem? h)).1
  | i + 1, s, h => by
    have hi : i < l.length := by have := (List.getElem?_eq_some_iff.mp h).1; omega
    rw [mon_at (List.getElem?_eq_getElem hi)]
    exact Int.le_of_lt (get_up up (List.getElem?_eq_getElem hi) h (by omega))
theorem take_le {l : List (Int × Int)} (up : l.Pairwise fun s t => s.1 < t.1) : ∀ {i : Nat}, i ≤ l.length → ∀ t ∈ l.take i, t.1 ≤ mon l i
  | 0, _, t, h => by simp at h
  | i + 1, hi, t, h => by
    rw [mon_at (List.getElem?_eq_getElem (by omega : i < l.length))]
    obtain ⟨j, hj⟩ := List.mem_iff_getElem?.mp h
    have jl := (List.getElem?_eq_some_iff.mp hj).1
    rw [List.length_take] at jl
    rw [List.getElem?_take_of_lt (by omega)] at hj
    by_cases e : j = i
    · subst e
      rw [List.getElem?_eq_getElem (by omega : j < l.length)] at hj
      cases hj
      exact Int.le_refl _
    · exact Int.le_of_lt (get_up up hj (List.getElem?_eq_getElem (by omega : i < l.length)) (by omega))
theorem walk_step {a : Int} {l : List (Int × Int)} (up : l.Pairwise fun s t => s.1 < t.1) (nn : ∀ s ∈ l, 0 ≤ s.1 ∧ s.1 ≤ 460) {i : Nat} {s : Int × Int} (h : l[i]? = some s) :
    sum a (mon l (i + 1)) (l.take (i + 1)) = sum a (mon l i) (l.take i) * (1000000 + a) ^ (s.1 - mon l i).toNat + s.2 * 1000000 ^ s.1.toNat := by
  have hi : i < l.length := (List.getElem?_eq_some_iff.mp h).1
  rw [mon_at h, List.take_add_one, h]
  exact sum_step (take_le up (by omega)) (mon_le up nn h)
theorem walk_end (a : Int) (l : List (Int × Int)) : sum a (mon l l.length) (l.take l.length) = wth a l := by
  rw [List.take_length]; rfl
/-! where it is not below nought -/
end Wth
/-! What a loan costs: where the flows' worth turns; no Python here. -/
namespace Wth
/-- flows as they are taken -/
structure OkF (l : List (Int × Int)) : Prop where
  n2 : 2 ≤ l.length
  n3 : l.length ≤ 361
  up : l.Pairwise fun s t => s.1 < t.1
  nn : ∀ s ∈ l, 0 ≤ s.1 ∧ s.1 ≤ 360
  am : ∀ s ∈ l, -1000000000000000 ≤ s.2 ∧ s.2 ≤ 1000000000000000
  sg : ∃ l1 l2, l = l1 ++ l2 ∧ l1 ≠ [] ∧ l2 ≠ [] ∧ (∀ s ∈ l1, s.2 < 0) ∧ ∀ s ∈ l2, 0 < s.2
theorem OkF.ne {l : List (Int × Int)} (h : OkF l) : ∀ s ∈ l, s.2 ≠ 0 := fun s hs => by
  obtain ⟨l1, l2, rfl, _, _, h1, h2⟩ := h.sg
  rcases List.mem_append.mp hs with hs | hs
  · have := h1 s hs; omega
  · have := h2 s hs; omega
/-- what it costs -/
def CostIs (l : List (Int × Int)) (v : Int) : Prop := (0 ≤ v ∧ v ≤ 1000000) ∧ 0 ≤ wth v l ∧ (v = 1000000 ∨ wth (v + 1) l < 0)
end Wth
/-! ### rows of flows; what a loan costs, as a value -/
namespace L2
open PySem PySem.Spec PyProof.Rows
theorem rowsF_app {K : PySem.W.Frag} {H : Hp} {xs ys : List V} {l m : List (Int × Int)} (h : Rows2 K H xs l) (k : Rows2 K H ys m) : Rows2 K H (xs ++ ys) (l ++ m) := by
  induction h with
  | nil => exact k
  | cons a _ ih => exact .cons a ih
theorem rowsF_take {K : PySem.W.Frag} {H : Hp} {xs : List V} {l : List (Int × Int)} (h : Rows2 K H xs l) : ∀ n, Rows2 K H (xs.take n) (l.take n) := by
  induction h with
  | nil => intro n; simp; exact .nil
  | cons a _ ih =>
    intro n
    cases n with
    | zero => exact .nil
    | succ n => exact .cons a (ih n)
theorem rowsF_drop {K : PySem.W.Frag} {H : Hp} {xs : List V} {l : List (Int × Int)} (h : Rows2 K H xs l) : ∀ n, Rows2 K H (xs.drop n) (l.drop n) := by
  induction h with
  | nil => intro n; simp; exact .nil
  | cons a h ih =>
    intro n
    cases n with
    | zero => exact .cons a h
    | succ n => exact ih n
/-- what a loan costs, as it is told -/
def CostV (l : List (Int × Int)) (v : V) : Prop := (v = .non ∧ Wth.wth 0 l < 0) ∨ ∃ c, v = .int c ∧ 0 ≤ Wth.wth 0 l ∧ Wth.CostIs l c
end L2
namespace L2
open PySem PySem.Spec PyProof.Rows
/-! ### dict(xs) of more than 64 (OwnM's own text, its bound wider; to be put into OwnM) -/
section
variable {prog : Program} {w : World} {A : Around} {s : Shared} {R : Result → Shared → Prop}
theorem upd_loopW {d it p : Addr} {its : List Value} {l : List (Int × Int)} {h₁ : Heap} (hh : A.handled = none) (ndi : d ≠ it) (ndp : d ≠ p) (nip : it ≠ p) (len : its.length = l.length) (h64 : its.length < 4000)
    (hR : ∀ h' tk kvs, (∀ b o, b ≠ d → b ≠ it → h₁.get? b = some o → h'.get? b = some o) → h'.DictOf (intKind prog w) d kvs → KR kvs (dctI l) → R (.ok (.ret .none)) { s with heap := h', toks := tk }) :
    ∀ (k i : Nat) (h : Heap) (tk : Nat) (kvs : List (Int × Value)), its.length - i = k → i ≤ its.length → h.IsListIter it p i → h.IsList p its.toArray → (∀ j, j < its.length → SortT.PairAt h (its.getD j .none) (l.getD j (0, 0))) →
      h.DictOf (intKind prog w) d kvs → KR kvs ((l.take i).foldl (fun acc s => storedI acc s.1 s.2) []) → (∀ b o, b ≠ d → b ≠ it → h₁.get? b = some o → h.get? b = some o) →
      codeAny (model prog w) A (.builtin "dict.update.loop" ⟨[.ref d, .ref it, rawInt i, .none], []⟩) R { s with heap := h, toks := tk } := by
  intro k
  induction k with
  | zero =>
    intro i h tk kvs hk hi hit hl hp hd hkr hkeep
    have hin : i = its.length := by omega
    refine codeAny_builtin entry_upd_loop ?_
    rw [Around.under_plainId plain_upd_loop _]
    show wpAny _ A.in1 (pyNext (.ref it) >>= _) _ _ _
    refine wpAny_bind (wpAny_pyNext_list_end (s := { s with heap := h, toks := tk }) (A := A.in1) hh hit hl (by simp; omega) fun h' he => ?_)
    show wpAny _ _ (Builtin.Dict.addKeywords d [] >>= _) _ _ _
    refine wpAny_bind (wpAny_pure (wpAny_pure ?_))
    refine hR h' tk kvs (fun b o b1 b2 e => he b o b2 (hkeep b o b1 b2 e)) (dictOf_keep hd fun o e => he d o ndi e) ?_
    rw [hin, len, List.take_length] at hkr
    exact hkr
  | succ k ih =>
    intro i h tk kvs hk hi hit hl hp hd hkr hkeep
    have hlt : i < its.length := by omega
    obtain ⟨a, oa, n, t, u, ea, eo, oc, odt⟩ := hp i hlt
    have hx : its[i]? = some (.ref a) := by
      rw [List.getD_eq_getElem?_getD, List.getElem?_eq_getElem hlt] at ea
      rw [List.getElem?_eq_getElem hlt]
      exact congrArg some ea
    refine codeAny_builtin entry_upd_loop ?_
    rw [Around.under_plainId plain_upd_loop _]
    show wpAny _ A.in1 (pyNext (.ref it) >>= _) _ _ _
    refine wpAny_bind (wpAny_pyNext_list_item (s := { s with heap := h, toks := tk }) (A := A.in1) hit hl (x := .ref a) (by simpa using hx) fun h' hit' sb => ?_)
    have ait : a ≠ it := fun z => by
      obtain ⟨o, ho, hc, _⟩ := hit
      rw [z, ho] at eo
      cases eo
      rw [hc] at oc
      exact absurd oc (by decide)
    have ad : a ≠ d := fun z => by
      obtain ⟨o, es, ep, ho, hc, _⟩ := id hd
      rw [z, ho] at eo
      cases eo
      have := hc.1
      rw [this] at oc
      exact absurd oc (by decide)
    have eo' : h'.get? a = some oa := (sb.2 a ait).trans eo
    have hT : ({ s with heap := h', toks := tk } : Shared).TypeIs (.ref a) "tuple" := ⟨oa, eo', oc⟩
    have hd' : h'.DictOf (intKind prog w) d kvs := dictOf_keep hd fun o e => (sb.2 d ndi).trans e
    show wpAny _ _ (holding [Value.ref a] _ >>= _) _ _ _
    refine wpAny_bind (wpAny_holding ?_)
    refine wpAny_bind (wpAny_tryCatch ?_)
    unfold Builtin.Dict.pairItems
    refine wpAny_bind (wpAny_typeOf hT ?_)
    rw [if_pos (by decide)]
    refine wpAny_bind (wpAny_seqItems eo' odt ?_)
    refine wpAny_pure ?_
    show wpAny _ _ (holding [Value.int (l.getD i (0, 0)).1 t, Value.int (l.getD i (0, 0)).2 u] (dictSet d (Value.int (l.getD i (0, 0)).1 t) (Value.int (l.getD i (0, 0)).2 u))) _ _ _
    refine wpAny_holding ?_
    have kl := hkr.length
    have fl := fold_length (l.take i) []
    rw [List.length_take] at fl
    refine wpAny_dictSet_pairs (knd := intKind prog w) (k := (l.getD i (0, 0)).1) (by first | exact Value.isInt_int _ _ | (simp [intKind, Value.isInt]; done) | exact beq_self_eq_true _) hd' (fun h2 hd2 sb2 => ?_) (by rw [sizeLine_eq]; simp at fl; omega)
    refine wpAny_pure ⟨plainId_quiet plain_upd_loop _, ?_⟩
    have k2 : ∀ b o, b ≠ d → b ≠ it → h.get? b = some o → h2.get? b = some o := fun b o b1 b2 e => (sb2.2 b b1).trans ((sb.2 b b2).trans e)
    refine ih (i + 1) h2 _ _ (by omega) (by omega) (hit'.at fun o e => (sb2.2 it ndi.symm).trans e) ?_ (fun j hj => (hp j hj).keep fun b o eb e => k2 b o ?_ ?_ e) hd2 ?_ fun b o b1 b2 e => k2 b o b1 b2 (hkeep b o b1 b2 e)
    · obtain ⟨o, e, r⟩ := hl
      exact ⟨o, k2 p o ndp.symm nip.symm e, r⟩
    · intro z
      obtain ⟨b', o', n', t', u', e1, e2, e3, _⟩ := hp j hj
      rw [eb] at e1
      cases e1
      obtain ⟨od, es, ep, ho, hc, _⟩ := id hd
      rw [z, ho] at e2
      cases e2
      rw [hc.1] at e3
      exact absurd e3 (by decide)
    · intro z
      obtain ⟨b', o', n', t', u', e1, e2, e3, _⟩ := hp j hj
      rw [eb] at e1
      cases e1
      obtain ⟨oi, ho, hc, _⟩ := id hit
      rw [z, ho] at e2
      cases e2
      rw [hc] at e3
      exact absurd e3 (by decide)
    · have tk : l.take (i + 1) = l.take i ++ [l.getD i (0, 0)] := by
        rw [List.take_add_one, List.getElem?_eq_getElem (by omega), List.getD_eq_getElem?_getD, List.getElem?_eq_getElem (by omega)]
        rfl
      rw [tk, List.foldl_append]
      exact hkr.stored
theorem dict_of_pairsW {E : Value → Shared → Prop} {p : Addr} {its : List Value} {n : Nat} {l : List (Int × Int)} {Q : Value → Shared → Prop} (hh : A.handled = none) (hl : s.heap.get? p = some { cls := .type "list", dict := none, data := .seq its.toArray n, slots := #[] }) (len : its.length = l.length) (h64 : its.length < 4000)
    (hp : ∀ j, j < its.length → SortT.PairAt s.heap (its.getD j .none) (l.getD j (0, 0)))
    (h : ∀ h' tk kvs, (∀ b o, s.heap.get? b = some o → h'.get? b = some o) → h'.DictOf (intKind prog w) s.heap.objs.size kvs → KR kvs (dctI l) → Q (.ref s.heap.objs.size) { s with heap := h', toks := tk }) :
    wpAny (model prog w) A (call (.type "dict") [.ref p]) Q E s := by
  have hlt : p < s.heap.objs.size := Heap.lt_size hl
  refine callType_codes (Q₁ := fun obj s₁ => obj = .ref s.heap.objs.size ∧ s₁ = { s with heap := s.heap.push { cls := .type "dict", data := .dict #[] } }) F.kt_called_dict (F.kt_typeCall_dict_1 _) F.entry_dict_init (kt_code_dict_new _ ⟨rfl, rfl⟩) ?_
  rintro obj s₁ ⟨rfl, rfl⟩
  have hnew : (s.heap.push { cls := .type "dict", data := .dict #[] }).DictOf (intKind prog w) s.heap.objs.size [] := Heap.DictOf.new s.heap
  have hl1 : (s.heap.push { cls := .type "dict", data := .dict #[] }).get? p = some { cls := .type "list", dict := none, data := .seq its.toArray n, slots := #[] } := Heap.get?_push_of_some _ hl
  refine ⟨hnew.typeIs, F.args_dict_init_2 _ _, ?_⟩
  unfold Builtin.«dict.__init__»
  refine wpAny_bind ?_
  unfold Builtin.Dict.selfAndRest
  refine wpAny_bind (wpAny_notOrdered_dict hnew.typeIs ?_)
  show wpAny _ _ (pure (s.heap.objs.size, [Value.ref p])) _ _ _
  refine wpAny_pure ?_
  show wpAny _ _ (Builtin.Dict.updateFrom "dict.__init__" s.heap.objs.size (.ref p) [] .none) _ _ _
  unfold Builtin.Dict.updateFrom
  refine wpAny_bind (wpAny_typeOf (T := "list") ⟨_, hl1, rfl⟩ ?_)
  rw [if_pos (by decide)]
  refine wpAny_bind (no_keys_list (s := { s with heap := s.heap.push { cls := .type "dict", data := .dict #[] } }) hl1 hh fun h2 tk2 k2 => ?_)
  rw [if_pos (show (none : Option Value).isNone = true from rfl)]
  refine wpAny_bind (wpAny_rule ?_)
  have hl2 := k2 p _ hl1
  have hd2 := dictOf_keep (h' := h2) hnew fun o e => k2 _ o e
  have lt2 : s.heap.objs.size < h2.objs.size := by
    obtain ⟨o, es, ep, e, _⟩ := hd2
    exact Heap.lt_size e
  have hlL : h2.IsList p its.toArray := ⟨_, hl2, rfl, n, rfl⟩
  refine wpAny_bind (wpAny_pyIter_list hlL ?_)
  refine wpAny_pure ⟨plainId_quiet plain_upd_loop _, ?_⟩
  refine upd_loopW (s := s) (A := A.in1) (h₁ := h2) (d := s.heap.objs.size) (it := h2.objs.size) (p := p) (its := its) (l := l) hh (Nat.ne_of_lt lt2) (Nat.ne_of_gt hlt) (Nat.ne_of_gt (Nat.lt_trans hlt lt2)) len h64 (fun h' tk kvs kp hd' hkr => ?_)
    its.length 0 _ tk2 [] (Nat.sub_zero _) (Nat.zero_le _) ⟨_, Heap.get?_push_size _ rfl, rfl, rfl⟩ (hlL.push _) (fun j hj => (hp j hj).keep fun a o _ e => Heap.get?_push_of_some _ (k2 a o (Heap.get?_push_of_some _ e))) (dictOf_keep hd2 fun o e => Heap.get?_push_of_some _ e) .nil fun b o b1 b2 e => Heap.get?_push_of_some _ e
  refine ⟨rfl, h h' tk kvs (fun b o e => kp b o (Nat.ne_of_lt (Heap.lt_size e)) (Nat.ne_of_lt (Nat.lt_trans (Heap.lt_size e) lt2)) (k2 b o (Heap.get?_push_of_some _ e))) hd' hkr⟩
end
section
variable {X : Cx} {pins : List (Addr × Obj)} {σ : St} {H : Hp} {s : Shared}
theorem call_dictPW (hc : X.calm = true) : CallR X (.type "dict") (fun xs H Q => ∃ (p : Addr) (vs : List V) (l : List (Int × Int)), xs = [.ref p] ∧ H p = some (.lst vs) ∧ Rows2 X.K H vs l ∧ l.length < 4000 ∧
    ∀ (d : Addr) (H' : Hp), H d = none → Same H H' → H' d = some (DictO X.prog X.w d (dctI l)) → Q (.ref d) H') := by
  intro pins s σ H xs us Q I r h
  obtain ⟨p, vs, l, rfl, hp, hR, hl, q⟩ := h
  obtain ⟨u, rfl, rx⟩ := vals1 r
  cases rx
  obtain ⟨its, rv, pl, len, pr⟩ := rows_pair I (SqL.of hp) hR
  obtain ⟨z, its', n', rv', e'⟩ := (show ObjOk X.prog X.w H s.heap p (.lst vs) from I.hok p _ hp)
  obtain ⟨o, eo, oc, n, od⟩ := pl
  have ei : its = its' := by
    rw [e'] at eo
    cases eo
    have := od
    simpa using (Data.seq.inj this).1.symm
  subst ei
  have big : sysModules < s.heap.objs.size := Nat.lt_trans (by decide) (show mainGlobals < s.heap.objs.size from (I.mod.glob.keeps I.bk).lt)
  have lo : (s.heap.objs.size == sysModules) = false := beq_eq_false_iff_ne.mpr (Ne.symm (Nat.ne_of_lt big))
  refine dict_of_pairsW (I.ok.hd hc) e' len (by omega) pr fun h' tk kvs kp hd hkr => ?_
  refine ⟨.ref s.heap.objs.size, _, I.laid (o := DictO X.prog X.w s.heap.objs.size (dctI l)) kp (Nat.le_refl _) ⟨⟨lo, kvs, hd, hkr⟩, (let ⟨o, _, _, e, _⟩ := hd; ⟨o, e⟩), fun h1 h2 ⟨lo', kv, x, y⟩ e => ⟨lo', kv, dictOf_keep x e, y⟩⟩, rfl, q _ _ (I.hok.fresh (Nat.le_refl _)) (same_new (I.hok.fresh (Nat.le_refl _)) _) upd_same⟩
/-! ### isinstance of such a dict; such a dict and itself -/
theorem value_own {κ : Type} [DecidableEq κ] : ∀ {kvs : List (κ × Value)}, (kvs.map (·.1)).Nodup → ∀ p ∈ kvs, valueAt kvs p.1 = some p.2
  | [], _, p, h => by cases h
  | q :: kvs, nd, p, h => by
    rw [List.map_cons, List.nodup_cons] at nd
    unfold valueAt
    by_cases e : q.1 = p.1
    · rcases List.mem_cons.mp h with rfl | h
      · simp
      · exact absurd (List.mem_map.mpr ⟨p, h, e.symm⟩) nd.1
    · rcases List.mem_cons.mp h with rfl | h
      · exact absurd rfl e
      · have := value_own nd.2 p h
        unfold valueAt at this
        rw [List.find?_cons_of_neg (by simpa using e)]
        exact this
theorem hits_own {κ : Type} [DecidableEq κ] {A : Around} {s : Shared} {kvs : List (κ × Value)} : ∀ {r : List (κ × Value)}, (∀ p ∈ r, valueAt kvs p.1 = some p.2) → PySem.W.KeqHits A s kvs r true
  | [], _ => .nil
  | p :: r, h => .hit (e := true) (b := true) (h p (List.mem_cons_self ..)) (SeqAt.EqAt.same _) (hits_own fun q hq => h q (List.mem_cons_of_mem _ hq))
theorem pairs_any {P P' : Program} {w w' : World} {es : List DictEntry} {kvs : List (Int × Value)} (h : Pairs (intKind P w) es kvs) : Pairs (intKind P' w') es kvs := by
  induction h with
  | nil => exact .nil
  | cons a b _ ih => exact .cons a b ih
theorem dict_any {P P' : Program} {w w' : World} {h : Heap} {d : Addr} {kvs : List (Int × Value)} (x : h.DictOf (intKind P w) d kvs) : h.DictOf (intKind P' w') d kvs := by
  obtain ⟨o, es, ep, h1, h2, h3, hk, hp, nd⟩ := x
  exact ⟨o, es, ep, h1, h2, h3, hk, pairs_any hp, nd⟩
/-- a dict of whole numbers, whatever is in it -/
def IsDc (H : Hp) (d : Addr) : Prop := ∃ P w l, H d = some (DictO P w d l)
theorem call_isinstDX (K : PySem.W.Frag) (hK : X.K = K := by rfl) : CallR X (.builtin "isinstance") (fun xs H Q => ∃ x t n b, xs = [x, .ty n] ∧ (TyOf K H x t ∨ (t = .type "dict" ∧ ∃ d, x = .ref d ∧ IsDc H d)) ∧ PySem.W.kitOne K t (.type n) = some b ∧ Q (.bl b) H) := by
  subst hK
  intro pins s σ H xs us Q I r h
  obtain ⟨x, t, n, b, rfl, hx, e, q⟩ := h
  rcases hx with hx | ⟨rfl, d, rfl, P, w, l, hd⟩
  · exact call_isinst pins s σ H _ us Q I r ⟨x, t, n, b, rfl, hx, e, q⟩
  · obtain ⟨u, w', rfl, rx, rn⟩ := vals2 r
    cases rn
    cases (show u = Value.ref d from rx)
    obtain ⟨lo, kvs, ⟨o, es, ep, h1, h2, _⟩, _⟩ := (I.hok d _ hd).1
    exact PySem.W.kia_one PySem.W.kitx_dict I.kIn ⟨o, h1, h2.1⟩ e (fun z => nomatch z) fun tk => ⟨.bl b, H, I.tok tk, rfl, q⟩
theorem op_neDX (K : PySem.W.Frag) (hu : X.A.units + 64 < cLine) (hK : X.K = K := by rfl) : OpR X (compareOp .NotEq) (fun x y H Q => rNeD K x y H Q ∨ ∃ d, x = .ref d ∧ y = .ref d ∧ IsDc H d ∧ Q (.bl false) H) := by
  subst hK
  intro pins s σ H x y v u Q I rx ry h
  rcases h with h | ⟨d, rfl, rfl, ⟨P, w, l, hd⟩, q⟩
  · exact op_neD hu pins s σ H x y v u Q I rx ry h
  · cases (show v = Value.ref d from rx)
    cases (show u = Value.ref d from ry)
    obtain ⟨lo, kvs, hD, hkr⟩ := (I.hok d _ hd).1
    have hD : s.heap.DictOf (intKind X.prog X.w) d kvs := dict_any hD
    have nd : (kvs.map (·.1)).Nodup := by
      obtain ⟨o, es, ep, _, _, _, _, _, nd⟩ := hD
      exact nd
    refine PySem.W.keq_ne lo lo hD hD (by omega) (fun _ => hits_own (value_own nd)) ?_
    rw [show (!(kvs.length == kvs.length && true)) = false by simp]
    exact ⟨.bl false, H, I, rfl, q⟩
end
end L2
/-! ### things that may be flows, read as data -/
namespace L2
open PySem PySem.Spec PyProof.Rows
/-- a thing that is no container -/
inductive Sc : V → PyData → Prop
  | non : Sc .non .none
  | bl (b : Bool) : Sc (.bl b) (.bool b)
  | int (i : Int) : Sc (.int i) (.int i)
  | str (x : Str) : PyData.canLay0 (.str x) = true → Sc (.str x) (.str x)
/-- such a thing, or a row of them -/
inductive It1 (H : Hp) : V → PyData → Prop
  | sc {v : V} {d : PyData} : Sc v d → It1 H v d
  | tup {a : Addr} {xs : List V} {ds : List PyData} : H a = some (.tup xs) → LL Sc xs ds → It1 H (.ref a) (.tuple ds)
  | lst {a : Addr} {xs : List V} {ds : List PyData} : H a = some (.lst xs) → LL Sc xs ds → It1 H (.ref a) (.list ds)
/-- such a thing, or a row of these -/
inductive It2 (H : Hp) : V → PyData → Prop
  | one {v : V} {d : PyData} : It1 H v d → It2 H v d
  | tup {a : Addr} {xs : List V} {ds : List PyData} : H a = some (.tup xs) → LL (It1 H) xs ds → It2 H (.ref a) (.tuple ds)
  | lst {a : Addr} {xs : List V} {ds : List PyData} : H a = some (.lst xs) → LL (It1 H) xs ds → It2 H (.ref a) (.list ds)
theorem Sc.rd {K : PySem.W.Frag} {H : Hp} {v : V} {d : PyData} (h : Sc v d) : RdV K H v d := by
  cases h with
  | non => exact .non
  | bl b => exact .bl b
  | int i => exact .int i
  | str x _ => exact .str x
theorem LL.rds {K : PySem.W.Frag} {H : Hp} {R : V → PyData → Prop} (f : ∀ v d, R v d → RdV K H v d) {xs : List V} {ds : List PyData} (h : LL R xs ds) : RdVs K H xs ds := by
  induction h with
  | nil => exact .nil
  | cons h _ ih => exact .cons (f _ _ h) ih
theorem It1.rd {K : PySem.W.Frag} {H : Hp} {v : V} {d : PyData} (h : It1 H v d) : RdV K H v d := by
  cases h with
  | sc h => exact h.rd
  | tup e h => exact .tup (SqT.of e) (LL.rds (fun _ _ h => h.rd) h)
  | lst e h => exact .lst (SqL.of e) (LL.rds (fun _ _ h => h.rd) h)
theorem It2.rd {K : PySem.W.Frag} {H : Hp} {v : V} {d : PyData} (h : It2 H v d) : RdV K H v d := by
  cases h with
  | one h => exact h.rd
  | tup e h => exact .tup (SqT.of e) (LL.rds (fun _ _ h => h.rd) h)
  | lst e h => exact .lst (SqL.of e) (LL.rds (fun _ _ h => h.rd) h)
theorem It1.same {H H' : Hp} {v : V} {d : PyData} (h : It1 H v d) (s : Same H H') : It1 H' v d := by
  cases h with
  | sc h => exact .sc h
  | tup e h => exact .tup (s _ _ e) h
  | lst e h => exact .lst (s _ _ e) h
theorem It2.same {H H' : Hp} {v : V} {d : PyData} (h : It2 H v d) (s : Same H H') : It2 H' v d := by
  cases h with
  | one h => exact .one (h.same s)
  | tup e h => exact .tup (s _ _ e) (LL.imp (fun _ _ h => h.same s) h)
  | lst e h => exact .lst (s _ _ e) (LL.imp (fun _ _ h => h.same s) h)
/-- a flow -/
def FlowD (d : PyData) : Prop := ∃ m a : Int, d = .tuple [.int m, .int a] ∧ (0 ≤ m ∧ m ≤ 360) ∧ (-1000000000000000 ≤ a ∧ a ≤ 1000000000000000) ∧ a ≠ 0
/-- flows that have a cost -/
def FlowsD (d : PyData) : Prop := ∃ l : List (Int × Int), d = .list (l.map rowD) ∧ Wth.OkF l
theorem FlowsD.mem {ds : List PyData} (h : FlowsD (.list ds)) : ∀ d ∈ ds, FlowD d := fun d hd => by
  obtain ⟨l, e, O⟩ := h
  obtain rfl := PyData.list.inj e
  obtain ⟨s, hs, rfl⟩ := List.mem_map.mp hd
  exact ⟨s.1, s.2, rfl, O.nn s hs, O.am s hs, O.ne s hs⟩
theorem flows_rows {l : List (Int × Int)} (h : FlowsD (.list (l.map rowD))) : Wth.OkF l := by
  obtain ⟨r, e, O⟩ := h
  have e1 := PyData.list.inj e
  have : l = r := by
    clear O e
    induction l generalizing r with
    | nil => cases r with
      | nil => rfl
      | cons s r => cases e1
    | cons s l ih => cases r with
      | nil => cases e1
      | cons t r =>
        simp only [List.map_cons, List.cons.injEq] at e1
        obtain ⟨a, b⟩ := e1
        simp only [rowD, PyData.tuple.injEq, List.cons.injEq, PyData.int.injEq, and_true] at a
        rw [ih _ b, Prod.ext a.1 a.2]
  rw [this]; exact O
theorem rows_it {K : PySem.W.Frag} {H : Hp} {xs : List V} {l : List (Int × Int)} (h : Rows2 K H xs l) : LL (It1 H) xs (l.map rowD) := by
  induction h with
  | nil => exact .nil
  | cons h _ ih => exact .cons (.tup h (.cons (.int _) (.cons (.int _) .nil))) ih
theorem It2.view {K : PySem.W.Frag} {H : Hp} {v : V} {d : PyData} (h : It2 H v d) : (∃ a xs ds, v = .ref a ∧ H a = some (.lst xs) ∧ LL (It1 H) xs ds ∧ d = .list ds) ∨ ((∀ ds, d ≠ .list ds) ∧ ∃ t, TyOf K H v t ∧ PySem.W.kitOne K t (.type "list") = some false) := by
  cases h with
  | lst e h => exact .inl ⟨_, _, _, rfl, e, h, rfl⟩
  | tup e h => exact .inr ⟨(fun _ z => nomatch z), .type "tuple", TyOf.tup e, rfl⟩
  | one h =>
    cases h with
    | lst e h => exact .inl ⟨_, _, _, rfl, e, LL.imp (fun _ _ h => .sc h) h, rfl⟩
    | tup e h => exact .inr ⟨(fun _ z => nomatch z), .type "tuple", TyOf.tup e, rfl⟩
    | sc h =>
      cases h with
      | non => exact .inr ⟨(fun _ z => nomatch z), _, TyOf.non, rfl⟩
      | bl b => exact .inr ⟨(fun _ z => nomatch z), _, TyOf.bl b, rfl⟩
      | int i => exact .inr ⟨(fun _ z => nomatch z), _, TyOf.int i, rfl⟩
      | str x _ => exact .inr ⟨(fun _ z => nomatch z), _, TyOf.str x, rfl⟩
theorem bools_of {p : PyData → Prop} {ys : List V} {ds : List PyData} (h : LL (fun v e => ∃ b : Bool, v = .bl b ∧ (b = true ↔ p e)) ys ds) : ∃ bs : List Bool, ys = bs.map V.bl ∧ (bs.all id = true ↔ ∀ e ∈ ds, p e) := by
  induction h with
  | nil => exact ⟨[], rfl, by simp⟩
  | cons h _ ih =>
    obtain ⟨b, rfl, hb⟩ := h
    obtain ⟨bs, rfl, hs⟩ := ih
    refine ⟨b :: bs, rfl, ?_⟩
    rw [List.all_cons, Bool.and_eq_true, hs, List.forall_mem_cons]
    exact and_congr_left' hb
theorem flows_of {ds : List PyData} (h : ∀ d ∈ ds, FlowD d) : ∃ l : List (Int × Int), ds = l.map rowD ∧ ∀ s ∈ l, (0 ≤ s.1 ∧ s.1 ≤ 360) ∧ (-1000000000000000 ≤ s.2 ∧ s.2 ≤ 1000000000000000) ∧ s.2 ≠ 0 := by
  induction ds with
  | nil => exact ⟨[], rfl, fun s hs => nomatch hs⟩
  | cons d ds ih =>
    obtain ⟨l, rfl, hl⟩ := ih fun e he => h e (List.mem_cons_of_mem _ he)
    obtain ⟨m, a, rfl, hb⟩ := h d (List.mem_cons_self ..)
    refine ⟨(m, a) :: l, rfl, fun s hs => ?_⟩
    rcases List.mem_cons.mp hs with rfl | hs
    · exact hb
    · exact hl s hs
theorem it_row {H : Hp} {v : V} {s : Int × Int} (h : It1 H v (rowD s)) : ∃ a, v = .ref a ∧ H a = some (.tup [.int s.1, .int s.2]) := by
  unfold rowD at h
  cases h with
  | sc h => cases h
  | tup e h =>
    cases h with
    | cons h1 h => cases h with
      | cons h2 h => cases h; cases h1; cases h2; exact ⟨_, rfl, e⟩
theorem it_rows {K : PySem.W.Frag} {H : Hp} : ∀ {xs : List V} {l : List (Int × Int)}, LL (It1 H) xs (l.map rowD) → Rows2 K H xs l
  | xs, [], h => by cases h; exact .nil
  | [], s :: l, h => nomatch h
  | x :: xs, s :: l, h => by
    cases h with
    | cons h hl =>
      obtain ⟨a, rfl, e⟩ := it_row h
      exact .cons e (it_rows hl)
theorem eqvA_ints : ∀ a b : List Int, PyData.eqvAll (a.map PyData.int) (b.map PyData.int) = decide (a = b)
  | [], [] => by simp [PyData.eqvAll]
  | [], _ :: _ => by simp [PyData.eqvAll]
  | _ :: _, [] => by simp [PyData.eqvAll]
  | x :: a, y :: b => by
    rw [List.map_cons, List.map_cons, PyData.eqvAll, eqvA_ints a b, PyData.eqv, Bool.eq_iff_iff]
    simp
theorem eqvA_bools : ∀ a b : List Bool, PyData.eqvAll (a.map PyData.bool) (b.map PyData.bool) = decide (a = b)
  | [], [] => by simp [PyData.eqvAll]
  | [], _ :: _ => by simp [PyData.eqvAll]
  | _ :: _, [] => by simp [PyData.eqvAll]
  | x :: a, y :: b => by
    rw [List.map_cons, List.map_cons, PyData.eqvAll, eqvA_bools a b, PyData.eqv, Bool.eq_iff_iff]
    simp
theorem eqv_ints2 (a b : List Int) : PyData.eqv (.list (a.map PyData.int)) (.list (b.map PyData.int)) = decide (a = b) := by
  rw [PyData.eqv, eqvA_ints]
theorem eqv_bools2 (a b : List Bool) : PyData.eqv (.list (a.map PyData.bool)) (.list (b.map PyData.bool)) = decide (a = b) := by
  rw [PyData.eqv, eqvA_bools]
theorem sg_of {l : List (Int × Int)} {k m : Nat} (ne : ∀ s ∈ l, s.2 ≠ 0) (e : (l.map fun s => decide (s.2 > 0)) = List.replicate k false ++ List.replicate m true) (hk : 0 < k) (hm : 0 < m) : ∃ l1 l2, l = l1 ++ l2 ∧ l1 ≠ [] ∧ l2 ≠ [] ∧ (∀ s ∈ l1, s.2 < 0) ∧ ∀ s ∈ l2, 0 < s.2 := by
  have len : l.length = k + m := by
    have := congrArg List.length e
    simpa using this
  refine ⟨l.take k, l.drop k, (List.take_append_drop _ _).symm, fun z => ?_, fun z => ?_, fun s hs => ?_, fun s hs => ?_⟩
  · have := congrArg List.length z
    rw [List.length_take, List.length_nil] at this
    omega
  · have := congrArg List.length z
    rw [List.length_drop, List.length_nil] at this
    omega
  · have e1 := congrArg (List.take k) e
    rw [← List.map_take, List.take_append_of_le_length (by simp), List.take_of_length_le (l := List.replicate k false) (by simp)] at e1
    have : decide (s.2 > 0) ∈ (l.take k).map fun s => decide (s.2 > 0) := List.mem_map.mpr ⟨s, hs, rfl⟩
    rw [e1] at this
    have q := of_decide_eq_false (List.eq_of_mem_replicate this)
    have := ne s (List.mem_of_mem_take hs)
    omega
  · have e1 := congrArg (List.drop k) e
    rw [← List.map_drop, List.drop_append_of_le_length (by simp), List.drop_of_length_le (l := List.replicate k false) (by simp), List.nil_append] at e1
    have : decide (s.2 > 0) ∈ (l.drop k).map fun s => decide (s.2 > 0) := List.mem_map.mpr ⟨s, hs, rfl⟩
    rw [e1] at this
    exact of_decide_eq_true (List.eq_of_mem_replicate this)
theorem Sc.lay {v : V} {d : PyData} (h : Sc v d) : d.canLay0 = true ∧ d.depth = 0 := by
  cases h with
  | str x e => exact ⟨e, by simp [PyData.depth]⟩
  | _ => simp [PyData.canLay0, PyData.depth]
theorem LL.lay {R : V → PyData → Prop} {n : Nat} (f : ∀ v d, R v d → d.canLay0 = true ∧ d.depth ≤ n) {xs : List V} {ds : List PyData} (h : LL R xs ds) : PyData.canLayAll0 ds = true ∧ PyData.depthAll ds ≤ n := by
  induction h with
  | nil => simp [PyData.canLayAll0, PyData.depthAll]
  | cons h _ ih =>
    have := f _ _ h
    simp only [PyData.canLayAll0, PyData.depthAll, this.1, ih.1, Bool.and_self, true_and]
    omega
theorem It1.lay {H : Hp} {v : V} {d : PyData} (h : It1 H v d) : d.canLay0 = true ∧ d.depth ≤ 1 := by
  cases h with
  | sc h => have := h.lay; exact ⟨this.1, by omega⟩
  | tup e h =>
    have := LL.lay (n := 0) (fun _ _ h => by have := Sc.lay h; exact ⟨this.1, by omega⟩) h
    simp only [PyData.canLay0, PyData.depth]
    exact ⟨this.1, by omega⟩
  | lst e h =>
    have := LL.lay (n := 0) (fun _ _ h => by have := Sc.lay h; exact ⟨this.1, by omega⟩) h
    simp only [PyData.canLay0, PyData.depth]
    exact ⟨this.1, by omega⟩
theorem It2.shaped {H : Hp} {v : V} {d : PyData} (h : It2 H v d) : SeqAt.shaped d = true := by
  have : d.canLay0 = true ∧ d.depth ≤ 2 := by
    cases h with
    | one h => have := h.lay; exact ⟨this.1, by omega⟩
    | tup e h =>
      have := LL.lay (n := 1) (fun _ _ h => It1.lay h) h
      simp only [PyData.canLay0, PyData.depth]
      exact ⟨this.1, by omega⟩
    | lst e h =>
      have := LL.lay (n := 1) (fun _ _ h => It1.lay h) h
      simp only [PyData.canLay0, PyData.depth]
      exact ⟨this.1, by omega⟩
  simp only [SeqAt.shaped, this.1, Bool.true_and, decide_eq_true_eq]
  omega
/-- something that has no cost -/
def Bad (H : Hp) (v : V) : Prop := (∃ d, It2 H v d ∧ ¬ FlowsD d) ∨ ∃ a, v = .ref a ∧ IsDc H a
theorem IsDc.same {H H' : Hp} {a : Addr} (h : IsDc H a) (s : Same H H') : IsDc H' a := by
  obtain ⟨P, w, l, e⟩ := h
  exact ⟨P, w, l, s _ _ e⟩
theorem Bad.same {H H' : Hp} {v : V} (h : Bad H v) (s : Same H H') : Bad H' v := by
  rcases h with ⟨d, h, n⟩ | ⟨a, e, h⟩
  · exact .inl ⟨d, h.same s, n⟩
  · exact .inr ⟨a, e, h.same s⟩
theorem not_flows {d : PyData} (h : ∀ ds, d ≠ .list ds) : ¬ FlowsD d := fun ⟨l, e, _⟩ => h _ e
theorem bad_rows {K : PySem.W.Frag} {H : Hp} {a : Addr} {xs : List V} {l : List (Int × Int)} (e : H a = some (.lst xs)) (h : Rows2 K H xs l) (n : ¬ Wth.OkF l) : Bad H (.ref a) := .inl ⟨_, .lst e (rows_it h), fun z => n (flows_rows z)⟩
end L2
/-! the reading, step by step -/
theorem L2.us1 {α : Type} {P : List α → Prop} (h : ∀ a, P [a]) : ∀ us : List α, us.length = 1 → P us
  | [a], _ => h a
theorem L2.us2 {α : Type} {P : List α → Prop} (h : ∀ a b, P [a, b]) : ∀ us : List α, us.length = 2 → P us
  | [a, b], _ => h a b
theorem L2.us3 {α : Type} {P : List α → Prop} (h : ∀ a b c, P [a, b, c]) : ∀ us : List α, us.length = 3 → P us
  | [a, b, c], _ => h a b c
theorem L2.us4 {α : Type} {P : List α → Prop} (h : ∀ a b c d, P [a, b, c, d]) : ∀ us : List α, us.length = 4 → P us
  | [a, b, c, d], _ => h a b c d
theorem L2.us5 {α : Type} {P : List α → Prop} (h : ∀ a b c d e, P [a, b, c, d, e]) : ∀ us : List α, us.length = 5 → P us
  | [a, b, c, d, e], _ => h a b c d e
theorem L2.qb {Q : L2.VK} {H : L2.Hp} {a b : Bool} (h : Q (.bl a) H) (e : a = b) : Q (.bl b) H := e ▸ h
theorem L2.qi {Q : L2.VK} {H : L2.Hp} {a b : Int} (h : Q (.int a) H) (e : a = b) : Q (.int b) H := e ▸ h
local macro_rules | `(tactic| walk_at "cap") => `(tactic| repeat (first | exact trivial | refine ⟨⟨by first | exact Or.inl rfl | exact Or.inr rfl, by first | exact Or.inl rfl | exact Or.inr rfl, rfl⟩, ?_⟩))
local macro_rules | `(tactic| walk_at "sub") => `(tactic| repeat (first | exact trivial | refine ⟨rfl, ?_⟩))
local macro_rules | `(tactic| walk_at "has") => `(tactic| repeat (first | exact trivial | refine ⟨fun _ => ⟨_, rfl⟩, ?_⟩ | refine ⟨(fun z => by (rcases z with z | z <;> first | cases (show PySem.NameKind.local = PySem.NameKind.cell from z) | cases (show PySem.NameKind.local = PySem.NameKind.free from z) | cases (show PySem.NameKind.globalImplicit = PySem.NameKind.cell from z) | cases (show PySem.NameKind.globalImplicit = PySem.NameKind.free from z))), ?_⟩))
local macro_rules | `(tactic| walk_at "rd1") => `(tactic| first
  | with_reducible refine L2.iteT ?_
  | with_reducible refine L2.iteF ?_
  | refine ⟨_, rfl, ?_⟩
  | refine ⟨_, _, rfl, rfl, ?_⟩
  | refine ⟨_, _, rfl, ?_⟩
  | refine ⟨_, _, _, rfl, ?_⟩
  | refine ⟨rfl, ?_⟩
  | refine ⟨(⟨by decide, by decide⟩ : L2.CDiv _ _), ?_⟩
  | refine ⟨(show (0 : Int) < _ by first | decide | omega), ?_⟩
  | refine ⟨(⟨by decide, by decide, by decide⟩ : L2.CPow _ _), ?_⟩
  | refine ⟨(Or.inl ⟨by first | decide | omega, by first | decide | omega⟩ : L2.CMul _ _), ?_⟩
  | refine ⟨(Or.inr ⟨by first | decide | omega, by first | decide | omega⟩ : L2.CMul _ _), ?_⟩
  | refine ⟨_, _, rfl, .inl (by assumption), ?_⟩
  | refine ⟨_, _, _, _, rfl, rfl, L2.SqT.of (by assumption), rfl, ?_⟩
  | (refine ⟨_, _, _, _, rfl, (by assumption), (by first | omega | decide), (by first | omega | decide), (by first | omega | decide), ?_⟩; intro r' r0' r1')
  | (refine ⟨_, _, _, rfl, (by assumption), (by omega), (by omega), ?_⟩; intro r' r0' r1')
  | refine And.intro (by omega) ?_
  | refine And.intro (Nat.le_of_ble_eq_true rfl) ?_
  | with_reducible refine L2.iteNF ?_
  | with_reducible refine L2.iteNT ?_
  | with_reducible refine L2.ifI (fun _ => ?_) (fun _ => ?_)
  | with_reducible refine L2.ifNI (fun _ => ?_) (fun _ => ?_)
  | with_reducible refine L2.ifD (fun _ => ?_) (fun _ => ?_)
  | with_reducible refine L2.ifND (fun _ => ?_) (fun _ => ?_))
local macro_rules | `(tactic| walk_at "rd") => `(tactic| repeat' walk_at "rd1")
seal L2.PSs L2.PS L2.PE L2.PT L2.PA L2.PI L2.PG L2.PGs L2.PW L2.PC L2.PO
local macro_rules | `(tactic| walk_at "rd1") => `(tactic| first
  | with_reducible refine L2.ifST ?_
  | with_reducible refine L2.ifSF (by decide) ?_
  | with_reducible refine L2.ifSNT ?_
  | with_reducible refine L2.ifSNF (by decide) ?_
  | ((with_reducible refine And.intro (a := L2.CDivW _ _) ?_ ?_); (exact ⟨by first | decide | omega, by first | decide | omega⟩))
  | fail)
local macro_rules | `(tactic| walk_at "rd1") => `(tactic| ((with_reducible refine L2.sqG ?_); (first | (with_reducible refine L2.sqN10 ?_) | (with_reducible refine L2.sqN9 ?_) | (with_reducible refine L2.sqN8 ?_) | (with_reducible refine L2.sqN7 ?_) | (with_reducible refine L2.sqN6 ?_) | (with_reducible refine L2.sqN5 ?_) | (with_reducible refine L2.sqN4 ?_) | (with_reducible refine L2.sqN3 ?_) | (with_reducible refine L2.sqN2 ?_)); intros))
local macro_rules | `(tactic| walk_at "s1") => `(tactic| first | exact L2.us1 (fun _ => rfl) | exact L2.us2 (fun _ _ => rfl) | exact L2.us3 (fun _ _ _ => rfl) | exact L2.us4 (fun _ _ _ _ => rfl) | exact L2.us5 (fun _ _ _ _ _ => rfl) | k_is | rfl)
namespace My
open PySem L2
def top (i : Nat) : Stmt := PySem.Challenge.pw_loanroll_k76_no_flows.main.body.getD i (.Pass ⟨0, 0, 0, 0⟩)
structure Txt (K : PySem.W.Frag) (mg : Str → Option Value) : Prop where
  n_ValueError : mg "ValueError" = none
  n_all : mg "all" = none
  n_bool : mg "bool" = none
  n_dict : mg "dict" = none
  n_int : mg "int" = none
  n_isinstance : mg "isinstance" = none
  n_len : mg "len" = none
  n_list : mg "list" = none
  n_range : mg "range" = none
  n_set : mg "set" = none
  n_sorted : mg "sorted" = none
  n_tuple : mg "tuple" = none
  m_BadEntry : mg "BadEntry" = some (.ref (cA K "BadEntry"))
  m_LoanError : mg "LoanError" = some (.ref (cA K "LoanError"))
  m_NoDay : mg "NoDay" = some (.ref (cA K "NoDay"))
  m_NoDays : mg "NoDays" = some (.ref (cA K "NoDays"))
  m_NoFlow : mg "NoFlow" = some (.ref (cA K "NoFlow"))
  m_NoRow : mg "NoRow" = some (.ref (cA K "NoRow"))
  m_NoTerms : mg "NoTerms" = some (.ref (cA K "NoTerms"))
  m_NoText : mg "NoText" = some (.ref (cA K "NoText"))
  m_TooMany : mg "TooMany" = some (.ref (cA K "TooMany"))
  x_NoFlow : XK2 K (cA K "NoFlow")
  z_NoFlow : XK1 K (cA K "NoFlow")
  e_NoFlow_LoanError : PySem.W.exmOne K (.ref (cA K "NoFlow")) (.ref (cA K "LoanError")) = some true
  t_0 : PySem.W.kitAny K (.ref (cA K "NoFlow")) (((["BadEntry", "NoDay", "NoDays", "NoRow", "NoTerms", "NoText", "TooMany"] : List Str).map (cA K)).map Value.ref) = some false
  k_NoFlow_NoFlow : PySem.W.kitOne K (.ref (cA K "NoFlow")) (.ref (cA K "NoFlow")) = some true
  k_NoFlow_ValueError : PySem.W.kitOne K (.ref (cA K "NoFlow")) (.type "ValueError") = some true
  g_MILLION : ∃ t, mg "MILLION" = some (.int 1000000 t)
  g_MOST_FLOW : ∃ t, mg "MOST_FLOW" = some (.int 1000000000000000 t)
  g_MOST_MONTH : ∃ t, mg "MOST_MONTH" = some (.int 360 t)
abbrev s_is_whole : Stmt := top 11
abbrev s_power : Stmt := top 18
abbrev s__law_draw : Stmt := top 24
abbrev s__law_whole_odd : Stmt := top 28
abbrev s__law_flow_odd : Stmt := top 29
abbrev s_is_within : Stmt := top 13
abbrev s_worth : Stmt := top 19
abbrev s__law_cell : Stmt := top 25
abbrev s_is_flow : Stmt := top 20
abbrev s__law_flows : Stmt := top 26
abbrev s_are_flows : Stmt := top 21
abbrev s_cost : Stmt := top 22
abbrev s__law_refused : Stmt := top 27
abbrev s__law_taken : Stmt := top 30
abbrev s_law : Stmt := top 31
section
variable {P : Program} {w : World} {K : PySem.W.Frag} {mg : Str → Option Value} {base : Heap}
--@ is_whole
def sp_is_whole (K : PySem.W.Frag) : Sp := fun vs H Q _ => ∃ x T, vs = [x] ∧ IsKind K H x T ∧ Q (.bl (decide (T = "int"))) H
theorem sc_is_whole : FnScope ["thing"] ["thing"] (defScope s_is_whole) := ⟨rfl, rfl, rfl, by decide +kernel, rfl, by decide +kernel, by decide +kernel⟩
theorem d_is_whole (S : Src K mg "is_whole" s_is_whole ["thing"]) (T : Txt K mg)  : Def P w K mg base 1 "is_whole" ["thing"] (sp_is_whole K) := by
  refine S.ok sc_is_whole (fun vs H Q E h => ?_) (fun f cdv A outer s H vs Q E hr h => ?_)
  · obtain ⟨x, Tk, rfl, hk, h⟩ := h
    rfl
  obtain ⟨x, Tk, rfl, hk, h⟩ := h
  refine ⟨_, (pss_one (ps_ret (pe_and (pe_callB call_isinst rfl T.n_isinstance PyProof.Rows.boot_isinstance (pa_cons (pv 0) (pa_cons (pe_bltn (v := .ty "int") rfl T.n_int PyProof.Rows.boot_int rfl) pa_nil))) (pe_one (pe_not (pe_callB call_isinst rfl T.n_isinstance PyProof.Rows.boot_isinstance (pa_cons (pv 0) (pa_cons (pe_bltn (v := .ty "bool") rfl T.n_bool PyProof.Rows.boot_bool rfl) pa_nil)))))))), ?_⟩
  walk_at "rd"
  refine ⟨_, _, _, _, rfl, hk.1, kit_int hk.2, ?_⟩
  walk_at "rd"
  · refine ⟨_, _, _, _, rfl, hk.1, kit_bool hk.2, ?_⟩
    walk_at "rd"
    rename_i z
    exact qb h (by rcases z with rfl | rfl <;> decide)
  · rename_i z
    exact qb h (decide_eq_false fun q => z (.inl q))
--@ power
theorem mulOk_pow {a b : Int} {m n : Nat} (ha : a.natAbs ≤ 2 ^ m) (hb : b.natAbs ≤ 2 ^ n) (hm : m < 1000000) (hn : n < 1000000) : IntMulOk a b := by
  have bits : ∀ {x : Int} {k : Nat}, x.natAbs ≤ 2 ^ k → k < 1000000 → Builtin.Int.intBits x ≤ 2 ^ 20 := fun {x k} h hk => by
    unfold Builtin.Int.intBits
    split
    · exact Nat.zero_le _
    · rename_i z
      have h0 : x.natAbs ≠ 0 := by intro e; exact z (by simp [Int.natAbs_eq_zero.mp e])
      have l : x.natAbs.log2 < k + 1 := (Nat.log2_lt h0).mpr (Nat.lt_of_le_of_lt h (Nat.pow_lt_pow_right (by decide) (Nat.lt_succ_self k)))
      have : (2 : Nat) ^ 20 = 1048576 := by decide
      omega
  exact IntMulOk.of_bits (bits ha hm) (bits hb hn)
def sp_power (K : PySem.W.Frag) : Sp := fun vs H Q _ => ∃ b m : Int, vs = [.int b, .int m] ∧ b.natAbs ≤ 2 ^ 21 ∧ 0 ≤ m ∧ m ≤ 1000 ∧ Q (.int (b ^ m.toNat)) H
theorem sc_power : FnScope ["base", "many", "told", "square", "rest"] ["base", "many"] (defScope s_power) := ⟨rfl, rfl, rfl, by decide +kernel, rfl, by decide +kernel, by decide +kernel⟩
theorem d_power (S : Src K mg "power" s_power ["base", "many"]) (T : Txt K mg)  : Def P w K mg base 1 "power" ["base", "many"] (sp_power K) := by
  refine S.ok sc_power (fun vs H Q E h => ?_) (fun f cdv A outer s H vs Q E hr h => ?_)
  · obtain ⟨b, m, rfl, hb, m0, m1, h⟩ := h
    rfl
  obtain ⟨b, m, rfl, hb, m0, m1, h⟩ := h
  refine ⟨_, (pss_consN (ps_set (i := 2) sc_power.nd rfl (by first | exact Or.inl rfl | exact Or.inr rfl) pe_int)
      (pss_consN (ps_set (i := 3) sc_power.nd rfl (by first | exact Or.inl rfl | exact Or.inr rfl) (pv 0))
      (pss_consN (ps_set (i := 4) sc_power.nd rfl (by first | exact Or.inl rfl | exact Or.inr rfl) (pv 1))
      (pss_consN (ps_while PassesOwn.never (pt_cmpR op_gt (pv 4) pe_int (nomark _))
      (pss_consN (ps_if (pt_cmpR op_eq (pe_op op_mod (pv 4) pe_int) pe_int (nomark _))
      (pss_one (ps_set (i := 2) sc_power.nd rfl (by first | exact Or.inl rfl | exact Or.inr rfl) (pe_op op_mulW (pv 2) (pv 3))))
      pss_nil)
      (pss_consN (ps_set (i := 3) sc_power.nd rfl (by first | exact Or.inl rfl | exact Or.inr rfl) (pe_op op_mulW (pv 3) (pv 3)))
      (pss_one (ps_set (i := 4) sc_power.nd rfl (by first | exact Or.inl rfl | exact Or.inr rfl) (pe_op op_fdiv (pv 4) pe_int))))))
      (pss_one (ps_ret (pv 2))))))), ?_⟩
  walk_at "rd"
  refine ⟨fun n σ H' => H = H' ∧ ∃ (t q r : Int) (e f : Nat), σ = [some (.int b), some (.int m), some (.int t), some (.int q), some (.int r)] ∧ Wth.Sq b m t q r e f ∧ n = r.toNat, ⟨_, rfl, 1, b, m, 1, 0, rfl, Wth.Sq.first m0, rfl⟩, ?_⟩
  rintro n σ H' ⟨rfl, t, q, r, e, f, rfl, S, rfl⟩
  walk_at "rd"
  · rename_i z
    have sl := S.le z
    have be : q.natAbs ≤ 2 ^ (21 * e) := S.eq ▸ Wth.pow_lt hb e
    have bf : t.natAbs ≤ 2 ^ (21 * f) := S.et ▸ Wth.pow_lt hb f
    refine ⟨_, fun σ' H' z => z, ?_⟩
    walk_at "rd"
    · rename_i z2
      refine ⟨mulOk_pow bf be (by omega) (by omega), ?_⟩
      walk_at "rd"
      refine ⟨mulOk_pow be be (by omega) (by omega), ?_⟩
      walk_at "rd"
      exact ⟨(r / 2).toNat, by omega, rfl, _, _, _, _, _, rfl, S.odd z z2, rfl⟩
    · rename_i z2
      refine ⟨mulOk_pow be be (by omega) (by omega), ?_⟩
      walk_at "rd"
      exact ⟨(r / 2).toNat, by omega, rfl, _, _, _, _, _, rfl, S.even z z2, rfl⟩
  · rename_i z
    rw [S.last z]
    exact h
--@ _law_draw
/-- what is drawn, as a function of the script -/
def drawC (ns : List Int) (k : Int) : Int := if 0 < (ns.length : Int) then ns.getD (k % (ns.length : Int)).toNat 0 else 6
def drawR (c k : Int) : Int := (fun one : Int => (one + (one * one + 104729) % 998244353 * 69621) % 2147483647 / 7) ((c % 2147483647 + 7919) * (48271 + 2 * k * (k + 1009)) % 2147483647)
def drawF (ns : List Int) (k m : Int) : Int := if drawC ns k > 1000000000000000000 ∧ drawC ns k % 2 = 1 ∧ k < (ns.length : Int) then drawC ns k / 2 % m else drawR (drawC ns k) k % m
theorem drawF_in (ns : List Int) (k : Int) {m : Int} (h : 0 < m) : 0 ≤ drawF ns k m ∧ drawF ns k m < m := by
  unfold drawF
  split
  · exact ⟨Int.emod_nonneg _ (by omega), Int.emod_lt_of_pos _ h⟩
  · exact ⟨Int.emod_nonneg _ (by omega), Int.emod_lt_of_pos _ h⟩
def sp__law_draw (K : PySem.W.Frag) : Sp := fun vs H Q _ => L2.Ee4 fun (a : Addr) (ns : List Int) (k m : Int) => L2.Aa6 (vs = [.ref a, .int k, .int m]) (SqL K H a (ns.map V.int)) (0 ≤ k) (k ≤ 1000000) (0 < m) (∀ r, (r = drawF ns k m ∧ 0 ≤ r) → r < m → Q (.int r) H)
theorem sc__law_draw : FnScope ["_law_script", "_law_k", "_law_many", "_law_cell_here", "_law_one", "_law_other"] ["_law_script", "_law_k", "_law_many"] (defScope s__law_draw) := ⟨rfl, rfl, rfl, by decide +kernel, rfl, by decide +kernel, by decide +kernel⟩
theorem d__law_draw (S : Src K mg "_law_draw" s__law_draw ["_law_script", "_law_k", "_law_many"]) (T : Txt K mg)  : Def P w K mg base 1 "_law_draw" ["_law_script", "_law_k", "_law_many"] (sp__law_draw K) := by
  refine S.ok sc__law_draw (fun vs H Q E h => ?_) (fun f cdv A outer s H vs Q E hr h => ?_)
  · obtain ⟨a, ns, k, m, rfl, hS, h0, h1, hm, h⟩ := h
    rfl
  obtain ⟨a, ns, k, m, rfl, hS, h0, h1, hm, h⟩ := h
  refine ⟨_, (pss_consN (ps_set (i := 3) sc__law_draw.nd rfl (by first | exact Or.inl rfl | exact Or.inr rfl) pe_int)
      (pss_consN (ps_if (pt_cmpR op_gt (pe_callB call_len_seq rfl T.n_len PySem.boot_len (pa_cons (pv 0) pa_nil)) pe_int (nomark _))
      (pss_one (ps_set (i := 3) sc__law_draw.nd rfl (by first | exact Or.inl rfl | exact Or.inr rfl) (pe_ix ix_list (pv 0) (pe_op op_mod (pv 1) (pe_callB call_len_seq rfl T.n_len PySem.boot_len (pa_cons (pv 0) pa_nil))) (fun _ _ => rfl))))
      pss_nil)
      (pss_consN (ps_if (PW.pt (pw_and (pt_cmpR op_gt (pv 3) (pe_powc (v := 1000000000000000000) (by decide +kernel) ⟨by decide, by decide, by decide⟩) (nomark _)) (pw_and (pt_cmpR op_eq (pe_op op_mod (pv 3) pe_int) pe_int (nomark _)) (pw_and1 (pt_cmpR op_lt (pv 1) (pe_callB call_len_seq rfl T.n_len PySem.boot_len (pa_cons (pv 0) pa_nil)) (nomark _))))))
      (pss_one (ps_ret (pe_op op_mod (pe_op op_fdiv (pv 3) pe_int) (pv 2))))
      pss_nil)
      (pss_consN (ps_set (i := 4) sc__law_draw.nd rfl (by first | exact Or.inl rfl | exact Or.inr rfl) (pe_op op_mod (pe_op op_mul (pe_op op_add (pe_op op_mod (pv 3) pe_int) pe_int) (pe_op op_add pe_int (pe_op op_mul (pe_op op_mul pe_int (pv 1)) (pe_op op_add (pv 1) pe_int)))) pe_int))
      (pss_consN (ps_set (i := 5) sc__law_draw.nd rfl (by first | exact Or.inl rfl | exact Or.inr rfl) (pe_op op_mod (pe_op op_add (pe_op op_mul (pv 4) (pv 4)) pe_int) pe_int))
      (pss_one (ps_ret (pe_op op_mod (pe_op op_fdiv (pe_op op_mod (pe_op op_add (pv 4) (pe_op op_mul (pv 5) pe_int)) pe_int) pe_int) (pv 2))))))))), ?_⟩
  have h := h _ ⟨rfl, (drawF_in ns k hm).1⟩ (drawF_in ns k hm).2
  have el := List.length_map (f := V.int) (as := ns)
  walk_at "rd"
  · rename_i z
    have hl : 0 < (ns.length : Int) := by omega
    have e : k % ((ns.map V.int).length : Int) = k % (ns.length : Int) := by rw [List.length_map]
    have hc : drawC ns k = ns.getD (k % (ns.length : Int)).toNat 0 := if_pos hl
    refine ⟨a, _, _, _, rfl, rfl, hS, (by rw [e]; exact at_ints (Int.emod_nonneg k (by omega)) (Int.emod_lt_of_pos k hl)), ?_⟩
    rw [← hc]
    generalize hd : drawC ns k = c at *
    have hF : drawF ns k m = if c > 1000000000000000000 ∧ c % 2 = 1 ∧ k < (ns.length : Int) then c / 2 % m else drawR c k % m := by unfold drawF; rw [hd]
    walk_at "rd"
    all_goals
      refine qi h ?_
      rw [hF]
      first
        | (rw [if_pos ⟨by assumption, by assumption, by omega⟩])
        | (rw [if_neg (by rintro ⟨z1, z2, z3⟩; first | contradiction | omega)]; rfl)
  · rename_i z
    have hl : ¬ 0 < (ns.length : Int) := by omega
    have hc : drawC ns k = 6 := if_neg hl
    walk_at "rd"
    refine qi h ?_
    unfold drawF
    rw [hc, if_neg (by rintro ⟨z1, _⟩; omega)]
    rfl
--@ _law_whole_odd
def RowT (H : Hp) (v : V) (s : Int × Int) : Prop := ∃ t, v = .ref t ∧ H t = some (.tup [.int s.1, .int s.2])
theorem rowT_same {H H' : Hp} {v : V} {s : Int × Int} (h : RowT H v s) (k : Same H H') : RowT H' v s := by
  obtain ⟨t, e1, e2⟩ := h
  exact ⟨t, e1, k _ _ e2⟩
theorem rowT_put {H : Hp} {v : V} {s : Int × Int} {l : Addr} {ys zs : List V} (h : RowT H v s) (hL : H l = some (.lst ys)) : RowT (upd H l (.lst zs)) v s := by
  obtain ⟨t, e1, e2⟩ := h
  exact ⟨t, e1, by rw [upd_ne (ne_of e2 hL (by intro z; cases z))]; exact e2⟩
theorem rowT_rows {K : PySem.W.Frag} {H : Hp} {ys : List V} {l : List (Int × Int)} (h : LL (RowT H) ys l) : Rows2 K H ys l := by
  induction h with
  | nil => exact .nil
  | cons h _ ih =>
    obtain ⟨t, rfl, ht⟩ := h
    exact .cons ht ih
theorem not_ok_out {l : List (Int × Int)} : ¬ Wth.OkF (l.filter fun s => decide (s.2 < 0)) := fun O => by
  obtain ⟨a, b, e, _, nb, _, h2⟩ := O.sg
  obtain ⟨s, b', rfl⟩ := List.exists_cons_of_ne_nil nb
  have m : s ∈ l.filter fun s => decide (s.2 < 0) := by rw [e]; simp
  have q := of_decide_eq_true (List.mem_filter.mp m).2
  have := h2 s (by simp)
  omega
theorem not_ok_in {l : List (Int × Int)} : ¬ Wth.OkF (l.filter fun s => decide (s.2 > 0)) := fun O => by
  obtain ⟨a, b, e, na, _, h1, _⟩ := O.sg
  obtain ⟨s, a', rfl⟩ := List.exists_cons_of_ne_nil na
  have m : s ∈ l.filter fun s => decide (s.2 > 0) := by rw [e]; simp
  have q := of_decide_eq_true (List.mem_filter.mp m).2
  have := h1 s (by simp)
  omega
theorem not_ok_turned {l : List (Int × Int)} (O : Wth.OkF l) : ¬ Wth.OkF (l.map fun s => (s.1, 0 - s.2)) := fun O' => by
  obtain ⟨a, b, rfl, na, _, h1, _⟩ := O.sg
  obtain ⟨c, d, e, nc, _, h1', _⟩ := O'.sg
  obtain ⟨s, a', rfl⟩ := List.exists_cons_of_ne_nil na
  obtain ⟨t, c', rfl⟩ := List.exists_cons_of_ne_nil nc
  rw [List.cons_append, List.map_cons, List.cons_append] at e
  have e := (List.cons.inj e).1
  have p := h1 s (by simp)
  have q := h1' t (by simp)
  rw [← e] at q
  have q : 0 - s.2 < 0 := q
  omega
theorem not_ok_more {l : List (Int × Int)} {s t : Int × Int} (O : Wth.OkF l) (hs : s.2 < 0) : ¬ Wth.OkF (l ++ [s, t]) := fun O' => by
  obtain ⟨a, b, rfl, _, nb, _, h2⟩ := O.sg
  obtain ⟨c, d, e, _, _, h1', h2'⟩ := O'.sg
  have eb := List.dropLast_concat_getLast nb
  have p := h2 (b.getLast nb) (List.getLast_mem nb)
  generalize b.getLast nb = u at eb p
  -- where the turn of the longer one lies
  have hu : (c ++ d)[(a ++ b).length - 1]? = some u := by
    rw [← e, List.getElem?_append_left (by rw [List.length_append, ← eb]; simp), ← eb, ← List.append_assoc, List.getElem?_append_right (by simp)]
    simp
  have hv : (c ++ d)[(a ++ b).length]? = some s := by
    rw [← e, List.getElem?_append_right (Nat.le_refl _), Nat.sub_self]; rfl
  have l0 : 0 < (a ++ b).length := by rw [← eb]; simp; omega
  have hc : c.length ≤ (a ++ b).length - 1 := by
    by_cases z : (a ++ b).length - 1 < c.length
    · rw [List.getElem?_append_left z] at hu
      have := h1' u (List.mem_of_getElem? hu)
      omega
    · omega
  rw [List.getElem?_append_right (by omega)] at hv
  have := h2' s (List.mem_of_getElem? hv)
  omega
theorem str_flows_ok : PyData.canLay0 (.str "flows") = true := by decide +kernel
def sp__law_whole_odd (K : PySem.W.Frag) : Sp := fun vs H Q _ => L2.Ee4 fun (p : Addr) (xs : List V) (l : List (Int × Int)) (c : Int) => L2.Aa6 (vs = [.ref p, .int c]) (H p = some (.lst xs)) (Rows2 K H xs l) (Wth.OkF l) (0 ≤ c) (∀ (v : V) (H' : Hp), Same H H' → Bad H' v → Q v H')
theorem sc__law_whole_odd : FnScope ["_law_flows_here", "_law_cell_here", "_law_outs", "_law_ins", "_law_turned", "_law_many", "_law_some", "_law_last"] ["_law_flows_here", "_law_cell_here"] (defScope s__law_whole_odd) := ⟨rfl, rfl, rfl, by decide +kernel, rfl, by decide +kernel, by decide +kernel⟩
theorem d__law_whole_odd (S : Src K mg "_law_whole_odd" s__law_whole_odd ["_law_flows_here", "_law_cell_here"]) (T : Txt K mg)  : Def P w K mg base 1 "_law_whole_odd" ["_law_flows_here", "_law_cell_here"] (sp__law_whole_odd K) := by
  refine S.ok sc__law_whole_odd (fun vs H Q E h => ?_) (fun f cdv A outer s H vs Q E hr h => ?_)
  · obtain ⟨p, xs, l, c, rfl, eP, hR, O, c0, h⟩ := h
    rfl
  obtain ⟨p, xs, l, c, rfl, eP, hR, O, c0, h⟩ := h
  refine ⟨_, (pss_consN (ps_setcIf (i := 2) sc__law_whole_odd.nd rfl rfl (ix := []) ⟨rfl, by decide +kernel, rfl, by decide +kernel, rfl, (show (["_law_flow"] : List Str).Nodup by decide +kernel), by walk_at "cap", by walk_at "sub", by walk_at "has"⟩ (pi_list (pv 0)) (fun b => (pt_cmpR op_lt (pe_ix (ix_tupK K) (pv 0) pe_int (fun _ _ => rfl)) pe_int (nomark _))) (fun b => (pv 0)))
      (pss_consN (ps_setcIf (i := 3) sc__law_whole_odd.nd rfl rfl (ix := []) ⟨rfl, by decide +kernel, rfl, by decide +kernel, rfl, (show (["_law_flow"] : List Str).Nodup by decide +kernel), by walk_at "cap", by walk_at "sub", by walk_at "has"⟩ (pi_list (pv 0)) (fun b => (pt_cmpR op_gt (pe_ix (ix_tupK K) (pv 0) pe_int (fun _ _ => rfl)) pe_int (nomark _))) (fun b => (pv 0)))
      (pss_consN (ps_setc2 (i := 4) sc__law_whole_odd.nd rfl rfl (ix := []) ⟨rfl, by decide +kernel, rfl, by decide +kernel, rfl, rfl,  (show (["_law_month", "_law_amount"] : List Str).Nodup by decide +kernel), by walk_at "cap", by walk_at "sub", by walk_at "has"⟩ (pi_list (pv 0)) (fun b => (pe_tup (pa_cons (pv 0) (pa_cons (pe_op op_sub pe_int (pv 1)) pa_nil)))))
      (pss_consN (ps_setc (i := 5) sc__law_whole_odd.nd rfl rfl (ix := []) ⟨rfl, by decide +kernel, rfl, by decide +kernel, rfl, (show (["_law_month"] : List Str).Nodup by decide +kernel), by walk_at "cap", by walk_at "sub", by walk_at "has"⟩ (pi_range1 rfl T.n_range (pa_cons pe_int pa_nil)) (fun b => (pe_tup (pa_cons (pv 0) (pa_cons (pe_op op_sub (pe_op op_mul (pv 0) pe_int) pe_int) pa_nil)))))
      (pss_consN (ps_set (i := 6) sc__law_whole_odd.nd rfl (by first | exact Or.inl rfl | exact Or.inr rfl) (pe_lst (pa_cons (pe_callTy call_tuple_of rfl T.n_tuple PyProof.Rows.boot_tuple (pa_cons (pv 0) pa_nil)) (pa_cons pe_str (pa_cons pe_non (pa_cons pe_int (pa_cons (pe_slice sl_list (pv 0) po_none (po_some pe_int)) (pa_cons (pe_lst pa_nil) (pa_cons (pv 5) (pa_cons (pv 2) (pa_cons (pv 3) (pa_cons (pv 4) (pa_cons (pe_callTy (call_dictPW rfl) rfl T.n_dict PyProof.Rows.boot_dict (pa_cons (pv 0) pa_nil)) pa_nil)))))))))))))
      (pss_consN (ps_set (i := 7) sc__law_whole_odd.nd rfl (by first | exact Or.inl rfl | exact Or.inr rfl) (pe_ix ix_tup (pe_ix ix_list (pv 0) (pe_un un_neg pe_int) (fun _ _ => rfl)) pe_int (fun _ _ => rfl)))
      (pss_consN (ps_expr (pe_bm PySem.F.plainAttrs_list PySem.F.slot_list_append PySem.F.type_list_append mt_append (pv 6) (pa_cons (pe_op op_cat (pv 0) (pe_lst (pa_cons (pe_tup (pa_cons (pe_op op_add (pv 7) pe_int) (pa_cons (pe_op op_sub (pe_un un_neg pe_int) (pe_op op_mod (pv 1) pe_int)) pa_nil))) (pa_cons (pe_tup (pa_cons (pe_op op_add (pv 7) pe_int) (pa_cons (pe_op op_add pe_int (pe_op op_mod (pv 1) pe_int)) pa_nil))) pa_nil)))) pa_nil)))
      (pss_one (ps_ret (pe_ix ix_list (pv 6) (pe_op op_mod (pe_op op_fdiv (pv 1) pe_int) pe_int) (fun _ _ => rfl))))))))))), ?_⟩
  have sz := sizeLine_eq
  have xl := hR.length
  have n2 := O.n2
  have n3 := O.n3
  walk_at "rd"
  refine ⟨⟨_, SqL.of eP⟩, fun o1 no1 => ?_⟩
  refine comp_sel (walk_list (SqL.of eP)) no1 (by omega) l xl.symm (fun s => decide (s.2 < 0)) RowT (fun v e H1 H2 s q => rowT_same q s) (fun v e H1 ys zs hL q => rowT_put q hL) ?_ ?_ ?_
  · rintro i x s H' Q' hx hs sH hq
    obtain ⟨t, s', rfl, hs', ht⟩ := (hR.same sH).get hx
    obtain rfl : s' = s := Option.some.inj (hs'.symm.trans hs)
    walk_at "rd"
    exact hq
  · rintro i x s H' Q' hx hs _ sH hq
    obtain ⟨t, s', rfl, hs', ht⟩ := (hR.same sH).get hx
    obtain rfl : s' = s := Option.some.inj (hs'.symm.trans hs)
    walk_at "rd"
    exact hq _ _ (Same.refl _) ⟨t, rfl, ht⟩
  rintro ys1 H1 s1 e1 hL1
  have b1 : Bad H1 (.ref o1) := bad_rows e1 (rowT_rows (K := K) hL1) not_ok_out
  have eP1 := s1 _ _ eP
  have hR1 := hR.same s1
  walk_at "rd"
  refine ⟨⟨_, SqL.of eP1⟩, fun o2 no2 => ?_⟩
  refine comp_sel (walk_list (SqL.of eP1)) no2 (by omega) l xl.symm (fun s => decide (s.2 > 0)) RowT (fun v e H1 H2 s q => rowT_same q s) (fun v e H1 ys zs hL q => rowT_put q hL) ?_ ?_ ?_
  · rintro i x s H' Q' hx hs sH hq
    obtain ⟨t, s', rfl, hs', ht⟩ := (hR1.same sH).get hx
    obtain rfl : s' = s := Option.some.inj (hs'.symm.trans hs)
    walk_at "rd"
    exact hq
  · rintro i x s H' Q' hx hs _ sH hq
    obtain ⟨t, s', rfl, hs', ht⟩ := (hR1.same sH).get hx
    obtain rfl : s' = s := Option.some.inj (hs'.symm.trans hs)
    walk_at "rd"
    exact hq _ _ (Same.refl _) ⟨t, rfl, ht⟩
  rintro ys2 H2 s2 e2 hL2
  have b2 : Bad H2 (.ref o2) := bad_rows e2 (rowT_rows (K := K) hL2) not_ok_in
  have eP2 := s2 _ _ eP1
  have hR2 := hR1.same s2
  walk_at "rd"
  refine ⟨⟨_, SqL.of eP2⟩, fun o3 no3 => ?_⟩
  refine comp_any2 (pr := l.map fun s => (V.int s.1, V.int s.2)) (walk_list (SqL.of eP2)) ?_ no3 (by omega) (fun i v H' => ∃ s, l[i]? = some s ∧ RowT H' v (s.1, 0 - s.2)) (fun i v H1 H2 ss ⟨s, es, h⟩ => ⟨s, es, rowT_same h ss⟩) (fun i v H1 ys zs hl ⟨s, es, h⟩ => ⟨s, es, rowT_put h hl⟩) ?_ ?_
  · intro i x hx
    obtain ⟨p, s, rfl, e, ht⟩ := hR2.get hx
    exact ⟨p, _, _, rfl, ht, by rw [List.getElem?_map, e]; rfl⟩
  · intro i v1 v2 H' Q' epr sH hq
    rw [List.getElem?_map] at epr
    obtain ⟨s, hs, e⟩ := Option.map_eq_some_iff.mp epr
    cases e
    walk_at "rd"
    intro u nu
    exact hq _ _ (same_new nu _) ⟨s, hs, u, rfl, upd_same⟩
  intro ys3 H3 s3 e3 yl3 hz3
  have r3 : Rows2 K H3 ys3 (l.map fun s => (s.1, 0 - s.2)) := rows_by (by rw [yl3, List.length_map, xl]) fun j v s h1 h2 => by
    obtain ⟨s', es, u, e, hu⟩ := hz3 j v h1
    rw [List.getElem?_map, es] at h2
    cases h2
    exact ⟨u, e, hu⟩
  have b3 : Bad H3 (.ref o3) := bad_rows e3 r3 (not_ok_turned O)
  have eP3 := s3 _ _ eP2
  have hR3 := hR2.same s3
  walk_at "rd"
  intro o4 no4
  refine comp_rngM no4 (by rw [sz]; decide) ((List.range 362).map fun j : Nat => ((0 + (j : Int)), (0 + (j : Int)) * 2 - 1)) (by simp) RowT (fun v e H1 H2 s q => rowT_same q s) (fun v e H1 ys zs hL q => rowT_put q hL) ?_ ?_
  · intro i e H' Q' hi he sH hq
    have hi' : i < 362 := hi
    rw [List.getElem?_map, List.getElem?_range hi'] at he
    obtain rfl := Option.some.inj he
    walk_at "rd"
    intro t nt
    exact hq _ _ (same_new nt _) ⟨t, rfl, upd_same⟩
  intro ys4 H4 s4 e4 hL4
  have b4 : Bad H4 (.ref o4) := bad_rows e4 (rowT_rows (K := K) hL4) fun O' => by
    have := O'.n3
    rw [List.length_map, List.length_range] at this
    omega
  have eP4 := s4 _ _ eP3
  have hR4 := hR3.same s4
  walk_at "rd"
  refine ⟨p, xs, rfl, .inl ⟨SqL.of eP4, fun o5 no5 => ?_⟩⟩
  have s5 := same_new no5 (.tup xs)
  have e5 := at_new (.tup xs) no5
  have eP5 := s5 _ _ eP4
  have hR5 := hR4.same s5
  generalize upd H4 o5 (.tup xs) = H5 at s5 e5 eP5 hR5 ⊢
  have b5 : Bad H5 (.ref o5) := .inl ⟨_, .tup e5 (rows_it hR5), not_flows fun ds z => nomatch z⟩
  walk_at "rd"
  refine ⟨p, _, rfl, SqL.of eP5, fun o6 no6 => ?_⟩
  have cz : cutV xs none (some 1) = xs.take 1 := cutV_hi xs 1
  rw [cz]
  have s6 := same_new no6 (.lst (xs.take 1))
  have e6 := at_new (.lst (xs.take 1)) no6
  have eP6 := s6 _ _ eP5
  have hR6 := hR5.same s6
  generalize upd H5 o6 (.lst (xs.take 1)) = H6 at s6 e6 eP6 hR6 ⊢
  have b6 : Bad H6 (.ref o6) := bad_rows e6 (rowsF_take hR6 1) fun O' => by
    have := O'.n2
    rw [List.length_take] at this
    omega
  walk_at "rd"
  intro o7 no7
  have s7 := same_new no7 (.lst [])
  have e7 := at_new (.lst []) no7
  have eP7 := s7 _ _ eP6
  have hR7 := hR6.same s7
  generalize upd H6 o7 (.lst []) = H7 at s7 e7 eP7 hR7 ⊢
  have b7 : Bad H7 (.ref o7) := bad_rows (K := K) e7 .nil fun O' => by
    have := O'.n2
    simp at this
  walk_at "rd"
  refine ⟨p, xs, l, rfl, eP7, hR7, by omega, fun o8 H8 no8 s8 e8 => ?_⟩
  have b8 : Bad H8 (.ref o8) := .inr ⟨o8, rfl, _, _, _, e8⟩
  have eP8 := s8 _ _ eP7
  have hR8 := hR7.same s8
  walk_at "rd"
  have t7 := s7.trans s8
  have t6 := s6.trans t7
  have t5 := s5.trans t6
  have t4 := s4.trans t5
  have t3 := s3.trans t4
  have t2 := s2.trans t3
  have t1 := s1.trans t2
  obtain ⟨bl, ebl, hbl⟩ : ∃ bl : List V, bl = [V.ref o5, .str "flows", .non, .int 5, .ref o6, .ref o7, .ref o4, .ref o1, .ref o2, .ref o3, .ref o8] ∧ ∀ v ∈ bl, Bad H8 v :=
    ⟨_, rfl, mem1 (b5.same t6) (mem1 (.inl ⟨_, .one (.sc (.str _ str_flows_ok)), not_flows fun ds z => nomatch z⟩) (mem1 (.inl ⟨_, .one (.sc .non), not_flows fun ds z => nomatch z⟩) (mem1 (.inl ⟨_, .one (.sc (.int 5)), not_flows fun ds z => nomatch z⟩) (mem1 (b6.same t7) (mem1 (b7.same s8) (mem1 (b4.same t5) (mem1 (b1.same t2) (mem1 (b2.same t3) (mem1 (b3.same t4) (mem1 b8 mem0))))))))))⟩
  rw [← ebl]
  have bll : bl.length = 11 := by rw [ebl]; rfl
  clear ebl b1 b2 b3 b4 b5 b6 b7 b8
  intro o9 no9
  have s9 := same_new no9 (.lst bl)
  have e9 := at_new (.lst bl) no9
  have eP9 := s9 _ _ eP8
  have hR9 := hR8.same s9
  have t9 := t1.trans s9
  have hb9 : ∀ v ∈ bl, Bad (upd H8 o9 (.lst bl)) v := fun v hv => (hbl v hv).same s9
  generalize upd H8 o9 (.lst bl) = H9 at s9 e9 eP9 hR9 t9 hb9 ⊢
  have xe : xs[xs.length - 1]? = some (xs[xs.length - 1]'(by omega)) := List.getElem?_eq_getElem (by omega)
  obtain ⟨pl, sl, ex, esl, htl⟩ := hR9.get xe
  rw [ex] at xe
  have atl : atI xs (-1) = some (.ref pl) := at_last xe (by omega)
  walk_at "rd"
  refine ⟨p, _, _, _, rfl, rfl, SqL.of eP9, atl, ?_⟩
  refine ⟨pl, _, _, _, rfl, rfl, SqT.of htl, rfl, ?_⟩
  walk_at "rd"
  refine ⟨.inl ⟨rfl, _, SqL.of e9⟩, ?_⟩
  walk_at "rd"
  intro q1 nq1
  have k1 := same_new nq1 (.tup [.int (sl.1 + 1), .int (-1 - c % 9)])
  have f1 := at_new (.tup [.int (sl.1 + 1), .int (-1 - c % 9)]) nq1
  walk_at "rd"
  intro q2 nq2
  have k2 := same_new nq2 (.tup [.int (sl.1 + 2), .int (1 + c % 9)])
  have f2 := at_new (.tup [.int (sl.1 + 2), .int (1 + c % 9)]) nq2
  walk_at "rd"
  intro q3 nq3
  have k3 := same_new nq3 (.lst [.ref q1, .ref q2])
  have f3 := at_new (.lst [.ref q1, .ref q2]) nq3
  have f13 := k3 _ _ (k2 _ _ f1)
  have f23 := k3 _ _ f2
  have k13 := k1.trans (k2.trans k3)
  generalize upd (upd (upd H9 q1 _) q2 _) q3 _ = H10 at k3 f3 f13 f23 k13 ⊢
  have eP10 := k13 _ _ eP9
  have hR10 := hR9.same k13
  have e10 := k13 _ _ e9
  refine ⟨p, q3, _, _, rfl, rfl, eP10, f3, by show xs.length + 2 ≤ _; omega, fun q4 nq4 => ?_⟩
  have k4 := same_new nq4 (.lst (xs ++ [.ref q1, .ref q2]))
  have f4 := at_new (.lst (xs ++ [.ref q1, .ref q2])) nq4
  have e11 := k4 _ _ e10
  have r4 : Rows2 K (upd H10 q4 (.lst (xs ++ [.ref q1, .ref q2]))) (xs ++ [.ref q1, .ref q2]) (l ++ [(sl.1 + 1, -1 - c % 9), (sl.1 + 2, 1 + c % 9)]) := (rowsF_app hR10 (.cons f13 (.cons f23 .nil))).same k4
  have t811 := s9.trans (k13.trans k4)
  have t11 := t9.trans (k13.trans k4)
  generalize upd H10 q4 (.lst (xs ++ [.ref q1, .ref q2])) = H11 at k4 f4 e11 r4 t11 t811 ⊢
  walk_at "rd"
  refine ⟨o9, bl, .ref q4, rfl, rfl, e11, by omega, ?_⟩
  have ne : q4 ≠ o9 := fun z => by rw [z, e10] at nq4; cases nq4
  have r5 := r4.put (zs := bl ++ [.ref q4]) e11
  have f5 : (upd H11 o9 (.lst (bl ++ [.ref q4]))) q4 = some (.lst (xs ++ [.ref q1, .ref q2])) := by rw [upd_ne ne]; exact f4
  have b9 := bad_rows f5 r5 (not_ok_more O (by show -1 - c % 9 < 0; omega))
  have t12 := same_put (o := .lst (bl ++ [.ref q4])) t11 (same_gone t1 no9)
  have t812 := same_put (o := .lst (bl ++ [.ref q4])) t811 no9
  have e12 : (upd H11 o9 (.lst (bl ++ [.ref q4]))) o9 = some (.lst (bl ++ [.ref q4])) := upd_same
  generalize upd H11 o9 (.lst (bl ++ [.ref q4])) = H12 at b9 t12 t812 e12 ⊢
  have hb12 : ∀ v ∈ bl ++ [.ref q4], Bad H12 v := fun v hv => by
    rcases List.mem_append.mp hv with hv | hv
    · exact (hbl v hv).same t812
    · rw [List.mem_singleton.mp hv]; exact b9
  obtain ⟨v, hv, hm⟩ := at_mem (xs := bl ++ [.ref q4]) (k := c / 9 % 12) (by omega) (by rw [List.length_append, bll, List.length_singleton]; omega)
  walk_at "rd"
  refine ⟨o9, _, _, _, rfl, rfl, SqL.of e12, hv, ?_⟩
  exact h v H12 t12 (hb12 v hm)
--@ _law_flow_odd
def BadI (H : Hp) (v : V) : Prop := ∃ d, It1 H v d ∧ ¬ FlowD d
theorem BadI.same {H H' : Hp} {v : V} (h : BadI H v) (s : Same H H') : BadI H' v := by
  obtain ⟨d, h, n⟩ := h
  exact ⟨d, h.same s, n⟩
theorem str5_ok : PyData.canLay0 (.str "5") = true := by decide +kernel
theorem str0_ok : PyData.canLay0 (.str "0") = true := by decide +kernel
theorem not_ok_twice {l : List (Int × Int)} {i : Nat} {s : Int × Int} (e : l[i]? = some s) : ¬ Wth.OkF (l.take (i + 1) ++ [s] ++ l.drop (i + 1)) := fun O => by
  have up := O.up
  rw [List.pairwise_append, List.pairwise_append] at up
  have := up.1.2.2 s (by rw [List.mem_take_iff_getElem]; obtain ⟨h1, h2⟩ := List.getElem?_eq_some_iff.mp e; exact ⟨i, by omega, h2⟩) s (by simp)
  omega
theorem not_ok_swap {l r : List (Int × Int)} {i : Nat} {s t : Int × Int} {a b : Int} (O : Wth.OkF l) (e : l[i]? = some s) (e' : l[i + 1]? = some t) : ¬ Wth.OkF (l.take i ++ [(t.1, a), (s.1, b)] ++ r) := fun O' => by
  have := Wth.get_up O.up e e' (by omega)
  have up := O'.up
  rw [List.pairwise_append, List.pairwise_append] at up
  have := (List.pairwise_cons.mp up.1.2.1).1 (s.1, b) (by simp)
  have : t.1 < s.1 := this
  omega
def sp__law_flow_odd (K : PySem.W.Frag) : Sp := fun vs H Q _ => L2.Ee4 fun (p : Addr) (xs : List V) (l : List (Int × Int)) (c : Int) => L2.Aa6 (vs = [.ref p, .int c]) (H p = some (.lst xs)) (Rows2 K H xs l) (Wth.OkF l) (0 ≤ c) (∀ (v : V) (H' : Hp), Same H H' → Bad H' v → Q v H')
theorem sc__law_flow_odd : FnScope ["_law_flows_here", "_law_cell_here", "_law_at", "_law_month", "_law_amount", "_law_far", "_law_some", "_law_way"] ["_law_flows_here", "_law_cell_here"] (defScope s__law_flow_odd) := ⟨rfl, rfl, rfl, by decide +kernel, rfl, by decide +kernel, by decide +kernel⟩
theorem d__law_flow_odd (S : Src K mg "_law_flow_odd" s__law_flow_odd ["_law_flows_here", "_law_cell_here"]) (T : Txt K mg)  : Def P w K mg base 1 "_law_flow_odd" ["_law_flows_here", "_law_cell_here"] (sp__law_flow_odd K) := by
  refine S.ok sc__law_flow_odd (fun vs H Q E h => ?_) (fun f cdv A outer s H vs Q E hr h => ?_)
  · obtain ⟨p, xs, l, c, rfl, eP, hR, O, c0, h⟩ := h
    rfl
  obtain ⟨p, xs, l, c, rfl, eP, hR, O, c0, h⟩ := h
  refine ⟨_, (pss_consN (ps_set (i := 2) sc__law_flow_odd.nd rfl (by first | exact Or.inl rfl | exact Or.inr rfl) (pe_op op_mod (pv 1) (pe_callB call_len_seq rfl T.n_len PySem.boot_len (pa_cons (pv 0) pa_nil))))
      (pss_consN (ps_asg (pe_ix ix_list (pv 0) (pv 2) (fun _ _ => rfl)) (pg_tup rfl (pgs_cons (pg_name (i := 3) sc__law_flow_odd.nd rfl (by first | exact Or.inl rfl | exact Or.inr rfl)) (pgs_cons (pg_name (i := 4) sc__law_flow_odd.nd rfl (by first | exact Or.inl rfl | exact Or.inr rfl)) pgs_nil))))
      (pss_consN (ps_set (i := 5) sc__law_flow_odd.nd rfl (by first | exact Or.inl rfl | exact Or.inr rfl) (pe_ix ix_list (pe_lst (pa_cons pe_int (pa_cons (pe_op op_mod (pe_op op_fdiv (pv 1) pe_int) (pe_powc (v := 1000000000000000000000000000000) (by decide +kernel) ⟨by decide, by decide, by decide⟩)) pa_nil))) (pe_op op_mod (pe_op op_fdiv (pv 1) pe_int) pe_int) (fun _ _ => rfl)))
      (pss_consN (ps_set (i := 6) sc__law_flow_odd.nd rfl (by first | exact Or.inl rfl | exact Or.inr rfl) (pe_lst (pa_cons (pe_lst (pa_cons (pv 3) (pa_cons (pv 4) pa_nil))) (pa_cons (pe_tup (pa_cons (pv 3) (pa_cons (pv 4) (pa_cons pe_int pa_nil)))) (pa_cons (pe_tup (pa_cons (pv 3) pa_nil)) (pa_cons (pe_tup (pa_cons pe_bl (pa_cons (pv 4) pa_nil))) (pa_cons (pe_tup (pa_cons (pv 3) (pa_cons pe_bl pa_nil))) (pa_cons (pe_tup (pa_cons (pv 3) (pa_cons pe_str pa_nil))) (pa_cons pe_non (pa_cons (pv 3) pa_nil))))))))))
      (pss_consN (ps_set (i := 6) sc__law_flow_odd.nd rfl (by first | exact Or.inl rfl | exact Or.inr rfl) (pe_op op_cat (pv 6) (pe_lst (pa_cons (pe_tup (pa_cons (pe_op op_sub (pe_op op_sub pe_int pe_int) (pv 5)) (pa_cons (pv 4) pa_nil))) (pa_cons (pe_tup (pa_cons (pe_op op_add pe_int (pv 5)) (pa_cons (pv 4) pa_nil))) (pa_cons (pe_tup (pa_cons (pv 3) (pa_cons pe_int pa_nil))) (pa_cons (pe_tup (pa_cons (pv 3) (pa_cons (pe_op op_add (pe_op op_add (pe_powc (v := 1000000000000000) (by decide +kernel) ⟨by decide, by decide, by decide⟩) pe_int) (pv 5)) pa_nil))) pa_nil)))))))
      (pss_consN (ps_set (i := 6) sc__law_flow_odd.nd rfl (by first | exact Or.inl rfl | exact Or.inr rfl) (pe_op op_cat (pv 6) (pe_lst (pa_cons (pe_tup (pa_cons (pv 3) (pa_cons (pe_op op_sub (pe_op op_sub (pe_op op_sub pe_int (pe_powc (v := 1000000000000000) (by decide +kernel) ⟨by decide, by decide, by decide⟩)) pe_int) (pv 5)) pa_nil))) (pa_cons (pe_tup (pa_cons pe_str (pa_cons (pv 4) pa_nil))) (pa_cons (pe_tup pa_nil) pa_nil))))))
      (pss_consN (ps_set (i := 7) sc__law_flow_odd.nd rfl (by first | exact Or.inl rfl | exact Or.inr rfl) (pe_op op_mod (pe_op op_fdiv (pv 1) pe_int) pe_int))
      (pss_consN (ps_if (pt_cmpR op_lt (pv 7) pe_int (nomark _))
      (pss_one (ps_ret (pe_op op_cat (pe_op op_cat (pe_slice sl_list (pv 0) po_none (po_some (pv 2))) (pe_lst (pa_cons (pe_ix ix_list (pv 6) (pv 7) (fun _ _ => rfl)) pa_nil))) (pe_slice sl_list (pv 0) (po_some (pe_op op_add (pv 2) pe_int)) po_none))))
      pss_nil)
      (pss_consN (ps_if (pt_cmpR op_eq (pv 7) pe_int (nomark _))
      (pss_one (ps_ret (pe_op op_cat (pe_op op_cat (pe_slice sl_list (pv 0) po_none (po_some (pe_op op_add (pv 2) pe_int))) (pe_lst (pa_cons (pe_ix ix_list (pv 0) (pv 2) (fun _ _ => rfl)) pa_nil))) (pe_slice sl_list (pv 0) (po_some (pe_op op_add (pv 2) pe_int)) po_none))))
      pss_nil)
      (pss_consN (ps_set (i := 2) sc__law_flow_odd.nd rfl (by first | exact Or.inl rfl | exact Or.inr rfl) (pe_op op_mod (pv 2) (pe_op op_sub (pe_callB call_len_seq rfl T.n_len PySem.boot_len (pa_cons (pv 0) pa_nil)) pe_int)))
      (pss_one (ps_ret (pe_op op_cat (pe_op op_cat (pe_slice sl_list (pv 0) po_none (po_some (pv 2))) (pe_lst (pa_cons (pe_tup (pa_cons (pe_ix ix_tup (pe_ix ix_list (pv 0) (pe_op op_add (pv 2) pe_int) (fun _ _ => rfl)) pe_int (fun _ _ => rfl)) (pa_cons (pe_ix ix_tup (pe_ix ix_list (pv 0) (pv 2) (fun _ _ => rfl)) pe_int (fun _ _ => rfl)) pa_nil))) (pa_cons (pe_tup (pa_cons (pe_ix ix_tup (pe_ix ix_list (pv 0) (pv 2) (fun _ _ => rfl)) pe_int (fun _ _ => rfl)) (pa_cons (pe_ix ix_tup (pe_ix ix_list (pv 0) (pe_op op_add (pv 2) pe_int) (fun _ _ => rfl)) pe_int (fun _ _ => rfl)) pa_nil))) pa_nil)))) (pe_slice sl_list (pv 0) (po_some (pe_op op_add (pv 2) pe_int)) po_none)))))))))))))), ?_⟩
  have sz := sizeLine_eq
  have xl := hR.length
  have n2 := O.n2
  have n3 := O.n3
  have i0 := Int.emod_nonneg c (show (xs.length : Int) ≠ 0 by omega)
  have i1 := Int.emod_lt_of_pos c (show 0 < (xs.length : Int) by omega)
  obtain ⟨i, hi⟩ : ∃ i : Nat, c % (xs.length : Int) = (i : Int) := Int.eq_ofNat_of_zero_le i0
  have il : i < xs.length := by omega
  obtain ⟨t, s, ev, es, ht⟩ := hR.get (List.getElem?_eq_getElem il)
  have ati : atI xs (c % (xs.length : Int)) = some (.ref t) := by
    rw [hi]
    exact atI_nat (by rw [List.getElem?_eq_getElem il, ev])
  have sn := O.nn s (List.mem_of_getElem? es)
  walk_at "rd"
  refine ⟨p, xs, rfl, .inl (SqL.of eP), ?_⟩
  walk_at "rd"
  refine ⟨p, _, _, _, rfl, rfl, SqL.of eP, ati, ?_⟩
  refine ⟨t, _, rfl, SqT.of ht, rfl, ?_⟩
  walk_at "rd"
  intro q0 nq0
  have s0 := same_new nq0 (.lst [.int 0, .int (c / 2176 % 1000000000000000000000000000000)])
  obtain ⟨v, hv, hm⟩ := at_mem (xs := [.int 0, .int (c / 2176 % 1000000000000000000000000000000)]) (k := c / 1088 % 2) (by omega) (by simp; omega)
  obtain ⟨far, rfl, far0, far1⟩ := (mem1 ⟨_, rfl, by omega, by omega⟩ (mem1 ⟨_, rfl, by omega, by omega⟩ mem0) : ∀ v ∈ ([.int 0, .int (c / 2176 % 1000000000000000000000000000000)] : List V), ∃ w : Int, v = .int w ∧ 0 ≤ w ∧ w < 1000000000000000000000000000000) v hm
  walk_at "rd"
  refine ⟨q0, _, _, _, rfl, rfl, SqL.of upd_same, hv, ?_⟩
  clear hv hm
  generalize upd H q0 _ = G0 at s0 ⊢
  have r0 := s0
  walk_at "rd"
  intro q1 nq1
  have s1 := same_new nq1 (.lst [.int s.1, .int s.2])
  have e1 := at_new (.lst [.int s.1, .int s.2]) nq1
  have r1 := r0.trans s1
  generalize upd G0 q1 (.lst [.int s.1, .int s.2]) = G1 at s1 e1 r1 ⊢
  have b1 : BadI G1 (.ref q1) := ⟨_, .lst e1 (.cons (.int _) (.cons (.int _) .nil)), fun ⟨m', a', e, y1, y2, y3⟩ => by cases e⟩
  walk_at "rd"
  intro q2 nq2
  have s2 := same_new nq2 (.tup [.int s.1, .int s.2, .int 1])
  have e2 := at_new (.tup [.int s.1, .int s.2, .int 1]) nq2
  have r2 := r1.trans s2
  generalize upd G1 q2 (.tup [.int s.1, .int s.2, .int 1]) = G2 at s2 e2 r2 ⊢
  have b2 : BadI G2 (.ref q2) := ⟨_, .tup e2 (.cons (.int _) (.cons (.int _) (.cons (.int _) .nil))), fun ⟨m', a', e, y1, y2, y3⟩ => by cases e⟩
  walk_at "rd"
  intro q3 nq3
  have s3 := same_new nq3 (.tup [.int s.1])
  have e3 := at_new (.tup [.int s.1]) nq3
  have r3 := r2.trans s3
  generalize upd G2 q3 (.tup [.int s.1]) = G3 at s3 e3 r3 ⊢
  have b3 : BadI G3 (.ref q3) := ⟨_, .tup e3 (.cons (.int _) .nil), fun ⟨m', a', e, y1, y2, y3⟩ => by cases e⟩
  walk_at "rd"
  intro q4 nq4
  have s4 := same_new nq4 (.tup [.bl true, .int s.2])
  have e4 := at_new (.tup [.bl true, .int s.2]) nq4
  have r4 := r3.trans s4
  generalize upd G3 q4 (.tup [.bl true, .int s.2]) = G4 at s4 e4 r4 ⊢
  have b4 : BadI G4 (.ref q4) := ⟨_, .tup e4 (.cons (.bl _) (.cons (.int _) .nil)), fun ⟨m', a', e, y1, y2, y3⟩ => by cases e⟩
  walk_at "rd"
  intro q5 nq5
  have s5 := same_new nq5 (.tup [.int s.1, .bl true])
  have e5 := at_new (.tup [.int s.1, .bl true]) nq5
  have r5 := r4.trans s5
  generalize upd G4 q5 (.tup [.int s.1, .bl true]) = G5 at s5 e5 r5 ⊢
  have b5 : BadI G5 (.ref q5) := ⟨_, .tup e5 (.cons (.int _) (.cons (.bl _) .nil)), fun ⟨m', a', e, y1, y2, y3⟩ => by cases e⟩
  walk_at "rd"
  intro q6 nq6
  have s6 := same_new nq6 (.tup [.int s.1, .str "5"])
  have e6 := at_new (.tup [.int s.1, .str "5"]) nq6
  have r6 := r5.trans s6
  generalize upd G5 q6 (.tup [.int s.1, .str "5"]) = G6 at s6 e6 r6 ⊢
  have b6 : BadI G6 (.ref q6) := ⟨_, .tup e6 (.cons (.int _) (.cons (.str _ str5_ok) .nil)), fun ⟨m', a', e, y1, y2, y3⟩ => by cases e⟩
  obtain ⟨B1, eB1, hB1⟩ : ∃ B1 : List V, B1 = [V.ref q1, .ref q2, .ref q3, .ref q4, .ref q5, .ref q6, .non, .int s.1] ∧ ∀ v ∈ B1, BadI G6 v := ⟨_, rfl, (mem1 (b1.same (s2.trans (s3.trans (s4.trans (s5.trans s6))))) (mem1 (b2.same (s3.trans (s4.trans (s5.trans s6)))) (mem1 (b3.same (s4.trans (s5.trans s6))) (mem1 (b4.same (s5.trans s6)) (mem1 (b5.same s6) (mem1 (b6.same (Same.refl _)) (mem1 ⟨_, .sc .non, fun ⟨m', a', e, _⟩ => (by cases e)⟩ (mem1 ⟨_, .sc (.int _), fun ⟨m', a', e, _⟩ => (by cases e)⟩ mem0))))))))⟩
  have B1l : B1.length = 8 := by rw [eB1]; rfl
  walk_at "rd"
  rw [← eB1]
  clear eB1
  intro q7 nq7
  have s7 := same_new nq7 (.lst B1)
  have e7 := at_new (.lst B1) nq7
  have r7 := r6.trans s7
  generalize upd G6 q7 (.lst B1) = G7 at s7 e7 r7 ⊢
  walk_at "rd"
  intro q8 nq8
  have s8 := same_new nq8 (.tup [.int (0 - 1 - far), .int s.2])
  have e8 := at_new (.tup [.int (0 - 1 - far), .int s.2]) nq8
  have r8 := r7.trans s8
  generalize upd G7 q8 (.tup [.int (0 - 1 - far), .int s.2]) = G8 at s8 e8 r8 ⊢
  have b8 : BadI G8 (.ref q8) := ⟨_, .tup e8 (.cons (.int _) (.cons (.int _) .nil)), fun ⟨m', a', e, y1, y2, y3⟩ => by cases e; omega⟩
  walk_at "rd"
  intro q9 nq9
  have s9 := same_new nq9 (.tup [.int (361 + far), .int s.2])
  have e9 := at_new (.tup [.int (361 + far), .int s.2]) nq9
  have r9 := r8.trans s9
  generalize upd G8 q9 (.tup [.int (361 + far), .int s.2]) = G9 at s9 e9 r9 ⊢
  have b9 : BadI G9 (.ref q9) := ⟨_, .tup e9 (.cons (.int _) (.cons (.int _) .nil)), fun ⟨m', a', e, y1, y2, y3⟩ => by cases e; omega⟩
  walk_at "rd"
  intro q10 nq10
  have s10 := same_new nq10 (.tup [.int s.1, .int 0])
  have e10 := at_new (.tup [.int s.1, .int 0]) nq10
  have r10 := r9.trans s10
  generalize upd G9 q10 (.tup [.int s.1, .int 0]) = G10 at s10 e10 r10 ⊢
  have b10 : BadI G10 (.ref q10) := ⟨_, .tup e10 (.cons (.int _) (.cons (.int _) .nil)), fun ⟨m', a', e, y1, y2, y3⟩ => by cases e; omega⟩
  walk_at "rd"
  intro q11 nq11
  have s11 := same_new nq11 (.tup [.int s.1, .int (1000000000000000 + 1 + far)])
  have e11 := at_new (.tup [.int s.1, .int (1000000000000000 + 1 + far)]) nq11
  have r11 := r10.trans s11
  generalize upd G10 q11 (.tup [.int s.1, .int (1000000000000000 + 1 + far)]) = G11 at s11 e11 r11 ⊢
  have b11 : BadI G11 (.ref q11) := ⟨_, .tup e11 (.cons (.int _) (.cons (.int _) .nil)), fun ⟨m', a', e, y1, y2, y3⟩ => by cases e; omega⟩
  obtain ⟨B2, eB2, hB2⟩ : ∃ B2 : List V, B2 = [V.ref q8, .ref q9, .ref q10, .ref q11] ∧ ∀ v ∈ B2, BadI G11 v := ⟨_, rfl, (mem1 (b8.same (s9.trans (s10.trans s11))) (mem1 (b9.same (s10.trans s11)) (mem1 (b10.same s11) (mem1 (b11.same (Same.refl _)) mem0))))⟩
  have B2l : B2.length = 4 := by rw [eB2]; rfl
  walk_at "rd"
  rw [← eB2]
  clear eB2
  intro q12 nq12
  have s12 := same_new nq12 (.lst B2)
  have e12 := at_new (.lst B2) nq12
  have r12 := r11.trans s12
  generalize upd G11 q12 (.lst B2) = G12 at s12 e12 r12 ⊢
  have x12 := (s8.trans (s9.trans (s10.trans (s11.trans s12)))) _ _ e7
  refine ⟨q7, q12, _, _, rfl, rfl, x12, e12, by omega, ?_⟩
  intro q13 nq13
  have s13 := same_new nq13 (.lst (B1 ++ B2))
  have e13 := at_new (.lst (B1 ++ B2)) nq13
  have r13 := r12.trans s13
  generalize upd G12 q13 (.lst (B1 ++ B2)) = G13 at s13 e13 r13 ⊢
  walk_at "rd"
  intro q14 nq14
  have s14 := same_new nq14 (.tup [.int s.1, .int (0 - 1000000000000000 - 1 - far)])
  have e14 := at_new (.tup [.int s.1, .int (0 - 1000000000000000 - 1 - far)]) nq14
  have r14 := r13.trans s14
  generalize upd G13 q14 (.tup [.int s.1, .int (0 - 1000000000000000 - 1 - far)]) = G14 at s14 e14 r14 ⊢
  have b14 : BadI G14 (.ref q14) := ⟨_, .tup e14 (.cons (.int _) (.cons (.int _) .nil)), fun ⟨m', a', e, y1, y2, y3⟩ => by cases e; omega⟩
  walk_at "rd"
  intro q15 nq15
  have s15 := same_new nq15 (.tup [.str "0", .int s.2])
  have e15 := at_new (.tup [.str "0", .int s.2]) nq15
  have r15 := r14.trans s15
  generalize upd G14 q15 (.tup [.str "0", .int s.2]) = G15 at s15 e15 r15 ⊢
  have b15 : BadI G15 (.ref q15) := ⟨_, .tup e15 (.cons (.str _ str0_ok) (.cons (.int _) .nil)), fun ⟨m', a', e, y1, y2, y3⟩ => by cases e⟩
  walk_at "rd"
  intro q16 nq16
  have s16 := same_new nq16 (.tup [])
  have e16 := at_new (.tup []) nq16
  have r16 := r15.trans s16
  generalize upd G15 q16 (.tup []) = G16 at s16 e16 r16 ⊢
  have b16 : BadI G16 (.ref q16) := ⟨_, .tup e16 .nil, fun ⟨m', a', e, y1, y2, y3⟩ => by cases e⟩
  obtain ⟨B3, eB3, hB3⟩ : ∃ B3 : List V, B3 = [V.ref q14, .ref q15, .ref q16] ∧ ∀ v ∈ B3, BadI G16 v := ⟨_, rfl, (mem1 (b14.same (s15.trans s16)) (mem1 (b15.same s16) (mem1 (b16.same (Same.refl _)) mem0)))⟩
  have B3l : B3.length = 3 := by rw [eB3]; rfl
  walk_at "rd"
  rw [← eB3]
  clear eB3
  intro q17 nq17
  have s17 := same_new nq17 (.lst B3)
  have e17 := at_new (.lst B3) nq17
  have r17 := r16.trans s17
  generalize upd G16 q17 (.lst B3) = G17 at s17 e17 r17 ⊢
  have x17 := (s14.trans (s15.trans (s16.trans s17))) _ _ e13
  refine ⟨q13, q17, _, _, rfl, rfl, x17, e17, by rw [List.length_append]; omega, ?_⟩
  intro q18 nq18
  have s18 := same_new nq18 (.lst (B1 ++ B2 ++ B3))
  have eB := at_new (.lst (B1 ++ B2 ++ B3)) nq18
  have r18 := r17.trans s18
  generalize upd G17 q18 (.lst (B1 ++ B2 ++ B3)) = G18 at s18 eB r18 ⊢
  have hB : ∀ v ∈ B1 ++ B2 ++ B3, BadI G18 v := fun v hv => by
    rcases List.mem_append.mp hv with hv | hv
    · rcases List.mem_append.mp hv with hv | hv
      · exact (hB1 v hv).same (s7.trans (s8.trans (s9.trans (s10.trans (s11.trans (s12.trans (s13.trans (s14.trans (s15.trans (s16.trans (s17.trans s18)))))))))))
      · exact (hB2 v hv).same (s12.trans (s13.trans (s14.trans (s15.trans (s16.trans (s17.trans s18))))))
    · exact (hB3 v hv).same (s17.trans s18)
  have Bl : (B1 ++ B2 ++ B3).length = 15 := by rw [List.length_append, List.length_append, B1l, B2l, B3l]
  generalize B1 ++ B2 ++ B3 = B at eB hB Bl ⊢
  have sG : Same H G18 := r18
  clear s0 r0 s1 r1 s2 r2 s3 r3 s4 r4 s5 r5 s6 r6 s7 r7 s8 r8 s9 r9 s10 r10 s11 r11 s12 r12 s13 r13 s14 r14 s15 r15 s16 r16 s17 r17 s18 r18 hB1 hB2 hB3
  have eP1 := sG _ _ eP
  have hR1 := hR.same sG
  generalize G18 = G at sG eB hB eP1 hR1 ⊢
  generalize q18 = qb at eB ⊢
  have czh : cutV xs none (some (c % (xs.length : Int))) = xs.take i := by rw [hi]; exact cutV_hi xs i
  have czh1 : cutV xs none (some (c % (xs.length : Int) + 1)) = xs.take (i + 1) := by rw [hi]; exact cutV_hi xs (i + 1)
  have czl : cutV xs (some (c % (xs.length : Int) + 1)) none = xs.drop (i + 1) := by rw [hi]; exact cutV_lo xs (i + 1)
  have way0 : 0 ≤ c / 64 % 17 := by omega
  walk_at "rd"
  · rename_i z
    refine ⟨p, _, rfl, SqL.of eP1, fun q1 nq1 => ?_⟩
    rw [czh]
    have s1 := same_new nq1 (.lst (xs.take i))
    have e1 := at_new (.lst (xs.take i)) nq1
    have eP2 := s1 _ _ eP1
    have hR2 := hR1.same s1
    have eB2 := s1 _ _ eB
    have sG2 := sG.trans s1
    obtain ⟨v, hv, hm⟩ := at_mem (xs := B) (k := c / 64 % 17) (by omega) (by omega)
    have bv := (hB v hm).same s1
    generalize upd G q1 (.lst (xs.take i)) = G2 at s1 e1 eP2 hR2 eB2 sG2 bv ⊢
    walk_at "rd"
    refine ⟨qb, _, _, _, rfl, rfl, SqL.of eB2, hv, ?_⟩
    walk_at "rd"
    intro q2 nq2
    have s3 := same_new nq2 (.lst [v])
    have e2 := at_new (.lst [v]) nq2
    have e13 := s3 _ _ e1
    have eP3 := s3 _ _ eP2
    have hR3 := hR2.same s3
    have sG3 := sG2.trans s3
    have bv3 := bv.same s3
    generalize upd G2 q2 (.lst [v]) = G3 at s3 e2 e13 eP3 hR3 sG3 bv3 ⊢
    refine ⟨q1, q2, _, _, rfl, rfl, e13, e2, by rw [List.length_take]; show _ + 1 ≤ _; omega, fun q3 nq3 => ?_⟩
    have s4 := same_new nq3 (.lst (xs.take i ++ [v]))
    have e4 := at_new (.lst (xs.take i ++ [v])) nq3
    have eP4 := s4 _ _ eP3
    have hR4 := hR3.same s4
    have sG4 := sG3.trans s4
    have bv4 := bv3.same s4
    generalize upd G3 q3 (.lst (xs.take i ++ [v])) = G4 at s4 e4 eP4 hR4 sG4 bv4 ⊢
    walk_at "rd"
    refine ⟨p, _, rfl, SqL.of eP4, fun q4 nq4 => ?_⟩
    rw [czl]
    have s5 := same_new nq4 (.lst (xs.drop (i + 1)))
    have e5 := at_new (.lst (xs.drop (i + 1))) nq4
    have e45 := s5 _ _ e4
    have hR5 := hR4.same s5
    have sG5 := sG4.trans s5
    have bv5 := bv4.same s5
    generalize upd G4 q4 (.lst (xs.drop (i + 1))) = G5 at s5 e5 e45 hR5 sG5 bv5 ⊢
    refine ⟨q3, q4, _, _, rfl, rfl, e45, e5, by rw [List.length_append, List.length_take, List.length_drop]; show _ + 1 + _ ≤ _; omega, fun q5 nq5 => ?_⟩
    have s6 := same_new nq5 (.lst (xs.take i ++ [v] ++ xs.drop (i + 1)))
    have hR6 := hR5.same s6
    obtain ⟨d, hd, nd⟩ := bv5.same s6
    refine h _ _ (sG5.trans s6) (.inl ⟨_, .lst upd_same ((((rows_it (rowsF_take hR6 i)).append (.cons hd .nil))).append (rows_it (rowsF_drop hR6 (i + 1)))), fun z => nd (z.mem d (by simp))⟩)
  · rename_i z z'
    refine ⟨p, _, rfl, SqL.of eP1, fun q1 nq1 => ?_⟩
    rw [czh1]
    have s1 := same_new nq1 (.lst (xs.take (i + 1)))
    have e1 := at_new (.lst (xs.take (i + 1))) nq1
    have eP2 := s1 _ _ eP1
    have hR2 := hR1.same s1
    have sG2 := sG.trans s1
    generalize upd G q1 (.lst (xs.take (i + 1))) = G2 at s1 e1 eP2 hR2 sG2 ⊢
    walk_at "rd"
    refine ⟨p, _, _, _, rfl, rfl, SqL.of eP2, ati, ?_⟩
    walk_at "rd"
    intro q2 nq2
    have s3 := same_new nq2 (.lst [.ref t])
    have e2 := at_new (.lst [.ref t]) nq2
    have e13 := s3 _ _ e1
    have eP3 := s3 _ _ eP2
    have hR3 := hR2.same s3
    have sG3 := sG2.trans s3
    generalize upd G2 q2 (.lst [.ref t]) = G3 at s3 e2 e13 eP3 hR3 sG3 ⊢
    refine ⟨q1, q2, _, _, rfl, rfl, e13, e2, by rw [List.length_take]; show _ + 1 ≤ _; omega, fun q3 nq3 => ?_⟩
    have s4 := same_new nq3 (.lst (xs.take (i + 1) ++ [.ref t]))
    have e4 := at_new (.lst (xs.take (i + 1) ++ [.ref t])) nq3
    have eP4 := s4 _ _ eP3
    have hR4 := hR3.same s4
    have sG4 := sG3.trans s4
    generalize upd G3 q3 (.lst (xs.take (i + 1) ++ [.ref t])) = G4 at s4 e4 eP4 hR4 sG4 ⊢
    walk_at "rd"
    refine ⟨p, _, rfl, SqL.of eP4, fun q4 nq4 => ?_⟩
    rw [czl]
    have s5 := same_new nq4 (.lst (xs.drop (i + 1)))
    have e5 := at_new (.lst (xs.drop (i + 1))) nq4
    have e45 := s5 _ _ e4
    have hR5 := hR4.same s5
    have sG5 := sG4.trans s5
    generalize upd G4 q4 (.lst (xs.drop (i + 1))) = G5 at s5 e5 e45 hR5 sG5 ⊢
    refine ⟨q3, q4, _, _, rfl, rfl, e45, e5, by rw [List.length_append, List.length_take, List.length_drop]; show _ + 1 + _ ≤ _; omega, fun q5 nq5 => ?_⟩
    have s6 := same_new nq5 (.lst (xs.take (i + 1) ++ [.ref t] ++ xs.drop (i + 1)))
    have hR6 := hR5.same s6
    have sG6 := sG5.trans s6
    exact h _ _ sG6 (bad_rows upd_same (rowsF_app (rowsF_app (rowsF_take hR6 (i + 1)) (.cons (sG6 _ _ ht) .nil)) (rowsF_drop hR6 (i + 1))) (not_ok_twice es))
  · rename_i z z'
    have j0 := Int.emod_nonneg (c % (xs.length : Int)) (show (xs.length : Int) - 1 ≠ 0 by omega)
    have j1 := Int.emod_lt_of_pos (c % (xs.length : Int)) (show 0 < (xs.length : Int) - 1 by omega)
    obtain ⟨j, hj⟩ : ∃ j : Nat, c % (xs.length : Int) % ((xs.length : Int) - 1) = (j : Int) := Int.eq_ofNat_of_zero_le j0
    have jl : j < xs.length := by omega
    have jl1 : j + 1 < xs.length := by omega
    obtain ⟨u, a, eu, ea, hu⟩ := hR1.get (List.getElem?_eq_getElem jl)
    obtain ⟨u', b, eu', eb, hu'⟩ := hR1.get (List.getElem?_eq_getElem jl1)
    have atj : atI xs (c % (xs.length : Int) % ((xs.length : Int) - 1)) = some (.ref u) := by
      rw [hj]
      exact atI_nat (by rw [List.getElem?_eq_getElem jl, eu])
    have atj1 : atI xs (c % (xs.length : Int) % ((xs.length : Int) - 1) + 1) = some (.ref u') := by
      rw [hj]
      exact atI_nat (j := j + 1) (by rw [List.getElem?_eq_getElem jl1, eu'])
    have cjh : cutV xs none (some (c % (xs.length : Int) % ((xs.length : Int) - 1))) = xs.take j := by rw [hj]; exact cutV_hi xs j
    have cjl : cutV xs (some (c % (xs.length : Int) % ((xs.length : Int) - 1) + 2)) none = xs.drop (j + 2) := by rw [hj]; exact cutV_lo xs (j + 2)
    walk_at "rd"
    refine ⟨p, xs, rfl, .inl (SqL.of eP1), ?_⟩
    walk_at "rd"
    refine ⟨p, _, rfl, SqL.of eP1, fun q1 nq1 => ?_⟩
    rw [cjh]
    have s1 := same_new nq1 (.lst (xs.take j))
    have e1 := at_new (.lst (xs.take j)) nq1
    have eP2 := s1 _ _ eP1
    have hR2 := hR1.same s1
    have sG2 := sG.trans s1
    have hu2 := s1 _ _ hu
    have hu2' := s1 _ _ hu'
    generalize upd G q1 (.lst (xs.take j)) = G2 at s1 e1 eP2 hR2 sG2 hu2 hu2' ⊢
    walk_at "rd"
    refine ⟨p, _, _, _, rfl, rfl, SqL.of eP2, atj1, ?_⟩
    refine ⟨u', _, _, _, rfl, rfl, SqT.of hu2', rfl, ?_⟩
    walk_at "rd"
    refine ⟨p, _, _, _, rfl, rfl, SqL.of eP2, atj, ?_⟩
    refine ⟨u, _, _, _, rfl, rfl, SqT.of hu2, rfl, ?_⟩
    walk_at "rd"
    intro t1 nt1
    have s3 := same_new nt1 (.tup [.int b.1, .int a.2])
    have f1 := at_new (.tup [.int b.1, .int a.2]) nt1
    have e13 := s3 _ _ e1
    have eP3 := s3 _ _ eP2
    have hR3 := hR2.same s3
    have sG3 := sG2.trans s3
    have hu3 := s3 _ _ hu2
    have hu3' := s3 _ _ hu2'
    generalize upd G2 t1 (.tup [.int b.1, .int a.2]) = G3 at s3 f1 e13 eP3 hR3 sG3 hu3 hu3' ⊢
    walk_at "rd"
    refine ⟨p, _, _, _, rfl, rfl, SqL.of eP3, atj, ?_⟩
    refine ⟨u, _, _, _, rfl, rfl, SqT.of hu3, rfl, ?_⟩
    walk_at "rd"
    refine ⟨p, _, _, _, rfl, rfl, SqL.of eP3, atj1, ?_⟩
    refine ⟨u', _, _, _, rfl, rfl, SqT.of hu3', rfl, ?_⟩
    walk_at "rd"
    intro t2 nt2
    have s4 := same_new nt2 (.tup [.int a.1, .int b.2])
    have f2 := at_new (.tup [.int a.1, .int b.2]) nt2
    have f14 := s4 _ _ f1
    have e14 := s4 _ _ e13
    have eP4 := s4 _ _ eP3
    have hR4 := hR3.same s4
    have sG4 := sG3.trans s4
    generalize upd G3 t2 (.tup [.int a.1, .int b.2]) = G4 at s4 f2 f14 e14 eP4 hR4 sG4 ⊢
    walk_at "rd"
    intro q2 nq2
    have s5 := same_new nq2 (.lst [.ref t1, .ref t2])
    have e2 := at_new (.lst [.ref t1, .ref t2]) nq2
    have f15 := s5 _ _ f14
    have f25 := s5 _ _ f2
    have e15 := s5 _ _ e14
    have eP5 := s5 _ _ eP4
    have hR5 := hR4.same s5
    have sG5 := sG4.trans s5
    generalize upd G4 q2 (.lst [.ref t1, .ref t2]) = G5 at s5 e2 f15 f25 e15 eP5 hR5 sG5 ⊢
    refine ⟨q1, q2, _, _, rfl, rfl, e15, e2, by rw [List.length_take]; show _ + 2 ≤ _; omega, fun q3 nq3 => ?_⟩
    have s6 := same_new nq3 (.lst (xs.take j ++ [.ref t1, .ref t2]))
    have e3 := at_new (.lst (xs.take j ++ [.ref t1, .ref t2])) nq3
    have f16 := s6 _ _ f15
    have f26 := s6 _ _ f25
    have eP6 := s6 _ _ eP5
    have hR6 := hR5.same s6
    have sG6 := sG5.trans s6
    generalize upd G5 q3 (.lst (xs.take j ++ [.ref t1, .ref t2])) = G6 at s6 e3 f16 f26 eP6 hR6 sG6 ⊢
    walk_at "rd"
    refine ⟨p, _, rfl, SqL.of eP6, fun q4 nq4 => ?_⟩
    rw [cjl]
    have s7 := same_new nq4 (.lst (xs.drop (j + 2)))
    have e4 := at_new (.lst (xs.drop (j + 2))) nq4
    have e37 := s7 _ _ e3
    have f17 := s7 _ _ f16
    have f27 := s7 _ _ f26
    have hR7 := hR6.same s7
    have sG7 := sG6.trans s7
    generalize upd G6 q4 (.lst (xs.drop (j + 2))) = G7 at s7 e4 e37 f17 f27 hR7 sG7 ⊢
    refine ⟨q3, q4, _, _, rfl, rfl, e37, e4, by rw [List.length_append, List.length_take, List.length_drop]; show _ + 2 + _ ≤ _; omega, fun q5 nq5 => ?_⟩
    have s8 := same_new nq5 (.lst (xs.take j ++ [.ref t1, .ref t2] ++ xs.drop (j + 2)))
    have hR8 := hR7.same s8
    exact h _ _ (sG7.trans s8) (bad_rows upd_same (rowsF_app (rowsF_app (rowsF_take hR8 j) (.cons (s := (b.1, a.2)) (s8 _ _ f17) (.cons (s := (a.1, b.2)) (s8 _ _ f27) .nil))) (rowsF_drop hR8 (j + 2))) (not_ok_swap O ea eb))
--@ is_within
def sp_is_within (K : PySem.W.Frag) : Sp := fun vs H Q _ => L2.Ee4 fun (x : V) (d : PyData) (a c : Int) => L2.Aa3 (vs = [x, .int a, .int c]) (Sc x d) (∀ b : Bool, (b = true ↔ ∃ i, d = .int i ∧ a ≤ i ∧ i ≤ c) → Q (.bl b) H)
theorem sc_is_within : FnScope ["thing", "least", "most"] ["thing", "least", "most"] (defScope s_is_within) := ⟨rfl, rfl, rfl, by decide +kernel, rfl, by decide +kernel, by decide +kernel⟩
theorem d_is_within (S : Src K mg "is_within" s_is_within ["thing", "least", "most"]) (T : Txt K mg) (D_is_whole : Def P w K mg base 1 "is_whole" ["thing"] (sp_is_whole K)) : Def P w K mg base 2 "is_within" ["thing", "least", "most"] (sp_is_within K) := by
  refine S.ok sc_is_within (fun vs H Q E h => ?_) (fun f cdv A outer s H vs Q E hr h => ?_)
  · obtain ⟨x, d, a, c, rfl, hs, h⟩ := h
    rfl
  obtain ⟨x, d, a, c, rfl, hs, h⟩ := h
  refine ⟨_, (pss_one (ps_ret (pe_and (pe_fn D_is_whole hr (pa_cons (pv 0) pa_nil)) (pe_one (pe_chain op_le op_le (pv 1) (pv 0) (pv 2)))))), ?_⟩
  walk_at "rd"
  cases hs with
  | int i =>
    refine ⟨_, "int", rfl, ⟨.int i, by simp [kinds]⟩, ?_⟩
    walk_at "rd"
    all_goals first
      | exact absurd rfl (by assumption)
      | skip
    · rename_i z
      refine h (decide (i ≤ c)) ⟨fun q => ⟨i, rfl, z, of_decide_eq_true q⟩, fun ⟨j, e, _, q⟩ => ?_⟩
      cases e
      exact decide_eq_true q
    · rename_i z
      refine h false ⟨fun q => (by cases q), fun ⟨j, e, q, _⟩ => ?_⟩
      cases e
      exact absurd q z
  | non =>
    refine ⟨_, "NoneType", rfl, ⟨.non, by simp [kinds]⟩, ?_⟩
    walk_at "rd"
    · exact absurd (by assumption) (show ¬ "NoneType" = "int" by decide)
    exact h false ⟨fun z => (by cases z), fun ⟨i, e, _⟩ => (by cases e)⟩
  | bl b =>
    refine ⟨_, "bool", rfl, ⟨.bl b, by simp [kinds]⟩, ?_⟩
    walk_at "rd"
    · exact absurd (by assumption) (show ¬ "bool" = "int" by decide)
    exact h false ⟨fun z => (by cases z), fun ⟨i, e, _⟩ => (by cases e)⟩
  | str y _ =>
    refine ⟨_, "str", rfl, ⟨.str y, by simp [kinds]⟩, ?_⟩
    walk_at "rd"
    · exact absurd (by assumption) (show ¬ "str" = "int" by decide)
    exact h false ⟨fun z => (by cases z), fun ⟨i, e, _⟩ => (by cases e)⟩
--@ worth
structure Flo (l : List (Int × Int)) : Prop where
  up : l.Pairwise fun s t => s.1 < t.1
  nn : ∀ s ∈ l, 0 ≤ s.1 ∧ s.1 ≤ 460
  am : ∀ s ∈ l, s.2.natAbs ≤ 2 ^ 70
  ln : l.length ≤ 512
theorem flo_of {l : List (Int × Int)} (O : Wth.OkF l) : Flo l := ⟨O.up, fun s hs => by have := O.nn s hs; omega, fun s hs => by
  have := O.am s hs
  have e : (2 : Nat) ^ 70 = 1180591620717411303424 := by decide
  omega, by have := O.n3; omega⟩
theorem Flo.small {l : List (Int × Int)} (F : Flo l) {a : Int} (a0 : 0 ≤ a) (a1 : a ≤ 1000001) {i : Nat} (hi : i ≤ l.length) : (Wth.sum a (Wth.mon l i) (l.take i)).natAbs ≤ 2 ^ (9 + (70 + 9660)) :=
  Wth.sum_small a0 a1 (Wth.mon_mem F.nn i).2 (by rw [List.length_take]; have := F.ln; omega) fun s hs => ⟨(F.nn s (List.mem_of_mem_take hs)).1, Wth.take_le F.up hi s hs, F.am s (List.mem_of_mem_take hs)⟩
theorem M_pow (n : Nat) : ((1000000 : Int) ^ n).natAbs ≤ 2 ^ (21 * n) := Wth.pow_lt (by decide) n
theorem A_abs {a : Int} (a0 : 0 ≤ a) (a1 : a ≤ 1000001) : (1000000 + a).natAbs ≤ 2 ^ 21 := by
  have : ((2 : Nat) ^ 21) = 2097152 := by decide
  omega
theorem A_pow {a : Int} (a0 : 0 ≤ a) (a1 : a ≤ 1000001) (n : Nat) : ((1000000 + a) ^ n).natAbs ≤ 2 ^ (21 * n) := Wth.pow_lt (A_abs a0 a1) n
def sp_worth (K : PySem.W.Frag) : Sp := fun vs H Q _ => L2.Ee4 fun (p : Addr) (xs : List V) (l : List (Int × Int)) (a : Int) => L2.Aa7 (vs = [.ref p, .int a]) (SqL K H p xs) (Rows2 K H xs l) (Flo l) (0 ≤ a) (a ≤ 1000001) (Q (.int (Wth.wth a l)) H)
theorem sc_worth : FnScope ["flows", "a", "total", "scale", "month", "flow", "gap"] ["flows", "a"] (defScope s_worth) := ⟨rfl, rfl, rfl, by decide +kernel, rfl, by decide +kernel, by decide +kernel⟩
theorem d_worth (S : Src K mg "worth" s_worth ["flows", "a"]) (T : Txt K mg) (D_power : Def P w K mg base 1 "power" ["base", "many"] (sp_power K)) : Def P w K mg base 2 "worth" ["flows", "a"] (sp_worth K) := by
  refine S.ok sc_worth (fun vs H Q E h => ?_) (fun f cdv A outer s H vs Q E hr h => ?_)
  · obtain ⟨p, xs, l, a, rfl, hS, hR, F, a0, a1, h⟩ := h
    rfl
  obtain ⟨p, xs, l, a, rfl, hS, hR, F, a0, a1, h⟩ := h
  refine ⟨_, (pss_consN (ps_set (i := 2) sc_worth.nd rfl (by first | exact Or.inl rfl | exact Or.inr rfl) pe_int)
      (pss_consN (ps_set (i := 3) sc_worth.nd rfl (by first | exact Or.inl rfl | exact Or.inr rfl) pe_int)
      (pss_consN (ps_set (i := 4) sc_worth.nd rfl (by first | exact Or.inl rfl | exact Or.inr rfl) pe_int)
      (pss_consN (ps_for PassesOwn.never rfl (pi_list (pv 0)) (pg_name (i := 5) sc_worth.nd rfl (by first | exact Or.inl rfl | exact Or.inr rfl))
      (pss_consN (ps_set (i := 6) sc_worth.nd rfl (by first | exact Or.inl rfl | exact Or.inr rfl) (pe_op op_sub (pe_ix ix_tup (pv 5) pe_int (fun _ _ => rfl)) (pv 4)))
      (pss_consN (ps_set (i := 3) sc_worth.nd rfl (by first | exact Or.inl rfl | exact Or.inr rfl) (pe_op op_mulW (pv 3) (pe_fn D_power hr (pa_cons (pe_gint T.g_MILLION) (pa_cons (pv 6) pa_nil)))))
      (pss_consN (ps_set (i := 2) sc_worth.nd rfl (by first | exact Or.inl rfl | exact Or.inr rfl) (pe_op op_add (pe_op op_mulW (pv 2) (pe_fn D_power hr (pa_cons (pe_op op_add (pe_gint T.g_MILLION) (pv 1)) (pa_cons (pv 6) pa_nil)))) (pe_op op_mulW (pe_ix ix_tup (pv 5) pe_int (fun _ _ => rfl)) (pv 3))))
      (pss_one (ps_set (i := 4) sc_worth.nd rfl (by first | exact Or.inl rfl | exact Or.inr rfl) (pe_ix ix_tup (pv 5) pe_int (fun _ _ => rfl))))))))
      (pss_one (ps_ret (pv 2))))))), ?_⟩
  have xl := hR.length
  walk_at "rd"
  refine ⟨⟨_, hS⟩, for_list (xs := xs) (fun i σ H' => H = H' ∧ ∃ (z1 z2 : Option V), σ = [some (.ref p), some (.int a), some (.int (Wth.sum a (Wth.mon l i) (l.take i))), some (.int (1000000 ^ (Wth.mon l i).toNat)), some (.int (Wth.mon l i)), z1, z2])
    ⟨rfl, _, _, rfl⟩ ?_ ?_ ?_⟩
  · rintro i σ H' _ ⟨rfl, _⟩
    exact hS
  · rintro i x σ H' hx ⟨rfl, z1, z2, rfl⟩
    obtain ⟨u, s, rfl, es, hu⟩ := hR.get hx
    have il : i < l.length := (List.getElem?_eq_some_iff.mp es).1
    have ml := Wth.mon_le F.up F.nn es
    have m0 := Wth.mon_mem F.nn i
    have s1 := F.nn s (List.mem_of_getElem? es)
    have s2 := F.am s (List.mem_of_getElem? es)
    have st := Wth.walk_step (a := a) F.up F.nn es
    have sm := F.small a0 a1 (Nat.le_of_lt il)
    have pw := Wth.pow_step m0.1 ml
    rw [Wth.mon_at es] at st
    generalize Wth.mon l i = m at *
    generalize hT : Wth.sum a m (l.take i) = T at *
    have hA := A_abs a0 a1
    walk_at "rd"
    refine ⟨mulOk_pow (M_pow _) (M_pow _) (by omega) (by omega), ?_⟩
    walk_at "rd"
    refine ⟨mulOk_pow sm (A_pow a0 a1 _) (by omega) (by omega), ?_⟩
    walk_at "rd"
    refine ⟨mulOk_pow s2 (by rw [pw]; exact M_pow _) (by omega) (by omega), ?_⟩
    walk_at "rd"
    first | exact ⟨rfl, _, _, by rw [Wth.mon_at es, st, ← pw]; rfl⟩ | exact ⟨_, _, by rw [Wth.mon_at es, st, ← pw]; rfl⟩
  · rintro σ H' ⟨rfl, z1, z2, rfl⟩
    rw [xl, Wth.walk_end]
    walk_at "rd"
    exact h
--@ _law_cell
def cellF (ns : List Int) (k : Int) : Int := if k < (ns.length : Int) ∧ ns.getD k.toNat 0 % 2 = 1 ∧ ns.getD k.toNat 0 > 1000000000000000000 then ns.getD k.toNat 0 / 2 % 10000000000000000000000000000000000000000 else drawF ns k (3 * 100000000) * 300000007 + drawF ns (k + 1013) (3 * 100000000)
theorem cellF_in (ns : List Int) (k : Int) : 0 ≤ cellF ns k ∧ cellF ns k < 10000000000000000000000000000000000000000 := by
  unfold cellF
  split
  · exact ⟨Int.emod_nonneg _ (by decide), Int.emod_lt_of_pos _ (by decide)⟩
  · have a := drawF_in ns k (m := 3 * 100000000) (by decide)
    have b := drawF_in ns (k + 1013) (m := 3 * 100000000) (by decide)
    exact ⟨by omega, Int.lt_trans (show _ < 10 ^ 18 by omega) (by decide)⟩
def sp__law_cell (K : PySem.W.Frag) : Sp := fun vs H Q _ => ∃ (a : Addr) (ns : List Int) (k : Int), vs = [.ref a, .int k] ∧ SqL K H a (ns.map V.int) ∧ 0 ≤ k ∧ k ≤ 990000 ∧ ∀ r, (r = cellF ns k ∧ 0 ≤ r) → r < 10000000000000000000000000000000000000000 → Q (.int r) H
theorem sc__law_cell : FnScope ["_law_script", "_law_k"] ["_law_script", "_law_k"] (defScope s__law_cell) := ⟨rfl, rfl, rfl, by decide +kernel, rfl, by decide +kernel, by decide +kernel⟩
theorem d__law_cell (S : Src K mg "_law_cell" s__law_cell ["_law_script", "_law_k"]) (T : Txt K mg) (D__law_draw : Def P w K mg base 1 "_law_draw" ["_law_script", "_law_k", "_law_many"] (sp__law_draw K)) : Def P w K mg base 2 "_law_cell" ["_law_script", "_law_k"] (sp__law_cell K) := by
  refine S.ok sc__law_cell (fun vs H Q E h => ?_) (fun f cdv A outer s H vs Q E hr h => ?_)
  · obtain ⟨a, ns, k, rfl, hS, k0, k1, h⟩ := h
    rfl
  obtain ⟨a, ns, k, rfl, hS, k0, k1, h⟩ := h
  refine ⟨_, (pss_consN (ps_if (PW.pt (pw_and (pt_cmpR op_lt (pv 1) (pe_callB call_len_seq rfl T.n_len PySem.boot_len (pa_cons (pv 0) pa_nil)) (nomark _)) (pw_and (pt_cmpR op_eq (pe_op op_mod (pe_ix ix_list (pv 0) (pv 1) (fun _ _ => rfl)) pe_int) pe_int (nomark _)) (pw_and1 (pt_cmpR op_gt (pe_ix ix_list (pv 0) (pv 1) (fun _ _ => rfl)) (pe_powc (v := 1000000000000000000) (by decide +kernel) ⟨by decide, by decide, by decide⟩) (nomark _))))))
      (pss_one (ps_ret (pe_op op_mod (pe_op op_fdiv (pe_ix ix_list (pv 0) (pv 1) (fun _ _ => rfl)) pe_int) (pe_powc (v := 10000000000000000000000000000000000000000) (by decide +kernel) ⟨by decide, by decide, by decide⟩))))
      pss_nil)
      (pss_one (ps_ret (pe_op op_add (pe_op op_mul (pe_fn D__law_draw hr (pa_cons (pv 0) (pa_cons (pv 1) (pa_cons (pe_op op_mul pe_int (pe_powc (v := 100000000) (by decide +kernel) ⟨by decide, by decide, by decide⟩)) pa_nil)))) pe_int) (pe_fn D__law_draw hr (pa_cons (pv 0) (pa_cons (pe_op op_add (pv 1) pe_int) (pa_cons (pe_op op_mul pe_int (pe_powc (v := 100000000) (by decide +kernel) ⟨by decide, by decide, by decide⟩)) pa_nil)))))))), ?_⟩
  have h := h _ ⟨rfl, (cellF_in ns k).1⟩ (cellF_in ns k).2
  have el := List.length_map (f := V.int) (as := ns)
  walk_at "rd"
  · rename_i q
    have at_ : atI (ns.map V.int) k = some (.int (ns.getD k.toNat 0)) := at_ints k0 (by rw [List.length_map] at q; exact q)
    refine ⟨a, _, _, _, rfl, rfl, hS, at_, ?_⟩
    walk_at "rd"
    · refine ⟨a, _, _, _, rfl, rfl, hS, at_, ?_⟩
      walk_at "rd"
      · refine ⟨a, _, _, _, rfl, rfl, hS, at_, ?_⟩
        walk_at "rd"
        refine qi h ?_
        unfold cellF
        rw [if_pos ⟨by omega, by assumption, by assumption⟩]
      · rename_i r1 p1 b1 r2 p2 b2
        refine qi h ?_
        unfold cellF
        rw [if_neg (by rintro ⟨z1, z2, z3⟩; first | contradiction | omega), ← p1.1, ← p2.1]
    · rename_i r1 p1 b1 r2 p2 b2
      refine qi h ?_
      unfold cellF
      rw [if_neg (by rintro ⟨z1, z2, z3⟩; first | contradiction | omega), ← p1.1, ← p2.1]
  · rename_i r1 p1 b1 r2 p2 b2
    refine qi h ?_
    unfold cellF
    rw [if_neg (by rintro ⟨z1, z2, z3⟩; first | contradiction | omega), ← p1.1, ← p2.1]
--@ is_flow
def sp_is_flow (K : PySem.W.Frag) : Sp := fun vs H Q _ => ∃ (v : V) (d : PyData), vs = [v] ∧ It1 H v d ∧ ∀ b : Bool, (b = true ↔ FlowD d) → Q (.bl b) H
theorem sc_is_flow : FnScope ["thing"] ["thing"] (defScope s_is_flow) := ⟨rfl, rfl, rfl, by decide +kernel, rfl, by decide +kernel, by decide +kernel⟩
theorem d_is_flow (S : Src K mg "is_flow" s_is_flow ["thing"]) (T : Txt K mg) (D_is_within : Def P w K mg base 2 "is_within" ["thing", "least", "most"] (sp_is_within K)) : Def P w K mg base 3 "is_flow" ["thing"] (sp_is_flow K) := by
  refine S.ok sc_is_flow (fun vs H Q E h => ?_) (fun f cdv A outer s H vs Q E hr h => ?_)
  · obtain ⟨v, d, rfl, hI, h⟩ := h
    rfl
  obtain ⟨v, d, rfl, hI, h⟩ := h
  refine ⟨_, (pss_consN (ps_if (PW.pt (pw_or (pt_not (pt_val (pe_callB call_isinst rfl T.n_isinstance PyProof.Rows.boot_isinstance (pa_cons (pv 0) (pa_cons (pe_bltn (v := .ty "tuple") rfl T.n_tuple PyProof.Rows.boot_tuple rfl) pa_nil))))) (pw_or1 (pt_cmpR op_ne (pe_callB call_len_seq rfl T.n_len PySem.boot_len (pa_cons (pv 0) pa_nil)) pe_int (nomark _)))))
      (pss_one (ps_ret pe_bl))
      pss_nil)
      (pss_one (ps_ret (pe_and (pe_fn D_is_within hr (pa_cons (pe_ix ix_tup (pv 0) pe_int (fun _ _ => rfl)) (pa_cons pe_int (pa_cons (pe_gint T.g_MOST_MONTH) pa_nil)))) (pe_and (pe_fn D_is_within hr (pa_cons (pe_ix ix_tup (pv 0) pe_int (fun _ _ => rfl)) (pa_cons (pe_un un_neg (pe_gint T.g_MOST_FLOW)) (pa_cons (pe_gint T.g_MOST_FLOW) pa_nil)))) (pe_one (pe_cmpR op_ne (pe_ix ix_tup (pv 0) pe_int (fun _ _ => rfl)) pe_int (nomark _)))))))), ?_⟩
  walk_at "rd"
  cases hI with
  | sc hs =>
    have no : ¬ FlowD d := fun ⟨m, a, e, _⟩ => by subst e; cases hs
    have hf := h false ⟨fun z => (by cases z), fun z => absurd z no⟩
    cases hs
    · refine ⟨_, _, _, _, rfl, .non, (show PySem.W.kitOne K (.type "NoneType") (.type "tuple") = some false from rfl), ?_⟩
      walk_at "rd"
      exact hf
    · refine ⟨_, _, _, _, rfl, .bl _, (show PySem.W.kitOne K (.type "bool") (.type "tuple") = some false from rfl), ?_⟩
      walk_at "rd"
      exact hf
    · refine ⟨_, _, _, _, rfl, .int _, (show PySem.W.kitOne K (.type "int") (.type "tuple") = some false from rfl), ?_⟩
      walk_at "rd"
      exact hf
    · refine ⟨_, _, _, _, rfl, .str _, (show PySem.W.kitOne K (.type "str") (.type "tuple") = some false from rfl), ?_⟩
      walk_at "rd"
      exact hf
  | lst e hl =>
    refine ⟨_, _, _, _, rfl, .lst e, (show PySem.W.kitOne K (.type "list") (.type "tuple") = some false from rfl), ?_⟩
    walk_at "rd"
    exact h false ⟨fun z => (by cases z), fun ⟨m, a, e, _⟩ => (by cases e)⟩
  | tup e hl =>
    rename_i t xs ds
    refine ⟨_, _, _, _, rfl, .tup e, (show PySem.W.kitOne K (.type "tuple") (.type "tuple") = some true from rfl), ?_⟩
    walk_at "rd"
    refine ⟨t, _, rfl, .inr (SqT.of e), ?_⟩
    have hll := hl.length
    walk_at "rd"
    · rename_i z
      refine h false ⟨fun z => (by cases z), fun ⟨m, a, e, _⟩ => ?_⟩
      obtain rfl := PyData.tuple.inj e
      exact absurd (by rw [hll]; rfl) z
    · rename_i z
      obtain ⟨x, y, d1, d2, rfl, rfl, h1, h2⟩ : ∃ x y d1 d2, xs = [x, y] ∧ ds = [d1, d2] ∧ Sc x d1 ∧ Sc y d2 := by
        cases hl with
        | nil => simp at z
        | cons a hl => cases hl with
          | nil => simp at z
          | cons b hl => cases hl with
            | nil => exact ⟨_, _, _, _, rfl, rfl, a, b⟩
            | cons c hl => simp at z; omega
      refine ⟨t, _, _, _, rfl, rfl, SqT.of e, rfl, ?_⟩
      walk_at "rd"
      refine ⟨x, d1, 0, 360, rfl, h1, fun b1 hb1 => ?_⟩
      cases b1 with
      | false =>
        walk_at "rd"
        refine h false ⟨fun q => (by cases q), fun ⟨m, a, e, q, _⟩ => ?_⟩
        cases e
        exact hb1.mpr ⟨m, rfl, q⟩
      | true =>
        obtain ⟨m, rfl, m0, m1⟩ := hb1.mp rfl
        walk_at "rd"
        refine ⟨y, d2, -1000000000000000, 1000000000000000, rfl, h2, fun b2 hb2 => ?_⟩
        cases b2 with
        | false =>
          walk_at "rd"
          refine h false ⟨fun q => (by cases q), fun ⟨m, a, e, _, q, _⟩ => ?_⟩
          cases e
          exact hb2.mpr ⟨a, rfl, q⟩
        | true =>
          obtain ⟨a, rfl, a0, a1⟩ := hb2.mp rfl
          cases h2
          walk_at "rd"
          refine h (!decide ((V.int a) = .int 0)) ⟨fun q => ⟨m, a, rfl, ⟨m0, m1⟩, ⟨a0, a1⟩, fun z => by subst z; simp at q⟩, fun ⟨m', a', e, _, _, q⟩ => ?_⟩
          cases e
          simp [q]
--@ _law_flows
def sp__law_flows (K : PySem.W.Frag) : Sp := fun vs H Q _ => L2.Ee4 fun (a : Addr) (ns : List Int) (st M : Int) => L2.Aa4 (vs = [.ref a, .int st, .int M]) (SqL K H a (ns.map V.int)) ((0 ≤ st ∧ st ≤ 100)) (∀ (p : Addr) (xs : List V) (l : List (Int × Int)) (H' : Hp), H p = none → Same H H' → H' p = some (.lst xs) → Rows2 K H' xs l → Wth.OkF l → Q (.ref p) H')
/-- flows while they are drawn -/
structure Drw (l : List (Int × Int)) (mo : Int) (outs n : Nat) : Prop where
  len : l.length = n
  hm : 0 ≤ mo ∧ mo ≤ 2 + 5 * n
  up : l.Pairwise fun s t => s.1 < t.1
  nn : ∀ s ∈ l, 0 ≤ s.1 ∧ s.1 < mo
  am : ∀ s ∈ l, -1000000000000000 ≤ s.2 ∧ s.2 ≤ 1000000000000000
  sg : ∀ (i : Nat) s, l[i]? = some s → (i < outs → s.2 < 0) ∧ (outs ≤ i → 0 < s.2)
theorem Drw.step {l : List (Int × Int)} {mo c d : Int} {outs n : Nat} (h : Drw l mo outs n) (hc : 1 ≤ c ∧ c ≤ 1000000000000000) (hd : 1 ≤ d ∧ d ≤ 5) : Drw (l ++ [(mo, if n < outs then 0 - c else c)]) (mo + d) outs (n + 1) := by
  have mem : ∀ {p : Int × Int → Prop}, (∀ t ∈ l, p t) → p (mo, if n < outs then 0 - c else c) → ∀ t ∈ l ++ [(mo, if n < outs then 0 - c else c)], p t := fun h1 h2 t ht => by
    rcases List.mem_append.mp ht with ht | ht
    · exact h1 t ht
    · rw [List.mem_singleton.mp ht]
      exact h2
  have hm := h.hm
  refine ⟨by rw [List.length_append, h.len]; rfl, by omega, ?_, mem (fun t ht => by have := h.nn t ht; omega) (by show 0 ≤ mo ∧ mo < mo + d; omega), mem h.am (by show _ ≤ (if n < outs then 0 - c else c) ∧ (if n < outs then 0 - c else c) ≤ _; split <;> omega), fun i s hs => ?_⟩
  · rw [List.pairwise_append]
    refine ⟨h.up, by simp, fun u hu v hv => ?_⟩
    rw [List.mem_singleton.mp hv]
    exact (h.nn u hu).2
  · have hl := h.len
    by_cases hi : i < l.length
    · rw [List.getElem?_append_left hi] at hs
      exact h.sg i s hs
    · have e : i = l.length := by
        have := (List.getElem?_eq_some_iff.mp hs).1
        rw [List.length_append, List.length_singleton] at this
        omega
      subst e
      rw [List.getElem?_append_right (Nat.le_refl _), Nat.sub_self] at hs
      obtain rfl : (mo, if n < outs then 0 - c else c) = s := Option.some.inj hs
      rw [hl]
      show (n < outs → (if n < outs then 0 - c else c) < 0) ∧ (outs ≤ n → 0 < (if n < outs then 0 - c else c))
      constructor
      · intro z; rw [if_pos z]; omega
      · intro z; rw [if_neg (by omega)]; omega
theorem Drw.ok {l : List (Int × Int)} {mo : Int} {outs n : Nat} (h : Drw l mo outs n) (n2 : 2 ≤ n) (n3 : n ≤ 61) (o1 : 1 ≤ outs) (o2 : outs < n) : Wth.OkF l := by
  have hl := h.len
  have hm := h.hm
  refine ⟨by omega, by omega, h.up, fun s hs => by have := h.nn s hs; omega, h.am, ⟨l.take outs, l.drop outs, (List.take_append_drop _ _).symm, fun z => ?_, fun z => ?_, fun s hs => ?_, fun s hs => ?_⟩⟩
  · have := congrArg List.length z
    rw [List.length_take, List.length_nil] at this
    omega
  · have := congrArg List.length z
    rw [List.length_drop, List.length_nil] at this
    omega
  · obtain ⟨j, hj⟩ := List.mem_iff_getElem?.mp hs
    rw [List.getElem?_take] at hj
    split at hj
    · exact (h.sg j s hj).1 (by assumption)
    · cases hj
  · obtain ⟨j, hj⟩ := List.mem_iff_getElem?.mp hs
    rw [List.getElem?_drop] at hj
    exact (h.sg _ s hj).2 (by omega)
theorem rows_LL2 {K : PySem.W.Frag} {H : Hp} {ys : List V} {l : List (Int × Int)} (h : LL (fun v s => ∃ t, v = .ref t ∧ H t = some (.tup [.int s.1, .int s.2])) ys l) : Rows2 K H ys l := by
  induction h with
  | nil => exact .nil
  | cons h _ ih =>
    obtain ⟨t, rfl, ht⟩ := h
    exact .cons ht ih
theorem ok_many (z : Int) (z0 : 1 ≤ z) (z1 : z ≤ 1000000) : Wth.OkF ((0, 0 - 1000000000) :: (List.range 360).map fun j : Nat => ((1 + (j : Int)), 1 + z * (1 + (j : Int)) % 10000000)) := by
  have mem : ∀ s ∈ (List.range 360).map fun j : Nat => ((1 + (j : Int)), 1 + z * (1 + (j : Int)) % 10000000), (1 ≤ s.1 ∧ s.1 ≤ 360) ∧ 1 ≤ s.2 ∧ s.2 ≤ 10000000 := fun s hs => by
    obtain ⟨j, hj, rfl⟩ := List.mem_map.mp hs
    have := List.mem_range.mp hj
    have a := Int.emod_nonneg (z * (1 + (j : Int))) (show (10000000 : Int) ≠ 0 by decide)
    have b := Int.emod_lt_of_pos (z * (1 + (j : Int))) (show (0 : Int) < 10000000 by decide)
    refine ⟨⟨?_, ?_⟩, ?_, ?_⟩
    · show 1 ≤ 1 + (j : Int); omega
    · show 1 + (j : Int) ≤ 360; omega
    · show 1 ≤ 1 + z * (1 + (j : Int)) % 10000000; omega
    · show 1 + z * (1 + (j : Int)) % 10000000 ≤ 10000000; omega
  refine ⟨by simp, by simp, ?_, fun s hs => ?_, fun s hs => ?_, ⟨[(0, 0 - 1000000000)], _, rfl, by simp, by simp, fun s hs => ?_, fun s hs => by have := mem s hs; omega⟩⟩
  · rw [List.pairwise_cons]
    refine ⟨fun s hs => by have := mem s hs; show 0 < s.1; omega, ?_⟩
    rw [List.pairwise_map]
    exact List.Pairwise.imp (fun {x y} (h : x < y) => by show 1 + (x : Int) < 1 + (y : Int); omega) List.pairwise_lt_range
  · rcases List.mem_cons.mp hs with rfl | hs
    · exact ⟨Int.le_refl _, by decide⟩
    · have := mem s hs; omega
  · rcases List.mem_cons.mp hs with rfl | hs
    · exact ⟨by decide, by decide⟩
    · have := mem s hs; omega
  · rw [List.mem_singleton.mp hs]
    show (0 - 1000000000 : Int) < 0
    decide
/-- the first and the last one put otherwise -/
theorem Drw.ends {l : List (Int × Int)} {mo : Int} {outs n : Nat} {s0 : Int × Int} (h : Drw l mo outs n) (n2 : 2 ≤ n) (n3 : n ≤ 61) (o1 : 1 ≤ outs) (o2 : outs < n) (e0 : l[0]? = some s0) : Wth.OkF ([(s0.1, 0 - 1000000000000000)] ++ (l.take (n - 1)).drop 1 ++ [(360, 1000000000000000)]) := by
  have hl := h.len
  have hm := h.hm
  have ok := h.ok n2 n3 o1 o2
  have sub : ∀ s ∈ (l.take (n - 1)).drop 1, s ∈ l := fun s hs => List.mem_of_mem_take (List.mem_of_mem_drop hs)
  have ml : ((l.take (n - 1)).drop 1).length = n - 2 := by rw [List.length_drop, List.length_take]; omega
  have at_ : ∀ (j : Nat) s, ((l.take (n - 1)).drop 1)[j]? = some s → l[1 + j]? = some s ∧ 1 + j < n - 1 := fun j s hj => by
    rw [List.getElem?_drop, List.getElem?_take] at hj
    split at hj
    · exact ⟨hj, by assumption⟩
    · cases hj
  have below : ∀ s ∈ (l.take (n - 1)).drop 1, s0.1 < s.1 := fun s hs => by
    obtain ⟨j, hj⟩ := List.mem_iff_getElem?.mp hs
    exact Wth.get_up h.up e0 (at_ j s hj).1 (by omega)
  refine ⟨by rw [List.length_append, List.length_append, ml]; show 2 ≤ 1 + _ + 1; omega, by rw [List.length_append, List.length_append, ml]; show 1 + _ + 1 ≤ 361; omega, ?_, fun s hs => ?_, fun s hs => ?_, ?_⟩
  · rw [List.pairwise_append]
    refine ⟨?_, by simp, fun u hu v hv => ?_⟩
    · rw [List.singleton_append, List.pairwise_cons]
      exact ⟨fun s hs => below s hs, List.Pairwise.sublist ((List.drop_sublist _ _).trans (List.take_sublist _ _)) h.up⟩
    · rw [List.mem_singleton.mp hv]
      show u.1 < 360
      rcases List.mem_append.mp hu with hu | hu
      · rw [List.mem_singleton.mp hu]
        have := h.nn s0 (List.mem_of_getElem? e0)
        show s0.1 < 360
        omega
      · have := h.nn u (sub u hu)
        omega
  · rcases List.mem_append.mp hs with hs | hs
    · rcases List.mem_append.mp hs with hs | hs
      · rw [List.mem_singleton.mp hs]; exact ok.nn s0 (List.mem_of_getElem? e0)
      · exact ok.nn s (sub s hs)
    · rw [List.mem_singleton.mp hs]
      show (0 : Int) ≤ 360 ∧ (360 : Int) ≤ 360
      omega
  · rcases List.mem_append.mp hs with hs | hs
    · rcases List.mem_append.mp hs with hs | hs
      · rw [List.mem_singleton.mp hs]
        show (-1000000000000000 : Int) ≤ 0 - 1000000000000000 ∧ (0 - 1000000000000000 : Int) ≤ 1000000000000000
        omega
      · exact ok.am s (sub s hs)
    · rw [List.mem_singleton.mp hs]
      show (-1000000000000000 : Int) ≤ 1000000000000000 ∧ (1000000000000000 : Int) ≤ 1000000000000000
      omega
  · refine ⟨[(s0.1, 0 - 1000000000000000)] ++ ((l.take (n - 1)).drop 1).take (outs - 1), ((l.take (n - 1)).drop 1).drop (outs - 1) ++ [(360, 1000000000000000)], ?_, by simp, by simp, fun s hs => ?_, fun s hs => ?_⟩
    · rw [List.append_assoc, List.append_assoc]
      congr 1
      rw [← List.append_assoc (((l.take (n - 1)).drop 1).take _), List.take_append_drop]
    · rcases List.mem_append.mp hs with hs | hs
      · rw [List.mem_singleton.mp hs]
        show (0 - 1000000000000000 : Int) < 0
        omega
      · obtain ⟨j, hj⟩ := List.mem_iff_getElem?.mp hs
        rw [List.getElem?_take] at hj
        split at hj
        · obtain ⟨e, _⟩ := at_ j s hj
          exact (h.sg _ s e).1 (by omega)
        · cases hj
    · rcases List.mem_append.mp hs with hs | hs
      · obtain ⟨j, hj⟩ := List.mem_iff_getElem?.mp hs
        rw [List.getElem?_drop] at hj
        obtain ⟨e, _⟩ := at_ _ s hj
        exact (h.sg _ s e).2 (by omega)
      · rw [List.mem_singleton.mp hs]
        show (0 : Int) < 1000000000000000
        omega
theorem cutV_mid (xs : List V) (h : 1 ≤ xs.length) : cutV xs (some 1) (some (-1)) = (xs.take (xs.length - 1)).drop 1 := by
  unfold cutV
  have e1 : HT.sIx xs.length 0 (some 1) = 1 := by
    have := sIx_nat xs.length 0 1
    rw [show ((1 : Nat) : Int) = 1 from rfl] at this
    rw [this]
    omega
  have e2 : HT.sIx xs.length xs.length (some (-1)) = xs.length - 1 := by
    show (if (-1 : Int) < 0 then ((-1 : Int) + (xs.length : Int)).toNat else min (-1 : Int).toNat xs.length) = _
    rw [if_pos (by omega)]
    omega
  rw [e1, e2, List.drop_take]
theorem sc__law_flows : FnScope ["_law_script", "_law_start", "_law_most", "_law_count", "_law_size", "_law_k", "_law_month", "_law_outs", "_law_flows_here", "_law_cell_here", "_law_amount"] ["_law_script", "_law_start", "_law_most"] (defScope s__law_flows) := ⟨rfl, rfl, rfl, by decide +kernel, rfl, by decide +kernel, by decide +kernel⟩
theorem d__law_flows (S : Src K mg "_law_flows" s__law_flows ["_law_script", "_law_start", "_law_most"]) (T : Txt K mg) (D__law_cell : Def P w K mg base 2 "_law_cell" ["_law_script", "_law_k"] (sp__law_cell K)) : Def P w K mg base 3 "_law_flows" ["_law_script", "_law_start", "_law_most"] (sp__law_flows K) := by
  refine S.ok sc__law_flows (fun vs H Q E h => ?_) (fun f cdv A outer s H vs Q E hr h => ?_)
  · obtain ⟨a, ns, st, M, rfl, hS, ⟨s0, s1⟩, h⟩ := h
    rfl
  obtain ⟨a, ns, st, M, rfl, hS, ⟨s0, s1⟩, h⟩ := h
  refine ⟨_, (pss_consN (ps_set (i := 3) sc__law_flows.nd rfl (by first | exact Or.inl rfl | exact Or.inr rfl) (pe_op op_add pe_int (pe_op op_mod (pe_fn D__law_cell hr (pa_cons (pv 0) (pa_cons (pv 1) pa_nil))) (pe_ix ix_list (pe_lst (pa_cons pe_int (pa_cons pe_int (pa_cons pe_int pa_nil)))) (pe_op op_mod (pe_op op_fdiv (pe_fn D__law_cell hr (pa_cons (pv 0) (pa_cons (pv 1) pa_nil))) pe_int) pe_int) (fun _ _ => rfl)))))
      (pss_consN (ps_if (pt_cmpR op_eq (pe_op op_mod (pe_op op_fdiv (pe_fn D__law_cell hr (pa_cons (pv 0) (pa_cons (pv 1) pa_nil))) pe_int) pe_int) pe_int (nomark _))
      (pss_consN (ps_set (i := 4) sc__law_flows.nd rfl (by first | exact Or.inl rfl | exact Or.inr rfl) (pe_op op_add pe_int (pe_op op_mod (pe_fn D__law_cell hr (pa_cons (pv 0) (pa_cons (pe_op op_add (pv 1) pe_int) pa_nil))) (pe_powc (v := 1000000) (by decide +kernel) ⟨by decide, by decide, by decide⟩))))
      (pss_one (ps_ret (pe_op op_cat (pe_lst (pa_cons (pe_tup (pa_cons pe_int (pa_cons (pe_op op_sub pe_int (pe_powc (v := 1000000000) (by decide +kernel) ⟨by decide, by decide, by decide⟩)) pa_nil))) pa_nil)) (pe_comp (ix := [4]) ⟨rfl, by decide +kernel, rfl, by decide +kernel, rfl, (show (["_law_k", "_law_size"] : List Str).Nodup by decide +kernel), by walk_at "cap", by walk_at "sub", by walk_at "has"⟩ (pi_range2 rfl T.n_range (pa_cons pe_int (pa_cons pe_int pa_nil))) (fun b => (pe_tup (pa_cons (pv 0) (pa_cons (pe_op op_add pe_int (pe_op op_mod (pe_op op_mul (pv 1) (pv 0)) (pe_powc (v := 10000000) (by decide +kernel) ⟨by decide, by decide, by decide⟩))) pa_nil)))))))))
      pss_nil)
      (pss_consN (ps_set (i := 6) sc__law_flows.nd rfl (by first | exact Or.inl rfl | exact Or.inr rfl) (pe_op op_mod (pe_fn D__law_cell hr (pa_cons (pv 0) (pa_cons (pe_op op_add (pv 1) pe_int) pa_nil))) pe_int))
      (pss_consN (ps_set (i := 7) sc__law_flows.nd rfl (by first | exact Or.inl rfl | exact Or.inr rfl) (pe_op op_add pe_int (pe_op op_mod (pe_op op_fdiv (pe_fn D__law_cell hr (pa_cons (pv 0) (pa_cons (pe_op op_add (pv 1) pe_int) pa_nil))) pe_int) (pe_op op_sub (pv 3) pe_int))))
      (pss_consN (ps_set (i := 8) sc__law_flows.nd rfl (by first | exact Or.inl rfl | exact Or.inr rfl) (pe_lst pa_nil))
      (pss_consN (ps_for PassesOwn.never rfl (pi_range1 rfl T.n_range (pa_cons (pv 3) pa_nil)) (pg_name (i := 5) sc__law_flows.nd rfl (by first | exact Or.inl rfl | exact Or.inr rfl))
      (pss_consN (ps_set (i := 9) sc__law_flows.nd rfl (by first | exact Or.inl rfl | exact Or.inr rfl) (pe_fn D__law_cell hr (pa_cons (pv 0) (pa_cons (pe_op op_add (pe_op op_add (pv 1) pe_int) (pv 5)) pa_nil))))
      (pss_consN (ps_set (i := 10) sc__law_flows.nd rfl (by first | exact Or.inl rfl | exact Or.inr rfl) (pe_ix ix_list (pe_lst (pa_cons (pe_op op_add pe_int (pe_op op_mod (pe_op op_fdiv (pv 9) pe_int) (pe_powc (v := 1000000) (by decide +kernel) ⟨by decide, by decide, by decide⟩))) (pa_cons (pe_op op_add pe_int (pe_op op_mod (pe_op op_fdiv (pv 9) pe_int) (pe_powc (v := 1000000000000000) (by decide +kernel) ⟨by decide, by decide, by decide⟩))) (pa_cons (pe_op op_mul (pe_powc (v := 10000) (by decide +kernel) ⟨by decide, by decide, by decide⟩) (pe_op op_add pe_int (pe_op op_mod (pe_op op_fdiv (pv 9) pe_int) pe_int))) pa_nil)))) (pe_op op_mod (pv 9) pe_int) (fun _ _ => rfl)))
      (pss_consN (ps_expr (pe_bm PySem.F.plainAttrs_list PySem.F.slot_list_append PySem.F.type_list_append mt_append (pv 8) (pa_cons (pe_tup (pa_cons (pv 6) (pa_cons (pe_ix ix_list (pe_lst (pa_cons (pv 10) (pa_cons (pe_op op_sub pe_int (pv 10)) pa_nil))) (pe_callTy call_int1 rfl T.n_int PyProof.Rows.boot_int (pa_cons (pe_cmpR op_lt (pv 5) (pv 7) (nomark _)) pa_nil)) (fun _ _ => rfl)) pa_nil))) pa_nil)))
      (pss_one (ps_set (i := 6) sc__law_flows.nd rfl (by first | exact Or.inl rfl | exact Or.inr rfl) (pe_op op_add (pe_op op_add (pv 6) pe_int) (pe_ix ix_list (pe_lst (pa_cons pe_int (pa_cons (pe_op op_mod (pe_op op_fdiv (pv 9) pe_int) pe_int) pa_nil))) (pe_op op_mod (pe_op op_fdiv (pv 9) pe_int) pe_int) (fun _ _ => rfl)))))))))
      (pss_consN (ps_if (pt_cmpR op_eq (pe_op op_mod (pe_op op_fdiv (pe_fn D__law_cell hr (pa_cons (pv 0) (pa_cons (pv 1) pa_nil))) pe_int) pe_int) pe_int (nomark _))
      (pss_one (ps_set (i := 8) sc__law_flows.nd rfl (by first | exact Or.inl rfl | exact Or.inr rfl) (pe_op op_cat (pe_op op_cat (pe_lst (pa_cons (pe_tup (pa_cons (pe_ix ix_tup (pe_ix ix_list (pv 8) pe_int (fun _ _ => rfl)) pe_int (fun _ _ => rfl)) (pa_cons (pe_op op_sub pe_int (pe_powc (v := 1000000000000000) (by decide +kernel) ⟨by decide, by decide, by decide⟩)) pa_nil))) pa_nil)) (pe_slice sl_list (pv 8) (po_some pe_int) (po_some (pe_un un_neg pe_int)))) (pe_lst (pa_cons (pe_tup (pa_cons pe_int (pa_cons (pe_powc (v := 1000000000000000) (by decide +kernel) ⟨by decide, by decide, by decide⟩) pa_nil))) pa_nil)))))
      pss_nil)
      (pss_one (ps_ret (pv 8)))))))))), ?_⟩
  have sz := sizeLine_eq
  walk_at "rd"
  rename_i c1 c1p c1b
  intro p1 np1
  have sp1 := same_new np1 (.lst [.int 4, .int 20, .int 60])
  have hS1 := sp1.seq hS
  walk_at "rd"
  rename_i c2 c2p c2b
  obtain ⟨v, hv, hmm⟩ := at_mem (xs := [.int 4, .int 20, .int 60]) (k := c2 / 60 % 3) (by omega) (by simp; omega)
  obtain ⟨m, rfl, m0, m1⟩ := (mem1 ⟨_, rfl, by omega, by omega⟩ (mem1 ⟨_, rfl, by omega, by omega⟩ (mem1 ⟨_, rfl, by omega, by omega⟩ mem0)) : ∀ v ∈ ([.int 4, .int 20, .int 60] : List V), ∃ w : Int, v = .int w ∧ 4 ≤ w ∧ w ≤ 60) v hmm
  refine ⟨p1, _, _, _, rfl, rfl, SqL.of upd_same, hv, ?_⟩
  clear hv hmm
  have k0 := Int.emod_nonneg c1 (show m ≠ 0 by omega)
  have k1 := Int.emod_lt_of_pos c1 (show 0 < m by omega)
  generalize upd H p1 (.lst [.int 4, .int 20, .int 60]) = H1 at sp1 hS1 ⊢
  have cn2 : 2 ≤ 2 + c1 % m := by omega
  have cn3 : 2 + c1 % m ≤ 61 := by omega
  walk_at "rd"
  · rename_i z c3 c3p c3b
    intro t1 nt1
    have st1 := same_new nt1 (.tup [.int 0, .int (0 - 1000000000)])
    have et1 := at_new (.tup [.int 0, .int (0 - 1000000000)]) nt1
    walk_at "rd"
    intro q1 nq1
    have st2 := same_new nq1 (.lst [.ref t1])
    have e2 := at_new (.lst [.ref t1]) nq1
    have et2 := st2 _ _ et1
    have sA := sp1.trans (st1.trans st2)
    generalize upd (upd H1 t1 (.tup [.int 0, .int (0 - 1000000000)])) q1 (.lst [.ref t1]) = H2 at st2 e2 et2 sA ⊢
    walk_at "rd"
    intro l3 nl3
    have b3 := Int.emod_nonneg c3 (show (1000000 : Int) ≠ 0 by decide)
    have b4 := Int.emod_lt_of_pos c3 (show (0 : Int) < 1000000 by decide)
    refine comp_rngM nl3 (by rw [sz]; decide) ((List.range 360).map fun j : Nat => ((1 + (j : Int)), 1 + (1 + c3 % 1000000) * (1 + (j : Int)) % 10000000)) (by simp) (fun H' v s => ∃ t, v = .ref t ∧ H' t = some (.tup [.int s.1, .int s.2])) (fun v e H1 H2 s ⟨t, e1, e2⟩ => ⟨t, e1, s _ _ e2⟩) (fun v e H1 ys zs hL ⟨t, e1, e2⟩ => ⟨t, e1, by rw [upd_ne (ne_of e2 hL (by intro z; cases z))]; exact e2⟩) ?_ ?_
    · intro i e H' Q' hi he sH hq
      have hi' : i < 360 := hi
      rw [List.getElem?_map, List.getElem?_range hi'] at he
      obtain rfl := Option.some.inj he
      walk_at "rd"
      intro t nt
      exact hq _ _ (same_new nt _) ⟨t, rfl, upd_same⟩
    · intro ys H3 s3 eL3 hL3
      have hR3 := rows_LL2 (K := K) hL3
      have yl := hR3.length
      rw [List.length_map, List.length_range] at yl
      have e23 := s3 _ _ e2
      have et3 := s3 _ _ et2
      refine ⟨q1, l3, _, _, rfl, rfl, e23, eL3, by show 1 + ys.length ≤ _; omega, fun q4 nq4 => ?_⟩
      have s4 := same_new nq4 (.lst ([.ref t1] ++ ys))
      refine h q4 _ _ _ (same_gone sA (same_gone s3 nq4)) (sA.trans (s3.trans s4)) upd_same (.cons (s4 _ _ et3) (hR3.same s4)) (ok_many _ (by omega) (by omega))
  · rename_i z c3 c3p c3b c4 c4p c4b
    intro pf npf
    have sf := same_new npf (.lst [])
    have ef := at_new (.lst []) npf
    have npfH := same_gone sp1 npf
    have o0 := Int.emod_nonneg (c4 / 3) (show (2 + c1 % m - 1) ≠ 0 by omega)
    have o1 := Int.emod_lt_of_pos (c4 / 3) (show 0 < (2 + c1 % m - 1) by omega)
    have mo0 := Int.emod_nonneg c3 (show (3 : Int) ≠ 0 by decide)
    have mo1 := Int.emod_lt_of_pos c3 (show (0 : Int) < 3 by decide)
    generalize hou : 1 + c4 / 3 % (2 + c1 % m - 1) = ou
    have ou0 : 1 ≤ ou.toNat := by omega
    have ou1 : ou.toNat < (2 + c1 % m).toNat := by omega
    have D0 : Drw [] (c3 % 3) ou.toNat 0 := ⟨rfl, by omega, .nil, (fun s hs => by cases hs), (fun s hs => by cases hs), (fun i s hs => by simp at hs)⟩
    show gName 8 (V.ref pf) [some (.ref a), some (.int st), some (.int M), some (.int (2 + c1 % m)), none, none, some (.int (c3 % 3)), some (.int (1 + c4 / 3 % (2 + c1 % m - 1))), none, none, none] _ _
    rw [hou]
    walk_at "rd"
    refine for_range (fun i σ H' => ∃ (xs : List V) (l : List (Int × Int)) (mo : Int) (z1 z2 z3 z4 : Option V), (Same H1 H' ∧ H' pf = some (.lst xs)) ∧ Rows2 K H' xs l ∧ Drw l mo ou.toNat i ∧ σ = [some (.ref a), some (.int st), some (.int M), some (.int (2 + c1 % m)), z1, z2, some (.int mo), some (.int ou), some (.ref pf), z3, z4])
      ⟨[], [], _, _, _, _, _, ⟨sf, ef⟩, .nil, D0, rfl⟩ ?_ ?_
    · rintro i σ H' hi ⟨xs, l, mo, z1, z2, z3, z4, ⟨sH, eX⟩, hR, D, rfl⟩
      have hS' := sH.seq hS1
      have xl := hR.length
      have dl := D.len
      walk_at "rd"
      rename_i c5 c5p c5b
      intro p4 np4
      have s4 := same_new np4 (.lst [.int (1 + c5 / 3 % 1000000), .int (1 + c5 / 3 % 1000000000000000), .int (10000 * (1 + c5 / 3 % 99))])
      obtain ⟨v, hv, hmm⟩ := at_mem (xs := [.int (1 + c5 / 3 % 1000000), .int (1 + c5 / 3 % 1000000000000000), .int (10000 * (1 + c5 / 3 % 99))]) (k := c5 % 3) (by omega) (by simp; omega)
      obtain ⟨am, rfl, am0, am1⟩ := (mem1 ⟨_, rfl, by omega, by omega⟩ (mem1 ⟨_, rfl, by omega, by omega⟩ (mem1 ⟨_, rfl, by omega, by omega⟩ mem0)) : ∀ v ∈ ([.int (1 + c5 / 3 % 1000000), .int (1 + c5 / 3 % 1000000000000000), .int (10000 * (1 + c5 / 3 % 99))] : List V), ∃ w : Int, v = .int w ∧ 1 ≤ w ∧ w ≤ 1000000000000000) v hmm
      walk_at "rd"
      refine ⟨p4, _, _, _, rfl, rfl, SqL.of upd_same, hv, ?_⟩
      clear hv hmm
      have eX4 := s4 _ _ eX
      have hR4 := hR.same s4
      generalize upd H' p4 (.lst [.int (1 + c5 / 3 % 1000000), .int (1 + c5 / 3 % 1000000000000000), .int (10000 * (1 + c5 / 3 % 99))]) = H4 at s4 eX4 hR4 ⊢
      have sH4 := sH.trans s4
      walk_at "rd"
      refine ⟨.inl ⟨rfl, _, SqL.of eX4⟩, ?_⟩
      walk_at "rd"
      intro p5 np5
      have s5 := same_new np5 (.lst [.int am, .int (0 - am)])
      walk_at "rd"
      refine .inr ⟨_, rfl, ?_⟩
      refine ⟨p5, _, _, .int (if i < ou.toNat then 0 - am else am), rfl, rfl, SqL.of upd_same, ?_, ?_⟩
      · by_cases hio : 0 + (i : Int) < ou
        · rw [if_pos (show i < ou.toNat by omega), decide_eq_true hio]; rfl
        · rw [if_neg (show ¬ i < ou.toNat by omega), decide_eq_false hio]; rfl
      walk_at "rd"
      intro t6 nt6
      have s6 := same_new nt6 (.tup [.int mo, .int (if i < ou.toNat then 0 - am else am)])
      have et6 := at_new (.tup [.int mo, .int (if i < ou.toNat then 0 - am else am)]) nt6
      have eX6 := s6 _ _ (s5 _ _ eX4)
      have hR6 := hR4.same (s5.trans s6)
      have sH6 := sH4.trans (s5.trans s6)
      generalize upd (upd H4 p5 (.lst [.int am, .int (0 - am)])) t6 (.tup [.int mo, .int (if i < ou.toNat then 0 - am else am)]) = H6 at s6 et6 eX6 hR6 sH6 ⊢
      walk_at "rd"
      refine ⟨pf, _, _, rfl, rfl, eX6, by omega, ?_⟩
      have R7 := (hR6.push (s := (mo, if i < ou.toNat then 0 - am else am)) et6).put (zs := xs ++ [.ref t6]) eX6
      have sH7 := same_put (o := .lst (xs ++ [.ref t6])) sH6 npf
      have e7 : (upd H6 pf (.lst (xs ++ [.ref t6]))) pf = some (.lst (xs ++ [.ref t6])) := upd_same
      generalize upd H6 pf (.lst (xs ++ [.ref t6])) = H7 at R7 sH7 e7 ⊢
      walk_at "rd"
      intro p8 np8
      have s8 := same_new np8 (.lst [.int 0, .int (c5 / 9 % 5)])
      obtain ⟨v, hv, hmm⟩ := at_mem (xs := [.int 0, .int (c5 / 9 % 5)]) (k := c5 / 45 % 2) (by omega) (by simp; omega)
      obtain ⟨dd, rfl, d0, d1⟩ := (mem1 ⟨_, rfl, by omega, by omega⟩ (mem1 ⟨_, rfl, by omega, by omega⟩ mem0) : ∀ v ∈ ([.int 0, .int (c5 / 9 % 5)] : List V), ∃ w : Int, v = .int w ∧ 0 ≤ w ∧ w ≤ 4) v hmm
      walk_at "rd"
      refine ⟨p8, _, _, _, rfl, rfl, SqL.of upd_same, hv, ?_⟩
      clear hv hmm
      walk_at "rd"
      have D' := D.step (c := am) (d := 1 + dd) ⟨am0, am1⟩ (by omega)
      rw [← Int.add_assoc] at D'
      exact ⟨_, _, _, _, _, _, _, ⟨sH7.trans s8, s8 _ _ e7⟩, R7.same s8, D', rfl⟩
    · rintro σ H' ⟨xs, l, mo, z1, z2, z3, z4, ⟨sH, eX⟩, hR, D, rfl⟩
      have hS' := sH.seq hS1
      walk_at "rd"
      · have xl := hR.length
        have dl := D.len
        have lx : 0 < xs.length := by omega
        obtain ⟨t0, sf0, ev, es, ht⟩ := hR.get (List.getElem?_eq_getElem lx)
        have at0 : atI xs 0 = some (.ref t0) := atI_nat (j := 0) (by rw [List.getElem?_eq_getElem lx, ev])
        refine ⟨pf, xs, 0, .ref t0, rfl, rfl, SqL.of eX, at0, ?_⟩
        refine ⟨t0, _, _, _, rfl, rfl, SqT.of ht, rfl, ?_⟩
        walk_at "rd"
        intro t1 nt1
        have k1 := same_new nt1 (.tup [.int sf0.1, .int (0 - 1000000000000000)])
        have et1 := at_new (.tup [.int sf0.1, .int (0 - 1000000000000000)]) nt1
        walk_at "rd"
        intro q1 nq1
        have k2 := same_new nq1 (.lst [.ref t1])
        have e1 := at_new (.lst [.ref t1]) nq1
        have et2 := k2 _ _ et1
        have eX2 := k2 _ _ (k1 _ _ eX)
        have hR2 := hR.same (k1.trans k2)
        have kA := k1.trans k2
        generalize upd (upd H' t1 (.tup [.int sf0.1, .int (0 - 1000000000000000)])) q1 (.lst [.ref t1]) = H2 at k2 e1 et2 eX2 hR2 kA ⊢
        walk_at "rd"
        refine ⟨pf, _, rfl, SqL.of eX2, fun q2 nq2 => ?_⟩
        rw [cutV_mid xs (by omega)]
        have k3 := same_new nq2 (.lst ((xs.take (xs.length - 1)).drop 1))
        have e23 := at_new (.lst ((xs.take (xs.length - 1)).drop 1)) nq2
        have e13 := k3 _ _ e1
        have et3 := k3 _ _ et2
        have hR3 := hR2.same k3
        have kB := kA.trans k3
        generalize upd H2 q2 (.lst ((xs.take (xs.length - 1)).drop 1)) = H3 at k3 e23 e13 et3 hR3 kB ⊢
        have cl : ((xs.take (xs.length - 1)).drop 1).length ≤ 61 := by rw [List.length_drop, List.length_take]; omega
        refine ⟨q1, q2, _, _, rfl, rfl, e13, e23, by show 1 + ((xs.take (xs.length - 1)).drop 1).length ≤ _; omega, fun q3 nq3 => ?_⟩
        have k4 := same_new nq3 (.lst ([.ref t1] ++ (xs.take (xs.length - 1)).drop 1))
        have e34 := at_new (.lst ([.ref t1] ++ (xs.take (xs.length - 1)).drop 1)) nq3
        have hR4 : Rows2 K (upd H3 q3 (.lst ([.ref t1] ++ (xs.take (xs.length - 1)).drop 1))) ([.ref t1] ++ (xs.take (xs.length - 1)).drop 1) ([(sf0.1, 0 - 1000000000000000)] ++ (l.take (l.length - 1)).drop 1) := (rowsF_app (.cons et3 .nil) (by have := rowsF_drop (rowsF_take hR3 (xs.length - 1)) 1; rw [xl] at this ⊢; exact this)).same k4
        have kC := kB.trans k4
        generalize upd H3 q3 (.lst ([.ref t1] ++ (xs.take (xs.length - 1)).drop 1)) = H4 at k4 e34 hR4 kC ⊢
        walk_at "rd"
        intro t5 nt5
        have k5 := same_new nt5 (.tup [.int 360, .int 1000000000000000])
        have et5 := at_new (.tup [.int 360, .int 1000000000000000]) nt5
        walk_at "rd"
        intro q6 nq6
        have k6 := same_new nq6 (.lst [.ref t5])
        have e6 := at_new (.lst [.ref t5]) nq6
        refine ⟨q3, q6, _, _, rfl, rfl, k6 _ _ (k5 _ _ e34), e6, by rw [List.length_append, List.length_singleton, List.length_singleton]; omega, fun q7 nq7 => ?_⟩
        have k7 := same_new nq7 (.lst (([.ref t1] ++ (xs.take (xs.length - 1)).drop 1) ++ [.ref t5]))
        have kD := sp1.trans (sH.trans (kC.trans (k5.trans k6)))
        have ok := D.ends (by omega) (by omega) ou0 ou1 es
        rw [← D.len] at ok
        walk_at "rd"
        exact h q7 _ _ _ (same_gone kD nq7) (kD.trans k7) upd_same (rowsF_app (hR4.same (k5.trans (k6.trans k7))) (.cons (k7 _ _ (k6 _ _ et5)) .nil)) ok
      · exact h pf xs l H' npfH (sp1.trans sH) eX hR (D.ok (by omega) (by omega) ou0 ou1)
--@ are_flows
theorem bools_srt {cs : List Bool} (h : cs.Pairwise fun x y => SortG.b2n x ≤ SortG.b2n y) : cs = List.replicate (cs.count false) false ++ List.replicate (cs.count true) true := by
  induction cs with
  | nil => rfl
  | cons c cs ih =>
    obtain ⟨h1, h2⟩ := List.pairwise_cons.mp h
    cases c with
    | false =>
      rw [List.count_cons_self, List.count_cons_of_ne (by decide), List.replicate_succ, List.cons_append, ← ih h2]
    | true =>
      have all : ∀ x ∈ cs, x = true := fun x hx => by
        have := h1 x hx
        cases x with
        | true => rfl
        | false => exact absurd this (by decide)
      have e : cs = List.replicate cs.length true := List.eq_replicate_of_mem all
      rw [e]
      simp [List.count_cons, List.count_replicate, List.replicate_succ]
theorem bools_eq {as bs : List Bool} (ha : as.Pairwise fun x y => SortG.b2n x ≤ SortG.b2n y) (hb : bs.Pairwise fun x y => SortG.b2n x ≤ SortG.b2n y) (p : as.Perm bs) : as = bs := by
  rw [bools_srt ha, bools_srt hb, p.count_eq, p.count_eq]
theorem rd_bools {K : PySem.W.Frag} {H : Hp} : ∀ bs : List Bool, RdVs K H (bs.map V.bl) (bs.map PyData.bool)
  | [] => .nil
  | b :: bs => .cons (.bl b) (rd_bools bs)
theorem shaped_bools (bs : List Bool) : SeqAt.shaped (.list (bs.map PyData.bool)) = true := by
  have c : PyData.canLayAll0 (bs.map PyData.bool) = true := by
    induction bs with
    | nil => simp [PyData.canLayAll0]
    | cons b bs ih => simp [PyData.canLayAll0, PyData.canLay0, ih]
  have d : PyData.depthAll (bs.map PyData.bool) ≤ 1 := by
    induction bs with
    | nil => simp [PyData.depthAll]
    | cons b bs ih =>
      have := ih (by
        simp only [List.map_cons, PyData.canLayAll0, Bool.and_eq_true] at c
        exact c.2)
      simp only [List.map_cons, PyData.depthAll, PyData.depth]
      omega
  simp [SeqAt.shaped, PyData.canLay0, PyData.depth, c]
  omega
theorem flows_srt {l : List (Int × Int)} (O : Wth.OkF l) : (l.map fun s => decide (s.2 > 0)).Pairwise fun x y => SortG.b2n x ≤ SortG.b2n y := by
  obtain ⟨a1, a2, rfl, _, _, h1, h2⟩ := O.sg
  rw [List.map_append, List.pairwise_append]
  refine ⟨?_, ?_, ?_⟩
  · rw [List.pairwise_map]
    exact List.pairwise_of_forall_mem_list (fun x hx y hy => by rw [decide_eq_false (by have := h1 x hx; omega), decide_eq_false (by have := h1 y hy; omega)]; exact Int.le_refl _)
  · rw [List.pairwise_map]
    exact List.pairwise_of_forall_mem_list (fun x hx y hy => by rw [decide_eq_true (by have := h2 x hx; omega), decide_eq_true (by have := h2 y hy; omega)]; exact Int.le_refl _)
  · intro x hx y hy
    obtain ⟨u, hu, rfl⟩ := List.mem_map.mp hx
    rw [decide_eq_false (by have := h1 u hu; omega)]
    cases y <;> decide
def sp_are_flows (K : PySem.W.Frag) : Sp := fun vs H Q _ => ∃ (v : V) (d : PyData), vs = [v] ∧ (It2 H v d ∨ (d = .none ∧ ∃ a, v = .ref a ∧ IsDc H a)) ∧ ∀ b : Bool, (b = true ↔ FlowsD d) → Q (.bl b) H
theorem sc_are_flows : FnScope ["things", "months", "comes_in", "in_order"] ["things"] (defScope s_are_flows) := ⟨rfl, rfl, rfl, by decide +kernel, rfl, by decide +kernel, by decide +kernel⟩
theorem d_are_flows (S : Src K mg "are_flows" s_are_flows ["things"]) (T : Txt K mg) (D_is_flow : Def P w K mg base 3 "is_flow" ["thing"] (sp_is_flow K)) : Def P w K mg base 4 "are_flows" ["things"] (sp_are_flows K) := by
  refine S.okF sc_are_flows (fun vs H Q E h => ?_) (fun f cdv A outer s H vs Q E hr h => ?_)
  · obtain ⟨v, d, rfl, hv, h⟩ := h
    rfl
  obtain ⟨v, d, rfl, hv, h⟩ := h
  refine ⟨_, (pss_consN (ps_if (PW.pt (pw_or (pt_not (pt_val (pe_callB (call_isinstDX K) rfl T.n_isinstance PyProof.Rows.boot_isinstance (pa_cons (pv 0) (pa_cons (pe_bltn (v := .ty "list") rfl T.n_list PyProof.Rows.boot_list rfl) pa_nil))))) (pw_or1 (pt_not (pt_chain op_le op_le pe_int (pe_callB call_len_seq rfl T.n_len PySem.boot_len (pa_cons (pv 0) pa_nil)) (pe_op op_add (pe_gint T.g_MOST_MONTH) pe_int))))))
      (pss_one (ps_ret pe_bl))
      pss_nil)
      (pss_consN (ps_if (pt_not (pt_val (pe_callB (call_allB rfl) rfl T.n_all PyProof.Rows.boot_all (pa_cons (pe_comp (ix := []) ⟨rfl, by decide +kernel, rfl, by decide +kernel, rfl, (show (["thing"] : List Str).Nodup by decide +kernel), by walk_at "cap", by walk_at "sub", by walk_at "has"⟩ (pi_list (pv 0)) (fun b => (pe_fn D_is_flow hr (pa_cons (pv 0) pa_nil)))) pa_nil))))
      (pss_one (ps_ret pe_bl))
      pss_nil)
      (pss_consN (ps_setc (i := 1) sc_are_flows.nd rfl rfl (ix := []) ⟨rfl, by decide +kernel, rfl, by decide +kernel, rfl, (show (["flow"] : List Str).Nodup by decide +kernel), by walk_at "cap", by walk_at "sub", by walk_at "has"⟩ (pi_list (pv 0)) (fun b => (pe_ix (ix_tupK K) (pv 0) pe_int (fun _ _ => rfl))))
      (pss_consN (ps_setc (i := 2) sc_are_flows.nd rfl rfl (ix := []) ⟨rfl, by decide +kernel, rfl, by decide +kernel, rfl, (show (["flow"] : List Str).Nodup by decide +kernel), by walk_at "cap", by walk_at "sub", by walk_at "has"⟩ (pi_list (pv 0)) (fun b => (pe_cmpR op_gt (pe_ix (ix_tupK K) (pv 0) pe_int (fun _ _ => rfl)) pe_int (nomark _))))
      (pss_consN (ps_set (i := 3) sc_are_flows.nd rfl (by first | exact Or.inl rfl | exact Or.inr rfl) (pe_and (pe_cmpR (op_eqD hr.units) (pv 1) (pe_callB (call_sortedSG rfl) rfl T.n_sorted PyProof.Rows.boot_sorted (pa_cons (pe_callTy (call_setI rfl) rfl T.n_set PyProof.Rows.boot_set (pa_cons (pv 1) pa_nil)) pa_nil)) (nomark _)) (pe_one (pe_cmpR (op_eqD hr.units) (pv 2) (pe_callB call_sortedB rfl T.n_sorted PyProof.Rows.boot_sorted (pa_cons (pv 2) pa_nil)) (nomark _)))))
      (pss_one (ps_ret (pe_and (pv 3) (pe_and (pe_ix ix_list (pv 2) (pe_un un_neg pe_int) (fun _ _ => rfl)) (pe_one (pe_not (pe_ix ix_list (pv 2) pe_int (fun _ _ => rfl))))))))))))), ?_⟩
  have sz := sizeLine_eq
  walk_at "rd"
  rcases hv with hv | ⟨rfl, a, rfl, hd⟩
  rotate_left
  · refine ⟨_, _, _, _, rfl, .inr ⟨rfl, a, rfl, hd⟩, (show PySem.W.kitOne K (.type "dict") (.type "list") = some false from rfl), ?_⟩
    walk_at "rd"
    exact ⟨Same.refl _, h false ⟨fun z => (by cases z), fun ⟨l, e, _⟩ => (by cases e)⟩⟩
  rcases hv.view (K := K) with ⟨p, xs, ds, rfl, eP, hL, rfl⟩ | ⟨hn, t, ht, hk⟩
  rotate_left
  · refine ⟨_, _, _, _, rfl, .inl ht, hk, ?_⟩
    walk_at "rd"
    exact ⟨Same.refl _, h false ⟨fun z => (by cases z), fun ⟨l, e, _⟩ => absurd e (hn _)⟩⟩
  have xl := hL.length
  refine ⟨_, _, _, _, rfl, .inl (.lst eP), (show PySem.W.kitOne K (.type "list") (.type "list") = some true from rfl), ?_⟩
  walk_at "rd"
  refine ⟨p, xs, rfl, .inl (SqL.of eP), ?_⟩
  have hlen : FlowsD (.list ds) → 2 ≤ xs.length ∧ xs.length ≤ 361 := fun ⟨l, e, O⟩ => by
    obtain rfl := PyData.list.inj e
    rw [List.length_map] at xl
    have := O.n2
    have := O.n3
    omega
  walk_at "rd"
  · rename_i z1 z2
    exact ⟨Same.refl _, h false ⟨fun z => (by cases z), fun z => absurd (hlen z) (by omega)⟩⟩
  rotate_left
  · rename_i z1
    exact ⟨Same.refl _, h false ⟨fun z => (by cases z), fun z => absurd (hlen z) (by omega)⟩⟩
  rename_i z1 z2
  have n2 : 2 ≤ xs.length := by omega
  have n3 : xs.length ≤ 361 := by omega
  clear hlen
  refine ⟨⟨_, SqL.of eP⟩, fun l1 nl1 => ?_⟩
  refine comp_map (walk_list (SqL.of eP)) nl1 (by omega) ds xl.symm (fun _ v e => ∃ b : Bool, v = .bl b ∧ (b = true ↔ FlowD e)) (fun v e H1 H2 s q => q) (fun v e H1 ys zs hL q => q) ?_ ?_
  · rintro i x e H' Q' hx he sH hq
    have hI : It1 H' x e := by
      obtain ⟨e', h1, h2⟩ := hL.get hx
      rw [he] at h1
      cases h1
      exact h2.same sH
    walk_at "rd"
    exact ⟨x, e, rfl, hI, fun b hb => hq _ _ (Same.refl _) ⟨b, rfl, hb⟩⟩
  rintro ys H1 s1 e1 hL1
  obtain ⟨bs, rfl, hbs⟩ := bools_of hL1
  have eP1 := s1 _ _ eP
  walk_at "rd"
  refine ⟨l1, bs, rfl, SqL.of e1, ?_⟩
  cases hall : bs.all id with
  | false =>
    walk_at "rd"
    refine h false ⟨fun z => (by cases z), fun z => ?_⟩
    rw [hbs.mpr z.mem] at hall
    exact hall.symm
  | true =>
    obtain ⟨l, rfl, hl⟩ := flows_of (hbs.mp hall)
    have hR := it_rows (K := K) hL
    have hR1 := hR.same s1
    rw [List.length_map] at xl
    walk_at "rd"
    refine ⟨⟨_, SqL.of eP1⟩, fun l2 nl2 => ?_⟩
    refine comp_map (walk_list (SqL.of eP1)) nl2 (by omega) l xl.symm (fun _ v s => v = .int s.1) (fun v e H1 H2 s q => q) (fun v e H1 ys zs hL q => q) ?_ ?_
    · rintro i x s H' Q' hx hs sH hq
      obtain ⟨t, s', rfl, hs', ht⟩ := (hR1.same sH).get hx
      obtain rfl : s' = s := Option.some.inj (hs'.symm.trans hs)
      walk_at "rd"
      exact hq _ _ (Same.refl _) rfl
    rintro ys H2 s2 e2 hL2
    have ey : ys = (l.map (·.1)).map V.int := by
      have := hL2.eqm (g := fun s : Int × Int => V.int s.1)
      rw [this, List.map_map]; rfl
    subst ey
    have hR2 := hR1.same s2
    have eP2 := s2 _ _ eP1
    walk_at "rd"
    refine ⟨⟨_, SqL.of eP2⟩, fun l3 nl3 => ?_⟩
    refine comp_map (walk_list (SqL.of eP2)) nl3 (by omega) l xl.symm (fun _ v s => v = .bl (decide (s.2 > 0))) (fun v e H1 H2 s q => q) (fun v e H1 ys zs hL q => q) ?_ ?_
    · rintro i x s H' Q' hx hs sH hq
      obtain ⟨t, s', rfl, hs', ht⟩ := (hR2.same sH).get hx
      obtain rfl : s' = s := Option.some.inj (hs'.symm.trans hs)
      walk_at "rd"
      exact hq _ _ (Same.refl _) rfl
    rintro ys H3 s3 e3 hL3
    have ey : ys = (l.map fun s => decide (s.2 > 0)).map V.bl := by
      have := hL3.eqm (g := fun s : Int × Int => V.bl (decide (s.2 > 0)))
      rw [this, List.map_map]; rfl
    subst ey
    have e23 := s3 _ _ e2
    have ml : (l.map (·.1)).length ≤ 361 := by rw [List.length_map]; omega
    have bl : (l.map fun s => decide (s.2 > 0)).length ≤ 361 := by rw [List.length_map]; omega
    walk_at "rd"
    refine ⟨l2, l.map (·.1), rfl, SqL.of e23, by omega, fun p4 H4 ms np4 s4 e4 nd4 mm4 ml4 => ?_⟩
    walk_at "rd"
    refine ⟨p4, ms, rfl, e4, by omega, fun p5 H5 ns np5 s5 e5 pm5 up5 => ?_⟩
    have un : ns.Pairwise (· < ·) := Sby.up_of (pm5.nodup_iff.mpr nd4) up5
    have s345 := s4.trans s5
    have s15 := s1.trans (s2.trans (s3.trans s345))
    refine ⟨_, _, .lst (SqL.of (s345 _ _ e23)) (RdVs.ints _), .lst (SqL.of e5) (RdVs.ints _), shaped_ints _, shaped_ints _, ?_⟩
    rw [eqv_ints2]
    by_cases hA : l.map (·.1) = ns
    · rw [decide_eq_true hA]
      have e35 := s345 _ _ e3
      walk_at "rd"
      refine ⟨l3, _, rfl, SqL.of e35, by omega, fun p6 H6 cs np6 s6 e6 pm6 up6 => ?_⟩
      refine ⟨_, _, .lst (SqL.of (s6 _ _ e35)) (rd_bools _), .lst (SqL.of e6) (rd_bools _), shaped_bools _, shaped_bools _, ?_⟩
      rw [eqv_bools2]
      have s16 := s15.trans s6
      have e36 := s6 _ _ e35
      by_cases hB : (l.map fun s => decide (s.2 > 0)) = cs
      · rw [decide_eq_true hB]
        have cl : 0 < (l.map fun s => decide (s.2 > 0)).length := by rw [List.length_map]; omega
        obtain ⟨bL, hbL⟩ : ∃ b, (l.map fun s => decide (s.2 > 0))[(l.map fun s => decide (s.2 > 0)).length - 1]? = some b := ⟨_, List.getElem?_eq_getElem (by omega)⟩
        obtain ⟨bF, hbF⟩ : ∃ b, (l.map fun s => decide (s.2 > 0))[0]? = some b := ⟨_, List.getElem?_eq_getElem cl⟩
        have hlast : atI ((l.map fun s => decide (s.2 > 0)).map V.bl) (-1) = some (.bl bL) := at_last (by rw [List.length_map, List.getElem?_map, hbL]; rfl) (by rw [List.length_map]; exact cl)
        have hfirst : atI ((l.map fun s => decide (s.2 > 0)).map V.bl) 0 = some (.bl bF) := atI_nat (j := 0) (by rw [List.getElem?_map, hbF]; rfl)
        have ends : FlowsD (.list (l.map rowD)) → bL = true ∧ bF = false := fun z => by
          have O := flows_rows z
          obtain ⟨a1, a2, e, n1', n2', h1, h2⟩ := O.sg
          constructor
          · have e2 : l = (a1 ++ a2.dropLast) ++ [a2.getLast n2'] := by rw [e, List.append_assoc, List.dropLast_concat_getLast]
            rw [e2, List.map_append, List.length_append, List.length_map, List.length_map, List.length_singleton, Nat.add_sub_cancel, List.getElem?_append_right (by rw [List.length_map]; exact Nat.le_refl _), List.length_map, Nat.sub_self] at hbL
            have := Option.some.inj hbL
            rw [← this]
            exact decide_eq_true (h2 _ (List.getLast_mem n2'))
          · cases a1 with
            | nil => exact absurd rfl n1'
            | cons y a1 =>
              rw [e] at hbF
              have := Option.some.inj hbF
              rw [← this]
              exact decide_eq_false (by have := h1 y List.mem_cons_self; omega)
        walk_at "rd"
        refine ⟨l3, _, _, _, rfl, rfl, SqL.of e36, hlast, ?_⟩
        cases bL with
        | false =>
          walk_at "rd"
          exact h false ⟨fun z => (by cases z), fun z => (ends z).1⟩
        | true =>
          walk_at "rd"
          refine ⟨l3, _, _, _, rfl, rfl, SqL.of e36, hfirst, ?_⟩
          cases bF with
          | true =>
            walk_at "rd"
            refine h false ⟨fun z => (by cases z), fun z => ?_⟩
            have := (ends z).2
            cases this
          | false =>
            walk_at "rd"
            refine h true ⟨fun _ => ⟨l, rfl, ?_⟩, fun _ => rfl⟩
            rw [← hB] at up6
            have eR := bools_srt up6
            have k0 : 0 < (l.map fun s => decide (s.2 > 0)).count false := List.count_pos_iff.mpr (List.mem_of_getElem? hbF)
            have m0 : 0 < (l.map fun s => decide (s.2 > 0)).count true := List.count_pos_iff.mpr (List.mem_of_getElem? hbL)
            refine ⟨by omega, by omega, ?_, fun s hs => (hl s hs).1, fun s hs => (hl s hs).2.1, sg_of (fun s hs => (hl s hs).2.2) eR k0 m0⟩
            rw [← hA] at un
            exact List.pairwise_map.mp un
      · rw [decide_eq_false hB]
        walk_at "rd"
        refine h false ⟨fun z => (by cases z), fun z => absurd ?_ hB⟩
        exact (bools_eq up6 (flows_srt (flows_rows z)) pm6).symm
    · rw [decide_eq_false hA]
      walk_at "rd"
      refine h false ⟨fun z => (by cases z), fun z => absurd ?_ hA⟩
      exact Sby.up_ext (List.pairwise_map.mpr (flows_rows z).up) un fun d => (pm5.mem_iff.trans (mm4 d)).symm
--@ cost
def sp_cost (K : PySem.W.Frag) : Sp := fun vs H Q E => ∃ (v : V) (d : PyData), vs = [v] ∧ (It2 H v d ∨ (d = .none ∧ ∃ a, v = .ref a ∧ IsDc H a)) ∧ (∀ l c, d = .list (l.map rowD) → Wth.OkF l → CostV l c → Q c H) ∧ (¬ FlowsD d → ∀ H', Same H H' → E (.ref (cA K "NoFlow")) none H')
theorem sc_cost : FnScope ["flows", "low", "high", "middle"] ["flows"] (defScope s_cost) := ⟨rfl, rfl, rfl, by decide +kernel, rfl, by decide +kernel, by decide +kernel⟩
theorem d_cost (S : Src K mg "cost" s_cost ["flows"]) (T : Txt K mg) (D_are_flows : Def P w K mg base 4 "are_flows" ["things"] (sp_are_flows K)) (D_worth : Def P w K mg base 2 "worth" ["flows", "a"] (sp_worth K)) : DefX P w K mg base 5 "cost" ["flows"] (sp_cost K) := by
  refine S.okX sc_cost (fun vs H Q E h => ?_) (fun f cdv A outer s H vs Q E hr h => ?_)
  · obtain ⟨v, d, rfl, hv, hV, hE⟩ := h
    rfl
  obtain ⟨v, d, rfl, hv, hV, hE⟩ := h
  refine ⟨_, (pss_consN (ps_if (pt_not (pt_val (pe_fn D_are_flows hr (pa_cons (pv 0) pa_nil))))
      (pss_one (ps_raise (E := E) T.m_NoFlow T.x_NoFlow (fun _ _ _ _ _ _ _ I hx hE => xe_made I hx hE) (pa_cons pe_str pa_nil)))
      pss_nil)
      (pss_consN (ps_if (pt_cmpR op_lt (pe_fn D_worth hr (pa_cons (pv 0) (pa_cons pe_int pa_nil))) pe_int (nomark _))
      (pss_one (ps_ret pe_non))
      pss_nil)
      (pss_consN (ps_set (i := 1) sc_cost.nd rfl (by first | exact Or.inl rfl | exact Or.inr rfl) pe_int)
      (pss_consN (ps_set (i := 2) sc_cost.nd rfl (by first | exact Or.inl rfl | exact Or.inr rfl) (pe_gint T.g_MILLION))
      (pss_consN (ps_calm (ps_while PassesOwn.never (pt_cmpR op_lt (pv 1) (pv 2) (nomark _))
      (pss_consN (ps_set (i := 3) sc_cost.nd rfl (by first | exact Or.inl rfl | exact Or.inr rfl) (pe_op op_fdiv (pe_op op_add (pe_op op_add (pv 1) (pv 2)) pe_int) pe_int))
      (pss_one (ps_if (pt_cmpR op_lt (pe_fn D_worth hr (pa_cons (pv 0) (pa_cons (pv 3) pa_nil))) pe_int (nomark _))
      (pss_one (ps_set (i := 2) sc_cost.nd rfl (by first | exact Or.inl rfl | exact Or.inr rfl) (pe_op op_sub (pv 3) pe_int)))
      (pss_one (ps_set (i := 1) sc_cost.nd rfl (by first | exact Or.inl rfl | exact Or.inr rfl) (pv 3))))))))
      (pss_one (ps_ret (pv 1)))))))), ?_⟩
  walk_at "rd"
  refine ⟨v, d, rfl, hv, fun b hb => ?_⟩
  cases b with
  | false =>
    walk_at "rd"
    exact hE (fun z => by have := hb.mpr z; cases this) _ (Same.refl _)
  | true =>
    obtain ⟨l, rfl, O⟩ := hb.mp rfl
    obtain ⟨p, xs, rfl, eP, hR⟩ : ∃ p xs, v = .ref p ∧ H p = some (.lst xs) ∧ Rows2 K H xs l := by
      rcases hv with hv | ⟨e, _⟩
      · rcases hv.view (K := K) with ⟨p, xs, ds, rfl, eP, hL, e⟩ | ⟨hn, _⟩
        · cases e
          exact ⟨p, xs, rfl, eP, it_rows hL⟩
        · exact absurd rfl (hn _)
      · cases e
    have hV := fun c hc => hV l c rfl O hc
    have F := flo_of O
    walk_at "rd"
    refine ⟨p, xs, l, 0, rfl, SqL.of eP, hR, F, by omega, by omega, ?_⟩
    walk_at "rd"
    · exact hV _ (.inl ⟨rfl, by assumption⟩)
    rename_i z
    refine ⟨fun n σ H' => H = H' ∧ ∃ (lo hi : Int) (z1 : Option V), σ = [some (.ref p), some (.int lo), some (.int hi), z1] ∧ (0 ≤ lo ∧ lo ≤ hi ∧ hi ≤ 1000000) ∧ 0 ≤ Wth.wth lo l ∧ (hi = 1000000 ∨ Wth.wth (hi + 1) l < 0) ∧ n = (hi - lo).toNat, ⟨_, rfl, 0, 1000000, _, rfl, ⟨by omega, by omega, by omega⟩, by omega, .inl rfl, rfl⟩, ?_⟩
    rintro n σ H' ⟨rfl, lo, hi, z1, rfl, ⟨b0, b1, b2⟩, w0, w1, rfl⟩
    walk_at "rd"
    · rename_i c
      refine ⟨_, fun σ' H' z => z, ?_⟩
      walk_at "rd"
      refine ⟨p, xs, l, (lo + hi + 1) / 2, rfl, SqL.of eP, hR, F, by omega, by omega, ?_⟩
      walk_at "rd"
      · rename_i d
        exact ⟨_, by omega, rfl, lo, (lo + hi + 1) / 2 - 1, _, rfl, ⟨b0, by omega, by omega⟩, w0, .inr (by rw [show (lo + hi + 1) / 2 - 1 + 1 = (lo + hi + 1) / 2 by omega]; exact d), rfl⟩
      · rename_i d
        exact ⟨_, by omega, rfl, (lo + hi + 1) / 2, hi, _, rfl, ⟨by omega, by omega, b2⟩, by omega, w1, rfl⟩
    · rename_i c
      obtain rfl : lo = hi := by omega
      exact hV _ (.inr ⟨lo, rfl, by omega, ⟨b0, b2⟩, w0, w1⟩)
--@ _law_refused
def sp__law_refused (K : PySem.W.Frag) : Sp := fun vs H Q _ => ∃ (v : V) (d : PyData), vs = [v] ∧ (It2 H v d ∨ (d = .none ∧ ∃ a, v = .ref a ∧ IsDc H a)) ∧ ¬ FlowsD d ∧ Q (.bl true) H
theorem sc__law_refused : FnScope ["_law_thing", "_law_others", "e"] ["_law_thing"] (defScope s__law_refused) := ⟨rfl, rfl, rfl, by decide +kernel, rfl, by decide +kernel, by decide +kernel⟩
theorem d__law_refused (S : Src K mg "_law_refused" s__law_refused ["_law_thing"]) (T : Txt K mg) (D_cost : DefX P w K mg base 5 "cost" ["flows"] (sp_cost K)) : Def P w K mg base 6 "_law_refused" ["_law_thing"] (sp__law_refused K) := by
  refine S.okF sc__law_refused (fun vs H Q E h => ?_) (fun f cdv A outer s H vs Q E hr h => ?_)
  · obtain ⟨v, d, rfl, hv, hn, h⟩ := h
    rfl
  obtain ⟨v, d, rfl, hv, hn, h⟩ := h
  refine ⟨_, (pss_consN (ps_tryE D_cost hr sc__law_refused.nd (j := 2) rfl rfl T.m_LoanError (pa_cons (pv 0) pa_nil) (fun e => (pss_consN (ps_set (i := 1) sc__law_refused.nd rfl (by first | exact Or.inl rfl | exact Or.inr rfl) (pe_callB (call_isiT K) rfl T.n_isinstance PyProof.Rows.boot_isinstance (pa_cons (pv 2) (pa_cons (pe_tup (pa_cons (pe_glob (v := .ref (cA K "BadEntry")) rfl T.m_BadEntry rfl) (pa_cons (pe_glob (v := .ref (cA K "NoDay")) rfl T.m_NoDay rfl) (pa_cons (pe_glob (v := .ref (cA K "NoDays")) rfl T.m_NoDays rfl) (pa_cons (pe_glob (v := .ref (cA K "NoRow")) rfl T.m_NoRow rfl) (pa_cons (pe_glob (v := .ref (cA K "NoTerms")) rfl T.m_NoTerms rfl) (pa_cons (pe_glob (v := .ref (cA K "NoText")) rfl T.m_NoText rfl) (pa_cons (pe_glob (v := .ref (cA K "TooMany")) rfl T.m_TooMany rfl) pa_nil)))))))) pa_nil))))
      (pss_one (ps_ret (pe_and (pe_callB (call_isiO K) rfl T.n_isinstance PyProof.Rows.boot_isinstance (pa_cons (pv 2) (pa_cons (pe_glob (v := .ref (cA K "NoFlow")) rfl T.m_NoFlow rfl) pa_nil))) (pe_and (pe_callB (call_isiB K) rfl T.n_isinstance PyProof.Rows.boot_isinstance (pa_cons (pv 2) (pa_cons (pe_bltn (v := .ty "ValueError") rfl T.n_ValueError PyProof.Rows.Boot.«ValueError» rfl) pa_nil))) (pe_one (pe_not (pv 1))))))))))
      (pss_one (ps_ret pe_bl))), ?_⟩
  walk_at "rd"
  refine ⟨v, d, rfl, hv, fun l c e O _ => absurd ⟨l, e, O⟩ hn, fun _ H' s0 => ?_⟩
  refine ⟨_, rfl, T.e_NoFlow_LoanError, fun e he => ?_⟩
  walk_at "rd"
  intro tp ht
  have s1 := same_new he (ExcO e (.ref (cA K "NoFlow")))
  have s2 := same_new ht (.tup [.ref (cA K "BadEntry"), .ref (cA K "NoDay"), .ref (cA K "NoDays"), .ref (cA K "NoRow"), .ref (cA K "NoTerms"), .ref (cA K "NoText"), .ref (cA K "TooMany")])
  walk_at "rd"
  refine ⟨e, _, tp, (["BadEntry", "NoDay", "NoDays", "NoRow", "NoTerms", "NoText", "TooMany"] : List Str).map (cA K), _, rfl, s2 _ _ upd_same, T.z_NoFlow, upd_same, T.t_0, ?_⟩
  walk_at "rd"
  refine ⟨e, _, _, _, rfl, s2 _ _ upd_same, T.z_NoFlow, T.k_NoFlow_NoFlow, ?_⟩
  walk_at "rd"
  refine ⟨e, _, _, _, rfl, s2 _ _ upd_same, T.z_NoFlow, T.k_NoFlow_ValueError, ?_⟩
  walk_at "rd"
  first | exact h | exact ⟨s0.trans (s1.trans s2), h⟩
--@ _law_taken
def sp__law_taken (K : PySem.W.Frag) : Sp := fun vs H Q _ => ∃ (p : Addr) (xs : List V) (l : List (Int × Int)), vs = [.ref p] ∧ H p = some (.lst xs) ∧ Rows2 K H xs l ∧ Wth.OkF l ∧ Q (.bl true) H
theorem sc__law_taken : FnScope ["_law_flows_here", "_law_found"] ["_law_flows_here"] (defScope s__law_taken) := ⟨rfl, rfl, rfl, by decide +kernel, rfl, by decide +kernel, by decide +kernel⟩
theorem d__law_taken (S : Src K mg "_law_taken" s__law_taken ["_law_flows_here"]) (T : Txt K mg) (D_cost : DefX P w K mg base 5 "cost" ["flows"] (sp_cost K)) : Def P w K mg base 6 "_law_taken" ["_law_flows_here"] (sp__law_taken K) := by
  refine S.ok sc__law_taken (fun vs H Q E h => ?_) (fun f cdv A outer s H vs Q E hr h => ?_)
  · obtain ⟨p, xs, l, rfl, eP, hR, O, h⟩ := h
    rfl
  obtain ⟨p, xs, l, rfl, eP, hR, O, h⟩ := h
  refine ⟨_, (pss_consN (ps_set (i := 1) sc__law_taken.nd rfl (by first | exact Or.inl rfl | exact Or.inr rfl) (pe_fnX D_cost hr passX0 (pa_cons (pv 0) pa_nil)))
      (pss_one (ps_ret (pe_or (pe_cmp (pc_isN (pv 1))) (pe_one (pe_chain op_le op_le pe_int (pv 1) (pe_powc (v := 1000000) (by decide +kernel) ⟨by decide, by decide, by decide⟩))))))), ?_⟩
  walk_at "rd"
  refine ⟨.ref p, .list (l.map rowD), rfl, .inl (.lst eP (rows_it hR)), fun l' c e O' hc => ?_, fun z => absurd ⟨l, rfl, O⟩ z⟩
  rcases hc with ⟨rfl, _⟩ | ⟨x, rfl, _, ⟨x0, x1⟩, _⟩
  · walk_at "rd"
    · exact h
    · exact absurd rfl (by assumption)
  · walk_at "rd"
    · exact qb h (decide_eq_true x1).symm
    · exact absurd x0 (by assumption)
--@ law
def sp_law (K : PySem.W.Frag) : Sp := fun vs H Q _ => ∃ (a : Addr) (ns : List Int), vs = [.ref a] ∧ SqL K H a (ns.map V.int) ∧ ns.length ≤ 63 ∧ ∀ H', Q (.bl true) H'
theorem sc_law : FnScope ["_law_script", "_law_flows_here", "_law_k", "_law_cell_here", "_law_odd", "_law_given"] ["_law_script"] (defScope s_law) := ⟨rfl, rfl, rfl, by decide +kernel, rfl, by decide +kernel, by decide +kernel⟩
theorem d_law (S : Src K mg "law" s_law ["_law_script"]) (T : Txt K mg) (D__law_flows : Def P w K mg base 3 "_law_flows" ["_law_script", "_law_start", "_law_most"] (sp__law_flows K)) (D__law_taken : Def P w K mg base 6 "_law_taken" ["_law_flows_here"] (sp__law_taken K)) (D__law_cell : Def P w K mg base 2 "_law_cell" ["_law_script", "_law_k"] (sp__law_cell K)) (D__law_flow_odd : Def P w K mg base 1 "_law_flow_odd" ["_law_flows_here", "_law_cell_here"] (sp__law_flow_odd K)) (D__law_whole_odd : Def P w K mg base 1 "_law_whole_odd" ["_law_flows_here", "_law_cell_here"] (sp__law_whole_odd K)) (D__law_refused : Def P w K mg base 6 "_law_refused" ["_law_thing"] (sp__law_refused K)) : Def P w K mg base 7 "law" ["_law_script"] (sp_law K) := by
  refine S.ok sc_law (fun vs H Q E h => ?_) (fun f cdv A outer s H vs Q E hr h => ?_)
  · obtain ⟨a, ns, rfl, hS, hl, h⟩ := h
    rfl
  obtain ⟨a, ns, rfl, hS, hl, h⟩ := h
  refine ⟨_, (pss_consN (ps_set (i := 1) sc_law.nd rfl (by first | exact Or.inl rfl | exact Or.inr rfl) (pe_fn D__law_flows hr (pa_cons (pv 0) (pa_cons pe_int (pa_cons pe_int pa_nil)))))
      (pss_consN (ps_if (pt_not (pt_val (pe_fn D__law_taken hr (pa_cons (pe_callTy call_list_of rfl T.n_list PyProof.Rows.boot_list (pa_cons (pv 1) pa_nil)) pa_nil))))
      (pss_one (ps_ret pe_bl))
      pss_nil)
      (pss_consN (ps_for PassesOwn.never rfl (pi_range1 rfl T.n_range (pa_cons pe_int pa_nil)) (pg_name (i := 2) sc_law.nd rfl (by first | exact Or.inl rfl | exact Or.inr rfl))
      (pss_consN (ps_set (i := 3) sc_law.nd rfl (by first | exact Or.inl rfl | exact Or.inr rfl) (pe_fn D__law_cell hr (pa_cons (pv 0) (pa_cons (pv 2) pa_nil))))
      (pss_consN (ps_set (i := 4) sc_law.nd rfl (by first | exact Or.inl rfl | exact Or.inr rfl) (pe_fn D__law_flow_odd hr (pa_cons (pv 1) (pa_cons (pe_op op_fdiv (pv 3) pe_int) pa_nil))))
      (pss_consN (ps_cut (ps_if (pt_cmpR op_eq (pe_op op_mod (pv 3) pe_int) pe_int (nomark _))
      (pss_one (ps_set (i := 4) sc_law.nd rfl (by first | exact Or.inl rfl | exact Or.inr rfl) (pe_fn D__law_whole_odd hr (pa_cons (pv 1) (pa_cons (pe_op op_fdiv (pv 3) pe_int) pa_nil)))))
      pss_nil))
      (pss_consN (ps_set (i := 5) sc_law.nd rfl (by first | exact Or.inl rfl | exact Or.inr rfl) (pv 4))
      (pss_consN (ps_cut (ps_if (pt_val (pe_callB (call_isinstDX K) rfl T.n_isinstance PyProof.Rows.boot_isinstance (pa_cons (pv 4) (pa_cons (pe_bltn (v := .ty "list") rfl T.n_list PyProof.Rows.boot_list rfl) pa_nil))))
      (pss_one (ps_set (i := 5) sc_law.nd rfl (by first | exact Or.inl rfl | exact Or.inr rfl) (pe_callTy call_list_of rfl T.n_list PyProof.Rows.boot_list (pa_cons (pv 4) pa_nil))))
      pss_nil))
      (pss_one (ps_if (PW.pt (pw_or (pt_not (pt_val (pe_fn D__law_refused hr (pa_cons (pv 5) pa_nil)))) (pw_or1 (pt_cmpR (op_neDX K hr.units) (pv 5) (pv 4) (nomark _)))))
      (pss_one (ps_ret pe_bl))
      pss_nil))))))))
      (pss_one (ps_ret (pe_fn D__law_taken hr (pa_cons (pe_callTy call_list_of rfl T.n_list PyProof.Rows.boot_list (pa_cons (pv 1) pa_nil)) pa_nil))))))), ?_⟩
  have sz := sizeLine_eq
  walk_at "rd"
  refine ⟨a, ns, 4, 60, rfl, hS, by omega, ?_⟩
  intro p xs l H1 np s1 eP hR O
  have hS1 := s1.seq hS
  have n2 := O.n2
  have n3 := O.n3
  have xl := hR.length
  walk_at "rd"
  refine ⟨p, xs, rfl, .inl (SqL.of eP), ?_⟩
  intro g ng
  have sg := same_new ng (.lst xs)
  have eG := at_new (.lst xs) ng
  have eP2 := sg _ _ eP
  have hR2 := hR.same sg
  have hS2 := sg.seq hS1
  generalize upd H1 g (.lst xs) = H2 at sg eG eP2 hR2 hS2 ⊢
  walk_at "rd"
  refine ⟨g, xs, l, rfl, eG, hR2, O, ?_⟩
  walk_at "rd"
  refine for_range (fun i σ H' => ∃ z1 z2 z3 z4, Same H2 H' ∧ σ = [some (.ref a), some (.ref p), z1, z2, z3, z4]) ⟨_, _, _, _, Same.refl _, rfl⟩ ?_ ?_
  · rintro i σ H' hi ⟨z1, z2, z3, z4, sH, rfl⟩
    have hS3 := sH.seq hS2
    have eP3 := sH _ _ eP2
    have hR3 := hR2.same sH
    have hi' : i < 3 := hi
    walk_at "rd"
    intro bv1
    rename_i c cp cb v1 H4 s4
    have eP4 := s4 _ _ eP3
    have hR4 := hR3.same s4
    have sH4 := sH.trans s4
    walk_at "rd"
    refine ⟨fun σ' H' => ∃ v, Bad H' v ∧ Same H2 H' ∧ σ' = [some (.ref a), some (.ref p), some (.int (0 + (i : Int))), some (.int c), some v, z4], ?_, ?_⟩
    · walk_at "rd"
      · intro bv2
        rename_i v2 H5 s5
        walk_at "rd"
        exact ⟨v2, bv2, sH4.trans s5, rfl⟩
      · exact ⟨v1, bv1, sH4, rfl⟩
    rintro σ' H5 ⟨v, bv, s5, rfl⟩
    walk_at "rd"
    refine ⟨fun σ' H' => ∃ w, ((∃ d, It2 H' v d ∧ It2 H' w d ∧ ¬ FlowsD d) ∨ (v = w ∧ ∃ a, v = .ref a ∧ IsDc H' a)) ∧ Same H2 H' ∧ σ' = [some (.ref a), some (.ref p), some (.int (0 + (i : Int))), some (.int c), some v, some w], ?_, ?_⟩
    · walk_at "rd"
      rcases bv with ⟨d, hI, nd⟩ | ⟨aa, rfl, hd⟩
      · rcases hI.view (K := K) with ⟨pp, ys, ds, rfl, e, hL, rfl⟩ | ⟨hn, t, ht, hk⟩
        · refine ⟨_, _, _, _, rfl, .inl (.lst e), (show PySem.W.kitOne K (.type "list") (.type "list") = some true from rfl), ?_⟩
          walk_at "rd"
          refine ⟨pp, ys, rfl, .inl (SqL.of e), ?_⟩
          intro g2 ng2
          have sn := same_new ng2 (.lst ys)
          walk_at "rd"
          exact ⟨.ref g2, .inl ⟨.list ds, hI.same sn, .lst upd_same (LL.imp (fun _ _ q => q.same sn) hL), nd⟩, s5.trans sn, rfl⟩
        · refine ⟨_, _, _, _, rfl, .inl ht, hk, ?_⟩
          walk_at "rd"
          exact ⟨v, .inl ⟨d, hI, hI, nd⟩, s5, rfl⟩
      · refine ⟨_, _, _, _, rfl, .inr ⟨rfl, aa, rfl, hd⟩, (show PySem.W.kitOne K (.type "dict") (.type "list") = some false from rfl), ?_⟩
        walk_at "rd"
        exact ⟨_, .inr ⟨rfl, aa, rfl, hd⟩, s5, rfl⟩
    · rintro σ' H6 ⟨w', hw, s6, rfl⟩
      walk_at "rd"
      rcases hw with ⟨d, hv, hw, nd⟩ | ⟨rfl, aa, rfl, hd⟩
      · refine ⟨w', d, rfl, .inl hw, nd, ?_⟩
        walk_at "rd"
        refine .inl ⟨d, d, hw.rd, hv.rd, hw.shaped, hw.shaped, ?_⟩
        rw [SeqAt.eqv_refl d (SeqAt.canLay_of_shaped hw.shaped)]
        walk_at "rd"
        exact ⟨_, _, _, _, s6, rfl⟩
      · refine ⟨_, .none, rfl, .inr ⟨rfl, aa, rfl, hd⟩, not_flows (fun ds z => nomatch z), ?_⟩
        walk_at "rd"
        refine .inr ⟨aa, rfl, rfl, hd, ?_⟩
        walk_at "rd"
        exact ⟨_, _, _, _, s6, rfl⟩
  · rintro σ H' ⟨z1, z2, z3, z4, sH, rfl⟩
    have eP3 := sH _ _ eP2
    have hR3 := hR2.same sH
    walk_at "rd"
    refine ⟨p, xs, rfl, .inl (SqL.of eP3), ?_⟩
    intro g2 ng2
    have sg2 := same_new ng2 (.lst xs)
    walk_at "rd"
    refine ⟨g2, xs, l, rfl, upd_same, hR3.same sg2, O, ?_⟩
    exact h _
end
theorem all_ok {K : PySem.W.Frag} {mg : Str → Option Value} (T : Txt K mg) (S_is_whole : Src K mg "is_whole" s_is_whole ["thing"]) (S_power : Src K mg "power" s_power ["base", "many"]) (S__law_draw : Src K mg "_law_draw" s__law_draw ["_law_script", "_law_k", "_law_many"]) (S__law_whole_odd : Src K mg "_law_whole_odd" s__law_whole_odd ["_law_flows_here", "_law_cell_here"]) (S__law_flow_odd : Src K mg "_law_flow_odd" s__law_flow_odd ["_law_flows_here", "_law_cell_here"]) (S_is_within : Src K mg "is_within" s_is_within ["thing", "least", "most"]) (S_worth : Src K mg "worth" s_worth ["flows", "a"]) (S__law_cell : Src K mg "_law_cell" s__law_cell ["_law_script", "_law_k"]) (S_is_flow : Src K mg "is_flow" s_is_flow ["thing"]) (S__law_flows : Src K mg "_law_flows" s__law_flows ["_law_script", "_law_start", "_law_most"]) (S_are_flows : Src K mg "are_flows" s_are_flows ["things"]) (S_cost : Src K mg "cost" s_cost ["flows"]) (S__law_refused : Src K mg "_law_refused" s__law_refused ["_law_thing"]) (S__law_taken : Src K mg "_law_taken" s__law_taken ["_law_flows_here"]) (S_law : Src K mg "law" s_law ["_law_script"]) {P : Program} {w : World} {base : Heap} : Def P w K mg base 7 "law" ["_law_script"] (sp_law K) := by
  have D_is_whole := d_is_whole (P := P) (w := w) (base := base) S_is_whole T 
  have D_power := d_power (P := P) (w := w) (base := base) S_power T 
  have D__law_draw := d__law_draw (P := P) (w := w) (base := base) S__law_draw T 
  have D__law_whole_odd := d__law_whole_odd (P := P) (w := w) (base := base) S__law_whole_odd T 
  have D__law_flow_odd := d__law_flow_odd (P := P) (w := w) (base := base) S__law_flow_odd T 
  have D_is_within := d_is_within (P := P) (w := w) (base := base) S_is_within T D_is_whole
  have D_worth := d_worth (P := P) (w := w) (base := base) S_worth T D_power
  have D__law_cell := d__law_cell (P := P) (w := w) (base := base) S__law_cell T D__law_draw
  have D_is_flow := d_is_flow (P := P) (w := w) (base := base) S_is_flow T D_is_within
  have D__law_flows := d__law_flows (P := P) (w := w) (base := base) S__law_flows T D__law_cell
  have D_are_flows := d_are_flows (P := P) (w := w) (base := base) S_are_flows T D_is_flow
  have D_cost := d_cost (P := P) (w := w) (base := base) S_cost T D_are_flows D_worth
  have D__law_refused := d__law_refused (P := P) (w := w) (base := base) S__law_refused T D_cost
  have D__law_taken := d__law_taken (P := P) (w := w) (base := base) S__law_taken T D_cost
  have D_law := d_law (P := P) (w := w) (base := base) S_law T D__law_flows D__law_taken D__law_cell D__law_flow_odd D__law_whole_odd D__law_refused
  exact D_law
end My
namespace PySem.W.Fast
def tw8433195036512401796:=0
def tw11850032791238625651:=0
def tw5315441997629273175:=0
def tw11566219133571699086:=0
def tw3202771348301068155:=0
def tw9636031235336588573:=0
def tw13431208297275305900:=0
def tw17179510470920504009:=0
def tw307601351692523029:=0
def tw7005531859558120549:=0
def tw12528655686776156638:=0
def tw3514573608880610128:=0
def tw4904991789353714423:=0
def tw13271805767242852610:=0
def tw15221045087852943359:=0
def tw1930311140000601150:=0
def tw10387690324688858905:=0
def tw15447535333588521895:=0
def tw13355320003868488880:=0
def tw18437844037218270955:=0
def tw17139345181763881922:=0
def tw16177252252250781935:=0
def tw933001630322879251:=0
def tw11772262812658326947:=0
def tw6974303791305985374:=0
def tw1367767418400546348:=0
def tw15227603285987931689:=0
def tw2603808811309184656:=0
def tw16332775385027487335:=0
def tw13529729542990807038:=0
def tw376343865859943935:=0
def tw13947968802386988652:=0
def tw13427539244983826650:=0
def tw13653919545456793777:=0
def tw17696074269151734545:=0
def tw1805312283487932366:=0
def tw13172447755149379798:=0
def tw13096033345262366020:=0
def tw17160370692787684917:=0
def tw2425754705603558828:=0
def tw8312058401206059594:=0
def tw17223378591921654534:=0
def tw17527565311353343273:=0
def tw16635521902132662263:=0
def tw16004637361290423408:=0
def tw4113062375928967891:=0
def tw13764499190923263216:=0
def tw1428070712407073519:=0
def tw5794546980743367663:=0
def tw13084711054084755804:=0
def tw3330088863218469355:=0
def tw810622015586578479:=0
def tw5339389151056174324:=0
def tw15731304532400356650:=0
def tw2449579976614485476:=0
def tw15521135279890095306:=0
def tw13956689238797830263:=0
def tw4432869217051696964:=0
def tw5736412447963786599:=0
def tw11924995673001816006:=0
def tw1245986294736567199:=0
def tw8706683080224942051:=0
def tw13830304096127137845:=0
def tw7868241732016299212:=0
def tw14776274004123449295:=0
def tw8132807880569724022:=0
def tw227634930241239882:=0
def tw11737943067516182957:=0
def tw12479839789914997595:=0
def tw429344423323441802:=0
def tw14766176357557144432:=0
def tw3108812678892079865:=0
def tw9286754445319492899:=0
def tw12165086616609470512:=0
def tw1532990752617683783:=0
def tw7117443662171294727:=0
def tw14141176168405904894:=0
def tw7720574766759904393:=0
def tw6397408330137022432:=0
def tw5441734256471121644:=0
def tw3678381045496470326:=0
def tw2243975399544307258:=0
def tw3654574379481334020:=0
def tw2001158973689388656:=0
def tw17130220089628210389:=0
def tw8512509468638818226:=0
def tw12512482319739050791:=0
def tw3340485069458389314:=0
def tw2998099408687993351:=0
def tw10852729421360998702:=0
def tw14433537349909494083:=0
def tw968546792232916366:=0
def tw135249126999824190:=0
def tw9031007443582836478:=0
def tw16235917022830423072:=0
def tw9324468316243709402:=0
def tw925108565360463566:=0
def tw10447352323804606730:=0
def tw11968499071540045781:=0
def tw5262022274171363978:=0
def tw6164479980744171609:=0
def tw16173831605999125116:=0
def tw3141359651576450736:=0
def tw14913845552342434240:=0
def tw3611222260310240855:=0
def tw5802313523489287445:=0
def tw9926047430873171786:=0
def tw16979693072968437204:=0
def tw7528190998013603309:=0
def tw11615312004744651488:=0
def tw2344654617848940710:=0
def tw14477224904634923735:=0
def tw14993290295635727850:=0
def tw113834678030039390:=0
def tw16160566616720908069:=0
def tw12108419230563934884:=0
def tw14267452764554612662:=0
def tw6429215263766230412:=0
def tw4002083846780684684:=0
def tw9691604732640311203:=0
def tw2128032747496221771:=0
def tw13044543443541227971:=0
def tw9100258463076823719:=0
def tw2320342293763110717:=0
def tw240398787267086016:=0
def tw11337210948799487228:=0
def tw9041786171102177982:=0
def tw864055940838106154:=0
def tw12699342425178181703:=0
def tw5214661948090069832:=0
def tw4850002530834253867:=0
def tw9796820158552539856:=0
def tw14878695940366436502:=0
def tw1962322001445326665:=0
def tw17903814110174010050:=0
def tw4525752566348783152:=0
def tw13174490240613796195:=0
def tw3649606269229997369:=0
def tw2256890425133245533:=0
def tw7184845427069831859:=0
def tw16794384920614609029:=0
def tw4908684879302649432:=0
def tw3360600805465740055:=0
def tw16849785825638295966:=0
def tw9202795189297061789:=0
def tw12501884420888115889:=0
def tw17065342779623997403:=0
def tw1895109385908366870:=0
def tw1782057197203352888:=0
def tw6683348388204947315:=0
def tw15583762505029947369:=0
def tw16791540398902051784:=0
def tw13463539157544940953:=0
def tw18370420057924975497:=0
def tw10409024630529204312:=0
def tw7521028544995336479:=0
def tw6326499359094892095:=0
def tw11197152515562690077:=0
def tw10338030365122186926:=0
def tw12879071114461191621:=0
def tw7264971812869524388:=0
def tw16227386246117045733:=0
def tw4689846460212644881:=0
end PySem.W.Fast
open PySem PySem.W PyProof.Rows
set_option maxRecDepth 100000 in
set_option maxHeartbeats 0 in
theorem PySem.Challenge.cw_loanroll_k76_no_flows_holds : PySem.Challenge.rw_loanroll_k76_no_flows.Holds := by
  w_on; o_law; k_head; (case hw => w_witness2)
  k_fill
  refine L2.walk_def (l := PySem.Challenge.rw_loanroll_k76_no_flows) (lv := 7) (sp := My.sp_law) (x := "_law_script") (st := My.s_law) rfl rfl rfl ⟨rfl, by decide, by decide⟩ (fun w h Y => PySem.W.kIn_of Y) ?F (fun K H a ns hl hS => ⟨a, ns, rfl, hS, hl, fun _ => rfl⟩)
  case F =>
    intro w mg h KX G
    have n_ValueError : mg "ValueError" = none := PySem.W.mg_none_of KX G (by k_is)
    have n_all : mg "all" = none := PySem.W.mg_none_of KX G (by k_is)
    have n_bool : mg "bool" = none := PySem.W.mg_none_of KX G (by k_is)
    have n_dict : mg "dict" = none := PySem.W.mg_none_of KX G (by k_is)
    have n_int : mg "int" = none := PySem.W.mg_none_of KX G (by k_is)
    have n_isinstance : mg "isinstance" = none := PySem.W.mg_none_of KX G (by k_is)
    have n_len : mg "len" = none := PySem.W.mg_none_of KX G (by k_is)
    have n_list : mg "list" = none := PySem.W.mg_none_of KX G (by k_is)
    have n_range : mg "range" = none := PySem.W.mg_none_of KX G (by k_is)
    have n_set : mg "set" = none := PySem.W.mg_none_of KX G (by k_is)
    have n_sorted : mg "sorted" = none := PySem.W.mg_none_of KX G (by k_is)
    have n_tuple : mg "tuple" = none := PySem.W.mg_none_of KX G (by k_is)
    have a_BadEntry := by
      refine' L2.nsHave (x := "BadEntry") KX ?a
      (case a => k_is)
    have a_LoanError := by
      refine' L2.nsHave (x := "LoanError") KX ?a
      (case a => k_is)
    have a_NoDay := by
      refine' L2.nsHave (x := "NoDay") KX ?a
      (case a => k_is)
    have a_NoDays := by
      refine' L2.nsHave (x := "NoDays") KX ?a
      (case a => k_is)
    have a_NoFlow := by
      refine' L2.nsHave (x := "NoFlow") KX ?a
      (case a => k_is)
    have a_NoRow := by
      refine' L2.nsHave (x := "NoRow") KX ?a
      (case a => k_is)
    have a_NoTerms := by
      refine' L2.nsHave (x := "NoTerms") KX ?a
      (case a => k_is)
    have a_NoText := by
      refine' L2.nsHave (x := "NoText") KX ?a
      (case a => k_is)
    have a_TooMany := by
      refine' L2.nsHave (x := "TooMany") KX ?a
      (case a => k_is)
    have m_BadEntry := L2.m_mk KX G a_BadEntry
    have m_LoanError := L2.m_mk KX G a_LoanError
    have m_NoDay := L2.m_mk KX G a_NoDay
    have m_NoDays := L2.m_mk KX G a_NoDays
    have m_NoFlow := L2.m_mk KX G a_NoFlow
    have m_NoRow := L2.m_mk KX G a_NoRow
    have m_NoTerms := L2.m_mk KX G a_NoTerms
    have m_NoText := L2.m_mk KX G a_NoText
    have m_TooMany := L2.m_mk KX G a_TooMany
    have x_NoFlow := by
      refine' L2.x2_mk a_NoFlow ?_
      k_exc
    have z_NoFlow := by
      refine' L2.x1_mk a_NoFlow ?_ ?_ ?_ ?_ ?_ ?_ ?_
      all_goals k_is
    have e_NoFlow_LoanError := by
      refine' L2.exm_mk a_NoFlow a_LoanError ?_ ?_ ?_ ?_
      all_goals k_is
    have t_0 := by
      refine' L2.any_mk (v := false) a_NoFlow (.cons a_BadEntry (.cons a_NoDay (.cons a_NoDays (.cons a_NoRow (.cons a_NoTerms (.cons a_NoText (.cons a_TooMany .nil))))))) ?_
      (dsimp only [List.map]; kit_is)
    have k_NoFlow_NoFlow := by
      refine' L2.kit_mk (v := true) a_NoFlow a_NoFlow ?_
      kit_is
    have k_NoFlow_ValueError := by
      refine' L2.kitB_mk (v := true) (n := "ValueError") a_NoFlow ?_
      kit_is
    have g_MILLION := by
      refine' L2.gint_mk (mg := mg) (x := "MILLION") (i := 1000000) KX G ?a
      (case a => k_is)
    have g_MOST_FLOW := by
      refine' L2.gint_mk (mg := mg) (x := "MOST_FLOW") (i := 1000000000000000) KX G ?a
      (case a => k_is)
    have g_MOST_MONTH := by
      refine' L2.gint_mk (mg := mg) (x := "MOST_MONTH") (i := 360) KX G ?a
      (case a => k_is)
    have S_is_whole := by
      refine' L2.src_mk (mg := mg) (x := "is_whole") (st := My.s_is_whole) (ps := ["thing"]) KX G ?a ?l ?c ?k ?b
      (case a => k_is); (case l => k_is); (case c => k_is); (case k => k_is)
      (case b => exact L2.us1 (fun _ => rfl))
    have S_power := by
      refine' L2.src_mk (mg := mg) (x := "power") (st := My.s_power) (ps := ["base", "many"]) KX G ?a ?l ?c ?k ?b
      (case a => k_is); (case l => k_is); (case c => k_is); (case k => k_is)
      (case b => exact L2.us2 (fun _ _ => rfl))
    have S__law_draw := by
      refine' L2.src_mk (mg := mg) (x := "_law_draw") (st := My.s__law_draw) (ps := ["_law_script", "_law_k", "_law_many"]) KX G ?a ?l ?c ?k ?b
      (case a => k_is); (case l => k_is); (case c => k_is); (case k => k_is)
      (case b => exact L2.us3 (fun _ _ _ => rfl))
    have S__law_whole_odd := by
      refine' L2.src_mk (mg := mg) (x := "_law_whole_odd") (st := My.s__law_whole_odd) (ps := ["_law_flows_here", "_law_cell_here"]) KX G ?a ?l ?c ?k ?b
      (case a => k_is); (case l => k_is); (case c => k_is); (case k => k_is)
      (case b => exact L2.us2 (fun _ _ => rfl))
    have S__law_flow_odd := by
      refine' L2.src_mk (mg := mg) (x := "_law_flow_odd") (st := My.s__law_flow_odd) (ps := ["_law_flows_here", "_law_cell_here"]) KX G ?a ?l ?c ?k ?b
      (case a => k_is); (case l => k_is); (case c => k_is); (case k => k_is)
      (case b => exact L2.us2 (fun _ _ => rfl))
    have S_is_within := by
      refine' L2.src_mk (mg := mg) (x := "is_within") (st := My.s_is_within) (ps := ["thing", "least", "most"]) KX G ?a ?l ?c ?k ?b
      (case a => k_is); (case l => k_is); (case c => k_is); (case k => k_is)
      (case b => exact L2.us3 (fun _ _ _ => rfl))
    have S_worth := by
      refine' L2.src_mk (mg := mg) (x := "worth") (st := My.s_worth) (ps := ["flows", "a"]) KX G ?a ?l ?c ?k ?b
      (case a => k_is); (case l => k_is); (case c => k_is); (case k => k_is)
      (case b => exact L2.us2 (fun _ _ => rfl))
    have S__law_cell := by
      refine' L2.src_mk (mg := mg) (x := "_law_cell") (st := My.s__law_cell) (ps := ["_law_script", "_law_k"]) KX G ?a ?l ?c ?k ?b
      (case a => k_is); (case l => k_is); (case c => k_is); (case k => k_is)
      (case b => exact L2.us2 (fun _ _ => rfl))
    have S_is_flow := by
      refine' L2.src_mk (mg := mg) (x := "is_flow") (st := My.s_is_flow) (ps := ["thing"]) KX G ?a ?l ?c ?k ?b
      (case a => k_is); (case l => k_is); (case c => k_is); (case k => k_is)
      (case b => exact L2.us1 (fun _ => rfl))
    have S__law_flows := by
      refine' L2.src_mk (mg := mg) (x := "_law_flows") (st := My.s__law_flows) (ps := ["_law_script", "_law_start", "_law_most"]) KX G ?a ?l ?c ?k ?b
      (case a => k_is); (case l => k_is); (case c => k_is); (case k => k_is)
      (case b => exact L2.us3 (fun _ _ _ => rfl))
    have S_are_flows := by
      refine' L2.src_mk (mg := mg) (x := "are_flows") (st := My.s_are_flows) (ps := ["things"]) KX G ?a ?l ?c ?k ?b
      (case a => k_is); (case l => k_is); (case c => k_is); (case k => k_is)
      (case b => exact L2.us1 (fun _ => rfl))
    have S_cost := by
      refine' L2.src_mk (mg := mg) (x := "cost") (st := My.s_cost) (ps := ["flows"]) KX G ?a ?l ?c ?k ?b
      (case a => k_is); (case l => k_is); (case c => k_is); (case k => k_is)
      (case b => exact L2.us1 (fun _ => rfl))
    have S__law_refused := by
      refine' L2.src_mk (mg := mg) (x := "_law_refused") (st := My.s__law_refused) (ps := ["_law_thing"]) KX G ?a ?l ?c ?k ?b
      (case a => k_is); (case l => k_is); (case c => k_is); (case k => k_is)
      (case b => exact L2.us1 (fun _ => rfl))
    have S__law_taken := by
      refine' L2.src_mk (mg := mg) (x := "_law_taken") (st := My.s__law_taken) (ps := ["_law_flows_here"]) KX G ?a ?l ?c ?k ?b
      (case a => k_is); (case l => k_is); (case c => k_is); (case k => k_is)
      (case b => exact L2.us1 (fun _ => rfl))
    have S_law := by
      refine' L2.src_mk (mg := mg) (x := "law") (st := My.s_law) (ps := ["_law_script"]) KX G ?a ?l ?c ?k ?b
      (case a => k_is); (case l => k_is); (case c => k_is); (case k => k_is)
      (case b => exact L2.us1 (fun _ => rfl))
    exact ⟨S_law, fun base => My.all_ok (⟨n_ValueError, n_all, n_bool, n_dict, n_int, n_isinstance, n_len, n_list, n_range, n_set, n_sorted, n_tuple, m_BadEntry, m_LoanError, m_NoDay, m_NoDays, m_NoFlow, m_NoRow, m_NoTerms, m_NoText, m_TooMany, x_NoFlow, z_NoFlow, e_NoFlow_LoanError, t_0, k_NoFlow_NoFlow, k_NoFlow_ValueError, g_MILLION, g_MOST_FLOW, g_MOST_MONTH⟩ : My.Txt _ mg) S_is_whole S_power S__law_draw S__law_whole_odd S__law_flow_odd S_is_within S_worth S__law_cell S_is_flow S__law_flows S_are_flows S_cost S__law_refused S__law_taken S_law⟩

